/-
  Reading as plain values: what Decode takes is just what is written. Plain definitions and theorems; no condition.
-/
import Derived.Test.YtlpljedacohngaaGreatDoorM6
import Derived.Test.YtlpljedacohngaaGreatDoorM22
import Derived.Test.YtlpljedacohngaaGreatDoorM7
import Derived.Test.YtlpljedacohngaaGreatDoorM14
import Derived.Test.YtlpljedacohngaaGreatDoorM17
import Derived.Test.YtlpljedacohngaaGreatDoorM18
section
set_option linter.unusedSimpArgs false
set_option linter.unusedVariables false
set_option maxRecDepth 100000
namespace Go.Proofs.YtlpljedacohngaaGreatDoor
open Go.RowKit

/-- Reading: what is left, and whether more was asked for. -/
structure Rs where
  left : List B8
  ms : Bool
def takeR (k : Nat) (s : Rs) : List B8 × Rs := if s.left.length < k then ([], ⟨s.left, true⟩) else (s.left.take k, ⟨s.left.drop k, s.ms⟩)
def numR (k : Nat) (s : Rs) : Nat × Rs := (fromB (takeR k s).1, (takeR k s).2)
/-- Where reading stands, part by part. -/
def rs1 (s : Rs) : Rs := (numR 1 s).2
def rs2 (s : Rs) : Rs := (numR 2 (rs1 s)).2
def rs3 (s : Rs) : Rs := (numR 1 (rs2 s)).2
def len1 (s : Rs) : Nat := (numR 1 (rs2 s)).1
def rs4 (s : Rs) : Rs := (takeR (len1 s) (rs3 s)).2
def rs5 (s : Rs) : Rs := (numR 2 (rs4 s)).2
def len2 (s : Rs) : Nat := (numR 2 (rs4 s)).1
def rs6 (s : Rs) : Rs := (takeR (len2 s) (rs5 s)).2
def rs7 (s : Rs) : Rs := (takeR 8 (rs6 s)).2
def candE (s : Rs) : En := { path := (parseB (txtB (takeR (len1 s) (rs3 s)).1)).1, kind := ((numR 1 s).1 : Nat), mode := ((numR 2 (rs1 s)).1 : Nat), data := (takeR (len2 s) (rs5 s)).1 }
def candS (s : Rs) : List B8 := (takeR 8 (rs6 s)).1
def bentE (s : Rs) : Bool := !(decide (candS s = sumE (candE s)))
/-- One entry: where reading stands behind it, those that were read, why not. -/
structure Rd where
  st : Rs
  l : List En
  err : Int
def entR (s : Rs) (l : List En) : Rd := if (rs7 s).ms then ⟨rs7 s, l, 4⟩ else if refE (candE s) l (bentE s) = 0 then ⟨rs7 s, l ++ [candE s], 0⟩ else ⟨rs7 s, l, refE (candE s) l (bentE s)⟩
def entsR : Nat → Rs → List En → Rd
  | 0, s, l => ⟨s, l, 0⟩
  | n + 1, s, l => if (entR s l).err = 0 then entsR n (entR s l).st (entR s l).l else entR s l
def arcR (s : Rs) : List En × Int :=
  if (rs1 s).ms then ([], 4) else if 40 < (numR 1 s).1 then ([], 2) else
    if (entsR (numR 1 s).1 (rs1 s) []).err = 0 then (if 0 < (entsR (numR 1 s).1 (rs1 s) []).st.left.length then ((entsR (numR 1 s).1 (rs1 s) []).l, 3) else ((entsR (numR 1 s).1 (rs1 s) []).l, 0)) else ((entsR (numR 1 s).1 (rs1 s) []).l, (entsR (numR 1 s).1 (rs1 s) []).err)
def crelB : List B8 := [67#8, 82#8, 69#8, 76#8]
/-- What Decode answers: the entries, how many were read, why not. -/
def decB (b : List B8) : List En × Nat × Int :=
  if b.take 4 = crelB then (if (arcR ⟨b.drop 4, false⟩).2 = 0 then ((arcR ⟨b.drop 4, false⟩).1, (arcR ⟨b.drop 4, false⟩).1.length, 0) else ([], (arcR ⟨b.drop 4, false⟩).1.length, (arcR ⟨b.drop 4, false⟩).2)) else ([], 0, 3)
theorem fromB_app (xs : List B8) (x : B8) : fromB (xs ++ [x]) = fromB xs * 256 + x.toNat := fromB_snoc xs x
theorem big_snoc12 (size n : Nat) : big (size + 1) n = big size (n / 256) ++ [BitVec.ofNat 8 n] := by
  unfold big
  rw [List.range_succ, List.map_append]
  congr 1
  · apply List.map_congr_left
    intro j hj
    have hj := List.mem_range.1 hj
    unfold bigAt
    congr 1
    rw [show 8 * (size + 1 - 1 - j) = 8 + 8 * (size - 1 - j) by omega, Nat.pow_add, ← Nat.div_div_eq_div_mul]
  · unfold bigAt
    simp
theorem fromB_big12 : ∀ (size n : Nat), n < 256 ^ size → fromB (big size n) = n
  | 0, n, h => by
    have : n = 0 := by simpa using h
    subst this
    rfl
  | size + 1, n, h => by
    rw [big_snoc12, fromB_snoc, fromB_big12 size (n / 256) (by rw [Nat.pow_succ] at h; omega)]
    simp
    omega
theorem big_fromB : ∀ (size : Nat) (xs : List B8), xs.length = size → big size (fromB xs) = xs
  | 0, xs, h => by
    have : xs = [] := List.eq_nil_of_length_eq_zero h
    subst this
    rfl
  | size + 1, xs, h => by
    obtain ⟨ys, y, rfl⟩ : ∃ ys y, xs = ys ++ [y] := by
      rcases List.eq_nil_or_concat xs with h0 | ⟨ys, y, h0⟩
      · rw [h0] at h; cases h
      · exact ⟨ys, y, by rw [h0, List.concat_eq_append]⟩
    have hl : ys.length = size := by rw [List.length_append] at h; simpa using h
    have hy := y.isLt
    rw [big_snoc12, fromB_snoc, show (fromB ys * 256 + y.toNat) / 256 = fromB ys by omega, big_fromB size ys hl]
    congr 2
    apply BitVec.eq_of_toNat_eq
    rw [BitVec.toNat_ofNat]
    omega
theorem takeR_ok {k : Nat} {s : Rs} (h : (takeR k s).2.ms = false) : s.ms = false ∧ (takeR k s).1.length = k ∧ s.left = (takeR k s).1 ++ (takeR k s).2.left := by
  unfold takeR at h ⊢
  split
  · rename_i h1
    rw [if_pos h1] at h
    cases h
  · rename_i h1
    rw [if_neg h1] at h
    exact ⟨h, by rw [List.length_take]; omega, (List.take_append_drop k s.left).symm⟩
theorem takeR_app {k : Nat} (xs ys : List B8) (h : xs.length = k) : takeR k ⟨xs ++ ys, false⟩ = (xs, ⟨ys, false⟩) := by
  subst h
  unfold takeR
  rw [if_neg (by simp)]
  simp
theorem numR_ok {k : Nat} {s : Rs} (h : (numR k s).2.ms = false) : s.ms = false ∧ s.left = big k (numR k s).1 ++ (numR k s).2.left := by
  obtain ⟨h1, h2, h3⟩ := takeR_ok (k := k) (s := s) h
  refine ⟨h1, ?_⟩
  show s.left = big k (fromB (takeR k s).1) ++ (takeR k s).2.left
  rw [big_fromB k _ h2]
  exact h3
theorem numR_app {k n : Nat} (hn : n < 256 ^ k) (ys : List B8) : numR k ⟨big k n ++ ys, false⟩ = (n, ⟨ys, false⟩) := by
  unfold numR
  rw [takeR_app _ _ (big_length k n)]
  show (fromB (big k n), _) = _
  rw [fromB_big12 k n hn]
theorem bytB_txtB (d : List B8) : bytB (txtB d) = d := by
  unfold bytB txtB strOfNums
  apply List.ext_getElem?
  intro i
  simp only [List.getElem?_map]
  cases h : d[i]? with
  | none => simp [h]
  | some x =>
    simp [h, nb]
theorem txtB_bytB (t : ByteArray) : txtB (bytB t) = t := by
  obtain ⟨⟨l⟩⟩ := t
  unfold bytB txtB strOfNums
  congr 1
  simp only [List.map_map]
  congr 1
  rw [List.map_congr_left (g := id) (by intro x _; simp [nb])]
  simp
theorem refE_false {e : En} {l : List En} {b : Bool} (h : refE e l b = 0) : refE e l false = 0 ∧ b = false := by
  have h9 := ref_all h
  refine ⟨ref_none (fun j hj => ?_), h9 8 (by omega)⟩
  have h2 := h9 j hj
  match j, h2 with
  | 0, h2 => exact h2
  | 1, h2 => exact h2
  | 2, h2 => exact h2
  | 3, h2 => exact h2
  | 4, h2 => exact h2
  | 5, h2 => exact h2
  | 6, h2 => exact h2
  | 7, h2 => exact h2
  | j + 8, _ => rfl
theorem pathless_ok {e : En} {l : List En} {b : Bool} (h : refE e l b = 0) : parseB (textP e.path) = (e.path, 0) ∧ 0 < e.path.length := by
  have h0 := ref_all h 0 (by omega)
  simp only [failE, pathlessE, Bool.or_eq_false_iff, Bool.not_eq_false', decide_eq_true_eq, decide_eq_false_iff_not] at h0
  exact ⟨Prod.ext h0.2 h0.1.1, by have := h0.1.2; have h2 := h0.2; rw [← h2]; omega⟩
theorem parse_named {t : ByteArray} (h : 0 < (parseB t).1.length) : (parseB t).2 = 0 := by
  unfold parseB at h ⊢
  split
  · rename_i h1
    rw [if_pos h1] at h
    exact absurd h (by simp)
  · rename_i h1
    rw [if_neg h1] at h
    split
    · rfl
    · rename_i h2
      rw [if_neg h2] at h
      split
      · rfl
      · rename_i h3
        rw [if_neg h3] at h
        exact absurd h (by simp)
/-- The parts, by what was taken. -/
theorem cand_of {s s1 s2 s3 s4 s5 s6 s7 : Rs} {k m tl dl : Nat} {tx dt sm : List B8} (E1 : numR 1 s = (k, s1)) (E2 : numR 2 s1 = (m, s2)) (E3 : numR 1 s2 = (tl, s3)) (E4 : takeR tl s3 = (tx, s4)) (E5 : numR 2 s4 = (dl, s5)) (E6 : takeR dl s5 = (dt, s6)) (E7 : takeR 8 s6 = (sm, s7)) :
    rs7 s = s7 ∧ candS s = sm ∧ candE s = { path := (parseB (txtB tx)).1, kind := (k : Int), mode := (m : Int), data := dt } := by
  have f1 : rs1 s = s1 := congrArg Prod.snd E1
  have f2 : rs2 s = s2 := by unfold rs2; rw [f1, E2]
  have f3 : rs3 s = s3 := by unfold rs3; rw [f2, E3]
  have g3 : len1 s = tl := by unfold len1; rw [f2, E3]
  have f4 : rs4 s = s4 := by unfold rs4; rw [f3, g3, E4]
  have f5 : rs5 s = s5 := by unfold rs5; rw [f4, E5]
  have g5 : len2 s = dl := by unfold len2; rw [f4, E5]
  have f6 : rs6 s = s6 := by unfold rs6; rw [f5, g5, E6]
  refine ⟨by unfold rs7; rw [f6, E7], by unfold candS; rw [f6, E7], by unfold candE; rw [E1, f1, E2, f3, g3, E4, f5, g5, E6]⟩
theorem numR_is {k z : Nat} {s s' : Rs} (h : numR k s = (z, s')) (hm : s'.ms = false) : s.ms = false ∧ s.left = big k z ++ s'.left := by
  have := numR_ok (k := k) (s := s) (by rw [h]; exact hm)
  rw [h] at this
  exact this
theorem takeR_is {k : Nat} {xs : List B8} {s s' : Rs} (h : takeR k s = (xs, s')) (hm : s'.ms = false) : s.ms = false ∧ xs.length = k ∧ s.left = xs ++ s'.left := by
  have := takeR_ok (k := k) (s := s) (by rw [h]; exact hm)
  rw [h] at this
  exact this
theorem entB_of {e : En} {k m : Nat} {tx : List B8} (hk : e.kind = k) (hm : e.mode = m) (ht : bytB (textP e.path) = tx) : entB e = big 1 k ++ (big 2 m ++ (big 1 tx.length ++ (tx ++ (big 2 e.data.length ++ (e.data ++ sumE e))))) := by
  subst ht
  unfold entB
  rw [hk, hm, Int.toNat_natCast, Int.toNat_natCast, bytB_length]
  simp only [List.append_assoc]
/-- What is read as one entry is what is written of it. -/
theorem entR_ok {s : Rs} {l : List En} (h : (entR s l).err = 0) : (entR s l).l = l ++ [candE s] ∧ refE (candE s) l false = 0 ∧ s.ms = false ∧ (entR s l).st.ms = false ∧ s.left = entB (candE s) ++ (entR s l).st.left := by
  obtain ⟨k, s1, E1⟩ : ∃ k s1, numR 1 s = (k, s1) := ⟨_, _, rfl⟩
  obtain ⟨m, s2, E2⟩ : ∃ k s', numR 2 s1 = (k, s') := ⟨_, _, rfl⟩
  obtain ⟨tl, s3, E3⟩ : ∃ k s', numR 1 s2 = (k, s') := ⟨_, _, rfl⟩
  obtain ⟨tx, s4, E4⟩ : ∃ k s', takeR tl s3 = (k, s') := ⟨_, _, rfl⟩
  obtain ⟨dl, s5, E5⟩ : ∃ k s', numR 2 s4 = (k, s') := ⟨_, _, rfl⟩
  obtain ⟨dt, s6, E6⟩ : ∃ k s', takeR dl s5 = (k, s') := ⟨_, _, rfl⟩
  obtain ⟨sm, s7, E7⟩ : ∃ k s', takeR 8 s6 = (k, s') := ⟨_, _, rfl⟩
  obtain ⟨f7, fS, fE⟩ := cand_of E1 E2 E3 E4 E5 E6 E7
  unfold entR at h ⊢
  rw [f7] at h ⊢
  cases hms : s7.ms with
  | true =>
    rw [hms, if_pos rfl] at h
    cases h
  | false =>
    rw [hms, if_neg (by simp)] at h
    rw [if_neg (by simp)]
    by_cases h2 : refE (candE s) l (bentE s) = 0
    · rw [if_pos h2]
      obtain ⟨hr, hb⟩ := refE_false h2
      have hp := pathless_ok hr
      obtain ⟨a6, l7, e7⟩ := takeR_is E7 hms
      obtain ⟨a5, l6, e6⟩ := takeR_is E6 a6
      obtain ⟨a4, e5⟩ := numR_is E5 a5
      obtain ⟨a3, l4, e4⟩ := takeR_is E4 a4
      obtain ⟨a2, e3⟩ := numR_is E3 a3
      obtain ⟨a1, e2⟩ := numR_is E2 a2
      obtain ⟨a0, e1⟩ := numR_is E1 a1
      refine ⟨rfl, hr, a0, hms, ?_⟩
      have hsum : sumE (candE s) = sm := by
        unfold bentE at hb
        simp only [Bool.not_eq_false', decide_eq_true_eq] at hb
        rw [← hb, fS]
      have ht : bytB (textP (candE s).path) = tx := by
        have h1 : 0 < (parseB (txtB tx)).1.length := by have := hp.2; rw [fE] at this; exact this
        rw [fE]
        show bytB (textP (parseB (txtB tx)).1) = tx
        rw [ptext_parse (parse_named h1), bytB_txtB]
      have hk : (candE s).kind = (k : Int) := by rw [fE]
      have hm : (candE s).mode = (m : Int) := by rw [fE]
      have hd : (candE s).data = dt := by rw [fE]
      show s.left = entB (candE s) ++ s7.left
      rw [entB_of hk hm ht, hd, hsum, l4, l6, e1, e2, e3, e4, e5, e6, e7]
      simp only [List.append_assoc]
    · rw [if_neg h2] at h
      dsimp only at h
      exact absurd h h2
/-- What is written of an entry is read as it. -/
theorem entR_back {e : En} {l : List En} (h : refE e l false = 0) (hw : WrE e) (hsum : (sumE e).length = 8) (rest : List B8) : entR ⟨entB e ++ rest, false⟩ l = ⟨⟨rest, false⟩, l ++ [e], 0⟩ := by
  obtain ⟨hp, hp0⟩ := pathless_ok h
  have ht : (bytB (textP e.path)).length < 256 := by
    rw [bytB_length]
    have : (parseB (textP e.path)).2 = 0 := by rw [hp]
    unfold parseB at this
    split at this
    · cases this
    · omega
  have hk0 := hw.k0
  have hk1 := hw.k1
  have hm0 := hw.m0
  have hm1 := hw.m1
  have hd := hw.data
  obtain ⟨k, hk⟩ : ∃ k : Nat, e.kind = k := ⟨e.kind.toNat, by omega⟩
  obtain ⟨m, hm⟩ : ∃ m : Nat, e.mode = m := ⟨e.mode.toNat, by omega⟩
  obtain ⟨tx, htx⟩ : ∃ tx, bytB (textP e.path) = tx := ⟨_, rfl⟩
  rw [htx] at ht
  obtain ⟨r6, h6⟩ : ∃ r, r = sumE e ++ rest := ⟨_, rfl⟩
  obtain ⟨r5, h5⟩ : ∃ r, r = e.data ++ r6 := ⟨_, rfl⟩
  obtain ⟨r4, h4⟩ : ∃ r, r = big 2 e.data.length ++ r5 := ⟨_, rfl⟩
  obtain ⟨r3, h3⟩ : ∃ r, r = tx ++ r4 := ⟨_, rfl⟩
  obtain ⟨r2, h2⟩ : ∃ r, r = big 1 tx.length ++ r3 := ⟨_, rfl⟩
  obtain ⟨r1, h1⟩ : ∃ r, r = big 2 m ++ r2 := ⟨_, rfl⟩
  have e0 : entB e ++ rest = big 1 k ++ r1 := by
    rw [entB_of hk hm htx, h1, h2, h3, h4, h5, h6]
    simp only [List.append_assoc]
  have E1 : numR 1 ⟨entB e ++ rest, false⟩ = (k, ⟨r1, false⟩) := by rw [e0]; exact numR_app (by omega) r1
  have E2 : numR 2 ⟨r1, false⟩ = (m, ⟨r2, false⟩) := by rw [h1]; exact numR_app (by omega) r2
  have E3 : numR 1 ⟨r2, false⟩ = (tx.length, ⟨r3, false⟩) := by rw [h2]; exact numR_app (by omega) r3
  have E4 : takeR tx.length ⟨r3, false⟩ = (tx, ⟨r4, false⟩) := by rw [h3]; exact takeR_app tx r4 rfl
  have E5 : numR 2 ⟨r4, false⟩ = (e.data.length, ⟨r5, false⟩) := by rw [h4]; exact numR_app (by omega) r5
  have E6 : takeR e.data.length ⟨r5, false⟩ = (e.data, ⟨r6, false⟩) := by rw [h5]; exact takeR_app e.data r6 rfl
  have E7 : takeR 8 ⟨r6, false⟩ = (sumE e, ⟨rest, false⟩) := by rw [h6]; exact takeR_app (sumE e) rest hsum
  obtain ⟨f7, fS, fE⟩ := cand_of E1 E2 E3 E4 E5 E6 E7
  have hc : candE ⟨entB e ++ rest, false⟩ = e := by
    rw [fE, ← htx, txtB_bytB, hp, ← hk, ← hm]
  have hb : bentE ⟨entB e ++ rest, false⟩ = false := by
    unfold bentE
    rw [fS, hc]
    simp
  unfold entR
  rw [f7, hc, hb, if_neg (by simp), if_pos h]
theorem entsR_succ (n : Nat) (s : Rs) (l : List En) : entsR (n + 1) s l = if (entR s l).err = 0 then entsR n (entR s l).st (entR s l).l else entR s l := rfl
theorem entsR_ok (n : Nat) : ∀ (s : Rs) (l : List En), s.ms = false → (entsR n s l).err = 0 → ∃ es, (entsR n s l).l = l ++ es ∧ es.length = n ∧ s.left = es.flatMap entB ++ (entsR n s l).st.left ∧ (entsR n s l).st.ms = false ∧ ∀ i e, es[i]? = some e → refE e (l ++ es.take i) false = 0 := by
  induction n with
  | zero => exact fun s l hs _ => ⟨[], by simp [entsR], rfl, by simp [entsR], hs, fun i e h => by simp at h⟩
  | succ n ih =>
    intro s l hs h
    rw [entsR_succ] at h ⊢
    have hok := entR_ok (s := s) (l := l)
    obtain ⟨r, hr⟩ : ∃ r, entR s l = r := ⟨_, rfl⟩
    rw [hr] at h hok ⊢
    clear hr
    by_cases h0 : r.err = 0
    · rw [if_pos h0] at h ⊢
      obtain ⟨a1, a2, a3, a4, a5⟩ := hok h0
      obtain ⟨es, b1, b2, b3, b4, b5⟩ := ih _ _ a4 h
      refine ⟨candE s :: es, by rw [b1, a1]; simp, by rw [List.length_cons, b2], by rw [a5, b3]; simp, b4, fun i e he => ?_⟩
      cases i with
      | zero =>
        simp only [List.getElem?_cons_zero, Option.some.injEq] at he
        subst he
        rw [List.take_zero, List.append_nil]
        exact a2
      | succ i =>
        have := b5 i e (by simpa using he)
        rw [a1, List.append_assoc] at this
        rw [List.take_succ_cons]
        exact this
    · rw [if_neg h0] at h
      exact absurd h h0
theorem entsR_back : ∀ (es : List En) (l : List En) (rest : List B8), (∀ i e, es[i]? = some e → refE e (l ++ es.take i) false = 0) → (∀ e ∈ es, WrE e ∧ (sumE e).length = 8) → entsR es.length ⟨es.flatMap entB ++ rest, false⟩ l = ⟨⟨rest, false⟩, l ++ es, 0⟩
  | [], l, rest, _, _ => by simp [entsR]
  | e :: es, l, rest, h, hw => by
    have h0 := h 0 e rfl
    rw [List.take_zero, List.append_nil] at h0
    have hb := entR_back h0 (hw e List.mem_cons_self).1 (hw e List.mem_cons_self).2 (es.flatMap entB ++ rest)
    have ih := entsR_back es (l ++ [e]) rest (fun i x hx => by
      have := h (i + 1) x (by simpa using hx)
      rw [List.take_succ_cons] at this
      rw [List.append_assoc]
      exact this) (fun x hx => hw x (List.mem_cons_of_mem _ hx))
    rw [List.length_cons, List.flatMap_cons, List.append_assoc, entsR_succ, hb]
    dsimp only
    rw [if_pos rfl, ih, List.append_assoc]
    rfl
/-- What Decode takes is just what is written. -/
theorem dec_ok {b : List B8} (h : (decB b).2.2 = 0) : (decB b).2.1 = (decB b).1.length ∧ b = arcB (decB b).1.length (decB b).1 ∧ chkE (decB b).1 = ((decB b).1.length, 0) ∧ (decB b).1.length ≤ 40 := by
  unfold decB at h ⊢
  split at h
  · rename_i h1
    rw [if_pos h1]
    split at h
    · rename_i h2
      rw [if_pos h2]
      refine ⟨rfl, ?_⟩
      show b = arcB (arcR ⟨b.drop 4, false⟩).1.length (arcR ⟨b.drop 4, false⟩).1 ∧ chkE (arcR ⟨b.drop 4, false⟩).1 = _ ∧ (arcR ⟨b.drop 4, false⟩).1.length ≤ 40
      unfold arcR at h2 ⊢
      split at h2
      · cases h2
      · rename_i m1
        rw [if_neg m1]
        split at h2
        · cases h2
        · rename_i m2
          rw [if_neg m2]
          split at h2
          · rename_i m3
            rw [if_pos m3]
            split at h2
            · cases h2
            · rename_i m4
              rw [if_neg m4]
              have m1' : (numR 1 ⟨b.drop 4, false⟩).2.ms = false := by cases hq : (numR 1 ⟨b.drop 4, false⟩).2.ms with
                | false => rfl
                | true => exact absurd hq m1
              obtain ⟨_, e1⟩ := numR_ok m1'
              obtain ⟨es, b1, b2, b3, b4, b5⟩ := entsR_ok _ _ _ m1' m3
              have hnil : (entsR (numR 1 ⟨b.drop 4, false⟩).1 (rs1 ⟨b.drop 4, false⟩) []).st.left = [] := List.eq_nil_of_length_eq_zero (by omega)
              have hb : b = arcB es.length es := by
                unfold arcB
                rw [b2]
                have hd : b = b.take 4 ++ b.drop 4 := (List.take_append_drop 4 b).symm
                rw [h1] at hd
                refine hd.trans ?_
                have e1' : b.drop 4 = big 1 (numR 1 ⟨b.drop 4, false⟩).1 ++ (rs1 ⟨b.drop 4, false⟩).left := e1
                have e2 : (rs1 ⟨b.drop 4, false⟩).left = es.flatMap entB := by
                  refine b3.trans ?_
                  show es.flatMap entB ++ (entsR (numR 1 ⟨b.drop 4, false⟩).1 (rs1 ⟨b.drop 4, false⟩) []).st.left = _
                  rw [hnil, List.append_nil]
                rw [e2] at e1'
                show crelB ++ b.drop 4 = crelB ++ big 1 (numR 1 ⟨b.drop 4, false⟩).1 ++ es.flatMap entB
                rw [List.append_assoc, ← e1']
              have hl : (entsR (numR 1 ⟨b.drop 4, false⟩).1 (rs1 ⟨b.drop 4, false⟩) []).l = es := b1.trans (List.nil_append es)
              have h40 : es.length ≤ 40 := by rw [b2]; exact Nat.le_of_not_lt m2
              show b = arcB (entsR (numR 1 ⟨b.drop 4, false⟩).1 (rs1 ⟨b.drop 4, false⟩) []).l.length (entsR (numR 1 ⟨b.drop 4, false⟩).1 (rs1 ⟨b.drop 4, false⟩) []).l ∧ _
              rw [hl]
              refine ⟨hb, ?_, h40⟩
              unfold chkE
              rw [if_neg (Nat.not_lt.2 h40), chk_all es [] (fun j y hy => by rw [List.nil_append]; have := b5 j y hy; rwa [List.nil_append] at this)]
              simp
          · rename_i m3
            exact absurd h2 m3
    · rename_i h2
      exact absurd h h2
  · cases h
theorem dec_back {es : List En} (h : (chkE es).2 = 0) (hw : ∀ e ∈ es, WrE e) (hs : ∀ e ∈ es, (sumE e).length = 8) : decB (arcB es.length es) = (es, es.length, 0) := by
  have h40 : es.length ≤ 40 := by
    rcases Nat.lt_or_ge 40 es.length with h1 | h1
    · unfold chkE at h
      rw [if_pos h1] at h
      cases h
    · exact h1
  obtain ⟨h1, h2, h3⟩ := chkE_spec h40
  have hall : ∀ (i : Nat) e, es[i]? = some e → refE e ([] ++ es.take i) false = 0 := by
    intro i e he
    rw [List.nil_append]
    exact h2 i e (by rw [h3 h]; exact (List.getElem?_eq_some_iff.1 he).1) he
  have hbk := entsR_back es [] [] hall (fun e he => ⟨hw e he, hs e he⟩)
  rw [List.append_nil, List.nil_append] at hbk
  have hr : arcR ⟨big 1 es.length ++ es.flatMap entB, false⟩ = (es, 0) := by
    have e1 := numR_app (k := 1) (n := es.length) (by omega) (es.flatMap entB)
    unfold arcR rs1
    rw [e1]
    show (if false = true then _ else if 40 < es.length then _ else if (entsR es.length ⟨es.flatMap entB, false⟩ []).err = 0 then (if 0 < (entsR es.length ⟨es.flatMap entB, false⟩ []).st.left.length then ((entsR es.length ⟨es.flatMap entB, false⟩ []).l, 3) else ((entsR es.length ⟨es.flatMap entB, false⟩ []).l, 0)) else ((entsR es.length ⟨es.flatMap entB, false⟩ []).l, (entsR es.length ⟨es.flatMap entB, false⟩ []).err)) = _
    rw [if_neg (by simp), if_neg (by omega), hbk]
    rfl
  unfold decB
  have ht : (arcB es.length es).take 4 = crelB := by unfold arcB; rw [List.append_assoc]; rfl
  have hd : (arcB es.length es).drop 4 = big 1 es.length ++ es.flatMap entB := by unfold arcB; rw [List.append_assoc]; rfl
  rw [if_pos ht, hd, hr]
  rfl
end Go.Proofs.YtlpljedacohngaaGreatDoor
end

/-
  What is decoded of bytes, and of others: plainly. Plain theorems; no condition.
-/

section
set_option linter.unusedSimpArgs false
set_option linter.unusedVariables false
set_option maxRecDepth 100000
namespace Go.Proofs.YtlpljedacohngaaGreatDoor
open Go.RowKit

theorem chk_texts {es : List En} (h : (chkE es).2 = 0) : ∀ e ∈ es, (joinP e.path).size ≤ 900 := by
  intro e he
  have h40 : es.length ≤ 40 := by
    rcases Nat.lt_or_ge 40 es.length with h1 | h1
    · unfold chkE at h
      rw [if_pos h1] at h
      cases h
    · exact h1
  obtain ⟨h1, h2, h3⟩ := chkE_spec h40
  obtain ⟨i, hi⟩ := List.getElem?_of_mem he
  have hr := h2 i e (by rw [h3 h]; exact (List.getElem?_eq_some_iff.1 hi).1) hi
  obtain ⟨hp, _⟩ := pathless_ok hr
  have : (parseB (textP e.path)).2 = 0 := by rw [hp]
  have ht : (textP e.path).size = slashB.size + (joinP e.path).size := by unfold textP; rw [ByteArray.size_append]
  unfold parseB at this
  split at this
  · cases this
  · omega
theorem sumE_len (e : En) : (sumE e).length = 8 := by unfold sumE; rw [List.length_take, sha_length]; rfl
theorem toEs_texts (es : List En) : ∀ e ∈ toEs es, (joinP e.path).size ≤ 900 := by
  intro e he
  unfold toEs at he
  obtain ⟨x, _, rfl⟩ := List.mem_map.1 he
  have := (few_small x.path).2
  show (joinP (fewP x.path)).size ≤ 900
  omega
theorem arcB_len (n : Nat) (es : List En) : 5 ≤ (arcB n es).length := by
  unfold arcB
  simp only [List.length_append, big_length, List.length_cons, List.length_nil]
  omega
/-- The plain reason: what is decoded of turned bytes, if anything is, are other entries, whose bytes these are. -/
theorem bends_zero {T : List En} (h : (chkE T).2 = 0) (ht : ∀ e ∈ T, (joinP e.path).size ≤ 900) : decB (arcB T.length T) = (T, T.length, 0) :=
  dec_back h (wre_all h ht).2 (fun e _ => sumE_len e)
theorem bends_other {T : List En} {b : List B8} (hne : b ≠ arcB T.length T) (h : (decB b).2.2 = 0) : T ≠ (decB b).1 ∧ (chkE (decB b).1).2 = 0 ∧ arcB (decB b).1.length (decB b).1 = b := by
  obtain ⟨h1, h2, h3, h4⟩ := dec_ok h
  refine ⟨fun he => hne ?_, by rw [h3], h2.symm⟩
  rw [he]
  exact h2
end Go.Proofs.YtlpljedacohngaaGreatDoor
end

/-
  Decode as the document tells it, by places, held against reading part by part. Plain theorems; no condition.
-/

section
set_option linter.unusedSimpArgs false
set_option linter.unusedVariables false
set_option maxRecDepth 100000
namespace Go.Proofs.YtlpljedacohngaaGreatDoor
open Go.RowKit

/-- A refusal with a digest is the one without, or the digest's. -/
theorem refE_bent (e : En) (l : List En) (b : Bool) : refE e l b = if refE e l false = 0 then (if b then 5 else 0) else refE e l false := by
  have hsame : ∀ j, j < 8 → failE e l b j = failE e l false j := by
    intro j hj
    match j, hj with
    | 0, _ | 1, _ | 2, _ | 3, _ | 4, _ | 5, _ | 6, _ | 7, _ => rfl
    | j + 8, h => omega
  by_cases h : refE e l false = 0
  · rw [if_pos h]
    have h9 := ref_all h
    have h8 : ∀ j, j < 8 → failE e l b j = false := fun j hj => by rw [hsame j hj]; exact h9 j (by omega)
    cases b with
    | true =>
      rw [if_pos rfl]
      exact ref_found (k := 8) (by omega) h8 rfl
    | false =>
      rw [if_neg (by simp)]
      exact h
  · rw [if_neg h]
    have hex : ∃ k, k < 8 ∧ failE e l false k = true ∧ ∀ j, j < k → failE e l false j = false := by
      have hk : ∀ n, (∀ j, j < n → failE e l false j = false) ∨ ∃ k, k < n ∧ failE e l false k = true ∧ ∀ j, j < k → failE e l false j = false := by
        intro n
        induction n with
        | zero => exact .inl (fun j hj => absurd hj (by omega))
        | succ n ih =>
          rcases ih with ih | ⟨k, h1, h2, h3⟩
          · cases hf : failE e l false n with
            | true => exact .inr ⟨n, by omega, hf, ih⟩
            | false =>
              refine .inl (fun j hj => ?_)
              rcases Nat.lt_or_ge j n with h | h
              · exact ih j h
              · obtain rfl : j = n := by omega
                exact hf
          · exact .inr ⟨k, by omega, h2, h3⟩
      rcases hk 8 with h1 | h1
      · exact absurd (ref_none (fun j hj => by
          rcases Nat.lt_or_ge j 8 with h | h
          · exact h1 j h
          · obtain rfl : j = 8 := by omega
            rfl)) h
      · exact h1
    obtain ⟨k, h1, h2, h3⟩ := hex
    rw [ref_found (k := k) (bent := b) (by omega) (fun j hj => by rw [hsame j (by omega)]; exact h3 j hj) (by rw [hsame k h1]; exact h2)]
    rw [ref_found (k := k) (bent := false) (by omega) h3 h2]
theorem parts_all (s : Rs) : ∃ k m tl dl tx dt sm s1 s2 s3 s4 s5 s6 s7, numR 1 s = (k, s1) ∧ numR 2 s1 = (m, s2) ∧ numR 1 s2 = (tl, s3) ∧ takeR tl s3 = (tx, s4) ∧ numR 2 s4 = (dl, s5) ∧ takeR dl s5 = (dt, s6) ∧ takeR 8 s6 = (sm, s7) := by
  obtain ⟨k, s1, E1⟩ : ∃ k s1, numR 1 s = (k, s1) := ⟨_, _, rfl⟩
  obtain ⟨m, s2, E2⟩ : ∃ k s', numR 2 s1 = (k, s') := ⟨_, _, rfl⟩
  obtain ⟨tl, s3, E3⟩ : ∃ k s', numR 1 s2 = (k, s') := ⟨_, _, rfl⟩
  obtain ⟨tx, s4, E4⟩ : ∃ k s', takeR tl s3 = (k, s') := ⟨_, _, rfl⟩
  obtain ⟨dl, s5, E5⟩ : ∃ k s', numR 2 s4 = (k, s') := ⟨_, _, rfl⟩
  obtain ⟨dt, s6, E6⟩ : ∃ k s', takeR dl s5 = (k, s') := ⟨_, _, rfl⟩
  obtain ⟨sm, s7, E7⟩ : ∃ k s', takeR 8 s6 = (k, s') := ⟨_, _, rfl⟩
  exact ⟨k, m, tl, dl, tx, dt, sm, s1, s2, s3, s4, s5, s6, s7, E1, E2, E3, E4, E5, E6, E7⟩
/-- The number that a byte at a place is. -/
def byA (L : List B8) (i : Nat) : Nat := (L.getD i 0).toNat
theorem byA_lt (L : List B8) (i : Nat) : byA L i < 256 := (L.getD i 0).isLt
/-- How long an entry is, where all of it is there: its text's length, its data's. -/
def tlA (L : List B8) : Nat := byA L 3
def dlA (L : List B8) : Nat := byA L (4 + tlA L) * 256 + byA L (4 + tlA L + 1)
theorem dlA_lt (L : List B8) : dlA L < 65536 := by
  have h1 := byA_lt L (4 + tlA L)
  have h2 := byA_lt L (4 + tlA L + 1)
  unfold dlA
  omega
def candA (L : List B8) : En := { path := (parseB (txtB ((L.drop 4).take (tlA L)))).1, kind := (byA L 0 : Nat), mode := (byA L 1 * 256 + byA L 2 : Nat), data := (L.drop (4 + tlA L + 2)).take (dlA L) }
def sumA (L : List B8) : List B8 := (L.drop (4 + tlA L + 2 + dlA L)).take 8
theorem take_one {L : List B8} (h : 0 < L.length) : L.take 1 = [L.getD 0 0] := by
  cases L with
  | nil => cases h
  | cons a L => rfl
theorem take_two {L : List B8} (h : 1 < L.length) : L.take 2 = [L.getD 0 0, L.getD 1 0] := by
  cases L with
  | nil => cases h
  | cons a L =>
    cases L with
    | nil => simp at h
    | cons b L => rfl
theorem getD_drop (L : List B8) (i j : Nat) : (L.drop i).getD j 0 = L.getD (i + j) 0 := by
  rw [List.getD_eq_getElem?_getD, List.getD_eq_getElem?_getD, List.getElem?_drop]
theorem num_one {L : List B8} (h : 0 < L.length) (ms : Bool) : numR 1 ⟨L, ms⟩ = (byA L 0, ⟨L.drop 1, ms⟩) := by
  have e : takeR 1 ⟨L, ms⟩ = (L.take 1, ⟨L.drop 1, ms⟩) := by unfold takeR; rw [if_neg (by show ¬ L.length < 1; omega)]
  unfold numR
  rw [e, take_one h]
  simp [fromB, byA]
theorem num_two {L : List B8} (h : 1 < L.length) (ms : Bool) : numR 2 ⟨L, ms⟩ = (byA L 0 * 256 + byA L 1, ⟨L.drop 2, ms⟩) := by
  have e : takeR 2 ⟨L, ms⟩ = (L.take 2, ⟨L.drop 2, ms⟩) := by unfold takeR; rw [if_neg (by show ¬ L.length < 2; omega)]
  unfold numR
  rw [e, take_two h]
  simp [fromB, byA]
theorem take_is {L : List B8} {k : Nat} (h : k ≤ L.length) (ms : Bool) : takeR k ⟨L, ms⟩ = (L.take k, ⟨L.drop k, ms⟩) := by
  unfold takeR
  rw [if_neg (by show ¬ L.length < k; omega)]
/-- All of an entry is there: what is read is what lies at the places. -/
theorem cand_at {L : List B8} (h : 4 + tlA L + 2 + dlA L + 8 ≤ L.length) : rs7 ⟨L, false⟩ = ⟨L.drop (4 + tlA L + 2 + dlA L + 8), false⟩ ∧ candS ⟨L, false⟩ = sumA L ∧ candE ⟨L, false⟩ = candA L := by
  have E1 := num_one (L := L) (by omega) false
  have E2 := num_two (L := L.drop 1) (by rw [List.length_drop]; omega) false
  rw [List.drop_drop] at E2
  have E3 := num_one (L := L.drop (1 + 2)) (by rw [List.length_drop]; omega) false
  rw [List.drop_drop] at E3
  have e3 : byA (L.drop (1 + 2)) 0 = tlA L := by unfold byA tlA byA; rw [getD_drop]
  rw [e3] at E3
  have E4 := take_is (L := L.drop (1 + 2 + 1)) (k := tlA L) (by rw [List.length_drop]; omega) false
  rw [List.drop_drop] at E4
  have E5 := num_two (L := L.drop (1 + 2 + 1 + tlA L)) (by rw [List.length_drop]; omega) false
  rw [List.drop_drop] at E5
  have e5 : byA (L.drop (1 + 2 + 1 + tlA L)) 0 * 256 + byA (L.drop (1 + 2 + 1 + tlA L)) 1 = dlA L := by
    unfold dlA byA
    rw [getD_drop, getD_drop]
    rfl
  rw [e5] at E5
  have E6 := take_is (L := L.drop (1 + 2 + 1 + tlA L + 2)) (k := dlA L) (by rw [List.length_drop]; omega) false
  rw [List.drop_drop] at E6
  have E7 := take_is (L := L.drop (1 + 2 + 1 + tlA L + 2 + dlA L)) (k := 8) (by rw [List.length_drop]; omega) false
  rw [List.drop_drop] at E7
  obtain ⟨f7, fS, fE⟩ := cand_of E1 E2 E3 E4 E5 E6 E7
  refine ⟨f7, fS, ?_⟩
  rw [fE]
  unfold candA
  have e2 : byA (L.drop 1) 0 * 256 + byA (L.drop 1) 1 = byA L 1 * 256 + byA L 2 := by
    unfold byA
    rw [getD_drop, getD_drop]
  rw [e2]
/-- Not all of an entry is there. -/
theorem cand_short {L : List B8} (h : (rs7 ⟨L, false⟩).ms = false) : 4 + tlA L + 2 + dlA L + 8 ≤ L.length := by
  obtain ⟨k, m, tl, dl, tx, dt, sm, s1, s2, s3, s4, s5, s6, s7, E1, E2, E3, E4, E5, E6, E7⟩ := parts_all ⟨L, false⟩
  obtain ⟨f7, fS, fE⟩ := cand_of E1 E2 E3 E4 E5 E6 E7
  rw [f7] at h
  obtain ⟨a6, l7, e7⟩ := takeR_is E7 h
  obtain ⟨a5, l6, e6⟩ := takeR_is E6 a6
  obtain ⟨a4, e5⟩ := numR_is E5 a5
  obtain ⟨a3, l4, e4⟩ := takeR_is E4 a4
  obtain ⟨a2, e3⟩ := numR_is E3 a3
  obtain ⟨a1, e2⟩ := numR_is E2 a2
  obtain ⟨a0, e1⟩ := numR_is E1 a1
  have g1 := congrArg List.length e1
  have g2 := congrArg List.length e2
  have g3 := congrArg List.length e3
  have g4 := congrArg List.length e4
  have g5 := congrArg List.length e5
  have g6 := congrArg List.length e6
  have g7 := congrArg List.length e7
  simp only [List.length_append, big_length] at g1 g2 g3 g4 g5 g6 g7
  have hl1 : 0 < L.length := by omega
  have F1 := (num_one (L := L) hl1 false).symm.trans E1
  have c1 : s1 = ⟨L.drop 1, false⟩ := (congrArg Prod.snd F1).symm
  subst c1
  have F2 := (num_two (L := L.drop 1) (by rw [List.length_drop]; omega) false).symm.trans E2
  have c2 : s2 = ⟨L.drop (1 + 2), false⟩ := by rw [← List.drop_drop]; exact (congrArg Prod.snd F2).symm
  subst c2
  have F3 := (num_one (L := L.drop (1 + 2)) (by rw [List.length_drop]; omega) false).symm.trans E3
  have c3 : s3 = ⟨L.drop (1 + 2 + 1), false⟩ := by rw [← List.drop_drop]; exact (congrArg Prod.snd F3).symm
  have t3 : tl = tlA L := by
    have h1 : byA (L.drop (1 + 2)) 0 = tl := congrArg Prod.fst F3
    rw [← h1]
    unfold byA tlA byA
    rw [getD_drop]
  subst c3 t3
  have F4 := (take_is (L := L.drop (1 + 2 + 1)) (k := tlA L) (by rw [List.length_drop]; omega) false).symm.trans E4
  have c4 : s4 = ⟨L.drop (1 + 2 + 1 + tlA L), false⟩ := by rw [← List.drop_drop]; exact (congrArg Prod.snd F4).symm
  subst c4
  have F5 := (num_two (L := L.drop (1 + 2 + 1 + tlA L)) (by rw [List.length_drop]; omega) false).symm.trans E5
  have t5 : dl = dlA L := by
    have h1 : byA (L.drop (1 + 2 + 1 + tlA L)) 0 * 256 + byA (L.drop (1 + 2 + 1 + tlA L)) 1 = dl := congrArg Prod.fst F5
    rw [← h1]
    unfold dlA byA
    rw [getD_drop, getD_drop]
    rfl
  subst t5
  omega
/-- One entry, by places. -/
theorem entR_at (L : List B8) (l : List En) : entR ⟨L, false⟩ l =
    if 4 + tlA L + 2 + dlA L + 8 ≤ L.length then (if refE (candA L) l false = 0 then (if sumA L = sumE (candA L) then ⟨⟨L.drop (4 + tlA L + 2 + dlA L + 8), false⟩, l ++ [candA L], 0⟩ else ⟨⟨L.drop (4 + tlA L + 2 + dlA L + 8), false⟩, l, 5⟩) else ⟨⟨L.drop (4 + tlA L + 2 + dlA L + 8), false⟩, l, refE (candA L) l false⟩)
    else ⟨rs7 ⟨L, false⟩, l, 4⟩ := by
  rw [show entR ⟨L, false⟩ l = if (rs7 ⟨L, false⟩).ms then ⟨rs7 ⟨L, false⟩, l, 4⟩ else if refE (candE ⟨L, false⟩) l (bentE ⟨L, false⟩) = 0 then ⟨rs7 ⟨L, false⟩, l ++ [candE ⟨L, false⟩], 0⟩ else ⟨rs7 ⟨L, false⟩, l, refE (candE ⟨L, false⟩) l (bentE ⟨L, false⟩)⟩ from rfl]
  by_cases h : 4 + tlA L + 2 + dlA L + 8 ≤ L.length
  · obtain ⟨f7, fS, fE⟩ := cand_at h
    have fB : bentE ⟨L, false⟩ = !(decide (sumA L = sumE (candA L))) := by
      unfold bentE
      rw [fS, fE]
    rw [f7, fE, fB, if_pos h, if_neg (by simp), refE_bent]
    by_cases hr : refE (candA L) l false = 0
    · rw [if_pos hr, if_pos hr]
      by_cases hs : sumA L = sumE (candA L)
      · rw [if_pos hs, decide_eq_true hs]
        rfl
      · rw [if_neg hs, decide_eq_false hs]
        rfl
    · rw [if_neg hr, if_neg hr, if_neg hr]
  · rw [if_neg h]
    have hms : (rs7 ⟨L, false⟩).ms = true := by
      cases hq : (rs7 ⟨L, false⟩).ms with
      | true => rfl
      | false => exact absurd (cand_short hq) h
    rw [if_pos hms]
end Go.Proofs.YtlpljedacohngaaGreatDoor
end

/-
  The document's Encode, walked: the bytes of entries. Conditions: the entries lie in memory, and are no longer than what is written.
-/

section
set_option linter.unusedSimpArgs false
set_option linter.unusedVariables false
set_option maxRecDepth 100000
namespace Go.Proofs.YtlpljedacohngaaGreatDoor
open Go.RowKit

/-- While an entry is written: the bytes so far, the entry's box, the table's. -/
structure RAt (w0 w : World) (T g : Nat) (x : Ev) (u : Value) (bs : List B8) : Prop where
  own : w.ownsRow w0.heap.size 5 1 u bs.length (Vb bs)
  box : Blk w g 54 (evC x)
  tbl : Blk w T 33 Tbl
  b : Below w0.heap.size w0 w
theorem RAt.below {w0 w w' : World} {T g : Nat} {x : Ev} {u : Value} {bs : List B8} (h : RAt w0 w T g x u bs) (hb : Below w.heap.size w w') : RAt w0 w' T g x u bs :=
  ⟨ownsRow_only (S := []) h.own (Only.of_below hb) (by simp), h.box.below hb h.box.lt, h.tbl.below hb h.tbl.lt, h.b.trans (hb.mono h.b.size)⟩
theorem RAt.put {w0 w w' : World} {T g : Nat} {x : Ev} {u u' : Value} {bs cs : List B8} (h : RAt w0 w T g x u bs) (ho : w'.ownsRow w0.heap.size 5 1 u' cs.length (Vb cs)) (hO : Only u.ownBlock.toList w w') : RAt w0 w' T g x u' cs :=
  ⟨ho, h.box.only hO (by
    have := own_blk_ne h.own h.box (by decide)
    simpa using this), h.tbl.only hO (by
    have := own_blk_ne h.own h.tbl (by decide)
    simpa using this), h.b.trans (hO.below h.b.size (fun k hk => (h.own.lt k (by simpa using hk)).1))⟩
section
variable {ops : Array Oper} {Q : Exit → Act → World → Prop} {rest : List Oper} {o : Oper} {a : Act}
theorem rat_app {w0 w : World} {T g : Nat} {x : Ev} {u : Value} {bs ds : List B8} {A : Option Addr} {m c : Nat} {s y : Operand} (h : RAt w0 w T g x u bs) (hgd : o.guard = none) (ho : o.op = .call { callee := .builtin .append, args := #[s, y], argTypes := #[22, 22] }) (hs : a.eval s = u) (hx : a.eval y = .slice A m c) (hd : DIn w A m c ds) (hmx : bs.length + m ≤ 1000000)
    (k : ∀ v' w', RAt w0 w' T g x v' (bs ++ ds) → wpList Tryz.prog ops Q rest (a.put o.dst v') w') : wpList Tryz.prog ops Q (o :: rest) a w := by
  refine wpList_app (v := u) (base := w0.heap.size) (n := bs.length) hgd ho Tryz.underlying22 byt_info rfl (by decide) (Vb ds) hs h.own hx (by rw [Vb_length, hd.len]; omega) (fun h0 => din_rows hd h0) (Vb_oneCell _) hmx (by decide) h.b.size ?_
  intro v' w' k1 k2 _
  refine k v' w' (h.put ?_ k2)
  rw [List.length_append, hd.len, Vb_app]
  exact k1
end
theorem din_new (w : World) (ds : List B8) (cs : List Value) (n : Nat) (h : cs = Vb ds) (hn : ds.length = n) (hb : n ≤ 1000000) : DIn (w.alloc (.cells cs.toArray 5)) (some ⟨w.heap.size, 0, none⟩) n n ds := by
  subst h
  refine ⟨hn, Nat.le_refl _, by omega, (fun h => by cases h), fun _ => ⟨w.heap.size, 0, rfl, by simp, fun j u hu => ?_⟩⟩
  rw [Nat.zero_add, (Blk.new w 5 (Vb ds)).cell]
  exact hu
theorem big2_val (m : Nat) (h : m ≤ 65535) : Vb (big 2 m) = [.int .u8 ((m : Int) / 256), .int .u8 ((m : Int) % 256)] := by
  have : big 2 m = [BitVec.ofNat 8 (m / 256), BitVec.ofNat 8 m] := by
    rw [big_snoc12 1 m]
    have h1 : big 1 (m / 256) = [BitVec.ofNat 8 (m / 256)] := by simp [big, bigAt]
    rw [h1]
    rfl
  rw [this]
  unfold Vb nb
  simp
  omega
theorem big1_mod (t : Nat) : Vb (big 1 t) = [.int .u8 ((t : Int) % 256)] := by
  have : big 1 t = [BitVec.ofNat 8 t] := by simp [big, bigAt]
  rw [this]
  unfold Vb nb
  simp
theorem four_val {k m t : Nat} (hk : k ≤ 255) (hm : m ≤ 65535) : [.int .u8 (k : Int), .int .u8 ((m : Int) / 256), .int .u8 ((m : Int) % 256), .int .u8 ((t : Int) % 256)] = Vb (big 1 k ++ (big 2 m ++ big 1 t)) := by
  rw [Vb_app, Vb_app, big1_mod, big1_mod, big2_val m hm]
  have : (k : Int) % 256 = k := by omega
  rw [this]
  rfl
theorem tbl_info : (Tryz.prog.info? 33).map (·.size) = some Tbl.length := by rw [Tbl_length]; kernel_rfl
theorem rev_size : (Tryz.prog.info? 54).map (·.size) = some 4 := by kernel_rfl
theorem big1_val {n : Nat} (h : n < 256) : Vb (big 1 n) = [.int .u8 (n : Int)] := by
  have : big 1 n = [BitVec.ofNat 8 n] := by simp [big, bigAt]
  rw [this]
  unfold Vb nb
  simp
  omega
end Go.Proofs.YtlpljedacohngaaGreatDoor
end

/-
  Why an entry is refused, as the document tells it: the same, plainly. Plain theorems; no condition.
-/

section
set_option linter.unusedSimpArgs false
set_option linter.unusedVariables false
set_option maxRecDepth 100000
namespace Go.Proofs.YtlpljedacohngaaGreatDoor
open Go.RowKit

theorem splitL_none (c : UInt8) : ∀ x : List UInt8, c ∉ x → splitL c x = [x]
  | [], _ => rfl
  | b :: x, h => by
    have hb : ¬ b = c := fun e => h (by rw [e]; exact List.mem_cons_self)
    have ih := splitL_none c x (fun hm => h (List.mem_cons_of_mem _ hm))
    rw [splitL, if_neg hb, ih]
theorem splitL_cut (c : UInt8) : ∀ (x r : List UInt8), c ∉ x → splitL c (x ++ c :: r) = x :: splitL c r
  | [], r, _ => by
    rw [List.nil_append, splitL, if_pos rfl]
  | b :: x, r, h => by
    have hb : ¬ b = c := fun e => h (by rw [e]; exact List.mem_cons_self)
    have ih := splitL_cut c x r (fun hm => h (List.mem_cons_of_mem _ hm))
    rw [List.cons_append, splitL, if_neg hb, ih]
theorem splitL_join (c : UInt8) : ∀ (x : List UInt8) (r : List (List UInt8)), (∀ y ∈ x :: r, c ∉ y) → splitL c (Lib.join (x :: r) [c]) = x :: r
  | x, [], h => by
    rw [Lib.join_one]
    exact splitL_none c x (h x List.mem_cons_self)
  | x, y :: r, h => by
    rw [join_cons2, List.append_assoc]
    show splitL c (x ++ c :: Lib.join (y :: r) [c]) = _
    rw [splitL_cut c x _ (h x List.mem_cons_self), splitL_join c y r (fun z hz => h z (List.mem_cons_of_mem _ hz))]
theorem name_slash {x : ByteArray} (h : pnameB x = true) : (47 : UInt8) ∉ x.data.toList := by
  intro hm
  unfold pnameB at h
  simp only [Bool.and_eq_true, List.all_eq_true] at h
  have := h.2 47 hm
  revert this
  decide
theorem split_join {p : Pa} (hp : p ≠ []) (hr : rightB p = true) : splitP (joinP p) = p := by
  apply data_inj
  rw [splitP_data]
  cases p with
  | nil => exact absurd rfl hp
  | cons x r =>
    show splitL 47 (Lib.join (x.data.toList :: r.map (·.data.toList)) [47]) = _
    rw [splitL_join 47 _ _ (fun y hy => by
      unfold rightB at hr
      simp only [Bool.and_eq_true, List.all_eq_true] at hr
      rcases List.mem_cons.1 hy with rfl | hy
      · exact name_slash (hr.2 x List.mem_cons_self)
      · obtain ⟨z, hz, rfl⟩ := List.mem_map.1 hy
        exact name_slash (hr.2 z (List.mem_cons_of_mem _ hz)))]
    rfl
theorem textP_data (p : Pa) : (textP p).data.toList = 47 :: (joinP p).data.toList := by
  unfold textP
  rw [ByteArray.data_append, Array.toList_append]
  rfl
theorem beg_text (p : Pa) : begP (textP p) = true := by
  unfold begP Lib.hasPrefix
  rw [textP_data]
  simp [List.isPrefixOf]
theorem cut_text (p : Pa) : cutP (textP p) = joinP p := by
  unfold cutP Lib.trimPrefix
  have h := beg_text p
  unfold begP at h
  rw [if_pos h, textP_data]
  simp
theorem join_ne {p : Pa} (hp : p ≠ []) (hr : rightB p = true) : (joinP p).data.toList ≠ [] := by
  intro he
  have h := split_join hp hr
  have hs := splitP_data (joinP p)
  rw [h, he] at hs
  cases p with
  | nil => exact hp rfl
  | cons x r =>
    have hx : x.data.toList = [] := by
      simp only [List.map_cons, splitL, List.cons.injEq] at hs
      exact hs.1
    unfold rightB at hr
    simp only [Bool.and_eq_true, List.all_eq_true] at hr
    have hn := (name_size (hr.2 x List.mem_cons_self)).1
    have : x.size = x.data.toList.length := by rw [Array.length_toList]; rfl
    rw [this, hx] at hn
    cases hn
theorem pparse_text {p : Pa} (hp : p ≠ []) (hr : rightB p = true) (hs : (textP p).size ≤ 160) : parseB (textP p) = (p, 0) := by
  unfold parseB
  rw [if_neg (by omega), if_neg (by
    rw [textP_data]
    intro h
    simp only [List.cons.injEq, true_and] at h
    exact join_ne hp hr h), beg_text, cut_text, split_join hp hr, hr]
  rfl
theorem pathless_is (p : Pa) : pathlessE p = (!(rightB p) || decide (p.length = 0) || decide (160 < (textP p).size)) := by
  by_cases hp : p = []
  · subst hp
    have h1 : (textP []).data.toList = [47] := by rw [textP_data]; rfl
    have h2 : (textP ([] : Pa)).size = 1 := by
      have : (textP ([] : Pa)).size = (textP ([] : Pa)).data.toList.length := by rw [Array.length_toList]; rfl
      rw [this, h1]
      rfl
    unfold pathlessE parseB
    rw [if_neg (by omega), if_pos h1]
    simp
  · have hl : ¬ p.length = 0 := fun h => hp (List.eq_nil_of_length_eq_zero h)
    rw [decide_eq_false hl, Bool.or_false]
    by_cases hs : 160 < (textP p).size
    · rw [decide_eq_true hs, Bool.or_true]
      unfold pathlessE parseB
      rw [if_pos hs]
      simp
    · rw [decide_eq_false hs, Bool.or_false]
      cases hr : rightB p with
      | true =>
        have h1 := pparse_text hp hr (by omega)
        unfold pathlessE
        rw [h1]
        simp [hl]
      | false =>
        unfold pathlessE
        by_cases h0 : (parseB (textP p)).2 = 0
        · have h1 := parse_right h0
          have h2 : ¬ (parseB (textP p)).1 = p := by
            intro he
            rw [he, hr] at h1
            cases h1
          simp [h2]
        · simp [h0]
theorem lead_empty {p : Pa} (hr : rightB p = true) : (leadB p (txtB [])).2 = 10 := by
  have h1 : txtB [] = ⟨#[]⟩ := rfl
  have h2 : begP ⟨#[]⟩ = false := by decide
  have h3 : splitP (cutP ⟨#[]⟩) = [⟨#[]⟩] := by
    rw [cut_beg h2]
    apply data_inj
    rw [splitP_data]
    rfl
  rw [h1, lead_end hr (by show ¬ 160 < 0; omega), h2, h3]
  simp only [Bool.false_eq_true, if_false, leadAll]
  unfold leadStep
  rw [if_neg (by decide), if_neg (fun h => by have := h.1; revert this; decide), if_neg (fun h => by have := h.1; revert this; decide)]
theorem pre_slash (d : List B8) : Lib.hasPrefix (Lib.bytesOf (d.map nb)) (Lib.bytesOf [47]) = decide (d[0]? = some 47#8) := by
  cases d with
  | nil => rfl
  | cons b d =>
    unfold Lib.hasPrefix Lib.bytesOf
    simp only [List.map_cons, List.map_nil, List.isPrefixOf, Bool.and_true, List.getElem?_cons_zero, Option.some.injEq]
    have hb := b.isLt
    by_cases h : b = 47#8
    · subst h
      rw [nb47]
      rfl
    · rw [decide_eq_false h]
      rw [beq_eq_false_iff_ne]
      intro he
      apply h
      have h1 := congrArg UInt8.toNat he
      apply BitVec.eq_of_toNat_eq
      simp [nb] at h1
      simp
      omega
end Go.Proofs.YtlpljedacohngaaGreatDoor
end
