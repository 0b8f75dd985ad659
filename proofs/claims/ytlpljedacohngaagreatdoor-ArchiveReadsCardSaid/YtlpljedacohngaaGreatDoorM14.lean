/-
  The path of a text; all but the last name of a path. Conditions: the variables that paths' calls read hold what they must; the lists lie in memory.
-/
import Derived.Test.YtlpljedacohngaaGreatDoorM13
import Derived.Laws.AppendOwn
import Derived.Test.YtlpljedacohngaaGreatDoorM1
import Derived.Test.YtlpljedacohngaaGreatDoorM6
import Derived.Deep.RegionHeld3
section
set_option linter.unusedSimpArgs false
set_option linter.unusedVariables false
set_option maxRecDepth 100000
namespace Go.Proofs.YtlpljedacohngaaGreatDoor
open Go.RowKit

/-- What Parse answers. -/
def PaOut (w : World) (r : Pa × Int) (e : Ending) (w' : World) : Prop := ∃ A c, e = .returned (.tuple #[.slice A r.1.length c, .int .i64 r.2]) ∧ SIn w' A r.1.length c r.1 ∧ (∀ a, A = some a → w.heap.size ≤ a.block) ∧ Below w.heap.size w w'
theorem PaOut.nil {w w' : World} {z : Int} (hb : Below w.heap.size w w') : PaOut w ([], z) (.returned (.tuple #[.slice none 0 0, .int .i64 z])) w' :=
  ⟨none, 0, rfl, SIn.none _ _ (by omega) (fun _ => rfl), (fun a ha => by cases ha), hb⟩
set_option maxHeartbeats 1000000 in
theorem parse_path (w : World) (hV : PV w) (t : ByteArray) : Calls Tryz.prog 51 #[.string t] w (PaOut w (parseB t)) := by
  have hL : t.data.toList = t.toList := (ByteArray.toList_eq _).symm
  by_cases h1 : 160 < t.size
  · have HF : Hid (parseB t = ([], 2)) := Lib.hid (by unfold parseB; rw [if_pos h1])
    clear hL
    go_enter Tryz.func51, Tryz.ntmps51
    go_wp2_with fail
    go_ret2
    rw [HF.out]
    exact PaOut.nil (Below.refl _ _)
  · by_cases h2 : t.data.toList = [47]
    · have HF : Hid (parseB t = ([], 0)) := Lib.hid (by unfold parseB; rw [if_neg h1, if_pos h2])
      have h3 : t.toList = [47] := by rw [← hL]; exact h2
      have h4 : (t.toList == [47]) = true := by rw [h3]; rfl
      clear hL h2 h3
      go_enter Tryz.func51, Tryz.ntmps51
      go_wp2_with fail
      go_ret2
      rw [HF.out]
      exact PaOut.nil (Below.refl _ _)
    · have HF : Hid (parseB t = if begP t && rightB (splitP (cutP t)) then (splitP (cutP t), 0) else ([], 10)) := Lib.hid (by unfold parseB; rw [if_neg h1, if_neg h2])
      have h4 : (t.toList == [47]) = false := by rw [← hL]; simpa using h2
      have HC := Lib.hid (cutpre_any w t)
      have HS := Lib.hid (ssplit_any w hV (cutP t) (by have := cutP_size t; omega))
      have HV := Lib.hid hV
      clear hL h2 hV
      go_enter Tryz.func51, Tryz.ntmps51
      go_wp2_with fail
      refine HC.out.mono ?_
      rintro e w1 ⟨rfl, rfl⟩
      go_wp2_with fail
      refine HS.out.mono ?_
      rintro e w2 ⟨A, rfl, hs, ha, hb⟩
      have H2 := Lib.hid (And.intro hs (And.intro ha hb))
      clear hs ha hb
      cases hq : begP t with
      | false =>
        have HG : Hid (parseB t = ([], 10)) := Lib.hid (by rw [HF.out, hq]; rfl)
        clear hq
        go_wp2_with fail
        go_ret2
        rw [HG.out]
        exact PaOut.nil H2.out.2.2
      | true =>
        have HG : Hid (parseB t = if rightB (splitP (cutP t)) then (splitP (cutP t), 0) else ([], 10)) := Lib.hid (by rw [HF.out, hq]; rfl)
        clear hq
        go_wp2_with fail
        refine (right_any w2 (HV.out.to H2.out.2.2).1 _ _ _ _ H2.out.1).mono ?_
        rintro e w3 ⟨rfl, h3⟩
        have H3 := Lib.hid h3
        clear h3
        cases hr : rightB (splitP (cutP t)) with
        | false =>
          rw [hr] at HG
          clear hr
          go_wp2_with fail
          go_ret2
          rw [HG.out]
          exact PaOut.nil (H2.out.2.2.trans (H3.out.mono H2.out.2.2.size))
        | true =>
          rw [hr] at HG
          clear hr
          go_wp2_with fail
          go_ret2
          rw [HG.out]
          exact ⟨A, _, rfl, H2.out.1.below H3.out, H2.out.2.1, H2.out.2.2.trans (H3.out.mono H2.out.2.2.size)⟩
theorem pcell_drew {w w' : World} {b o : Nat} {u : Value} (h : w.cell? ⟨b, o, none⟩ = some u) (hb : Below w.drew.heap.size w.drew w') : w'.cell? ⟨b, o, none⟩ = some u := pcell_below (w := w.drew) h hb
set_option maxHeartbeats 1000000 in
theorem psplit_any (w : World) (hS : PSigns w) (A : Option Addr) (n c : Nat) (p : Pa) (h : SIn w A n c p) :
    Calls Tryz.prog 90 #[.slice A n c] w fun e w' => ∃ A' c' s z, e = .returned (.tuple #[.slice A' (homeP p).length c', .string s, .int .i64 z]) ∧ SIn w' A' (homeP p).length c' (homeP p) ∧ (∀ a, A' = some a → w.heap.size ≤ a.block) ∧ Below w.heap.size w w' := by
  have hbig : n ≤ 9223372036854775807 := by have := h.cap; have := h.big; omega
  have hcap := h.cap
  have H := Lib.hid (And.intro h hS)
  have HL := Lib.hid h.len
  by_cases h0 : n = 0
  · subst h0
    have HP : Hid (homeP p = []) := Lib.hid (by unfold homeP; rw [if_pos (.inl HL.out)])
    clear h hS
    go_enter Tryz.func90, Tryz.ntmps90
    go_wp2_with fail
    go_ret3
    rw [HP.out]
    exact ⟨none, 0, _, _, rfl, SIn.none _ _ (by omega) (fun _ => rfl), (fun a ha => by cases ha), Below.refl _ _⟩
  · obtain ⟨k, rfl⟩ : ∃ k, n = k + 1 := ⟨n - 1, by omega⟩
    have hz : ¬ ((k : Int) + 1) = 0 := by omega
    have b1 : (0 : Int) ≤ (k : Int) := by omega
    have b2 : (k : Int) ≤ (k : Int) + 1 := by omega
    have b3 : (k : Int) < (k : Int) + 1 := by omega
    have b4 : (k : Int) ≤ (c : Int) := by omega
    have hz2 : ((k : Int) + 1 == 0) = false := by simpa using hz
    clear h hS
    go_enter Tryz.func90, Tryz.ntmps90
    go_wp2_with fail
    refine (right_any w H.out.2 _ _ _ _ H.out.1).mono ?_
    rintro e w3 ⟨rfl, h3⟩
    have H3 := Lib.hid h3
    clear h3
    cases hr : rightB p with
    | false =>
      have HP : Hid (homeP p = []) := Lib.hid (by unfold homeP; rw [if_pos (.inr hr)])
      clear hr
      go_wp2_with fail
      go_ret3
      rw [HP.out]
      exact ⟨none, 0, _, _, rfl, SIn.none _ _ (by omega) (fun _ => rfl), (fun a ha => by cases ha), H3.out⟩
    | true =>
      have HP : Hid (homeP p = p.take k) := Lib.hid (by unfold homeP; rw [if_neg (by rw [HL.out, hr]; simp), HL.out, Nat.add_sub_cancel])
      have HN : Hid (k + 1 ≤ 8) := Lib.hid (by
        unfold rightB at hr
        simp only [Bool.and_eq_true, decide_eq_true_eq] at hr
        rw [← HL.out]
        exact hr.1)
      obtain ⟨t, ht⟩ := H.out.1.get (show k < k + 1 by omega)
      obtain ⟨g, o, rfl, hg, hcl⟩ := (H.out.1.below H3.out).cells (by omega)
      have q0 := hcl k t ht
      have HK := Lib.hid ((H.out.1.below H3.out).take (k := k) (c' := c) (by omega) (by omega) (Nat.le_refl _))
      clear hr hcl ht
      go_wp2_with fail
      go_region_held3 (fun w' => w'.cell? ⟨g, o + k, none⟩ = some (.string t)) (first | exact q1 | exact q0)
        (first
          | (go_at_call 89; refine (pcopied_any _ _ _ _ _ (HK.out.below (pdrew _)) (by have := HN.out; omega)).mono ?_; rintro e w5 ⟨A5, c5, rfl, hs, ha, hb⟩; have q1 := pcell_drew q0 hb; have H5 := Lib.hid (And.intro hs (And.intro ha hb)); clear hs ha hb))
      all_goals (go_wp2_with fail)
      all_goals go_ret3
      all_goals (rw [HP.out, H5.out.1.len]; exact ⟨A5, c5, _, _, rfl, H5.out.1, fun a ha => Nat.le_trans H3.out.size (H5.out.2.1 a ha), H3.out.trans (((pdrew w3).trans (H5.out.2.2.mono (Nat.le_refl _))).mono H3.out.size)⟩)
end Go.Proofs.YtlpljedacohngaaGreatDoor
end

/-
  Where a link leads from a path. Conditions: the variables that paths' calls read hold what they must; the list lies in memory.
-/

section
set_option linter.unusedSimpArgs false
set_option linter.unusedVariables false
set_option maxRecDepth 100000
namespace Go.Proofs.YtlpljedacohngaaGreatDoor
open Go.RowKit

section
variable {P : Program} {ops : Array Oper} {Q : Exit → Act → World → Prop} {rest : List Oper} {o : Oper} {a : Act} {w : World}
/-- 'append(full, x..)': onto a slice without room behind it. -/
theorem wpList_app_full {s x : Operand} {t e : TypeId} {z : Value} {size bytes : Nat} (hgd : o.guard = none) (ho : o.op = .call { callee := .builtin .append, args := #[s, x], argTypes := #[t, t] }) (ht : P.underlying t = some (.slice e)) (hi : (P.info? e).map (fun i => (i.zero, i.size, i.bytes)) = some (some z, size, bytes)) (hzs : z.cells.size = size)
    {A : Option Addr} {n g off m c : Nat} (olds news : List Value) (hs : a.eval s = .slice A n n) (hol : olds.length = n * size) (holds : 0 < n → ∃ g o, A = some ⟨g, o, none⟩ ∧ ∀ (j : Nat) u, olds[j]? = some u → w.cell? ⟨g, o + j, none⟩ = some u)
    (hx : a.eval x = .slice (some ⟨g, off, none⟩) m c) (hl : news.length = m * size) (hnews : ∀ (j : Nat) u, news[j]? = some u → w.cell? ⟨g, off + j, none⟩ = some u) (h1 : ∀ u ∈ news, u.oneCell' = true) (hm : 0 < m) (hmx : n + m ≤ 1000000) (hb : bytes ≤ 1000)
    (h : ∀ cap w', w'.ownsRow w.heap.size e size (.slice (some ⟨w.heap.size, 0, none⟩) (n + m) cap) (n + m) (olds ++ news) → Below w.heap.size w w' → wpList P ops Q rest (a.put o.dst (.slice (some ⟨w.heap.size, 0, none⟩) (n + m) cap)) w') : wpList P ops Q (o :: rest) a w := by
  obtain ⟨i, i1, i2, i3, i4⟩ := info_parts hi
  subst i3
  have hsrc := Src.ofSlice (P := P) w (tx := t) ht ⟨g, off, none⟩ m c news hl (fun j u hu => by rw [addr_add]; exact hnews j u hu) h1
  have hold : (Builtin.firstCells i.size n (.slice A n n)).run P w.drew = .ok olds.toArray w.drew := by
    cases A with
    | none =>
      have hn : n = 0 := by
        rcases Nat.eq_zero_or_pos n with h0 | h0
        · exact h0
        · obtain ⟨_, _, h2, _⟩ := holds h0
          cases h2
      subst hn
      obtain rfl : olds = [] := List.eq_nil_of_length_eq_zero (by omega)
      exact run_firstCells_none (P := P) w.drew i.size 0 0 0
    | some b =>
      refine run_firstCells_some (P := P) w.drew i.size n b n n olds hol (fun j u hu => ?_)
      have h0 : 0 < n := by
        rcases Nat.eq_zero_or_pos n with h0 | h0
        · subst h0
          have := (List.getElem?_eq_some_iff.1 hu).1
          omega
        · exact h0
      obtain ⟨g', o', h2, h3⟩ := holds h0
      cases h2
      rw [addr_add]
      exact h3 j u hu
  have hfit : Builtin.nextslicecap (n + m) n * i.bytes ≤ 281474976710656 := growslice_fits (by omega) (Nat.le_trans (Nat.mul_le_mul hmx (i4 ▸ hb)) (by omega))
  have hr := run_append_grow_src (P := P) w t t o.type e i z ht i1 i2 A n n olds hold (.slice (some ⟨g, off, none⟩) m c) m news hsrc (by omega) (by omega) hfit
  refine wpList_exec (y := .slice (some ⟨w.heap.size, 0, none⟩) (n + m) (grownCap w (n + m) n e)) (w' := w.drew.alloc (.cells ((olds ++ news).toArray ++ Builtin.zeroCells z.cells (grownCap w (n + m) n e - (n + m))) e)) hgd ?_ (h _ _ ?_ ?_)
  · unfold execOp resolve
    rw [ho]
    simp only [invoke, builtin, Sem.run_bind, Sem.run_pure, Result.andThen_ok, List.map_toArray, List.map_cons, List.map_nil, hs, hx, hr]
  · have hge := grownCap_ge w (n + m) n e
    have hlen : (olds ++ news).length = (n + m) * i.size := by rw [List.length_append, hol, hl, Nat.add_mul]
    refine ⟨hlen, .inr ⟨w.heap.size, _, _, rfl, Nat.le_refl _, heap_alloc_new w.drew _, hge, grownCap_le_maxLen w (n + m) n e (by unfold maxLen; omega), ?_, ?_⟩⟩
    · simp only [Array.size_append, List.size_toArray, size_zeroCells, hzs, hlen, ← Nat.add_mul]
      congr 1
      omega
    · simp only [Array.toList_append]
      rw [← hlen]
      exact List.take_left
  · exact drew_alloc_below w _
end

/-- Where a link leads, on the way: a list that lies in memory, without room behind it or the call's own. -/
def AtSt (N : Nat) (w : World) (v : Value) (q : Pa) : Prop := ∃ A c, v = .slice A q.length c ∧ SIn w A q.length c q ∧ (c = q.length ∨ w.ownsRow N 9 1 v q.length (strV q))
theorem AtSt.below {N : Nat} {w w' : World} {v : Value} {q : Pa} (h : AtSt N w v q) (hb : Below w.heap.size w w') : AtSt N w' v q := by
  obtain ⟨A, c, rfl, h1, h2⟩ := h
  exact ⟨A, c, rfl, h1.below hb, h2.imp id fun h => ownsRow_only (S := []) h (Only.of_below hb) (by simp)⟩
theorem AtSt.own {N : Nat} {w : World} {v : Value} {n : Nat} {q : Pa} (hn : q.length = n) (h : w.ownsRow N 9 1 v n (strV q)) : AtSt N w v q := by
  subst hn
  obtain ⟨A, c, rfl, h1, _⟩ := SIn.of_own h rfl
  exact ⟨A, c, rfl, h1, .inr h⟩
/-- One name more. -/
theorem AtSt.cells {N : Nat} {w : World} {v : Value} {q : Pa} (h : AtSt N w v q) : ∃ A c, v = .slice A q.length c ∧ SIn w A q.length c q ∧ (c = q.length ∨ w.ownsRow N 9 1 v q.length (strV q)) := h

theorem lead_none {s : Pa} : ∀ {xs : Pa} {i : Nat}, leadAll s (xs.take i) = none → leadAll s xs = none := by
  intro xs
  induction xs generalizing s with
  | nil => intro i h; simpa using h
  | cons x xs ih =>
    intro i h
    cases i with
    | zero => simp [leadAll] at h
    | succ i =>
      rw [List.take_succ_cons] at h
      unfold leadAll at h ⊢
      cases hq : leadStep s x with
      | none => rfl
      | some q =>
        rw [hq] at h
        exact ih h
theorem lead_next {s q : Pa} {xs : Pa} {i : Nat} {x : ByteArray} (h : leadAll s (xs.take i) = some q) (hx : xs[i]? = some x) : leadAll s (xs.take (i + 1)) = leadStep q x := by
  rw [List.take_add_one, hx, Option.toList_some, leadAll_snoc, h]
theorem name_dots {x : ByteArray} (h : x.data.toList = [46, 46]) : pnameB x = false := by
  unfold pnameB
  rw [h]
  simp
theorem lead_end {p : Pa} {t : ByteArray} (hr : rightB p = true) (hs : ¬ 160 < t.size) : leadB p t = (match leadAll (if begP t then [] else p) (splitP (cutP t)) with | some q => (q, 0) | none => ([], 10)) := by
  unfold leadB
  rw [hr, if_neg (by simp), if_neg hs]
  cases leadAll (if begP t then [] else p) (splitP (cutP t)) <;> rfl
theorem own_base {w : World} {N M e s n : Nat} {v : Value} {xs : List Value} (h : w.ownsRow M e s v n xs) (hNM : N ≤ M) : w.ownsRow N e s v n xs := by
  refine ⟨h.1, ?_⟩
  rcases h.2 with hn | ⟨g, cap, cur, rfl, hg, hr⟩
  · exact .inl hn
  · exact .inr ⟨g, cap, cur, rfl, Nat.le_trans hNM hg, hr⟩
theorem strV_snoc (q : Pa) (x : ByteArray) : strV (q ++ [x]) = strV q ++ strV [x] := by simp [strV]
theorem bt_ne {x : ByteArray} {l : List UInt8} (h : ¬ x.data.toList = l) : (x.toList == l) = false := by
  rw [ByteArray.toList_eq, beq_eq_false_iff_ne]
  exact h
theorem bt_eq {x : ByteArray} {l : List UInt8} (h : x.data.toList = l) : (x.toList == l) = true := by
  rw [ByteArray.toList_eq, beq_iff_eq]
  exact h
set_option maxHeartbeats 4000000 in
theorem lead_any (w : World) (hV : PV w) (A : Option Addr) (n c : Nat) (p : Pa) (h : SIn w A n c p) (t : ByteArray) :
    Calls Tryz.prog 73 #[.slice A n c, .string t] w (PaOut w (leadB p t)) := by
  have hbig : n ≤ 9223372036854775807 := by have := h.cap; have := h.big; omega
  have hcap := h.cap
  have HR := Lib.hid (right_any w hV.1 A n c p h)
  have HL := Lib.hid h.len
  cases hr : rightB p with
  | false =>
    have HF : Hid (leadB p t = ([], 10)) := Lib.hid (by unfold leadB; rw [hr]; rfl)
    rw [hr] at HR
    clear hr h hV
    go_enter Tryz.func73, Tryz.ntmps73
    go_wp2_with fail
    refine HR.out.mono ?_
    rintro e w1 ⟨rfl, h1⟩
    have H1 := Lib.hid h1
    clear h1
    go_wp2_with fail
    go_ret2
    rw [HF.out]
    exact PaOut.nil H1.out
  | true =>
    rw [hr] at HR
    by_cases h160 : 160 < t.size
    · have HF : Hid (leadB p t = ([], 2)) := Lib.hid (by unfold leadB; rw [hr, if_neg (by simp), if_pos h160])
      clear hr h hV
      go_enter Tryz.func73, Tryz.ntmps73
      go_wp2_with fail
      refine HR.out.mono ?_
      rintro e w1 ⟨rfl, h1⟩
      have H1 := Lib.hid h1
      clear h1
      go_wp2_with fail
      go_ret2
      rw [HF.out]
      exact PaOut.nil H1.out
    · have HF := Lib.hid (lead_end hr h160)
      have H := Lib.hid (And.intro h hV)
      have HN : Hid (n ≤ 8) := Lib.hid (by
        have := HL.out
        unfold rightB at hr
        simp only [Bool.and_eq_true, decide_eq_true_eq] at hr
        omega)
      clear hr h hV
      have HZ : Hid ((cutP t).size ≤ 1000000) := Lib.hid (by have := cutP_size t; omega)
      have key : ∀ (w1 : World), Below w.heap.size w w1 → True := fun _ _ => trivial
      go_enter Tryz.func73, Tryz.ntmps73
      go_wp2_with fail
      refine HR.out.mono ?_
      rintro e w1 ⟨rfl, h1⟩
      have H1 := Lib.hid h1
      clear h1
      go_wp2_with fail
      refine (pcut_any w1 A n c p (H.out.1.below H1.out) n (Nat.le_refl _)).mono ?_
      rintro e w2 ⟨rfl, rfl⟩
      go_wp2_with fail
      refine (cutpre_any w2 t).mono ?_
      rintro e w3 ⟨rfl, rfl⟩
      obtain ⟨S, hS⟩ : ∃ S, S = if begP t then [] else p := ⟨_, rfl⟩
      rw [← hS] at HF
      have HS : Hid (S.length ≤ 8) := Lib.hid (by
        rw [hS]
        split
        · simp
        · rw [HL.out]; exact HN.out)
      cases hb : begP t with
      | false =>
        have HI : Hid (∀ N, AtSt N w3 (.slice A n n) S) := Lib.hid (by
          intro N
          rw [hS, hb]
          have h1 := (H.out.1.below H1.out).take (k := n) (c' := n) (Nat.le_refl _) (Nat.le_refl _) H.out.1.cap
          rw [List.take_of_length_le (by rw [HL.out]; exact Nat.le_refl _)] at h1
          have hl := HL.out
          simp only [Bool.false_eq_true, if_false]
          refine ⟨A, n, by rw [hl], ?_, .inl hl.symm⟩
          rw [hl]
          exact h1)
        clear hS hb
        go_wp2_with fail
        refine (ssplit_any w3 (H.out.2.to H1.out) (cutP t) HZ.out).mono ?_
        rintro e w4 ⟨B, rfl, hs, ha, hbl⟩
        have H4 := Lib.hid (And.intro hs (And.intro (fun N => (HI.out N).below hbl) (And.intro (H1.out.trans (hbl.mono H1.out.size)) (H.out.2.to (H1.out.trans (hbl.mono H1.out.size))))))
        obtain ⟨X, hX⟩ : ∃ X, X = splitP (cutP t) := ⟨_, rfl⟩
        rw [← hX] at H4 HF
        rw [← hX]
        obtain ⟨m, hm⟩ : ∃ m, m = X.length := ⟨_, rfl⟩
        rw [← hm] at H4
        rw [← hm]
        have hmb : m ≤ 9223372036854775807 := H4.out.1.big
        have HM := Lib.hid hm
        clear hs ha hbl HI hX hm
        go_wp2_with fail
        go_loopw [6, 32] (fun u6 iv wr => ∃ (i : Nat) (q : Pa), i ≤ m ∧ iv = .int .i64 i ∧ Hid (leadAll S (X.take i) = some q) ∧ q.length ≤ 8 ∧ Hid (AtSt w4.heap.size wr u6 q) ∧ Hid (Below w4.heap.size w4 wr)) (fun _ iv _ => m - (intOf iv).toNat)
        case atStart => exact ⟨0, S, by omega, rfl, Lib.hid (by rfl), HS.out, Lib.hid (H4.out.2.1 _), Lib.hid (Below.refl _ _)⟩
        case round =>
          obtain ⟨i, q, hi, rfl, HK, hq8, HT, HW⟩ := hrel
          by_cases hlt : i < m
          · obtain ⟨x, hx⟩ : ∃ x, X[i]? = some x := ⟨_, List.getElem?_eq_getElem (by rw [← HM.out]; exact hlt)⟩
            obtain ⟨g, o, rfl, hg, hcl⟩ := (H4.out.1.below HW.out).cells (by omega)
            have hc := hcl i x hx
            have HX := Lib.hid (lead_next HK.out hx)
            obtain ⟨A6, c6, rfl, hs6, ho6⟩ := HT.out
            have HQ := Lib.hid (And.intro hs6 ho6)
            obtain ⟨k, hk⟩ : ∃ k, k = q.length := ⟨_, rfl⟩
            rw [← hk] at HQ hq8
            rw [← hk]
            have HK2 := Lib.hid hk
            have hc6 : k ≤ c6 := HQ.out.1.cap
            have hb6 : c6 ≤ 9223372036854775807 := HQ.out.1.big
            have HB := Lib.hid (And.intro (H4.out.2.2.2.to HW.out) (H4.out.2.2.1.trans (HW.out.mono H4.out.2.2.1.size)))
            clear hcl hx hs6 ho6 HT hk
            by_cases h1 : x.data.toList = [46]
            · have HN1 : Hid (leadAll S (X.take (i + 1)) = some q) := Lib.hid (by rw [HX.out]; unfold leadStep; rw [if_pos h1])
              have e1 := bt_eq h1
              clear h1
              go_wp2_with fail
              go_roundw
              case rel =>
                exact ⟨i + 1, q, by omega, by go_num, HN1, by rw [← HK2.out]; exact hq8, Lib.hid ⟨A6, c6, by rw [HK2.out], by rw [← HK2.out]; exact HQ.out.1, by rw [← HK2.out]; exact HQ.out.2⟩, HW⟩
              case measure => simp [intOf]; omega
            · have e1 := bt_ne h1
              by_cases h2 : x.data.toList = [46, 46] ∧ 0 < k
              · have HN1 : Hid (leadAll S (X.take (i + 1)) = some (q.take (k - 1))) := Lib.hid (by rw [HX.out]; unfold leadStep; rw [if_neg h1, if_pos (by rw [← HK2.out]; exact h2), HK2.out])
                obtain ⟨j, rfl⟩ : ∃ j, k = j + 1 := ⟨k - 1, by omega⟩
                have e2 := bt_eq h2.1
                have b1 : (0 : Int) < (j : Int) + 1 := by omega
                clear h1 h2
                go_wp2_with fail
                refine (pcut_any wr A6 (j + 1) c6 q HQ.out.1 j (by omega)).mono ?_
                rintro e w5 ⟨rfl, rfl⟩
                go_wp2_with fail
                go_roundw
                case rel =>
                  have hl : (q.take j).length = j := by rw [List.length_take, ← HK2.out]; omega
                  exact ⟨i + 1, q.take j, by omega, by go_num, HN1, by rw [hl]; omega, Lib.hid ⟨A6, j, by rw [hl], by rw [hl]; exact HQ.out.1.take (by omega) (Nat.le_refl _) (by omega), .inl hl.symm⟩, HW⟩
                case measure => simp [intOf]; omega
              · by_cases h3 : pnameB x = true ∧ k < 8
                · have HN1 : Hid (leadAll S (X.take (i + 1)) = some (q ++ [x])) := Lib.hid (by rw [HX.out]; unfold leadStep; rw [if_neg h1, if_neg (by rw [← HK2.out]; exact h2), if_pos (by rw [← HK2.out]; exact h3)])
                  have e2 : (x.toList == [46, 46]) = false := bt_ne (fun e => by rw [name_dots e] at h3; cases h3.1)
                  have b1 : (k : Int) < 8 := by omega
                  have HNm := Lib.hid (name_any wr HB.out.1.1 x)
                  rw [h3.1] at HNm
                  clear h1 h2 h3
                  go_wp2_with fail
                  refine HNm.out.mono ?_
                  rintro e w5 ⟨rfl, h5⟩
                  have hn1 := pnew w5 (.cells #[.string x] 9)
                  have HQ5 := Lib.hid (And.intro (HQ.out.1.below (h5.trans (hn1.mono h5.size))) (And.intro (HQ.out.2.imp id fun h => ownsRow_only (S := []) h (Only.of_below (h5.trans (hn1.mono h5.size))) (by simp)) (h5.trans (hn1.mono h5.size))))
                  have HR5 : Hid (∀ (j : Nat) u, (strV [x])[j]? = some u → (w5.alloc (.cells #[.string x] 9)).cell? ⟨w5.heap.size, 0 + j, none⟩ = some u) := Lib.hid (fun j u hu => by
                    rw [Nat.zero_add]
                    exact ((Blk.new w5 9 (strV [x])).cell j).trans hu)
                  have HSz : Hid (w4.heap.size ≤ (w5.alloc (.cells #[.string x] 9)).heap.size) := Lib.hid (Nat.le_trans HW.out.size HQ5.out.2.2.size)
                  clear h5 hn1
                  rcases HQ5.out.2.1 with ho | ho
                  · subst ho
                    go_wp2_with (refine wpList_app_full rfl rfl Tryz.underlying38 str_info rfl (strV q) (strV [x]) rfl (by rw [strV_length, ← HK2.out, Nat.mul_one]) (fun h0 => by
                      obtain ⟨g', o', e', _, hh⟩ := HQ5.out.1.cells h0
                      exact ⟨g', o', e', fun j u hu => by obtain ⟨y, hy, rfl⟩ := strV_get hu; exact hh j y hy⟩) rfl rfl HR5.out (strV_one _) (by decide) (by omega) (by decide) ?_; intro cap9 w9 k1 k2)
                    go_roundw
                    case rel =>
                      have hl : (q ++ [x]).length = c6 + 1 := by rw [List.length_append, ← HK2.out]; rfl
                      exact ⟨i + 1, q ++ [x], by omega, by go_num, HN1, by rw [hl]; omega, Lib.hid (AtSt.own hl (own_base (M := w5.heap.size + 1) (by rw [strV_snoc]; simpa only [World.size_alloc] using k1) (by have := HSz.out; simpa only [World.size_alloc] using this))), Lib.hid (HW.out.trans ((HQ5.out.2.2.trans (k2.mono HQ5.out.2.2.size)).mono HW.out.size))⟩
                    case measure => simp [intOf]; omega
                  · go_wp2_with (refine wpList_app_own (v := .slice A6 k c6) rfl rfl Tryz.underlying38 str_info rfl (by decide) (strV [x]) rfl ho rfl rfl HR5.out (strV_one _) (by decide) (by omega) (by decide) HSz.out ?_; intro g9 cap9 w9 k1 k2 k3)
                    go_roundw
                    case rel =>
                      have hl : (q ++ [x]).length = k + 1 := by rw [List.length_append, ← HK2.out]; rfl
                      exact ⟨i + 1, q ++ [x], by omega, by go_num, HN1, by rw [hl]; omega, Lib.hid (AtSt.own hl (by rw [strV_snoc]; exact k1)), Lib.hid ((HW.out.trans (HQ5.out.2.2.mono HW.out.size)).trans (k2.below HSz.out (fun b hb => (ho.lt b (by simpa using hb)).1)))⟩
                    case measure => simp [intOf]; omega
                · have HN1 : Hid (leadAll S X = none) := Lib.hid (lead_none (i := i + 1) (by rw [HX.out]; unfold leadStep; rw [if_neg h1, if_neg (by rw [← HK2.out]; exact h2), if_neg (by rw [← HK2.out]; exact h3)]))
                  have HG : Hid (leadB p t = ([], 10)) := Lib.hid (by rw [HF.out, HN1.out])
                  have HNm := Lib.hid (name_any wr HB.out.1.1 x)
                  by_cases hd : x.data.toList = [46, 46]
                  · have hk0 : k = 0 := by
                      rcases Nat.eq_zero_or_pos k with h | h
                      · exact h
                      · exact absurd ⟨hd, h⟩ h2
                    subst hk0
                    have e2 := bt_eq hd
                    rw [name_dots hd] at HNm
                    clear h1 h2 h3 hd
                    go_wp2_with fail
                    refine HNm.out.mono ?_
                    rintro e w5 ⟨rfl, h5⟩
                    have H5 := Lib.hid (HB.out.2.trans (h5.mono HB.out.2.size))
                    clear h5
                    go_wp2_with fail
                    (try rw [Exit.noGoto_ret])
                    go_ret2
                    rw [HG.out]
                    exact PaOut.nil H5.out
                  · have e2 := bt_ne hd
                    cases hnm : pnameB x with
                    | false =>
                      rw [hnm] at HNm
                      clear h1 h2 h3 hd hnm
                      go_wp2_with fail
                      refine HNm.out.mono ?_
                      rintro e w5 ⟨rfl, h5⟩
                      have H5 := Lib.hid (HB.out.2.trans (h5.mono HB.out.2.size))
                      clear h5
                      go_wp2_with fail
                      (try rw [Exit.noGoto_ret])
                      go_ret2
                      rw [HG.out]
                      exact PaOut.nil H5.out
                    | true =>
                      have b1 : ¬ (k : Int) < 8 := by
                        intro h
                        exact h3 ⟨hnm, by omega⟩
                      have b2 : ((k : Int) < 8) = False := eq_false b1
                      rw [hnm] at HNm
                      clear h1 h2 h3 hd hnm
                      go_wp2_with fail
                      refine HNm.out.mono ?_
                      rintro e w5 ⟨rfl, h5⟩
                      have H5 := Lib.hid (HB.out.2.trans (h5.mono HB.out.2.size))
                      clear h5
                      go_wp2_with fail
                      (try rw [Exit.noGoto_ret])
                      go_ret2
                      rw [HG.out]
                      exact PaOut.nil H5.out
          · obtain rfl : i = m := by omega
            have HG : Hid (leadB p t = (q, 0)) := Lib.hid (by
              have h1 := HK.out
              rw [HM.out, List.take_length] at h1
              rw [HF.out, h1])
            obtain ⟨A6, c6, rfl, hs6, _⟩ := HT.out
            have HQ := Lib.hid hs6
            have HB := Lib.hid (H4.out.2.2.1.trans (HW.out.mono H4.out.2.2.1.size))
            clear hs6 HT
            go_wp2_with fail
            refine (pcopied_any wr A6 _ c6 q HQ.out (by omega)).mono ?_
            rintro e w5 ⟨A7, c7, rfl, hs7, ha7, h5⟩
            have H5 := Lib.hid (And.intro hs7 (And.intro ha7 (HB.out.trans (h5.mono HB.out.size))))
            clear hs7 ha7 h5
            go_wp2_with fail
            go_ret2
            rw [HG.out]
            exact ⟨A7, c7, rfl, H5.out.1, fun a ha => Nat.le_trans HB.out.size (H5.out.2.1 a ha), H5.out.2.2⟩
      | true =>
        have HI : Hid (∀ N, AtSt N w3 (.slice none 0 0) S) := Lib.hid (by
          intro N
          rw [hS, hb]
          exact ⟨none, 0, rfl, SIn.none _ _ (by omega) (fun _ => rfl), .inl rfl⟩)
        clear hS hb
        go_wp2_with fail
        refine (ssplit_any w3 (H.out.2.to H1.out) (cutP t) HZ.out).mono ?_
        rintro e w4 ⟨B, rfl, hs, ha, hbl⟩
        have H4 := Lib.hid (And.intro hs (And.intro (fun N => (HI.out N).below hbl) (And.intro (H1.out.trans (hbl.mono H1.out.size)) (H.out.2.to (H1.out.trans (hbl.mono H1.out.size))))))
        obtain ⟨X, hX⟩ : ∃ X, X = splitP (cutP t) := ⟨_, rfl⟩
        rw [← hX] at H4 HF
        rw [← hX]
        obtain ⟨m, hm⟩ : ∃ m, m = X.length := ⟨_, rfl⟩
        rw [← hm] at H4
        rw [← hm]
        have hmb : m ≤ 9223372036854775807 := H4.out.1.big
        have HM := Lib.hid hm
        clear hs ha hbl HI hX hm
        go_wp2_with fail
        go_loopw [6, 32] (fun u6 iv wr => ∃ (i : Nat) (q : Pa), i ≤ m ∧ iv = .int .i64 i ∧ Hid (leadAll S (X.take i) = some q) ∧ q.length ≤ 8 ∧ Hid (AtSt w4.heap.size wr u6 q) ∧ Hid (Below w4.heap.size w4 wr)) (fun _ iv _ => m - (intOf iv).toNat)
        case atStart => exact ⟨0, S, by omega, rfl, Lib.hid (by rfl), HS.out, Lib.hid (H4.out.2.1 _), Lib.hid (Below.refl _ _)⟩
        case round =>
          obtain ⟨i, q, hi, rfl, HK, hq8, HT, HW⟩ := hrel
          by_cases hlt : i < m
          · obtain ⟨x, hx⟩ : ∃ x, X[i]? = some x := ⟨_, List.getElem?_eq_getElem (by rw [← HM.out]; exact hlt)⟩
            obtain ⟨g, o, rfl, hg, hcl⟩ := (H4.out.1.below HW.out).cells (by omega)
            have hc := hcl i x hx
            have HX := Lib.hid (lead_next HK.out hx)
            obtain ⟨A6, c6, rfl, hs6, ho6⟩ := HT.out
            have HQ := Lib.hid (And.intro hs6 ho6)
            obtain ⟨k, hk⟩ : ∃ k, k = q.length := ⟨_, rfl⟩
            rw [← hk] at HQ hq8
            rw [← hk]
            have HK2 := Lib.hid hk
            have hc6 : k ≤ c6 := HQ.out.1.cap
            have hb6 : c6 ≤ 9223372036854775807 := HQ.out.1.big
            have HB := Lib.hid (And.intro (H4.out.2.2.2.to HW.out) (H4.out.2.2.1.trans (HW.out.mono H4.out.2.2.1.size)))
            clear hcl hx hs6 ho6 HT hk
            by_cases h1 : x.data.toList = [46]
            · have HN1 : Hid (leadAll S (X.take (i + 1)) = some q) := Lib.hid (by rw [HX.out]; unfold leadStep; rw [if_pos h1])
              have e1 := bt_eq h1
              clear h1
              go_wp2_with fail
              go_roundw
              case rel =>
                exact ⟨i + 1, q, by omega, by go_num, HN1, by rw [← HK2.out]; exact hq8, Lib.hid ⟨A6, c6, by rw [HK2.out], by rw [← HK2.out]; exact HQ.out.1, by rw [← HK2.out]; exact HQ.out.2⟩, HW⟩
              case measure => simp [intOf]; omega
            · have e1 := bt_ne h1
              by_cases h2 : x.data.toList = [46, 46] ∧ 0 < k
              · have HN1 : Hid (leadAll S (X.take (i + 1)) = some (q.take (k - 1))) := Lib.hid (by rw [HX.out]; unfold leadStep; rw [if_neg h1, if_pos (by rw [← HK2.out]; exact h2), HK2.out])
                obtain ⟨j, rfl⟩ : ∃ j, k = j + 1 := ⟨k - 1, by omega⟩
                have e2 := bt_eq h2.1
                have b1 : (0 : Int) < (j : Int) + 1 := by omega
                clear h1 h2
                go_wp2_with fail
                refine (pcut_any wr A6 (j + 1) c6 q HQ.out.1 j (by omega)).mono ?_
                rintro e w5 ⟨rfl, rfl⟩
                go_wp2_with fail
                go_roundw
                case rel =>
                  have hl : (q.take j).length = j := by rw [List.length_take, ← HK2.out]; omega
                  exact ⟨i + 1, q.take j, by omega, by go_num, HN1, by rw [hl]; omega, Lib.hid ⟨A6, j, by rw [hl], by rw [hl]; exact HQ.out.1.take (by omega) (Nat.le_refl _) (by omega), .inl hl.symm⟩, HW⟩
                case measure => simp [intOf]; omega
              · by_cases h3 : pnameB x = true ∧ k < 8
                · have HN1 : Hid (leadAll S (X.take (i + 1)) = some (q ++ [x])) := Lib.hid (by rw [HX.out]; unfold leadStep; rw [if_neg h1, if_neg (by rw [← HK2.out]; exact h2), if_pos (by rw [← HK2.out]; exact h3)])
                  have e2 : (x.toList == [46, 46]) = false := bt_ne (fun e => by rw [name_dots e] at h3; cases h3.1)
                  have b1 : (k : Int) < 8 := by omega
                  have HNm := Lib.hid (name_any wr HB.out.1.1 x)
                  rw [h3.1] at HNm
                  clear h1 h2 h3
                  go_wp2_with fail
                  refine HNm.out.mono ?_
                  rintro e w5 ⟨rfl, h5⟩
                  have hn1 := pnew w5 (.cells #[.string x] 9)
                  have HQ5 := Lib.hid (And.intro (HQ.out.1.below (h5.trans (hn1.mono h5.size))) (And.intro (HQ.out.2.imp id fun h => ownsRow_only (S := []) h (Only.of_below (h5.trans (hn1.mono h5.size))) (by simp)) (h5.trans (hn1.mono h5.size))))
                  have HR5 : Hid (∀ (j : Nat) u, (strV [x])[j]? = some u → (w5.alloc (.cells #[.string x] 9)).cell? ⟨w5.heap.size, 0 + j, none⟩ = some u) := Lib.hid (fun j u hu => by
                    rw [Nat.zero_add]
                    exact ((Blk.new w5 9 (strV [x])).cell j).trans hu)
                  have HSz : Hid (w4.heap.size ≤ (w5.alloc (.cells #[.string x] 9)).heap.size) := Lib.hid (Nat.le_trans HW.out.size HQ5.out.2.2.size)
                  clear h5 hn1
                  rcases HQ5.out.2.1 with ho | ho
                  · subst ho
                    go_wp2_with (refine wpList_app_full rfl rfl Tryz.underlying38 str_info rfl (strV q) (strV [x]) rfl (by rw [strV_length, ← HK2.out, Nat.mul_one]) (fun h0 => by
                      obtain ⟨g', o', e', _, hh⟩ := HQ5.out.1.cells h0
                      exact ⟨g', o', e', fun j u hu => by obtain ⟨y, hy, rfl⟩ := strV_get hu; exact hh j y hy⟩) rfl rfl HR5.out (strV_one _) (by decide) (by omega) (by decide) ?_; intro cap9 w9 k1 k2)
                    go_roundw
                    case rel =>
                      have hl : (q ++ [x]).length = c6 + 1 := by rw [List.length_append, ← HK2.out]; rfl
                      exact ⟨i + 1, q ++ [x], by omega, by go_num, HN1, by rw [hl]; omega, Lib.hid (AtSt.own hl (own_base (M := w5.heap.size + 1) (by rw [strV_snoc]; simpa only [World.size_alloc] using k1) (by have := HSz.out; simpa only [World.size_alloc] using this))), Lib.hid (HW.out.trans ((HQ5.out.2.2.trans (k2.mono HQ5.out.2.2.size)).mono HW.out.size))⟩
                    case measure => simp [intOf]; omega
                  · go_wp2_with (refine wpList_app_own (v := .slice A6 k c6) rfl rfl Tryz.underlying38 str_info rfl (by decide) (strV [x]) rfl ho rfl rfl HR5.out (strV_one _) (by decide) (by omega) (by decide) HSz.out ?_; intro g9 cap9 w9 k1 k2 k3)
                    go_roundw
                    case rel =>
                      have hl : (q ++ [x]).length = k + 1 := by rw [List.length_append, ← HK2.out]; rfl
                      exact ⟨i + 1, q ++ [x], by omega, by go_num, HN1, by rw [hl]; omega, Lib.hid (AtSt.own hl (by rw [strV_snoc]; exact k1)), Lib.hid ((HW.out.trans (HQ5.out.2.2.mono HW.out.size)).trans (k2.below HSz.out (fun b hb => (ho.lt b (by simpa using hb)).1)))⟩
                    case measure => simp [intOf]; omega
                · have HN1 : Hid (leadAll S X = none) := Lib.hid (lead_none (i := i + 1) (by rw [HX.out]; unfold leadStep; rw [if_neg h1, if_neg (by rw [← HK2.out]; exact h2), if_neg (by rw [← HK2.out]; exact h3)]))
                  have HG : Hid (leadB p t = ([], 10)) := Lib.hid (by rw [HF.out, HN1.out])
                  have HNm := Lib.hid (name_any wr HB.out.1.1 x)
                  by_cases hd : x.data.toList = [46, 46]
                  · have hk0 : k = 0 := by
                      rcases Nat.eq_zero_or_pos k with h | h
                      · exact h
                      · exact absurd ⟨hd, h⟩ h2
                    subst hk0
                    have e2 := bt_eq hd
                    rw [name_dots hd] at HNm
                    clear h1 h2 h3 hd
                    go_wp2_with fail
                    refine HNm.out.mono ?_
                    rintro e w5 ⟨rfl, h5⟩
                    have H5 := Lib.hid (HB.out.2.trans (h5.mono HB.out.2.size))
                    clear h5
                    go_wp2_with fail
                    (try rw [Exit.noGoto_ret])
                    go_ret2
                    rw [HG.out]
                    exact PaOut.nil H5.out
                  · have e2 := bt_ne hd
                    cases hnm : pnameB x with
                    | false =>
                      rw [hnm] at HNm
                      clear h1 h2 h3 hd hnm
                      go_wp2_with fail
                      refine HNm.out.mono ?_
                      rintro e w5 ⟨rfl, h5⟩
                      have H5 := Lib.hid (HB.out.2.trans (h5.mono HB.out.2.size))
                      clear h5
                      go_wp2_with fail
                      (try rw [Exit.noGoto_ret])
                      go_ret2
                      rw [HG.out]
                      exact PaOut.nil H5.out
                    | true =>
                      have b1 : ¬ (k : Int) < 8 := by
                        intro h
                        exact h3 ⟨hnm, by omega⟩
                      have b2 : ((k : Int) < 8) = False := eq_false b1
                      rw [hnm] at HNm
                      clear h1 h2 h3 hd hnm
                      go_wp2_with fail
                      refine HNm.out.mono ?_
                      rintro e w5 ⟨rfl, h5⟩
                      have H5 := Lib.hid (HB.out.2.trans (h5.mono HB.out.2.size))
                      clear h5
                      go_wp2_with fail
                      (try rw [Exit.noGoto_ret])
                      go_ret2
                      rw [HG.out]
                      exact PaOut.nil H5.out
          · obtain rfl : i = m := by omega
            have HG : Hid (leadB p t = (q, 0)) := Lib.hid (by
              have h1 := HK.out
              rw [HM.out, List.take_length] at h1
              rw [HF.out, h1])
            obtain ⟨A6, c6, rfl, hs6, _⟩ := HT.out
            have HQ := Lib.hid hs6
            have HB := Lib.hid (H4.out.2.2.1.trans (HW.out.mono H4.out.2.2.1.size))
            clear hs6 HT
            go_wp2_with fail
            refine (pcopied_any wr A6 _ c6 q HQ.out (by omega)).mono ?_
            rintro e w5 ⟨A7, c7, rfl, hs7, ha7, h5⟩
            have H5 := Lib.hid (And.intro hs7 (And.intro ha7 (HB.out.trans (h5.mono HB.out.size))))
            clear hs7 ha7 h5
            go_wp2_with fail
            go_ret2
            rw [HG.out]
            exact ⟨A7, c7, rfl, H5.out.1, fun a ha => Nat.le_trans HB.out.size (H5.out.2.1 a ha), H5.out.2.2⟩
end Go.Proofs.YtlpljedacohngaaGreatDoor
end

/-
  Entries that lie in memory. Plain definitions and theorems; no condition.
-/

section
set_option linter.unusedSimpArgs false
set_option linter.unusedVariables false
set_option maxRecDepth 100000
namespace Go.Proofs.YtlpljedacohngaaGreatDoor
open Go.RowKit

/-- Bytes lie in memory. -/
structure DIn (w : World) (A : Option Addr) (n c : Nat) (d : List B8) : Prop where
  len : d.length = n
  cap : n ≤ c
  big : c ≤ 9223372036854775807
  nil : A = none → c = 0
  cells : 0 < n → ∃ g o, A = some ⟨g, o, none⟩ ∧ g < w.heap.size ∧ ∀ (j : Nat) u, (Vb d)[j]? = some u → w.cell? ⟨g, o + j, none⟩ = some u
section
variable {w w' : World} {A : Option Addr} {n c : Nat} {d : List B8}
theorem DIn.below (h : DIn w A n c d) (hb : Below w.heap.size w w') : DIn w' A n c d := by
  refine ⟨h.len, h.cap, h.big, h.nil, fun hn => ?_⟩
  obtain ⟨g, o, hA, hg, hc⟩ := h.cells hn
  exact ⟨g, o, hA, Nat.lt_of_lt_of_le hg hb.size, fun j u hu => (hb.cell (p := ⟨g, _, none⟩) hg).trans (hc j u hu)⟩
theorem DIn.bytesIn (h : DIn w A n c d) : Lib.BytesIn w A n (d.map nb) := by
  intro hn
  obtain ⟨g, o, hA, _, hc⟩ := h.cells hn
  refine ⟨g, o, hA, fun i hi => hc i _ ?_⟩
  rw [Vb_get, List.getD_eq_getElem?_getD, List.getElem?_map, List.getElem?_eq_getElem (by rw [h.len]; exact hi)]
  rfl
theorem DIn.txt (h : DIn w A n c d) {p : Nat} (hp : w.heap.size ≤ p) : Txt w p A n c d := by
  refine ⟨h.len, h.cap, by have := h.big; unfold maxLen; omega, fun hn => ?_⟩
  obtain ⟨g, o, hA, hg, hc⟩ := h.cells hn
  refine ⟨g, o, hA, by omega, fun j hj => hc j _ ?_⟩
  rw [Vb_get, List.getD_eq_getElem?_getD, List.getElem?_eq_getElem (by rw [h.len]; exact hj)]
  rfl
theorem DIn.none (w : World) : DIn w Option.none 0 0 [] := ⟨rfl, Nat.le_refl _, by omega, fun _ => rfl, fun h => absurd h (by omega)⟩
theorem DIn.take (h : DIn w A n c d) {k : Nat} (hk : k ≤ n) {c' : Nat} (h1 : k ≤ c') (h2 : c' ≤ c) : DIn w A k c' (d.take k) := by
  refine ⟨by rw [List.length_take, h.len]; omega, h1, by have := h.big; omega, fun ha => by have := h.nil ha; omega, fun hn => ?_⟩
  obtain ⟨g, o, hA, hg, hc⟩ := h.cells (by omega)
  refine ⟨g, o, hA, hg, fun i t ht => hc i t ?_⟩
  rw [← Vb_take, List.getElem?_take] at ht
  split at ht
  · exact ht
  · cases ht
end
/-- An entry's cells. -/
structure Ev where
  PA : Option Addr
  pn : Nat
  pc : Nat
  k : Int
  m : Int
  DA : Option Addr
  dn : Nat
  dc : Nat
def evC (x : Ev) : List Value := [.slice x.PA x.pn x.pc, .int .i64 x.k, .int .i64 x.m, .slice x.DA x.dn x.dc]
abbrev evV (x : Ev) : Value := .agg #[.slice x.PA x.pn x.pc, .int .i64 x.k, .int .i64 x.m, .slice x.DA x.dn x.dc]
/-- No longer than what is made. -/
structure SmallE (e : En) : Prop where
  names : e.path.length ≤ 1000000
  text : (joinP e.path).size ≤ 1000000000
  data : e.data.length ≤ 1000000
structure EvOk (w : World) (x : Ev) (e : En) : Prop where
  path : SIn w x.PA x.pn x.pc e.path
  kind : e.kind = x.k
  mode : e.mode = x.m
  data : DIn w x.DA x.dn x.dc e.data
  small : SmallE e
theorem EvOk.below {w w' : World} {x : Ev} {e : En} (h : EvOk w x e) (hb : Below w.heap.size w w') : EvOk w' x e := ⟨h.path.below hb, h.kind, h.mode, h.data.below hb, h.small⟩
/-- Entries lie in memory. -/
structure EIn (w : World) (A : Option Addr) (n c : Nat) (xs : List Ev) (es : List En) : Prop where
  len : xs.length = n
  elen : es.length = n
  cap : n ≤ c
  big : c ≤ 9223372036854775807
  nil : A = none → c = 0
  cells : 0 < n → ∃ g o, A = some ⟨g, o, none⟩ ∧ g < w.heap.size ∧ ∀ (i : Nat) x, xs[i]? = some x → w.rangeAt g (o + i * 4) (evC x)
  ok : ∀ (i : Nat) x e, xs[i]? = some x → es[i]? = some e → EvOk w x e
section
variable {w w' : World} {A : Option Addr} {n c : Nat} {xs : List Ev} {es : List En}
theorem EIn.below (h : EIn w A n c xs es) (hb : Below w.heap.size w w') : EIn w' A n c xs es := by
  refine ⟨h.len, h.elen, h.cap, h.big, h.nil, fun hn => ?_, fun i x e h1 h2 => (h.ok i x e h1 h2).below hb⟩
  obtain ⟨g, o, hA, hg, hc⟩ := h.cells hn
  exact ⟨g, o, hA, Nat.lt_of_lt_of_le hg hb.size, fun i x hx j v hv => (hb.cell (p := ⟨g, _, none⟩) hg).trans (hc i x hx j v hv)⟩
theorem EIn.take (h : EIn w A n c xs es) {k : Nat} (hk : k ≤ n) {c' : Nat} (h1 : k ≤ c') (h2 : c' ≤ c) : EIn w A k c' (xs.take k) (es.take k) := by
  refine ⟨by rw [List.length_take, h.len]; omega, by rw [List.length_take, h.elen]; omega, h1, by have := h.big; omega, fun ha => by have := h.nil ha; omega, fun hn => ?_, fun i x e hx he => ?_⟩
  · obtain ⟨g, o, hA, hg, hc⟩ := h.cells (by omega)
    refine ⟨g, o, hA, hg, fun i t ht => hc i t ?_⟩
    rw [List.getElem?_take] at ht
    split at ht
    · exact ht
    · cases ht
  · rw [List.getElem?_take] at hx he
    split at hx
    · rename_i hi
      rw [if_pos hi] at he
      exact h.ok i x e hx he
    · cases hx
/-- Entries lie in memory, however long. -/
structure EvRd (w : World) (x : Ev) (e : En) : Prop where
  path : SIn w x.PA x.pn x.pc e.path
  kind : e.kind = x.k
  mode : e.mode = x.m
  data : DIn w x.DA x.dn x.dc e.data
theorem EvRd.below {w w' : World} {x : Ev} {e : En} (h : EvRd w x e) (hb : Below w.heap.size w w') : EvRd w' x e := ⟨h.path.below hb, h.kind, h.mode, h.data.below hb⟩
structure ERd (w : World) (A : Option Addr) (n c : Nat) (xs : List Ev) (es : List En) : Prop where
  len : xs.length = n
  elen : es.length = n
  cap : n ≤ c
  big : c ≤ 9223372036854775807
  nil : A = Option.none → c = 0
  cells : 0 < n → ∃ g o, A = some ⟨g, o, Option.none⟩ ∧ g < w.heap.size ∧ ∀ (i : Nat) x, xs[i]? = some x → w.rangeAt g (o + i * 4) (evC x)
  ok : ∀ (i : Nat) x e, xs[i]? = some x → es[i]? = some e → EvRd w x e
theorem ERd.row {w : World} {A : Option Addr} {n c : Nat} {xs : List Ev} {es : List En} (h : ERd w A n c xs es) {i : Nat} (hi : i < n) : ∃ g o x e, A = some ⟨g, o, Option.none⟩ ∧ g < w.heap.size ∧ xs[i]? = some x ∧ es[i]? = some e ∧ EvRd w x e ∧ w.rangeAt g (o + i * 4) (evC x) := by
  have h1 := List.getElem?_eq_getElem (l := xs) (i := i) (by rw [h.len]; exact hi)
  have h2 := List.getElem?_eq_getElem (l := es) (i := i) (by rw [h.elen]; exact hi)
  obtain ⟨g, o, hA, hg, hc⟩ := h.cells (by omega)
  exact ⟨g, o, _, _, hA, hg, h1, h2, h.ok i _ _ h1 h2, hc i _ h1⟩
theorem ERd.below {w w' : World} {A : Option Addr} {n c : Nat} {xs : List Ev} {es : List En} (h : ERd w A n c xs es) (hb : Below w.heap.size w w') : ERd w' A n c xs es := by
  refine ⟨h.len, h.elen, h.cap, h.big, h.nil, fun hn => ?_, fun i x e h1 h2 => (h.ok i x e h1 h2).below hb⟩
  obtain ⟨g, o, hA, hg, hc⟩ := h.cells hn
  exact ⟨g, o, hA, Nat.lt_of_lt_of_le hg hb.size, fun i x hx j v hv => (hb.cell (p := ⟨g, _, Option.none⟩) hg).trans (hc i x hx j v hv)⟩
theorem EIn.none (w : World) : EIn w Option.none 0 0 [] [] := ⟨rfl, rfl, Nat.le_refl _, by omega, fun _ => rfl, fun h => absurd h (by omega), fun i x e h => by simp at h⟩
theorem EIn.get (h : EIn w A n c xs es) {i : Nat} (hi : i < n) : ∃ x e, xs[i]? = some x ∧ es[i]? = some e ∧ EvOk w x e := by
  have h1 := List.getElem?_eq_getElem (l := xs) (i := i) (by rw [h.len]; exact hi)
  have h2 := List.getElem?_eq_getElem (l := es) (i := i) (by rw [h.elen]; exact hi)
  exact ⟨_, _, h1, h2, h.ok i _ _ h1 h2⟩
theorem EIn.row (h : EIn w A n c xs es) {i : Nat} (hi : i < n) : ∃ g o x e, A = some ⟨g, o, Option.none⟩ ∧ g < w.heap.size ∧ xs[i]? = some x ∧ es[i]? = some e ∧ EvOk w x e ∧ w.rangeAt g (o + i * 4) (evC x) := by
  obtain ⟨x, e, h1, h2, h3⟩ := h.get hi
  obtain ⟨g, o, hA, hg, hc⟩ := h.cells (by omega)
  exact ⟨g, o, x, e, hA, hg, h1, h2, h3, hc i x h1⟩
end
/-- A candidate's value. -/
abbrev cdV (x : Ev) (AH : Option Addr) (an ac : Nat) (SA : Option Addr) (sn sc : Nat) : Value := .agg #[.slice x.PA x.pn x.pc, .int .i64 x.k, .int .i64 x.m, .slice x.DA x.dn x.dc, .slice AH an ac, .slice SA sn sc]
abbrev cdC (x : Ev) (AH : Option Addr) (an ac : Nat) (SA : Option Addr) (sn sc : Nat) : List Value := [.slice x.PA x.pn x.pc, .int .i64 x.k, .int .i64 x.m, .slice x.DA x.dn x.dc, .slice AH an ac, .slice SA sn sc]
theorem range_ev {w w' : World} {g o : Nat} {x : Ev} (h : w.rangeAt g o (evC x)) (hb : Below w.heap.size w w') : w'.rangeAt g o (evC x) := fun j v hj => pcell_below (h j v hj) hb
end Go.Proofs.YtlpljedacohngaaGreatDoor
end

/-
  The law's Few: at most twelve names, of at most forty bytes, in memory of the call's own. Condition: the list lies in memory.
-/

section
set_option linter.unusedSimpArgs false
set_option linter.unusedVariables false
set_option maxRecDepth 100000
namespace Go.Proofs.YtlpljedacohngaaGreatDoor
open Go.RowKit

def fewS (t : ByteArray) : ByteArray := t.extract 0 (min (t.size : Int) 40).toNat
def fewP (p : Pa) : Pa := (p.take 12).map fewS
theorem fewS_size (t : ByteArray) : (fewS t).size ≤ 40 := by
  unfold fewS
  rw [ByteArray.size_extract]
  omega
theorem few_next {p : Pa} {i : Nat} {t : ByteArray} (h : p[i]? = some t) : (p.take (i + 1)).map fewS = (p.take i).map fewS ++ [fewS t] := by
  rw [List.take_add_one, h, Option.toList_some, List.map_append]
  rfl
end Go.Proofs.YtlpljedacohngaaGreatDoor
end

/-
  What the law hands over: entries cut, in memory of the call's own. Plain definitions and theorems; no condition.
-/

section
set_option linter.unusedSimpArgs false
set_option linter.unusedVariables false
set_option maxRecDepth 100000
namespace Go.Proofs.YtlpljedacohngaaGreatDoor
open Go.RowKit

def toE (e : En) : En := { path := fewP e.path, kind := e.kind, mode := e.mode, data := e.data.take 520 }
def toEs (es : List En) : List En := (es.take 41).map toE
/-- The cells of entries, one behind the other. -/
def rowE (xs : List Ev) : List Value := xs.flatMap evC
theorem rowE_length : ∀ (xs : List Ev), (rowE xs).length = xs.length * 4
  | [] => rfl
  | x :: xs => by
    have := rowE_length xs
    unfold rowE at this ⊢
    rw [List.flatMap_cons, List.length_append, this, List.length_cons]
    show 4 + xs.length * 4 = _
    omega
theorem rowE_snoc (xs : List Ev) (x : Ev) : rowE (xs ++ [x]) = rowE xs ++ evC x := by unfold rowE; simp
theorem rowE_get : ∀ (xs : List Ev) (i : Nat) (x : Ev), xs[i]? = some x → ∀ (j : Nat) (v : Value), (evC x)[j]? = some v → (rowE xs)[i * 4 + j]? = some v
  | [], i, x, h, _, _, _ => by simp at h
  | y :: xs, 0, x, h, j, v, hv => by
    simp only [List.getElem?_cons_zero, Option.some.injEq] at h
    subst h
    have := (List.getElem?_eq_some_iff.1 hv).1
    unfold rowE
    rw [List.flatMap_cons, Nat.zero_mul, Nat.zero_add, List.getElem?_append_left this]
    exact hv
  | y :: xs, i + 1, x, h, j, v, hv => by
    have h1 := rowE_get xs i x (by simpa using h) j v hv
    unfold rowE at h1 ⊢
    rw [List.flatMap_cons, List.getElem?_append_right (by show 4 ≤ _; omega)]
    show (List.flatMap evC xs)[(i + 1) * 4 + j - 4]? = some v
    rw [show (i + 1) * 4 + j - 4 = i * 4 + j by omega]
    exact h1
theorem evC_one (x : Ev) : ∀ u ∈ evC x, u.oneCell' = true := by
  intro u hu
  simp [evC] at hu
  rcases hu with rfl | rfl | rfl | rfl <;> rfl
/-- An entry in memory of the call's own. -/
structure OwnE (N : Nat) (w : World) (x : Ev) (e : En) : Prop where
  path : w.ownsRow N 9 1 (.slice x.PA x.pn x.pc) e.path.length (strV e.path)
  kind : e.kind = x.k
  mode : e.mode = x.m
  data : w.ownsRow N 5 1 (.slice x.DA x.dn x.dc) e.data.length (Vb e.data)
  small : SmallE e
theorem OwnE.only {N : Nat} {w w' : World} {x : Ev} {e : En} {S : List Nat} (h : OwnE N w x e) (ho : Only S w w') (h1 : ∀ k, (Value.slice x.PA x.pn x.pc).ownBlock = some k → k ∉ S) (h2 : ∀ k, (Value.slice x.DA x.dn x.dc).ownBlock = some k → k ∉ S) : OwnE N w' x e :=
  ⟨ownsRow_only h.path ho h1, h.kind, h.mode, ownsRow_only h.data ho h2, h.small⟩
theorem OwnE.below {N : Nat} {w w' : World} {x : Ev} {e : En} (h : OwnE N w x e) (hb : Below w.heap.size w w') : OwnE N w' x e := h.only (S := []) (Only.of_below hb) (by simp) (by simp)
theorem din_own {N : Nat} {w : World} {A : Option Addr} {n c m : Nat} {d : List B8} (h : w.ownsRow N 5 1 (.slice A n c) m (Vb d)) : DIn w A n c d := by
  have hl : d.length = m := by
    have := h.1
    rw [Vb_length] at this
    omega
  rcases h.2 with ⟨e, h0⟩ | ⟨g, cap, cur, e, hg, hb, h1, h2, h3, h4⟩
  · cases e
    exact ⟨by omega, Nat.le_refl _, by omega, fun _ => rfl, fun hp => absurd hp (by omega)⟩
  · cases e
    refine ⟨hl, h1, by unfold maxLen at h2; omega, (fun ha => by cases ha), fun hp => ⟨g, 0, rfl, (Array.getElem?_eq_some_iff.1 hb).1, fun j u hu => ?_⟩⟩
    have hk : Blk w g 5 cur.toList := by simpa [Blk] using hb
    rw [hk.cell, Nat.zero_add]
    rw [← h4, List.getElem?_take] at hu
    split at hu
    · exact hu
    · cases hu
theorem sin_own {N : Nat} {w : World} {A : Option Addr} {n c m : Nat} {p : Pa} (h : w.ownsRow N 9 1 (.slice A n c) m (strV p)) : SIn w A n c p := by
  obtain ⟨A', c', e, h1, _⟩ := SIn.of_own h rfl
  have : n = m := by
    rcases h.2 with ⟨e, h0⟩ | ⟨g, cap, cur, e, _⟩
    · cases e; exact h0.symm
    · cases e; rfl
  subst this
  cases e
  exact h1
theorem OwnE.ok {N : Nat} {w : World} {x : Ev} {e : En} (h : OwnE N w x e) : EvOk w x e := ⟨sin_own h.path, h.kind, h.mode, din_own h.data, h.small⟩
/-- Entries in rows of the call's own. -/
theorem ein_own {N T : Nat} {w : World} {v : Value} {xs : List Ev} {es : List En} (h : w.ownsRow N T 4 v xs.length (rowE xs)) (hl : xs.length = es.length) (hok : ∀ (i : Nat) x e, xs[i]? = some x → es[i]? = some e → OwnE N w x e) :
    ∃ A c, v = .slice A es.length c ∧ EIn w A es.length c xs es := by
  have hE : ∀ (i : Nat) x e, xs[i]? = some x → es[i]? = some e → EvOk w x e := fun i x e h1 h2 => (hok i x e h1 h2).ok
  rcases h.2 with ⟨rfl, h0⟩ | ⟨g, cap, cur, rfl, hg, hb, h1, h2, h3, h4⟩
  · exact ⟨none, 0, by rw [← hl, h0], ⟨hl, rfl, by omega, by omega, fun _ => rfl, fun hp => absurd hp (by omega), hE⟩⟩
  · refine ⟨_, _, by rw [hl], ⟨hl, rfl, by omega, by unfold maxLen at h2; omega, (fun ha => by cases ha), fun hp => ⟨g, 0, rfl, (Array.getElem?_eq_some_iff.1 hb).1, fun i x hx j u hu => ?_⟩, hE⟩⟩
    have hk : Blk w g T cur.toList := by simpa [Blk] using hb
    rw [hk.cell, Nat.zero_add]
    have := rowE_get xs i x hx j u hu
    rw [← h4, List.getElem?_take] at this
    split at this
    · exact this
    · cases this
theorem few_small (p : Pa) : (fewP p).length ≤ 12 ∧ (joinP (fewP p)).size ≤ 500 := by
  have h1 : (fewP p).length ≤ 12 := by unfold fewP; rw [List.length_map, List.length_take]; omega
  refine ⟨h1, ?_⟩
  have e : (joinP (fewP p)).size = (Lib.join ((fewP p).map (·.data.toList)) [47]).length := by
    show (Lib.join ((fewP p).map (·.data.toList)) [47]).toArray.size = _
    simp
  rw [e]
  have hs : ∀ x ∈ fewP p, x.size ≤ 40 := by
    intro x hx
    unfold fewP at hx
    obtain ⟨t, _, rfl⟩ := List.mem_map.1 hx
    exact fewS_size t
  generalize fewP p = q at h1 hs
  have hk : ∀ (r : Pa), (∀ x ∈ r, x.size ≤ 40) → (Lib.joinTail [47] (r.map (·.data.toList))).length ≤ r.length * 41 := by
    intro r
    induction r with
    | nil => intro _; simp [Lib.joinTail]
    | cons x r ih =>
      intro hr
      have h2 := ih (fun y hy => hr y (List.mem_cons_of_mem _ hy))
      have h3 : x.data.toList.length ≤ 40 := by rw [Array.length_toList]; exact hr x List.mem_cons_self
      unfold Lib.joinTail at h2 ⊢
      simp only [List.map_cons, List.flatten_cons, List.length_append, List.length_cons, List.length_nil] at h2 ⊢
      omega
  cases q with
  | nil => simp [Lib.join_nil]
  | cons x r =>
    rw [List.map_cons, Lib.join_cons, List.length_append]
    have h2 := hk r (fun y hy => hs y (List.mem_cons_of_mem _ hy))
    have h3 : x.data.toList.length ≤ 40 := by rw [Array.length_toList]; exact hs x List.mem_cons_self
    simp only [List.length_cons] at h1
    omega
theorem toE_small (e : En) : SmallE (toE e) := by
  have h := few_small e.path
  refine ⟨by show (fewP e.path).length ≤ _; omega, by show (joinP (fewP e.path)).size ≤ _; omega, ?_⟩
  show (e.data.take 520).length ≤ _
  rw [List.length_take]
  omega
theorem toEs_next {es : List En} {i : Nat} {e : En} (h : es[i]? = some e) : (es.take (i + 1)).map toE = (es.take i).map toE ++ [toE e] := by
  rw [List.take_add_one, h, Option.toList_some, List.map_append]
  rfl
end Go.Proofs.YtlpljedacohngaaGreatDoor
end
