/-
  Whether two lists of entries are the same, as the program tells it. Condition: the entries lie in memory.
-/
import Derived.Test.YtdnaiiagblcohaaGreatDoorM16
import Derived.Test.YtdnaiiagblcohaaGreatDoorM13
import Derived.Test.YtdnaiiagblcohaaGreatDoorM12
import Derived.Test.YtdnaiiagblcohaaGreatDoorM14
import Derived.Test.YtdnaiiagblcohaaGreatDoorM6
import Derived.Test.YtdnaiiagblcohaaGreatDoorM15
section
set_option linter.unusedSimpArgs false
set_option linter.unusedVariables false
set_option maxRecDepth 100000
namespace Go.Proofs.YtdnaiiagblcohaaGreatDoor
open Go.RowKit

theorem En.ext_ {a b : En} (h1 : a.path = b.path) (h2 : a.kind = b.kind) (h3 : a.mode = b.mode) (h4 : a.data = b.data) : a = b := by
  cases a; cases b; simp_all
def sameE (a b : En) : Bool := decide (a.path = b.path) && decide (a.kind = b.kind) && decide (a.mode = b.mode) && decide (a.data = b.data)
theorem sameE_iff (a b : En) : sameE a b = true ↔ a = b := by
  unfold sameE
  simp only [Bool.and_eq_true, decide_eq_true_eq]
  constructor
  · rintro ⟨⟨⟨h1, h2⟩, h3⟩, h4⟩
    exact En.ext_ h1 h2 h3 h4
  · rintro rfl
    exact ⟨⟨⟨rfl, rfl⟩, rfl⟩, rfl⟩
theorem bytes_nb {x y : List B8} : (Lib.bytesOf (x.map nb) == Lib.bytesOf (y.map nb)) = decide (x = y) := by
  have hi : ∀ a b : B8, UInt8.ofNat (nb a).toNat = UInt8.ofNat (nb b).toNat → a = b := by
    intro a b h
    have h1 : (UInt8.ofNat (nb a).toNat).toNat = (UInt8.ofNat (nb b).toNat).toNat := by rw [h]
    have ha := nb_bound a
    have hb := nb_bound b
    simp only [UInt8.toNat_ofNat'] at h1
    exact nb_inj (by omega)
  by_cases h : x = y
  · subst h; simp
  · rw [decide_eq_false h, beq_eq_false_iff_ne]
    intro e
    apply h
    unfold Lib.bytesOf at e
    rw [List.map_map, List.map_map] at e
    exact (List.map_inj_right (fun a b hab => hi a b hab)).1 e
/-- bytes.Equal, of bytes in memory. -/
theorem bequal_din (w : World) (A B : Option Addr) (n c m d : Nat) (xs ys : List B8) (h : DIn w A n c xs) (k : DIn w B m d ys) :
    Calls Tryz.prog 88 #[.slice A n c, .slice B m d] w fun e w' => e = .returned (.bool (decide (xs = ys))) ∧ w' = w := by
  refine (Tryz.bytes_Equal_all A B n c m d (xs.map nb) (ys.map nb) w (by rw [List.length_map, h.len]) (by rw [List.length_map, k.len]) h.bytesIn k.bytesIn).mono ?_
  rintro e w' ⟨rfl, rfl⟩
  exact ⟨by rw [bytes_nb], rfl⟩
set_option maxHeartbeats 2000000 in
theorem same12_any (w : World) (x y : Ev) (a b : En) (h : EvOk w x a) (k : EvOk w y b) :
    Calls Tryz.prog 49 #[evV x, evV y] w fun e w' => e = .returned (.bool (sameE a b)) ∧ Below w.heap.size w w' := by
  have hb := (pnew w (.cells (evC x).toArray 52)).trans ((pnew (w.alloc (.cells (evC x).toArray 52)) (.cells (evC y).toArray 52)).mono (pnew w _).size)
  have hx := (Blk.new w 52 (evC x)).alloc (.cells (evC y).toArray 52)
  have hy := Blk.new (w.alloc (.cells (evC x).toArray 52)) 52 (evC y)
  rw [World.size_alloc] at hy
  have HS := Lib.hid (psame_any _ x.PA y.PA x.pn x.pc y.pn y.pc a.path b.path (h.path.below hb) (k.path.below hb))
  have HB := Lib.hid (And.intro hx (And.intro hy (And.intro hb (And.intro (h.data.below hb) (k.data.below hb)))))
  have HK : Hid (sameE a b = (decide (a.path = b.path) && decide (x.k = y.k) && decide (x.m = y.m) && decide (a.data = b.data))) := Lib.hid (by unfold sameE; rw [h.kind, k.kind, h.mode, k.mode])
  clear h k hb hx hy
  obtain ⟨PA, pn, pc, k, m, DA, dn, dc⟩ := x
  obtain ⟨PB, qn, qc, k2, m2, DB, en, ec⟩ := y
  go_enter Tryz.func49, Tryz.ntmps49
  go_wp2_with fail
  refine HS.out.mono ?_
  rintro e w1 ⟨rfl, h1⟩
  obtain ⟨x0, x1, x2, x3⟩ := four_ev (HB.out.1.below h1 HB.out.1.lt)
  obtain ⟨y0, y1, y2, y3⟩ := four_ev (HB.out.2.1.below h1 HB.out.2.1.lt)
  have H1 := Lib.hid (And.intro (HB.out.2.2.1.trans (h1.mono HB.out.2.2.1.size)) (And.intro (HB.out.2.2.2.1.below h1) (HB.out.2.2.2.2.below h1)))
  clear h1
  simp only at x1 x2 x3 y1 y2 y3
  by_cases c0 : a.path = b.path
  · have HF : Hid (sameE a b = (decide (k = k2) && decide (m = m2) && decide (a.data = b.data))) := Lib.hid (by rw [HK.out, decide_eq_true c0]; rfl)
    rw [decide_eq_true c0]
    clear c0 HK
    by_cases c1 : k = k2
    · subst c1
      by_cases c2 : m = m2
      · subst c2
        have HG : Hid (sameE a b = decide (a.data = b.data)) := Lib.hid (by rw [HF.out]; simp)
        clear HF
        go_wp2_with (go_at_call 88; go_must (refine (bequal_din w1 DA DB dn dc en ec _ _ H1.out.2.1 H1.out.2.2).mono ?_); rintro e w2 ⟨rfl, rfl⟩)
        go_ret
        exact ⟨pret_bool (by rw [HG.out]), H1.out.1⟩
      · have HG : Hid (sameE a b = false) := Lib.hid (by rw [HF.out, decide_eq_false c2]; simp)
        have b2 : (m == m2) = false := by simpa using c2
        clear HF
        go_wp2_with fail
        go_ret
        exact ⟨pret_bool (by rw [HG.out]), H1.out.1⟩
    · have HG : Hid (sameE a b = false) := Lib.hid (by rw [HF.out, decide_eq_false c1]; simp)
      have b1 : (k == k2) = false := by simpa using c1
      clear HF
      go_wp2_with fail
      go_ret
      exact ⟨pret_bool (by rw [HG.out]), H1.out.1⟩
  · have HG : Hid (sameE a b = false) := Lib.hid (by rw [HK.out, decide_eq_false c0]; simp)
    rw [decide_eq_false c0]
    clear HK
    go_wp2_with fail
    go_ret
    exact ⟨pret_bool (by rw [HG.out]), H1.out.1⟩
theorem en_ext {p q : List En} (hl : p.length = q.length) (h : ∀ (j : Nat) t u, p[j]? = some t → q[j]? = some u → t = u) : p = q := by
  apply List.ext_getElem?
  intro j
  rcases Nat.lt_or_ge j p.length with hj | hj
  · have e1 := List.getElem?_eq_getElem hj
    have e2 := List.getElem?_eq_getElem (l := q) (i := j) (by omega)
    rw [e1, e2, h j _ _ e1 e2]
  · rw [List.getElem?_eq_none hj, List.getElem?_eq_none (by omega)]
end Go.Proofs.YtdnaiiagblcohaaGreatDoor
end

/-
  The document's Right, Text and Same of paths, as the plain answers tell. Condition: the lists lie in memory.
-/

section
set_option linter.unusedSimpArgs false
set_option linter.unusedVariables false
set_option maxRecDepth 100000
namespace Go.Proofs.YtdnaiiagblcohaaGreatDoor
open Go.RowKit

set_option maxHeartbeats 1000000 in
theorem rright_any (w : World) (A : Option Addr) (n c : Nat) (p : Pa) (h : SIn w A n c p) :
    Calls Tryz.prog 52 #[.slice A n c] w fun e w' => e = .returned (.bool (rightB p)) ∧ Below w.heap.size w w' := by
  have hbig : n ≤ 9223372036854775807 := by have := h.cap; have := h.big; omega
  have H := Lib.hid h
  have HL := Lib.hid h.len
  clear h
  go_enter Tryz.func52, Tryz.ntmps52
  go_wp2_with fail
  go_loopw [3] (fun iv wr => ∃ i : Nat, i ≤ n ∧ iv = .int .i64 i ∧ Hid (∀ (j : Nat) t, j < i → p[j]? = some t → pnameB t = true) ∧ Hid (Below w.heap.size w wr)) (fun iv _ => n - (intOf iv).toNat)
  case atStart => exact ⟨0, by omega, rfl, Lib.hid (fun j t h => absurd h (by omega)), Lib.hid (Below.refl _ _)⟩
  case round =>
    obtain ⟨i, hi, rfl, HI, HW⟩ := hrel
    by_cases hlt : i < n
    · obtain ⟨t, ht⟩ := H.out.get hlt
      obtain ⟨g, o, rfl, hg, hcl⟩ := H.out.cells (by omega)
      have q0 := pcell_below (hcl i t ht) HW.out
      have HT := Lib.hid ht
      clear hcl ht
      have b0 : (0 : Int) ≤ (i : Int) := by omega
      have b1 : (i : Int) < (n : Int) := by omega
      go_wp2_with fail
      refine (rname_any wr t).mono ?_
      rintro e w2 ⟨rfl, h2⟩
      have H2 := Lib.hid (HW.out.trans (h2.mono HW.out.size))
      clear h2 q0
      cases hq : pnameB t with
      | true =>
        have HQ := Lib.hid hq
        clear hq
        go_wp2_with fail
        exact ⟨⟨i + 1, by omega, by go_num, Lib.hid (fun j u hj hu => by
          by_cases h : j < i
          · exact HI.out j u h hu
          · obtain rfl : j = i := by omega
            rw [HT.out] at hu
            cases hu
            exact HQ.out), H2⟩, by simp [intOf]; omega⟩
      | false =>
        have HQ : Hid (rightB p = false) := Lib.hid (by unfold rightB; rw [all_stop HT.out hq, Bool.and_false])
        clear hq
        go_wp2_with fail
        (try rw [Exit.noGoto_ret])
        go_ret
        exact ⟨pret_bool (by rw [HQ.out]), H2.out⟩
    · obtain rfl : i = n := by omega
      have HQ : Hid (rightB p = decide (i ≤ 8)) := Lib.hid (by
        unfold rightB
        rw [all_take (p := p) (f := pnameB) (fun j t ht => HI.out j t (by have := (List.getElem?_eq_some_iff.1 ht).1; have := HL.out; omega) ht), Bool.and_true, HL.out])
      by_cases h8 : i ≤ 8
      · have HE : Hid (rightB p = true) := Lib.hid (by rw [HQ.out, decide_eq_true h8])
        have b8 : (i : Int) ≤ 8 := by omega
        go_wp2_with fail
        go_ret
        exact ⟨pret_bool (by rw [HE.out]), HW.out⟩
      · have HE : Hid (rightB p = false) := Lib.hid (by rw [HQ.out, decide_eq_false h8])
        have b8 : ((i : Int) ≤ 8) = False := eq_false (by omega)
        have b9 : ¬ (i : Int) ≤ 8 := by omega
        go_wp2_with fail
        go_ret
        exact ⟨pret_bool (by rw [HE.out]), HW.out⟩
/-- Each name behind a stroke. -/
def catP : Pa → ByteArray
  | [] => ByteArray.empty
  | x :: xs => slashB ++ x ++ catP xs
theorem catP_snoc (p : Pa) (x : ByteArray) : catP (p ++ [x]) = catP p ++ slashB ++ x := by
  induction p with
  | nil =>
    show slashB ++ x ++ ByteArray.empty = ByteArray.empty ++ slashB ++ x
    simp
  | cons y p ih =>
    rw [List.cons_append]
    show slashB ++ y ++ catP (p ++ [x]) = slashB ++ y ++ catP p ++ slashB ++ x
    rw [ih]
    simp only [ByteArray.append_assoc]
theorem catP_text : ∀ {p : Pa}, p ≠ [] → catP p = textP p
  | [], h => absurd rfl h
  | x :: xs, _ => by
    have hk : ∀ (r : Pa), (catP r).data.toList = Lib.joinTail [47] (r.map (·.data.toList)) := by
      intro r
      induction r with
      | nil => rfl
      | cons y r ih =>
        unfold catP
        rw [ByteArray.data_append, ByteArray.data_append, Array.toList_append, Array.toList_append, ih]
        unfold Lib.joinTail
        simp [slashB]
    have h1 : (catP (x :: xs)).data.toList = (textP (x :: xs)).data.toList := by
      unfold textP joinP catP
      rw [ByteArray.data_append, ByteArray.data_append, ByteArray.data_append, Array.toList_append, Array.toList_append, Array.toList_append, hk]
      rw [List.map_cons, Lib.join_cons]
      simp
    have h2 := congrArg List.toArray h1
    simp only [Array.toArray_toList] at h2
    cases hc : catP (x :: xs)
    cases ht : textP (x :: xs)
    rw [hc, ht] at h2
    simpa using h2
theorem catP_size (p : Pa) : (catP p).size ≤ (joinP p).size + 1 := by
  cases p with
  | nil => show 0 ≤ _; omega
  | cons x xs =>
    rw [catP_text (by simp)]
    unfold textP
    rw [ByteArray.size_append]
    have : slashB.size = 1 := rfl
    omega
theorem catP_take (p : Pa) (i : Nat) : (catP (p.take i)).size ≤ (catP p).size := by
  have : ∀ (q r : Pa), (catP q).size ≤ (catP (q ++ r)).size := by
    intro q r
    induction q with
    | nil => show 0 ≤ _; omega
    | cons x q ih =>
      rw [List.cons_append]
      show (slashB ++ x ++ catP q).size ≤ (slashB ++ x ++ catP (q ++ r)).size
      simp only [ByteArray.size_append]
      omega
  have h := this (p.take i) (p.drop i)
  rwa [List.take_append_drop] at h
set_option maxHeartbeats 1000000 in
theorem rptext_any (w : World) (A : Option Addr) (n c : Nat) (p : Pa) (h : SIn w A n c p) (hJ : (joinP p).size ≤ 1000000000) :
    Calls Tryz.prog 45 #[.slice A n c] w fun e w' => e = .returned (.string (textP p)) ∧ Below w.heap.size w w' := by
  have hbig : n ≤ 9223372036854775807 := by have := h.cap; have := h.big; omega
  have H := Lib.hid h
  have HL := Lib.hid (And.intro h.len (And.intro (catP_size p) hJ))
  clear h hJ
  go_enter Tryz.func45, Tryz.ntmps45
  go_wp2_with fail
  go_loopw [3, 4] (fun sv iv wr => ∃ i : Nat, ∃ s : ByteArray, i ≤ n ∧ iv = .int .i64 i ∧ sv = .string s ∧ Hid (s = catP (p.take i)) ∧ Hid (Below w.heap.size w wr)) (fun _ iv _ => n - (intOf iv).toNat)
  case atStart => exact ⟨0, ⟨#[]⟩, by omega, rfl, rfl, Lib.hid rfl, Lib.hid (Below.refl _ _)⟩
  case round =>
    obtain ⟨i, s, hi, rfl, rfl, HI, HW⟩ := hrel
    by_cases hlt : i < n
    · obtain ⟨t, ht⟩ := H.out.get hlt
      obtain ⟨g, o, rfl, hg, hcl⟩ := H.out.cells (by omega)
      have q0 := pcell_below (hcl i t ht) HW.out
      have HT : Hid (catP (p.take (i + 1)) = s ++ slashB ++ t) := Lib.hid (by rw [List.take_add_one, ht, Option.toList_some, catP_snoc, HI.out])
      have hsz : s.size + 1 + t.size ≤ 1000000001 := by
        have h1 := congrArg ByteArray.size HT.out
        rw [ByteArray.size_append, ByteArray.size_append] at h1
        have h2 := catP_take p (i + 1)
        have h3 := HL.out.2.1
        have h4 := HL.out.2.2
        have h5 : slashB.size = 1 := rfl
        omega
      clear hcl ht
      have b0 : (0 : Int) ≤ (i : Int) := by omega
      have b1 : (i : Int) < (n : Int) := by omega
      have c0 : ¬ (9223372036854775807 < s.size + 1) := by omega
      have c1 : ¬ (9223372036854775807 < s.size + 1 + t.size) := by omega
      go_wp2_with fail
      exact ⟨⟨i + 1, _, by omega, by go_num, rfl, Lib.hid (by rw [HT.out]; rfl), HW⟩, by simp [intOf]; omega⟩
    · obtain rfl : i = n := by omega
      have HE : Hid (s = catP p) := Lib.hid (by rw [HI.out, List.take_of_length_le (by rw [HL.out.1]; omega)])
      by_cases h0 : i = 0
      · subst h0
        have HQ : Hid (textP p = ⟨#[47]⟩) := Lib.hid (by
          have : p = [] := List.eq_nil_of_length_eq_zero HL.out.1
          rw [this]
          unfold textP joinP
          rw [show Lib.join (List.map (fun x : ByteArray => x.data.toList) []) [47] = [] from rfl]
          rfl)
        go_wp2_with fail
        go_ret
        rw [HQ.out]
        exact ⟨rfl, HW.out⟩
      · have HQ : Hid (s = textP p) := Lib.hid (by
          rw [HE.out]
          refine catP_text (fun hp => h0 ?_)
          rw [← HL.out.1, hp]
          rfl)
        have b0 : ¬ (i : Int) = 0 := by omega
        go_wp2_with fail
        go_ret
        rw [HQ.out]
        exact ⟨rfl, HW.out⟩
end Go.Proofs.YtdnaiiagblcohaaGreatDoor
end

/-
  The document's parts of a text, and its Parse, as the plain answers tell. Condition: the text is short.
-/

section
set_option linter.unusedSimpArgs false
set_option linter.unusedVariables false
set_option maxRecDepth 100000
namespace Go.Proofs.YtdnaiiagblcohaaGreatDoor
open Go.RowKit

theorem splitL_snoc (c b : UInt8) : ∀ (l : List UInt8) (d : List (List UInt8)) (w : List UInt8), splitL c l = d ++ [w] → splitL c (l ++ [b]) = if b = c then d ++ [w] ++ [[]] else d ++ [w ++ [b]]
  | [], d, w, h => by
    have h1 : d = [] := by
      cases d with
      | nil => rfl
      | cons x d => simp [splitL] at h
    subst h1
    have h2 : w = [] := by simpa [splitL] using h.symm
    subst h2
    rw [List.nil_append]
    by_cases hb : b = c
    · rw [if_pos hb]; simp [splitL, hb]
    · rw [if_neg hb]; simp [splitL, hb]
  | a :: l, d, w, h => by
    rw [List.cons_append]
    by_cases ha : a = c
    · have e1 : splitL c (a :: l) = [] :: splitL c l := by rw [splitL, if_pos ha]
      have e2 : splitL c (a :: (l ++ [b])) = [] :: splitL c (l ++ [b]) := by rw [splitL, if_pos ha]
      rw [e1] at h
      cases d with
      | nil =>
        simp only [List.nil_append, List.cons.injEq] at h
        exact absurd h.2 (splitL_ne c l)
      | cons y d =>
        simp only [List.cons_append, List.cons.injEq] at h
        have ih := splitL_snoc c b l d w h.2
        rw [e2, ih, ← h.1]
        split <;> rfl
    · cases hq : splitL c l with
      | nil => exact absurd hq (splitL_ne c l)
      | cons x xs =>
        have e1 : splitL c (a :: l) = (a :: x) :: xs := by rw [splitL, if_neg ha, hq]
        rw [e1] at h
        cases d with
        | nil =>
          simp only [List.nil_append, List.cons.injEq] at h
          have ih := splitL_snoc c b l [] x (by rw [hq, h.2]; rfl)
          rw [splitL, if_neg ha, ih, ← h.1]
          by_cases hb : b = c
          · rw [if_pos hb, if_pos hb]; rfl
          · rw [if_neg hb, if_neg hb]; rfl
        | cons y d =>
          simp only [List.cons_append, List.cons.injEq] at h
          have ih := splitL_snoc c b l (x :: d) w (by rw [hq, h.2]; rfl)
          rw [splitL, if_neg ha, ih, ← h.1]
          by_cases hb : b = c
          · rw [if_pos hb, if_pos hb]; rfl
          · rw [if_neg hb, if_neg hb]; rfl
theorem data_inj {p q : Pa} (h : p.map (·.data.toList) = q.map (·.data.toList)) : p = q := by
  refine (List.map_inj_right ?_).1 h
  intro a b hab
  obtain ⟨⟨l⟩⟩ := a
  obtain ⟨⟨m⟩⟩ := b
  have : l = m := hab
  rw [this]
theorem parts_len (t : ByteArray) : (splitP t).length ≤ t.size + 1 := by
  have hl := split_length t
  have hcl := Lib.countB_le slashB (by decide) t.size t (Nat.le_refl _)
  omega
/-- Where the parts stand behind i signs. -/
def PartAt (t : ByteArray) (i : Nat) (D : Pa) (W : ByteArray) : Prop := splitL 47 (t.data.toList.take i) = D.map (·.data.toList) ++ [W.data.toList]
theorem partAt_next {t : ByteArray} {i : Nat} {D : Pa} {W : ByteArray} (h : PartAt t i D W) (hi : i < t.size) : (sgAt t i = 47 → PartAt t (i + 1) (D ++ [W]) ⟨#[]⟩) ∧ (sgAt t i ≠ 47 → PartAt t (i + 1) D (W ++ t.extract i (i + 1))) := by
  have hj : i < t.data.toList.length := by rw [Array.length_toList]; exact hi
  have ht : t.data.toList.take (i + 1) = t.data.toList.take i ++ [t.data.toList[i]] := List.take_succ_eq_append_getElem hj
  have hs := splitL_snoc 47 t.data.toList[i] _ _ _ h
  have hc : sgAt t i = (t.data.toList[i].toNat : Int) := by
    unfold sgAt
    rw [List.getD_eq_getElem?_getD, List.getElem?_eq_getElem hj]
    rfl
  constructor
  · intro h47
    have hb : t.data.toList[i] = 47 := by
      apply UInt8.toNat_inj.1
      have : (t.data.toList[i].toNat : Int) = 47 := by rw [← hc]; exact h47
      show _ = 47
      omega
    unfold PartAt
    rw [ht, hs, if_pos hb]
    simp
  · intro h47
    have hb : ¬ t.data.toList[i] = 47 := by
      intro hb
      apply h47
      rw [hc, hb]
      rfl
    unfold PartAt
    rw [ht, hs, if_neg hb]
    congr 2
    rw [ByteArray.data_append, Array.toList_append]
    congr 1
    rw [ByteArray.data_extract, Array.toList_extract]
    rw [List.extract_eq_take_drop]
    rw [show i + 1 - i = 1 by omega, List.drop_eq_getElem_cons hj]
    simp
theorem partAt_len {t : ByteArray} {i : Nat} {D : Pa} {W : ByteArray} (h : PartAt t i D W) : D.length ≤ i ∧ W.size ≤ i := by
  have hlen : ∀ l : List UInt8, (splitL 47 l).length ≤ l.length + 1 ∧ ∀ x ∈ splitL 47 l, x.length ≤ l.length := by
    intro l
    induction l with
    | nil => simp [splitL]
    | cons b l ih =>
      unfold splitL
      split
      · refine ⟨by simp; omega, fun x hx => ?_⟩
        rcases List.mem_cons.1 hx with rfl | hx
        · simp
        · have := ih.2 x hx; simp; omega
      · split
        · rename_i hq
          exact absurd hq (splitL_ne 47 l)
        · rename_i y ys hq
          rw [hq] at ih
          refine ⟨by have := ih.1; simp at this ⊢; omega, fun x hx => ?_⟩
          rcases List.mem_cons.1 hx with rfl | hx
          · have := ih.2 y List.mem_cons_self; simp; omega
          · have := ih.2 x (List.mem_cons_of_mem _ hx); simp; omega
  obtain ⟨h1, h2⟩ := hlen (t.data.toList.take i)
  unfold PartAt at h
  rw [h] at h1 h2
  have h3 := h2 W.data.toList (by simp)
  rw [List.length_take] at h1 h3
  have h4 : W.data.toList.length = W.size := by rw [Array.length_toList]; rfl
  simp only [List.length_append, List.length_map, List.length_cons, List.length_nil] at h1
  omega
theorem build_one (W : World) (s : ByteArray) : (Instr.buildSlice 50 1 #[(0, .string s)]).run Tryz.prog W = .ok (.slice (some ⟨W.heap.size, 0, none⟩) 1 1) (W.alloc (.cells #[.string s] 9)) := by kernel_rfl
set_option maxHeartbeats 2000000 in
theorem parts_any (w : World) (t : ByteArray) (ht : t.size ≤ 100000) :
    Calls Tryz.prog 53 #[.string t] w fun e w' => ∃ A c, e = .returned (.slice A (splitP t).length c) ∧ SIn w' A (splitP t).length c (splitP t) ∧ (∀ a, A = some a → w.heap.size ≤ a.block) ∧ Below w.heap.size w w' := by
  go_enter Tryz.func53, Tryz.ntmps53
  go_wp2_with fail
  go_loopw [3, 4, 5] (fun u3 sv iv wr => ∃ i : Nat, ∃ s : ByteArray, ∃ m : Nat, i ≤ t.size ∧ iv = .int .i64 i ∧ sv = .string s ∧ m ≤ i ∧ s.size ≤ i ∧ Hid (∃ D : Pa, PartAt t i D s ∧ D.length = m ∧ wr.ownsRow w.heap.size 9 1 u3 m (strV D)) ∧ Hid (Below w.heap.size w wr)) (fun _ _ iv _ => t.size - (intOf iv).toNat)
  case atStart => exact ⟨0, ⟨#[]⟩, 0, by omega, rfl, rfl, by omega, Nat.le_refl _, Lib.hid ⟨[], rfl, rfl, World.ownsRow_nil _ _ _ _⟩, Lib.hid (Below.refl _ _)⟩
  case round =>
    obtain ⟨i, s, m, hi, rfl, rfl, hm, hs, HI, HW⟩ := hrel
    by_cases hlt : i < t.size
    · have hx := ps_index t i hlt
      have HN : Hid (∀ D : Pa, PartAt t i D s → (sgAt t i = 47 → PartAt t (i + 1) (D ++ [s]) ⟨#[]⟩) ∧ (sgAt t i ≠ 47 → PartAt t (i + 1) D (s ++ t.extract i (i + 1)))) := Lib.hid (fun D h => partAt_next h hlt)
      obtain ⟨c, hc⟩ : ∃ c, c = sgAt t i := ⟨_, rfl⟩
      rw [← hc] at hx HN
      clear hc
      have b0 : (0 : Int) ≤ (i : Int) := by omega
      have b1 : (i : Int) < (t.size : Int) := by omega
      have b2 : (i : Int) + 1 ≤ (t.size : Int) := by omega
      have c0 : ¬ (9223372036854775807 < s.size + 1) := by omega
      by_cases h47 : c = 47
      · subst h47
        have HB : Hid (w.heap.size ≤ wr.heap.size) := Lib.hid HW.out.size
        obtain ⟨D, hD, hDm, hO⟩ := HI.out
        have HO := Lib.hid (And.intro hD (And.intro hDm hO))
        clear hD hDm hO
        have hk := Blk.new wr 9 [.string s]
        have HK := Lib.hid hk
        clear hk
        go_wp2_with (refine wpList_app (v := u3) (base := w.heap.size) (n := m) rfl rfl Tryz.underlying50 str_info rfl (by decide) [.string s] rfl (ownsRow_only (S := []) HO.out.2.2 (Only.of_below (pnew wr _)) (by simp)) rfl rfl (fun _ => ⟨_, _, rfl, fun j u hu => by rw [Nat.zero_add]; exact (HK.out.cell j).trans hu⟩) (by simp [Value.oneCell']) (by omega) (by decide) (by have := HB.out; simp; omega) ?_; intro v9 w9 k1 k2 k3; have H9 := Lib.hid (And.intro k1 k2); clear k1 k2 k3)
        have HB9 : Hid (Below w.heap.size w w9) := Lib.hid ((HW.out.trans ((pnew wr (.cells #[.string s] 9)).mono HW.out.size)).trans (H9.out.2.below (by have := HB.out; simp; omega) (fun k hk => (HO.out.2.2.lt k (by simpa using hk)).1)))
        exact ⟨⟨i + 1, ⟨#[]⟩, m + 1, by omega, by go_num, rfl, by omega, Nat.zero_le _, Lib.hid ⟨_, (HN.out _ HO.out.1).1 rfl, by rw [List.length_append, HO.out.2.1]; rfl, by rw [show strV (D ++ [s]) = strV D ++ [.string s] by simp [strV]]; exact H9.out.1⟩, HB9⟩, by simp [intOf]; omega⟩
      · have h47' : (c == 47) = false := by simpa using h47
        go_wp2_with fail
        exact ⟨⟨i + 1, _, m, by omega, by go_num, rfl, by omega, by rw [ByteArray.size_append, ByteArray.size_extract]; omega, Lib.hid (by
          obtain ⟨D, hD, hDm, hO⟩ := HI.out
          exact ⟨D, (HN.out D hD).2 h47, hDm, hO⟩), HW⟩, by simp [intOf]; omega⟩
    · obtain rfl : i = t.size := by omega
      have HB : Hid (w.heap.size ≤ wr.heap.size) := Lib.hid HW.out.size
      obtain ⟨D, hD, hDm, hO⟩ := HI.out
      have hE : splitP t = D ++ [s] := data_inj (by
        rw [splitP_data, List.map_append]
        have : t.data.toList.take t.size = t.data.toList := List.take_of_length_le (by rw [Array.length_toList]; exact Nat.le_refl _)
        have h := hD
        unfold PartAt at h
        rw [this] at h
        exact h)
      have HO := Lib.hid (And.intro hE (And.intro hDm hO))
      clear hD hDm hO hE
      have hk := Blk.new wr 9 [.string s]
      have HK := Lib.hid hk
      clear hk
      go_wp2_with (refine wpList_app (v := u3) (base := w.heap.size) (n := m) rfl rfl Tryz.underlying50 str_info rfl (by decide) [.string s] rfl (ownsRow_only (S := []) HO.out.2.2 (Only.of_below (pnew wr _)) (by simp)) rfl rfl (fun _ => ⟨_, _, rfl, fun j u hu => by rw [Nat.zero_add]; exact (HK.out.cell j).trans hu⟩) (by simp [Value.oneCell']) (by omega) (by decide) (by have := HB.out; simp; omega) ?_; intro v9 w9 k1 k2 k3; have H9 := Lib.hid (And.intro k1 k2); clear k1 k2 k3)
      have HB9 : Hid (Below w.heap.size w w9) := Lib.hid ((HW.out.trans ((pnew wr (.cells #[.string s] 9)).mono HW.out.size)).trans (H9.out.2.below (by have := HB.out; simp; omega) (fun k hk => (HO.out.2.2.lt k (by simpa using hk)).1)))
      go_ret
      have hl : (splitP t).length = m + 1 := by rw [HO.out.1, List.length_append, HO.out.2.1]; rfl
      obtain ⟨A, c, rfl, h1, h2⟩ := SIn.of_own (p := splitP t) H9.out.1 (by rw [HO.out.1]; simp [strV])
      rw [hl]
      exact ⟨A, c, rfl, h1, h2, HB9.out⟩
end Go.Proofs.YtdnaiiagblcohaaGreatDoor
end

/-
  The document's Parse of a path's text, as the plain answer tells. No condition.
-/

section
set_option linter.unusedSimpArgs false
set_option linter.unusedVariables false
set_option maxRecDepth 100000
namespace Go.Proofs.YtdnaiiagblcohaaGreatDoor
open Go.RowKit

theorem paddr (g o j : Nat) : (⟨g, o, none⟩ : Addr).add j = ⟨g, o + j, none⟩ := by unfold Addr.add; split <;> simp_all
theorem SIn.drop {w : World} {L : Option Addr} {n c k : Nat} {p : Pa} (h : SIn w L n c p) (hk : k ≤ n) : SIn w (if c = k then L else Option.map (fun x => x.add k) L) (n - k) (c - k) (p.drop k) := by
  have hcap := h.cap
  refine ⟨by rw [List.length_drop, h.len], by omega, by have := h.big; omega, fun ha => ?_, fun hn => ?_⟩
  · split at ha
    · omega
    · have : L = Option.none := by simpa using ha
      have := h.nil this
      omega
  · obtain ⟨g, o, hA, hg, hc⟩ := h.cells (by omega)
    rw [if_neg (by omega), hA]
    refine ⟨g, o + k, by simp [paddr], hg, fun j u hu => ?_⟩
    have := hc (k + j) u (by rw [List.getElem?_drop] at hu; exact hu)
    rw [Nat.add_assoc]
    exact this
theorem pfar_drop {F : Nat → Prop} {L : Option Addr} {c k : Nat} (h : ∀ a, L = some a → F a.block) : ∀ a, (if c = k then L else Option.map (fun x => x.add k) L) = some a → F a.block := by
  intro a ha
  split at ha
  · exact h a ha
  · cases L with
    | none => simp at ha
    | some b =>
      simp only [Option.map_some, Option.some.injEq] at ha
      subst ha
      have := h b rfl
      obtain ⟨b1, o1, s1⟩ := b
      unfold Addr.add
      split <;> simpa using this
theorem begP_iff (t : ByteArray) : begP t = true ↔ 0 < t.size ∧ sgAt t 0 = 47 := by
  obtain ⟨⟨l⟩⟩ := t
  cases l with
  | nil => simp [begP, Lib.hasPrefix, List.isPrefixOf, ByteArray.size]
  | cons b l =>
    unfold begP Lib.hasPrefix sgAt
    simp only [List.isPrefixOf, Bool.and_true, beq_iff_eq]
    constructor
    · intro h
      subst h
      exact ⟨Nat.succ_pos _, rfl⟩
    · rintro ⟨_, h⟩
      apply UInt8.toNat_inj.1
      have : (b.toNat : Int) = 47 := h
      show 47 = b.toNat
      omega
theorem split_beg {t : ByteArray} (h : begP t = true) : splitP t = ⟨#[]⟩ :: splitP (cutP t) := by
  apply data_inj
  rw [List.map_cons, splitP_data, splitP_data]
  unfold cutP Lib.trimPrefix
  have h2 := h
  unfold begP at h2
  rw [if_pos h2]
  obtain ⟨⟨l⟩⟩ := t
  cases l with
  | nil => cases h
  | cons b l =>
    have hb : b = 47 := by
      unfold begP Lib.hasPrefix at h
      simp [List.isPrefixOf] at h
      exact h.symm
    subst hb
    show splitL 47 (47 :: l) = [] :: splitL 47 ((47 :: l).drop 1)
    rw [splitL, if_pos rfl]
    rfl
theorem cut_beg {t : ByteArray} (h : begP t = false) : cutP t = t := by
  unfold cutP Lib.trimPrefix
  unfold begP at h
  rw [if_neg (by rw [h]; simp)]
theorem sgAt_get (t : ByteArray) (i : Nat) (hi : i < t.size) : ((t[i]'hi).toNat : Int) = sgAt t i := by
  have hj : i < t.data.toList.length := by rw [Array.length_toList]; exact hi
  unfold sgAt
  rw [List.getD_eq_getElem?_getD, List.getElem?_eq_getElem hj]
  simp [ByteArray.getElem_eq_getElem_data]
set_option maxHeartbeats 2000000 in
theorem rparse_any (w : World) (t : ByteArray) : Calls Tryz.prog 51 #[.string t] w (PaOut w (parseB t)) := by
  have hL : t.data.toList = t.toList := (ByteArray.toList_eq _).symm
  by_cases h1 : 160 < t.size
  · have HF : Hid (parseB t = ([], 2)) := Lib.hid (by unfold parseB; rw [if_pos h1])
    clear hL
    go_enter Tryz.func51, Tryz.ntmps51
    go_wp2_with fail
    go_ret2
    rw [HF.out]
    exact PaOut.nil (Below.refl _ _)
  · by_cases h2 : t.data.toList = [47]
    · have HF : Hid (parseB t = ([], 0)) := Lib.hid (by unfold parseB; rw [if_neg h1, if_pos h2])
      have h3 : t.toList = [47] := by rw [← hL]; exact h2
      have h4 : (t.toList == [47]) = true := by rw [h3]; rfl
      clear hL h2 h3
      go_enter Tryz.func51, Tryz.ntmps51
      go_wp2_with fail
      go_ret2
      rw [HF.out]
      exact PaOut.nil (Below.refl _ _)
    · have HF : Hid (parseB t = if begP t && rightB (splitP (cutP t)) then (splitP (cutP t), 0) else ([], 10)) := Lib.hid (by unfold parseB; rw [if_neg h1, if_neg h2])
      have h4 : (t.toList == [47]) = false := by rw [← hL]; simpa using h2
      have HP := Lib.hid (parts_any w t (by omega))
      clear hL h2
      go_enter Tryz.func51, Tryz.ntmps51
      go_wp2_with fail
      refine HP.out.mono ?_
      rintro e w1 ⟨A, c, rfl, hs, ha, hb⟩
      have H1 := Lib.hid (And.intro hs (And.intro ha hb))
      clear hs ha hb HP
      by_cases h0 : t.size = 0
      · have hq : begP t = false := by
          cases hq : begP t with
          | false => rfl
          | true => have := ((begP_iff t).1 hq).1; omega
        have HG : Hid (parseB t = ([], 10)) := Lib.hid (by rw [HF.out, hq]; rfl)
        have he : t = ByteArray.empty := by
          obtain ⟨⟨l⟩⟩ := t
          cases l with
          | nil => rfl
          | cons b l => simp [ByteArray.size] at h0
        have b0 : (t.size : Int) = 0 := by omega
        clear hq
        go_wp2_with fail
        go_ret2
        rw [HG.out]
        exact PaOut.nil H1.out.2.2
      · have hx : ∀ h : 0 < t.size, ((t[0]'h).toNat : Int) = sgAt t 0 := fun h => sgAt_get t 0 h
        have hbi := begP_iff t
        obtain ⟨x, hxx⟩ : ∃ x, x = sgAt t 0 := ⟨_, rfl⟩
        rw [← hxx] at hx hbi
        have h00 : ¬ t = ByteArray.empty := fun h => h0 (by rw [h]; rfl)
        have b1 : (0 : Int) < (t.size : Int) := by omega
        have b0 : ¬ (t.size : Int) = 0 := by omega
        clear hxx
        by_cases h47 : x = 47
        · have hq : begP t = true := hbi.2 ⟨by omega, h47⟩
          have HG : Hid (parseB t = if rightB (splitP (cutP t)) then (splitP (cutP t), 0) else ([], 10)) := Lib.hid (by rw [HF.out, hq]; rfl)
          have hsp := split_beg hq
          obtain ⟨l, hl⟩ : ∃ l, l = splitP (cutP t) := ⟨_, rfl⟩
          have hl1 : 1 ≤ l.length := by rw [hl, split_length]; omega
          rw [← hl] at hsp HG
          obtain ⟨g, o, rfl, hg, _⟩ := H1.out.1.cells (by rw [hsp]; simp)
          have hd := H1.out.1.drop (k := 1) (by rw [hsp]; simp)
          have hcap := H1.out.1.cap
          have hbig := H1.out.1.big
          rw [hsp] at hd hcap ⊢
          simp only [List.length_cons, List.drop_succ_cons, List.drop_zero, Nat.add_sub_cancel, if_neg (show ¬ c = 1 by simp at hcap; omega), Option.map_some, paddr] at hd hcap ⊢
          have HD := Lib.hid hd
          clear hd hq hbi hsp hl
          subst h47
          have b2 : (1 : Int) ≤ ((l.length + 1 : Nat) : Int) := by omega
          have b3 : ((l.length + 1 : Nat) : Int) ≤ (c : Int) := by omega
          have b4 : ¬ c = 1 := by omega
          have b5 : ¬ (c : Int) = 1 := by omega
          go_wp2_with fail
          refine (rright_any w1 _ _ _ l HD.out).mono ?_
          rintro e w2 ⟨rfl, h2⟩
          have H2 := Lib.hid h2
          clear h2
          cases hr : rightB l with
          | false =>
            rw [hr] at HG
            have HQ := Lib.hid HG.out
            clear hr
            go_wp2_with fail
            go_ret2
            rw [HQ.out]
            exact PaOut.nil (H1.out.2.2.trans (H2.out.mono H1.out.2.2.size))
          | true =>
            rw [hr] at HG
            have HQ := Lib.hid HG.out
            clear hr
            go_wp2_with fail
            go_ret2
            rw [HQ.out]
            exact ⟨_, _, rfl, HD.out.below H2.out, (fun a ha => by cases ha; exact H1.out.2.1 ⟨g, o, none⟩ rfl), H1.out.2.2.trans (H2.out.mono H1.out.2.2.size)⟩
        · have hq : begP t = false := by
            cases hq : begP t with
            | false => rfl
            | true => exact absurd (hbi.1 hq).2 h47
          have HG : Hid (parseB t = ([], 10)) := Lib.hid (by rw [HF.out, hq]; rfl)
          have h48 : ∀ h : 0 < t.size, ¬ ((t[0]'h).toNat : Int) = 47 := fun h => by rw [hx h]; exact h47
          have h49 : ∀ h : 0 < t.size, (((t[0]'h).toNat : Int) == 47) = false := fun h => by simpa using h48 h
          clear hx
          clear hq hbi
          go_wp2_with fail
          go_ret2
          rw [HG.out]
          exact PaOut.nil H1.out.2.2
end Go.Proofs.YtdnaiiagblcohaaGreatDoor
end
