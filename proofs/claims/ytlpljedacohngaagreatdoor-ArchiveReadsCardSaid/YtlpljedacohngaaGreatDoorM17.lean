/-
  What is read of a sector, behind a write, a flush and a crash that keeps all: plain theorems on states. Conditions: the state is good.
-/
import Derived.Test.YtlpljedacohngaaGreatDoorM16
import Derived.Test.YtlpljedacohngaaGreatDoorM12
import Derived.Test.YtlpljedacohngaaGreatDoorM13
import Derived.Test.YtlpljedacohngaaGreatDoorM15
import Derived.Test.YtlpljedacohngaaGreatDoorM8
import Derived.Test.YtlpljedacohngaaGreatDoorM11
import Derived.Test.YtlpljedacohngaaGreatDoorM6
import Derived.Test.YtlpljedacohngaaGreatDoorM14
section
set_option maxRecDepth 100000
set_option linter.unusedSimpArgs false
set_option linter.unusedVariables false
namespace Go.Proofs.YtlpljedacohngaaGreatDoor
open Go.RowKit

def sec (l : List Int) (j : Nat) : List Int := (l.drop (64 * j)).take 64
theorem sec_putS {l bs : List Int} {n k j : Nat} (hl : l.length = 64 * n) (hk : k < n) (hj : j < n) (hb : bs.length = 64) : sec (putS l k bs) j = if j = k then bs else sec l j := by
  apply List.ext_getElem?
  intro i
  unfold sec putS
  by_cases hi : i < 64
  · rw [List.getElem?_take_of_lt hi, List.getElem?_drop]
    by_cases hjk : j = k
    · subst hjk
      rw [if_pos rfl, List.append_assoc, List.getElem?_append_right (by simp; omega), List.getElem?_append_left (by simp; omega)]
      congr 1
      simp
      omega
    · rw [if_neg hjk, List.getElem?_take_of_lt hi, List.getElem?_drop]
      by_cases hlt : j < k
      · rw [List.append_assoc, List.getElem?_append_left (by simp; omega), List.getElem?_take_of_lt (by omega)]
      · rw [List.getElem?_append_right (by simp; omega), List.getElem?_drop]
        congr 1
        simp
        omega
  · rw [List.getElem?_take_eq_none (by omega)]
    by_cases hjk : j = k
    · rw [if_pos hjk, List.getElem?_eq_none (by omega)]
    · rw [if_neg hjk, List.getElem?_take_eq_none (by omega)]

theorem sec_layAll {n j : Nat} (hj : j < n) : ∀ (rs : List (Int × List Int)) (l : List Int), l.length = 64 * n → (∀ p ∈ rs, 0 ≤ p.1 ∧ p.1 < n ∧ p.2.length = 64) →
    sec (layAll l rs.reverse) j = match rs.find? (fun p => p.1 == (j : Int)) with | some p => p.2 | none => sec l j
  | [], l, _, _ => rfl
  | p :: rs, l, hl, hp => by
    have hpp := hp p (by simp)
    rw [List.reverse_cons, layAll_snoc, sec_putS (n := n) (layAll_length _ _ hl (fun q hq => hp q (by simp at hq; simp [hq]))) (by omega) hj hpp.2.2, sec_layAll hj rs l hl (fun q hq => hp q (by simp [hq])), List.find?_cons]
    by_cases h : p.1 = (j : Int)
    · have hb : (p.1 == (j : Int)) = true := by simp [h]
      rw [if_pos (by omega), hb]
    · have hb : (p.1 == (j : Int)) = false := by simpa using h
      rw [if_neg (by omega), hb]

theorem seen_sec {s : St} (hg : Good s) {j : Nat} (hj : j < s.n) : seen s j = sec (layAll s.laid s.waits) j := by
  have := sec_layAll hj s.waits.reverse s.laid hg.size (fun p hp => hg.sec p (by simpa using hp))
  rw [List.reverse_reverse] at this
  rw [this]
  rfl
theorem seen_write {s : St} (hg : Good s) {no j : Nat} {bs : List Int} (hno : no < s.n) (hb : bs.length = 64) (hj : j < s.n) {s' : St} (hg' : Good s') (hn : s'.n = s.n) (hl : s'.laid = s.laid) (hw : s'.waits = s.waits ++ [((no : Int), bs)]) :
    seen s' j = if j = no then bs else seen s j := by
  rw [seen_sec hg' (by omega), seen_sec hg hj, hl, hw, layAll_snoc, sec_putS (n := s.n) (layAll_length _ _ hg.size hg.sec) (by simpa using hno) hj hb]
  rfl
theorem seen_laid {s : St} (hg : Good s) {j : Nat} (hj : j < s.n) {s' : St} (hg' : Good s') (hn : s'.n = s.n) (hl : s'.laid = layAll s.laid s.waits) (hw : s'.waits = []) : seen s' j = seen s j := by
  rw [seen_sec hg' (by omega), seen_sec hg hj, hl, hw]
  rfl
/-- The numbers 0 to m - 1. -/
def upTo (m : Nat) : List Int := (List.range m).map fun (i : Nat) => (i : Int)
theorem upTo_succ (m : Nat) : upTo (m + 1) = upTo m ++ [(m : Int)] := by simp [upTo, List.range_succ]
theorem upTo_length (m : Nat) : (upTo m).length = m := by simp [upTo]
theorem kept_all (ws : List (Int × List Int)) : kept (upTo ws.length) ws = ws := by
  unfold kept
  have : (ws.zipIdx.filter fun x => decide ((x.2 : Int) ∈ upTo ws.length)) = ws.zipIdx := by
    rw [List.filter_eq_self]
    intro x hx
    have := (List.mem_zipIdx' hx).1
    simp [upTo]
    exact ⟨x.2, this, rfl⟩
  rw [this]
  simp

end Go.Proofs.YtlpljedacohngaaGreatDoor
end

/-
  The document's Right, Text and Same of paths, as the plain answers tell. Condition: the lists lie in memory.
-/

section
set_option linter.unusedSimpArgs false
set_option linter.unusedVariables false
set_option maxRecDepth 100000
namespace Go.Proofs.YtlpljedacohngaaGreatDoor
open Go.RowKit

set_option maxHeartbeats 1000000 in
theorem rright_any (w : World) (A : Option Addr) (n c : Nat) (p : Pa) (h : SIn w A n c p) :
    Calls Tryz.prog 21 #[.slice A n c] w fun e w' => e = .returned (.bool (rightB p)) ∧ Below w.heap.size w w' := by
  have hbig : n ≤ 9223372036854775807 := by have := h.cap; have := h.big; omega
  have H := Lib.hid h
  have HL := Lib.hid h.len
  clear h
  go_enter Tryz.func21, Tryz.ntmps21
  go_wp2_with fail
  go_loopw [3] (fun iv wr => ∃ i : Nat, i ≤ n ∧ iv = .int .i64 i ∧ Hid (∀ (j : Nat) t, j < i → p[j]? = some t → pnameB t = true) ∧ Hid (Below w.heap.size w wr)) (fun iv _ => n - (intOf iv).toNat)
  case atStart => exact ⟨0, by omega, rfl, Lib.hid (fun j t h => absurd h (by omega)), Lib.hid (Below.refl _ _)⟩
  case round =>
    obtain ⟨i, hi, rfl, HI, HW⟩ := hrel
    by_cases hlt : i < n
    · obtain ⟨t, ht⟩ := H.out.get hlt
      obtain ⟨g, o, rfl, hg, hcl⟩ := H.out.cells (by omega)
      have q0 := pcell_below (hcl i t ht) HW.out
      have HT := Lib.hid ht
      clear hcl ht
      have b0 : (0 : Int) ≤ (i : Int) := by omega
      have b1 : (i : Int) < (n : Int) := by omega
      go_wp2_with fail
      refine (rname_any wr t).mono ?_
      rintro e w2 ⟨rfl, h2⟩
      have H2 := Lib.hid (HW.out.trans (h2.mono HW.out.size))
      clear h2 q0
      cases hq : pnameB t with
      | true =>
        have HQ := Lib.hid hq
        clear hq
        go_wp2_with fail
        exact ⟨⟨i + 1, by omega, by go_num, Lib.hid (fun j u hj hu => by
          by_cases h : j < i
          · exact HI.out j u h hu
          · obtain rfl : j = i := by omega
            rw [HT.out] at hu
            cases hu
            exact HQ.out), H2⟩, by simp [intOf]; omega⟩
      | false =>
        have HQ : Hid (rightB p = false) := Lib.hid (by unfold rightB; rw [all_stop HT.out hq, Bool.and_false])
        clear hq
        go_wp2_with fail
        (try rw [Exit.noGoto_ret])
        go_ret
        exact ⟨pret_bool (by rw [HQ.out]), H2.out⟩
    · obtain rfl : i = n := by omega
      have HQ : Hid (rightB p = decide (i ≤ 8)) := Lib.hid (by
        unfold rightB
        rw [all_take (p := p) (f := pnameB) (fun j t ht => HI.out j t (by have := (List.getElem?_eq_some_iff.1 ht).1; have := HL.out; omega) ht), Bool.and_true, HL.out])
      by_cases h8 : i ≤ 8
      · have HE : Hid (rightB p = true) := Lib.hid (by rw [HQ.out, decide_eq_true h8])
        have b8 : (i : Int) ≤ 8 := by omega
        go_wp2_with fail
        go_ret
        exact ⟨pret_bool (by rw [HE.out]), HW.out⟩
      · have HE : Hid (rightB p = false) := Lib.hid (by rw [HQ.out, decide_eq_false h8])
        have b8 : ((i : Int) ≤ 8) = False := eq_false (by omega)
        have b9 : ¬ (i : Int) ≤ 8 := by omega
        go_wp2_with fail
        go_ret
        exact ⟨pret_bool (by rw [HE.out]), HW.out⟩
/-- Each name behind a stroke. -/
def catP : Pa → ByteArray
  | [] => ByteArray.empty
  | x :: xs => slashB ++ x ++ catP xs
theorem catP_snoc (p : Pa) (x : ByteArray) : catP (p ++ [x]) = catP p ++ slashB ++ x := by
  induction p with
  | nil =>
    show slashB ++ x ++ ByteArray.empty = ByteArray.empty ++ slashB ++ x
    simp
  | cons y p ih =>
    rw [List.cons_append]
    show slashB ++ y ++ catP (p ++ [x]) = slashB ++ y ++ catP p ++ slashB ++ x
    rw [ih]
    simp only [ByteArray.append_assoc]
theorem catP_text : ∀ {p : Pa}, p ≠ [] → catP p = textP p
  | [], h => absurd rfl h
  | x :: xs, _ => by
    have hk : ∀ (r : Pa), (catP r).data.toList = Lib.joinTail [47] (r.map (·.data.toList)) := by
      intro r
      induction r with
      | nil => rfl
      | cons y r ih =>
        unfold catP
        rw [ByteArray.data_append, ByteArray.data_append, Array.toList_append, Array.toList_append, ih]
        unfold Lib.joinTail
        simp [slashB]
    have h1 : (catP (x :: xs)).data.toList = (textP (x :: xs)).data.toList := by
      unfold textP joinP catP
      rw [ByteArray.data_append, ByteArray.data_append, ByteArray.data_append, Array.toList_append, Array.toList_append, Array.toList_append, hk]
      rw [List.map_cons, Lib.join_cons]
      simp
    have h2 := congrArg List.toArray h1
    simp only [Array.toArray_toList] at h2
    cases hc : catP (x :: xs)
    cases ht : textP (x :: xs)
    rw [hc, ht] at h2
    simpa using h2
theorem catP_size (p : Pa) : (catP p).size ≤ (joinP p).size + 1 := by
  cases p with
  | nil => show 0 ≤ _; omega
  | cons x xs =>
    rw [catP_text (by simp)]
    unfold textP
    rw [ByteArray.size_append]
    have : slashB.size = 1 := rfl
    omega
theorem catP_take (p : Pa) (i : Nat) : (catP (p.take i)).size ≤ (catP p).size := by
  have : ∀ (q r : Pa), (catP q).size ≤ (catP (q ++ r)).size := by
    intro q r
    induction q with
    | nil => show 0 ≤ _; omega
    | cons x q ih =>
      rw [List.cons_append]
      show (slashB ++ x ++ catP q).size ≤ (slashB ++ x ++ catP (q ++ r)).size
      simp only [ByteArray.size_append]
      omega
  have h := this (p.take i) (p.drop i)
  rwa [List.take_append_drop] at h
set_option maxHeartbeats 1000000 in
theorem rptext_any (w : World) (A : Option Addr) (n c : Nat) (p : Pa) (h : SIn w A n c p) (hJ : (joinP p).size ≤ 1000000000) :
    Calls Tryz.prog 28 #[.slice A n c] w fun e w' => e = .returned (.string (textP p)) ∧ Below w.heap.size w w' := by
  have hbig : n ≤ 9223372036854775807 := by have := h.cap; have := h.big; omega
  have H := Lib.hid h
  have HL := Lib.hid (And.intro h.len (And.intro (catP_size p) hJ))
  clear h hJ
  go_enter Tryz.func28, Tryz.ntmps28
  go_wp2_with fail
  go_loopw [3, 4] (fun sv iv wr => ∃ i : Nat, ∃ s : ByteArray, i ≤ n ∧ iv = .int .i64 i ∧ sv = .string s ∧ Hid (s = catP (p.take i)) ∧ Hid (Below w.heap.size w wr)) (fun _ iv _ => n - (intOf iv).toNat)
  case atStart => exact ⟨0, ⟨#[]⟩, by omega, rfl, rfl, Lib.hid rfl, Lib.hid (Below.refl _ _)⟩
  case round =>
    obtain ⟨i, s, hi, rfl, rfl, HI, HW⟩ := hrel
    by_cases hlt : i < n
    · obtain ⟨t, ht⟩ := H.out.get hlt
      obtain ⟨g, o, rfl, hg, hcl⟩ := H.out.cells (by omega)
      have q0 := pcell_below (hcl i t ht) HW.out
      have HT : Hid (catP (p.take (i + 1)) = s ++ slashB ++ t) := Lib.hid (by rw [List.take_add_one, ht, Option.toList_some, catP_snoc, HI.out])
      have hsz : s.size + 1 + t.size ≤ 1000000001 := by
        have h1 := congrArg ByteArray.size HT.out
        rw [ByteArray.size_append, ByteArray.size_append] at h1
        have h2 := catP_take p (i + 1)
        have h3 := HL.out.2.1
        have h4 := HL.out.2.2
        have h5 : slashB.size = 1 := rfl
        omega
      clear hcl ht
      have b0 : (0 : Int) ≤ (i : Int) := by omega
      have b1 : (i : Int) < (n : Int) := by omega
      have c0 : ¬ (9223372036854775807 < s.size + 1) := by omega
      have c1 : ¬ (9223372036854775807 < s.size + 1 + t.size) := by omega
      go_wp2_with fail
      exact ⟨⟨i + 1, _, by omega, by go_num, rfl, Lib.hid (by rw [HT.out]; rfl), HW⟩, by simp [intOf]; omega⟩
    · obtain rfl : i = n := by omega
      have HE : Hid (s = catP p) := Lib.hid (by rw [HI.out, List.take_of_length_le (by rw [HL.out.1]; omega)])
      by_cases h0 : i = 0
      · subst h0
        have HQ : Hid (textP p = ⟨#[47]⟩) := Lib.hid (by
          have : p = [] := List.eq_nil_of_length_eq_zero HL.out.1
          rw [this]
          unfold textP joinP
          rw [show Lib.join (List.map (fun x : ByteArray => x.data.toList) []) [47] = [] from rfl]
          rfl)
        go_wp2_with fail
        go_ret
        rw [HQ.out]
        exact ⟨rfl, HW.out⟩
      · have HQ : Hid (s = textP p) := Lib.hid (by
          rw [HE.out]
          refine catP_text (fun hp => h0 ?_)
          rw [← HL.out.1, hp]
          rfl)
        have b0 : ¬ (i : Int) = 0 := by omega
        go_wp2_with fail
        go_ret
        rw [HQ.out]
        exact ⟨rfl, HW.out⟩
end Go.Proofs.YtlpljedacohngaaGreatDoor
end

/-
  The document's seal of an entry: the digest's first bytes. Condition: the entry lies in memory, and is no longer than what is made.
-/

section
set_option linter.unusedSimpArgs false
set_option linter.unusedVariables false
set_option maxRecDepth 100000
namespace Go.Proofs.YtlpljedacohngaaGreatDoor
open Go.RowKit

theorem txtsN_two {w : World} {q g : Nat} {A B : Option Addr} {n c m k : Nat} {d f : List B8} (hk : Blk w g 22 [.slice A n c, .slice B m k]) (h : DIn w A n c d) (h2 : DIn w B m k f) (hq : w.heap.size ≤ q) : TxtsN w q (some ⟨g, 0, none⟩) 2 [d, f] := by
  have hn : ∀ {A : Option Addr} {n c : Nat} {d : List B8}, DIn w A n c d → A = none → n = 0 ∧ c = 0 := fun h ha => by have h1 := h.nil ha; have h2 := h.cap; omega
  refine ⟨rfl, fun _ => ⟨g, 0, rfl, by have := hk.lt; omega, fun i x hx => ?_⟩⟩
  match i, hx with
  | 0, hx =>
    simp only [List.getElem?_cons_zero, Option.some.injEq] at hx
    subst hx
    exact ⟨A, n, c, (hk.cell 0).trans rfl, h.txt hq, hn h⟩
  | 1, hx =>
    simp only [List.getElem?_cons_succ, List.getElem?_cons_zero, Option.some.injEq] at hx
    subst hx
    exact ⟨B, m, k, (hk.cell 1).trans rfl, h2.txt hq, hn h2⟩
  | i + 2, hx => simp at hx
set_option maxHeartbeats 4000000 in
theorem seal_any (w : World) (x : Ev) (e : En) (h : EvOk w x e) (hj : (joinP e.path).size ≤ 900) (hdn : e.data.length ≤ 1000) :
    Calls Tryz.prog 17 #[.agg Tbl.toArray, evV x] w fun en w' => ∃ A, en = .returned (.slice A 8 32) ∧ DIn w' A 8 32 (sumE e) ∧ Below w.heap.size w w' := by
  have hb0 := pnew w (.cells Tbl.toArray 33)
  have hb := hb0.trans ((pnew (w.alloc (.cells Tbl.toArray 33)) (.cells (evC x).toArray 54)).mono hb0.size)
  have hkT := (Blk.new w 33 Tbl).alloc (.cells (evC x).toArray 54)
  have hk0 := Blk.new (w.alloc (.cells Tbl.toArray 33)) 54 (evC x)
  rw [World.size_alloc] at hk0
  obtain ⟨y0, y1, y2, y3⟩ := four_ev hk0
  have HT := Lib.hid hkT
  clear hb0 hkT hk0
  have HB := Lib.hid hb
  have hE := h.below hb
  have HE := Lib.hid (And.intro hE.path hE.data)
  have hpn : x.pn ≤ 1000000 := by have := h.small.names; rw [h.path.len] at this; omega
  have hjn : (joinP e.path).size ≤ 1000000000 := by have := h.small.text; omega
  have htx : (textP e.path).size ≤ 901 := by
    unfold textP
    rw [ByteArray.size_append]
    have : slashB.size = 1 := rfl
    omega
  obtain ⟨tx, htxe⟩ : ∃ t, textP e.path = t := ⟨_, rfl⟩
  rw [htxe] at htx
  have hsz : tx.size = (bytB tx).length := (bytB_length tx).symm
  have HX : Hid (textP e.path = tx ∧ (bytB tx).length ≤ 1000) := Lib.hid ⟨htxe, by rw [bytB_length]; omega⟩
  obtain ⟨dg, hdg⟩ : ∃ d, sha Ks (framesOf [bytB tx, e.data]) = d := ⟨_, rfl⟩
  have hls := sha_length Ks (framesOf [bytB tx, e.data])
  rw [hdg] at hls
  have HG := Lib.hid hdg
  have HS : Hid (sumE e = dg.take 8) := Lib.hid (by unfold sumE; rw [htxe, hdg])
  clear h hE hb htxe hdg y1 y2
  obtain ⟨PA, pn, pc, k, m, DA, dn, dc⟩ := x
  go_enter Tryz.func17, Tryz.ntmps17
  go_wp2_with fail
  refine wp_hideQ ?_
  intro QQ hQQ
  refine wp_region_quickT [some 6, some 7, some 8, some 9, some 10, some 11, some 12, some 13, some 14, some 15, some 5] [isV (.agg Tbl.toArray), isV (.pointer (some ⟨w.heap.size + 1, 0, none⟩)), isV (.slice PA pn pc), isV (.string tx), dinV tx.size (bytB tx), isV (.pointer (some ⟨w.heap.size + 1, 3, none⟩)), isV (.slice DA dn dc), twoV tx.size (bytB tx) DA dn dc, dinV (framesOf [bytB tx, e.data]).length (framesOf [bytB tx, e.data]), isV (.agg (Vb dg).toArray), newA w.heap.size] 11 12 (by kernel_rfl) rfl rfl rfl rfl (by kernel_rfl) (by kernel_rfl) (by simp [isV.st, dinV.st, twoV.st, newA.st]) ?_ ?_
  · intro hq rz hz
    match rz, hz with
    | 0, _ =>
      refine StepL.val rfl [] (by decide +kernel) ?_
      intro v wx hR hd
      exact ⟨wanted_plain rfl _, _, _, x_load rfl (fill_off rfl rfl) (r_loadR (cs := Tbl) (by rw [Tbl_length]; kernel_rfl) ((HT.out.below hR HT.out.lt).range)), hR, Below.refl _ _, rfl⟩
    | 1, _ =>
      refine StepL.val rfl [] (by decide +kernel) ?_
      intro v wx hR hd
      exact ⟨wanted_plain rfl _, _, _, x_field rfl (fill_off rfl rfl) (r_field (off := 0) (by kernel_rfl)), hR, Below.refl _ _, rfl⟩
    | 2, _ =>
      refine StepL.val rfl [1] (by decide +kernel) ?_
      intro v wx hR hd
      have h1 : v 1 = _ := hd 1 (by simp)
      exact ⟨wanted_plain rfl _, _, _, x_load rfl (hq.at_ rfl h1) (r_load (by kernel_rfl) (pcell_below y0 hR)), hR, Below.refl _ _, rfl⟩
    | 3, _ =>
      refine StepL.call rfl [2] (by decide +kernel) ?_
      intro v wx hR hd
      have h2 : v 2 = _ := hd 2 (by simp)
      refine ⟨wanted_plain rfl _, 28, _, _, x_call rfl rfl (args_1 (hq.at_ rfl h2)) (by kernel_rfl) rfl, ?_⟩
      refine (rptext_any wx PA pn pc e.path (HE.out.1.below hR) (by omega)).mono ?_
      rintro en w' ⟨rfl, hW⟩
      exact ⟨.string tx, by rw [HX.out.1], hR.trans (hW.mono hR.size), hW, rfl⟩
    | 4, _ =>
      refine StepL.val rfl [3] (by decide +kernel) ?_
      intro v wx hR hd
      have h3 : v 3 = _ := hd 3 (by simp)
      have hb := Lib.bytesWorld_below wx 5 tx
      exact ⟨wanted_plain rfl _, xe_ex (x_conv rfl (hq.at_ rfl h3) (conv_str wx tx)) ⟨hR.trans (hb.mono hR.size), hb, _, _, rfl, din_conv wx tx (by omega)⟩⟩
    | 5, _ =>
      refine StepL.val rfl [] (by decide +kernel) ?_
      intro v wx hR hd
      exact ⟨wanted_plain rfl _, _, _, x_field rfl (fill_off rfl rfl) (r_field (off := 3) (by kernel_rfl)), hR, Below.refl _ _, rfl⟩
    | 6, _ =>
      refine StepL.val rfl [5] (by decide +kernel) ?_
      intro v wx hR hd
      have h5 : v 5 = _ := hd 5 (by simp)
      exact ⟨wanted_plain rfl _, _, _, x_load rfl (hq.at_ rfl h5) (r_load (by kernel_rfl) (pcell_below y3 hR)), hR, Below.refl _ _, rfl⟩
    | 7, _ =>
      refine StepL.val rfl [4, 6] (by decide +kernel) ?_
      intro v wx hR hd
      obtain ⟨A3, c3, h4, hd3⟩ : (dinV tx.size (bytB tx)) (v 4) wx := hd 4 (by simp)
      have h6 : v 6 = _ := hd 6 (by simp)
      have hb := pnew wx (.cells #[.slice A3 tx.size c3, .slice DA dn dc] 22)
      exact ⟨wanted_plain rfl _, xe_ex (x_slice rfl (pairs_2 (hq.at_ rfl h4) (hq.at_ rfl h6)) (slice_two wx _ _ _ _ _ _)) ⟨hR.trans (hb.mono hR.size), hb, _, _, _, rfl, Blk.new wx 22 [.slice A3 tx.size c3, .slice DA dn dc], hd3.below hb⟩⟩
    | 8, _ =>
      refine StepL.call rfl [7] (by decide +kernel) ?_
      intro v wx hR hd
      obtain ⟨p6, A6, c6, h7, hk6, hd6⟩ : (twoV tx.size (bytB tx) DA dn dc) (v 7) wx := hd 7 (by simp)
      refine ⟨wanted_plain rfl _, 32, _, _, x_call rfl rfl (args_1 (hq.at_ rfl h7)) (by kernel_rfl) rfl, ?_⟩
      refine (frame_ref_1k wx _ 2 2 [bytB tx, e.data] (txtsN_two hk6 hd6 (HE.out.2.below hR) (Nat.le_refl _)) (by omega) (by have := HX.out.2; intro z hz; simp at hz; rcases hz with rfl | rfl <;> omega)).mono ?_
      rintro en w' ⟨u, rfl, ho, hW⟩
      obtain ⟨A, c, rfl⟩ := own_slice ho
      exact ⟨_, rfl, hR.trans (hW.mono hR.size), hW, A, c, rfl, din_own ho⟩
    | 9, _ =>
      refine StepL.call rfl [0, 8] (by decide +kernel) ?_
      intro v wx hR hd
      have h0 : v 0 = _ := hd 0 (by simp)
      obtain ⟨A8, c8, h8, hd8⟩ : (dinV (framesOf [bytB tx, e.data]).length (framesOf [bytB tx, e.data])) (v 8) wx := hd 8 (by simp)
      refine ⟨wanted_plain rfl _, 31, _, _, x_call rfl rfl (args_2 (hq.at_ rfl h0) (hq.at_ rfl h8)) (by kernel_rfl) rfl, ?_⟩
      refine (sum_tbl wx A8 _ c8 (framesOf [bytB tx, e.data]) ⟨hd8.txt (Nat.le_refl _), fun ha => by have h1 := hd8.nil ha; have h2 := hd8.cap; omega⟩ (by have := frames_small_1k [bytB tx, e.data] (by have := HX.out.2; intro z hz; simp at hz; rcases hz with rfl | rfl <;> omega); simp only [List.length_cons, List.length_nil] at this; omega)).mono ?_
      rintro en w' ⟨rfl, hW⟩
      exact ⟨.agg (Vb dg).toArray, by rw [HG.out], hR.trans (hW.mono hR.size), hW, rfl⟩
    | 10, _ =>
      refine StepL.val rfl [] (by decide +kernel) ?_
      intro v wx hR hd
      have hb := pnew wx (.cells (List.replicate 32 (Value.int .u8 0)).toArray 74)
      exact ⟨wanted_plain rfl _, xe_ex (x_alloc rfl (alloc_dg wx)) ⟨hR.trans (hb.mono hR.size), hb, _, rfl, Nat.le_trans HB.out.size hR.size, Blk.new wx 74 (List.replicate 32 (.int .u8 0))⟩⟩
    | rz + 11, h => omega
  · intro v wx hR hV
    have h9 : v 9 = _ := hV 9 (by omega)
    obtain ⟨g8, h8, hg8, hk8⟩ : newA w.heap.size (v 10) wx := hV 10 (by omega)
    simp only [fillR, Act.put, List.setIfInBounds_toArray, List.set_cons_zero, List.set_cons_succ, List.drop_succ_cons, List.drop_zero, h9, h8]
    have HR := Lib.hid (And.intro (HB.out.trans (hR.mono HB.out.size)) (And.intro hk8 hg8))
    have hs8 := slice8
    clear hV hR h9 h8 y0 y3 hk8 hg8
    go_wp2_with (refine wpList_store_blk rfl 74 (.tmp 5) (.tmp 15) rfl g8 0 (Vb dg) rfl rfl HR.out.2.1 (by simp [Vb_length, hls]) (info31.trans (by simp [Vb_length, hls])) (Vb_oneCell _) ?_; intro w5 hA hO; rw [over_whole (by simp [Vb_length, hls])] at hA; have H5 := Lib.hid (And.intro hA (HR.out.1.trans (hO.below (B := w.heap.size) HR.out.1.size (by intro q hq; simp at hq; subst hq; have := HR.out.2.2; have := HB.out.size; omega)))); clear hA hO)
    go_ret
    refine ⟨some ⟨g8, 0, none⟩, rfl, ?_, H5.out.2⟩
    rw [HS.out]
    exact ⟨by rw [List.length_take, hls]; rfl, by omega, by omega, (fun ha => by cases ha), fun _ => ⟨g8, 0, rfl, H5.out.1.lt, fun j u hu => by
      rw [Nat.zero_add, H5.out.1.cell]
      rw [Vb_get, List.getElem?_take] at hu
      rw [Vb_get]
      split at hu
      · exact hu
      · cases hu⟩⟩
end Go.Proofs.YtlpljedacohngaaGreatDoor
end

/-
  The document's parts of a text, and its Parse, as the plain answers tell. Condition: the text is short.
-/

section
set_option linter.unusedSimpArgs false
set_option linter.unusedVariables false
set_option maxRecDepth 100000
namespace Go.Proofs.YtlpljedacohngaaGreatDoor
open Go.RowKit

theorem splitL_snoc (c b : UInt8) : ∀ (l : List UInt8) (d : List (List UInt8)) (w : List UInt8), splitL c l = d ++ [w] → splitL c (l ++ [b]) = if b = c then d ++ [w] ++ [[]] else d ++ [w ++ [b]]
  | [], d, w, h => by
    have h1 : d = [] := by
      cases d with
      | nil => rfl
      | cons x d => simp [splitL] at h
    subst h1
    have h2 : w = [] := by simpa [splitL] using h.symm
    subst h2
    rw [List.nil_append]
    by_cases hb : b = c
    · rw [if_pos hb]; simp [splitL, hb]
    · rw [if_neg hb]; simp [splitL, hb]
  | a :: l, d, w, h => by
    rw [List.cons_append]
    by_cases ha : a = c
    · have e1 : splitL c (a :: l) = [] :: splitL c l := by rw [splitL, if_pos ha]
      have e2 : splitL c (a :: (l ++ [b])) = [] :: splitL c (l ++ [b]) := by rw [splitL, if_pos ha]
      rw [e1] at h
      cases d with
      | nil =>
        simp only [List.nil_append, List.cons.injEq] at h
        exact absurd h.2 (splitL_ne c l)
      | cons y d =>
        simp only [List.cons_append, List.cons.injEq] at h
        have ih := splitL_snoc c b l d w h.2
        rw [e2, ih, ← h.1]
        split <;> rfl
    · cases hq : splitL c l with
      | nil => exact absurd hq (splitL_ne c l)
      | cons x xs =>
        have e1 : splitL c (a :: l) = (a :: x) :: xs := by rw [splitL, if_neg ha, hq]
        rw [e1] at h
        cases d with
        | nil =>
          simp only [List.nil_append, List.cons.injEq] at h
          have ih := splitL_snoc c b l [] x (by rw [hq, h.2]; rfl)
          rw [splitL, if_neg ha, ih, ← h.1]
          by_cases hb : b = c
          · rw [if_pos hb, if_pos hb]; rfl
          · rw [if_neg hb, if_neg hb]; rfl
        | cons y d =>
          simp only [List.cons_append, List.cons.injEq] at h
          have ih := splitL_snoc c b l (x :: d) w (by rw [hq, h.2]; rfl)
          rw [splitL, if_neg ha, ih, ← h.1]
          by_cases hb : b = c
          · rw [if_pos hb, if_pos hb]; rfl
          · rw [if_neg hb, if_neg hb]; rfl
theorem data_inj {p q : Pa} (h : p.map (·.data.toList) = q.map (·.data.toList)) : p = q := by
  refine (List.map_inj_right ?_).1 h
  intro a b hab
  obtain ⟨⟨l⟩⟩ := a
  obtain ⟨⟨m⟩⟩ := b
  have : l = m := hab
  rw [this]
theorem parts_len (t : ByteArray) : (splitP t).length ≤ t.size + 1 := by
  have hl := split_length t
  have hcl := Lib.countB_le slashB (by decide) t.size t (Nat.le_refl _)
  omega
/-- Where the parts stand behind i signs. -/
def PartAt (t : ByteArray) (i : Nat) (D : Pa) (W : ByteArray) : Prop := splitL 47 (t.data.toList.take i) = D.map (·.data.toList) ++ [W.data.toList]
theorem partAt_next {t : ByteArray} {i : Nat} {D : Pa} {W : ByteArray} (h : PartAt t i D W) (hi : i < t.size) : (sgAt t i = 47 → PartAt t (i + 1) (D ++ [W]) ⟨#[]⟩) ∧ (sgAt t i ≠ 47 → PartAt t (i + 1) D (W ++ t.extract i (i + 1))) := by
  have hj : i < t.data.toList.length := by rw [Array.length_toList]; exact hi
  have ht : t.data.toList.take (i + 1) = t.data.toList.take i ++ [t.data.toList[i]] := List.take_succ_eq_append_getElem hj
  have hs := splitL_snoc 47 t.data.toList[i] _ _ _ h
  have hc : sgAt t i = (t.data.toList[i].toNat : Int) := by
    unfold sgAt
    rw [List.getD_eq_getElem?_getD, List.getElem?_eq_getElem hj]
    rfl
  constructor
  · intro h47
    have hb : t.data.toList[i] = 47 := by
      apply UInt8.toNat_inj.1
      have : (t.data.toList[i].toNat : Int) = 47 := by rw [← hc]; exact h47
      show _ = 47
      omega
    unfold PartAt
    rw [ht, hs, if_pos hb]
    simp
  · intro h47
    have hb : ¬ t.data.toList[i] = 47 := by
      intro hb
      apply h47
      rw [hc, hb]
      rfl
    unfold PartAt
    rw [ht, hs, if_neg hb]
    congr 2
    rw [ByteArray.data_append, Array.toList_append]
    congr 1
    rw [ByteArray.data_extract, Array.toList_extract]
    rw [List.extract_eq_take_drop]
    rw [show i + 1 - i = 1 by omega, List.drop_eq_getElem_cons hj]
    simp
theorem partAt_len {t : ByteArray} {i : Nat} {D : Pa} {W : ByteArray} (h : PartAt t i D W) : D.length ≤ i ∧ W.size ≤ i := by
  have hlen : ∀ l : List UInt8, (splitL 47 l).length ≤ l.length + 1 ∧ ∀ x ∈ splitL 47 l, x.length ≤ l.length := by
    intro l
    induction l with
    | nil => simp [splitL]
    | cons b l ih =>
      unfold splitL
      split
      · refine ⟨by simp; omega, fun x hx => ?_⟩
        rcases List.mem_cons.1 hx with rfl | hx
        · simp
        · have := ih.2 x hx; simp; omega
      · split
        · rename_i hq
          exact absurd hq (splitL_ne 47 l)
        · rename_i y ys hq
          rw [hq] at ih
          refine ⟨by have := ih.1; simp at this ⊢; omega, fun x hx => ?_⟩
          rcases List.mem_cons.1 hx with rfl | hx
          · have := ih.2 y List.mem_cons_self; simp; omega
          · have := ih.2 x (List.mem_cons_of_mem _ hx); simp; omega
  obtain ⟨h1, h2⟩ := hlen (t.data.toList.take i)
  unfold PartAt at h
  rw [h] at h1 h2
  have h3 := h2 W.data.toList (by simp)
  rw [List.length_take] at h1 h3
  have h4 : W.data.toList.length = W.size := by rw [Array.length_toList]; rfl
  simp only [List.length_append, List.length_map, List.length_cons, List.length_nil] at h1
  omega
theorem build_one (W : World) (s : ByteArray) : (Instr.buildSlice 38 1 #[(0, .string s)]).run Tryz.prog W = .ok (.slice (some ⟨W.heap.size, 0, none⟩) 1 1) (W.alloc (.cells #[.string s] 9)) := by kernel_rfl
set_option maxHeartbeats 2000000 in
theorem parts_any (w : World) (t : ByteArray) (ht : t.size ≤ 100000) :
    Calls Tryz.prog 22 #[.string t] w fun e w' => ∃ A c, e = .returned (.slice A (splitP t).length c) ∧ SIn w' A (splitP t).length c (splitP t) ∧ (∀ a, A = some a → w.heap.size ≤ a.block) ∧ Below w.heap.size w w' := by
  go_enter Tryz.func22, Tryz.ntmps22
  go_wp2_with fail
  go_loopw [3, 4, 5] (fun u3 sv iv wr => ∃ i : Nat, ∃ s : ByteArray, ∃ m : Nat, i ≤ t.size ∧ iv = .int .i64 i ∧ sv = .string s ∧ m ≤ i ∧ s.size ≤ i ∧ Hid (∃ D : Pa, PartAt t i D s ∧ D.length = m ∧ wr.ownsRow w.heap.size 9 1 u3 m (strV D)) ∧ Hid (Below w.heap.size w wr)) (fun _ _ iv _ => t.size - (intOf iv).toNat)
  case atStart => exact ⟨0, ⟨#[]⟩, 0, by omega, rfl, rfl, by omega, Nat.le_refl _, Lib.hid ⟨[], rfl, rfl, World.ownsRow_nil _ _ _ _⟩, Lib.hid (Below.refl _ _)⟩
  case round =>
    obtain ⟨i, s, m, hi, rfl, rfl, hm, hs, HI, HW⟩ := hrel
    by_cases hlt : i < t.size
    · have hx := ps_index t i hlt
      have HN : Hid (∀ D : Pa, PartAt t i D s → (sgAt t i = 47 → PartAt t (i + 1) (D ++ [s]) ⟨#[]⟩) ∧ (sgAt t i ≠ 47 → PartAt t (i + 1) D (s ++ t.extract i (i + 1)))) := Lib.hid (fun D h => partAt_next h hlt)
      obtain ⟨c, hc⟩ : ∃ c, c = sgAt t i := ⟨_, rfl⟩
      rw [← hc] at hx HN
      clear hc
      have b0 : (0 : Int) ≤ (i : Int) := by omega
      have b1 : (i : Int) < (t.size : Int) := by omega
      have b2 : (i : Int) + 1 ≤ (t.size : Int) := by omega
      have c0 : ¬ (9223372036854775807 < s.size + 1) := by omega
      by_cases h47 : c = 47
      · subst h47
        have HB : Hid (w.heap.size ≤ wr.heap.size) := Lib.hid HW.out.size
        obtain ⟨D, hD, hDm, hO⟩ := HI.out
        have HO := Lib.hid (And.intro hD (And.intro hDm hO))
        clear hD hDm hO
        have hk := Blk.new wr 9 [.string s]
        have HK := Lib.hid hk
        clear hk
        go_wp2_with (refine wpList_app (v := u3) (base := w.heap.size) (n := m) rfl rfl Tryz.underlying38 str_info rfl (by decide) [.string s] rfl (ownsRow_only (S := []) HO.out.2.2 (Only.of_below (pnew wr _)) (by simp)) rfl rfl (fun _ => ⟨_, _, rfl, fun j u hu => by rw [Nat.zero_add]; exact (HK.out.cell j).trans hu⟩) (by simp [Value.oneCell']) (by omega) (by decide) (by have := HB.out; simp; omega) ?_; intro v9 w9 k1 k2 k3; have H9 := Lib.hid (And.intro k1 k2); clear k1 k2 k3)
        have HB9 : Hid (Below w.heap.size w w9) := Lib.hid ((HW.out.trans ((pnew wr (.cells #[.string s] 9)).mono HW.out.size)).trans (H9.out.2.below (by have := HB.out; simp; omega) (fun k hk => (HO.out.2.2.lt k (by simpa using hk)).1)))
        exact ⟨⟨i + 1, ⟨#[]⟩, m + 1, by omega, by go_num, rfl, by omega, Nat.zero_le _, Lib.hid ⟨_, (HN.out _ HO.out.1).1 rfl, by rw [List.length_append, HO.out.2.1]; rfl, by rw [show strV (D ++ [s]) = strV D ++ [.string s] by simp [strV]]; exact H9.out.1⟩, HB9⟩, by simp [intOf]; omega⟩
      · have h47' : (c == 47) = false := by simpa using h47
        go_wp2_with fail
        exact ⟨⟨i + 1, _, m, by omega, by go_num, rfl, by omega, by rw [ByteArray.size_append, ByteArray.size_extract]; omega, Lib.hid (by
          obtain ⟨D, hD, hDm, hO⟩ := HI.out
          exact ⟨D, (HN.out D hD).2 h47, hDm, hO⟩), HW⟩, by simp [intOf]; omega⟩
    · obtain rfl : i = t.size := by omega
      have HB : Hid (w.heap.size ≤ wr.heap.size) := Lib.hid HW.out.size
      obtain ⟨D, hD, hDm, hO⟩ := HI.out
      have hE : splitP t = D ++ [s] := data_inj (by
        rw [splitP_data, List.map_append]
        have : t.data.toList.take t.size = t.data.toList := List.take_of_length_le (by rw [Array.length_toList]; exact Nat.le_refl _)
        have h := hD
        unfold PartAt at h
        rw [this] at h
        exact h)
      have HO := Lib.hid (And.intro hE (And.intro hDm hO))
      clear hD hDm hO hE
      have hk := Blk.new wr 9 [.string s]
      have HK := Lib.hid hk
      clear hk
      go_wp2_with (refine wpList_app (v := u3) (base := w.heap.size) (n := m) rfl rfl Tryz.underlying38 str_info rfl (by decide) [.string s] rfl (ownsRow_only (S := []) HO.out.2.2 (Only.of_below (pnew wr _)) (by simp)) rfl rfl (fun _ => ⟨_, _, rfl, fun j u hu => by rw [Nat.zero_add]; exact (HK.out.cell j).trans hu⟩) (by simp [Value.oneCell']) (by omega) (by decide) (by have := HB.out; simp; omega) ?_; intro v9 w9 k1 k2 k3; have H9 := Lib.hid (And.intro k1 k2); clear k1 k2 k3)
      have HB9 : Hid (Below w.heap.size w w9) := Lib.hid ((HW.out.trans ((pnew wr (.cells #[.string s] 9)).mono HW.out.size)).trans (H9.out.2.below (by have := HB.out; simp; omega) (fun k hk => (HO.out.2.2.lt k (by simpa using hk)).1)))
      go_ret
      have hl : (splitP t).length = m + 1 := by rw [HO.out.1, List.length_append, HO.out.2.1]; rfl
      obtain ⟨A, c, rfl, h1, h2⟩ := SIn.of_own (p := splitP t) H9.out.1 (by rw [HO.out.1]; simp [strV])
      rw [hl]
      exact ⟨A, c, rfl, h1, h2, HB9.out⟩
end Go.Proofs.YtlpljedacohngaaGreatDoor
end

/-
  The document's Parse of a path's text, as the plain answer tells. No condition.
-/

section
set_option linter.unusedSimpArgs false
set_option linter.unusedVariables false
set_option maxRecDepth 100000
namespace Go.Proofs.YtlpljedacohngaaGreatDoor
open Go.RowKit

theorem paddr (g o j : Nat) : (⟨g, o, none⟩ : Addr).add j = ⟨g, o + j, none⟩ := by unfold Addr.add; split <;> simp_all
theorem SIn.drop {w : World} {L : Option Addr} {n c k : Nat} {p : Pa} (h : SIn w L n c p) (hk : k ≤ n) : SIn w (if c = k then L else Option.map (fun x => x.add k) L) (n - k) (c - k) (p.drop k) := by
  have hcap := h.cap
  refine ⟨by rw [List.length_drop, h.len], by omega, by have := h.big; omega, fun ha => ?_, fun hn => ?_⟩
  · split at ha
    · omega
    · have : L = Option.none := by simpa using ha
      have := h.nil this
      omega
  · obtain ⟨g, o, hA, hg, hc⟩ := h.cells (by omega)
    rw [if_neg (by omega), hA]
    refine ⟨g, o + k, by simp [paddr], hg, fun j u hu => ?_⟩
    have := hc (k + j) u (by rw [List.getElem?_drop] at hu; exact hu)
    rw [Nat.add_assoc]
    exact this
theorem pfar_drop {F : Nat → Prop} {L : Option Addr} {c k : Nat} (h : ∀ a, L = some a → F a.block) : ∀ a, (if c = k then L else Option.map (fun x => x.add k) L) = some a → F a.block := by
  intro a ha
  split at ha
  · exact h a ha
  · cases L with
    | none => simp at ha
    | some b =>
      simp only [Option.map_some, Option.some.injEq] at ha
      subst ha
      have := h b rfl
      obtain ⟨b1, o1, s1⟩ := b
      unfold Addr.add
      split <;> simpa using this
theorem begP_iff (t : ByteArray) : begP t = true ↔ 0 < t.size ∧ sgAt t 0 = 47 := by
  obtain ⟨⟨l⟩⟩ := t
  cases l with
  | nil => simp [begP, Lib.hasPrefix, List.isPrefixOf, ByteArray.size]
  | cons b l =>
    unfold begP Lib.hasPrefix sgAt
    simp only [List.isPrefixOf, Bool.and_true, beq_iff_eq]
    constructor
    · intro h
      subst h
      exact ⟨Nat.succ_pos _, rfl⟩
    · rintro ⟨_, h⟩
      apply UInt8.toNat_inj.1
      have : (b.toNat : Int) = 47 := h
      show 47 = b.toNat
      omega
theorem split_beg {t : ByteArray} (h : begP t = true) : splitP t = ⟨#[]⟩ :: splitP (cutP t) := by
  apply data_inj
  rw [List.map_cons, splitP_data, splitP_data]
  unfold cutP Lib.trimPrefix
  have h2 := h
  unfold begP at h2
  rw [if_pos h2]
  obtain ⟨⟨l⟩⟩ := t
  cases l with
  | nil => cases h
  | cons b l =>
    have hb : b = 47 := by
      unfold begP Lib.hasPrefix at h
      simp [List.isPrefixOf] at h
      exact h.symm
    subst hb
    show splitL 47 (47 :: l) = [] :: splitL 47 ((47 :: l).drop 1)
    rw [splitL, if_pos rfl]
    rfl
theorem cut_beg {t : ByteArray} (h : begP t = false) : cutP t = t := by
  unfold cutP Lib.trimPrefix
  unfold begP at h
  rw [if_neg (by rw [h]; simp)]
theorem sgAt_get (t : ByteArray) (i : Nat) (hi : i < t.size) : ((t[i]'hi).toNat : Int) = sgAt t i := by
  have hj : i < t.data.toList.length := by rw [Array.length_toList]; exact hi
  unfold sgAt
  rw [List.getD_eq_getElem?_getD, List.getElem?_eq_getElem hj]
  simp [ByteArray.getElem_eq_getElem_data]
set_option maxHeartbeats 2000000 in
theorem rparse_any (w : World) (t : ByteArray) : Calls Tryz.prog 15 #[.string t] w (PaOut w (parseB t)) := by
  have hL : t.data.toList = t.toList := (ByteArray.toList_eq _).symm
  by_cases h1 : 160 < t.size
  · have HF : Hid (parseB t = ([], 2)) := Lib.hid (by unfold parseB; rw [if_pos h1])
    clear hL
    go_enter Tryz.func15, Tryz.ntmps15
    go_wp2_with fail
    go_ret2
    rw [HF.out]
    exact PaOut.nil (Below.refl _ _)
  · by_cases h2 : t.data.toList = [47]
    · have HF : Hid (parseB t = ([], 0)) := Lib.hid (by unfold parseB; rw [if_neg h1, if_pos h2])
      have h3 : t.toList = [47] := by rw [← hL]; exact h2
      have h4 : (t.toList == [47]) = true := by rw [h3]; rfl
      clear hL h2 h3
      go_enter Tryz.func15, Tryz.ntmps15
      go_wp2_with fail
      go_ret2
      rw [HF.out]
      exact PaOut.nil (Below.refl _ _)
    · have HF : Hid (parseB t = if begP t && rightB (splitP (cutP t)) then (splitP (cutP t), 0) else ([], 10)) := Lib.hid (by unfold parseB; rw [if_neg h1, if_neg h2])
      have h4 : (t.toList == [47]) = false := by rw [← hL]; simpa using h2
      have HP := Lib.hid (parts_any w t (by omega))
      clear hL h2
      go_enter Tryz.func15, Tryz.ntmps15
      go_wp2_with fail
      refine HP.out.mono ?_
      rintro e w1 ⟨A, c, rfl, hs, ha, hb⟩
      have H1 := Lib.hid (And.intro hs (And.intro ha hb))
      clear hs ha hb HP
      by_cases h0 : t.size = 0
      · have hq : begP t = false := by
          cases hq : begP t with
          | false => rfl
          | true => have := ((begP_iff t).1 hq).1; omega
        have HG : Hid (parseB t = ([], 10)) := Lib.hid (by rw [HF.out, hq]; rfl)
        have he : t = ByteArray.empty := by
          obtain ⟨⟨l⟩⟩ := t
          cases l with
          | nil => rfl
          | cons b l => simp [ByteArray.size] at h0
        have b0 : (t.size : Int) = 0 := by omega
        clear hq
        go_wp2_with fail
        go_ret2
        rw [HG.out]
        exact PaOut.nil H1.out.2.2
      · have hx : ∀ h : 0 < t.size, ((t[0]'h).toNat : Int) = sgAt t 0 := fun h => sgAt_get t 0 h
        have hbi := begP_iff t
        obtain ⟨x, hxx⟩ : ∃ x, x = sgAt t 0 := ⟨_, rfl⟩
        rw [← hxx] at hx hbi
        have h00 : ¬ t = ByteArray.empty := fun h => h0 (by rw [h]; rfl)
        have b1 : (0 : Int) < (t.size : Int) := by omega
        have b0 : ¬ (t.size : Int) = 0 := by omega
        clear hxx
        by_cases h47 : x = 47
        · have hq : begP t = true := hbi.2 ⟨by omega, h47⟩
          have HG : Hid (parseB t = if rightB (splitP (cutP t)) then (splitP (cutP t), 0) else ([], 10)) := Lib.hid (by rw [HF.out, hq]; rfl)
          have hsp := split_beg hq
          obtain ⟨l, hl⟩ : ∃ l, l = splitP (cutP t) := ⟨_, rfl⟩
          have hl1 : 1 ≤ l.length := by rw [hl, split_length]; omega
          rw [← hl] at hsp HG
          obtain ⟨g, o, rfl, hg, _⟩ := H1.out.1.cells (by rw [hsp]; simp)
          have hd := H1.out.1.drop (k := 1) (by rw [hsp]; simp)
          have hcap := H1.out.1.cap
          have hbig := H1.out.1.big
          rw [hsp] at hd hcap ⊢
          simp only [List.length_cons, List.drop_succ_cons, List.drop_zero, Nat.add_sub_cancel, if_neg (show ¬ c = 1 by simp at hcap; omega), Option.map_some, paddr] at hd hcap ⊢
          have HD := Lib.hid hd
          clear hd hq hbi hsp hl
          subst h47
          have b2 : (1 : Int) ≤ ((l.length + 1 : Nat) : Int) := by omega
          have b3 : ((l.length + 1 : Nat) : Int) ≤ (c : Int) := by omega
          have b4 : ¬ c = 1 := by omega
          have b5 : ¬ (c : Int) = 1 := by omega
          go_wp2_with fail
          refine (rright_any w1 _ _ _ l HD.out).mono ?_
          rintro e w2 ⟨rfl, h2⟩
          have H2 := Lib.hid h2
          clear h2
          cases hr : rightB l with
          | false =>
            rw [hr] at HG
            have HQ := Lib.hid HG.out
            clear hr
            go_wp2_with fail
            go_ret2
            rw [HQ.out]
            exact PaOut.nil (H1.out.2.2.trans (H2.out.mono H1.out.2.2.size))
          | true =>
            rw [hr] at HG
            have HQ := Lib.hid HG.out
            clear hr
            go_wp2_with fail
            go_ret2
            rw [HQ.out]
            exact ⟨_, _, rfl, HD.out.below H2.out, (fun a ha => by cases ha; exact H1.out.2.1 ⟨g, o, none⟩ rfl), H1.out.2.2.trans (H2.out.mono H1.out.2.2.size)⟩
        · have hq : begP t = false := by
            cases hq : begP t with
            | false => rfl
            | true => exact absurd (hbi.1 hq).2 h47
          have HG : Hid (parseB t = ([], 10)) := Lib.hid (by rw [HF.out, hq]; rfl)
          have h48 : ∀ h : 0 < t.size, ¬ ((t[0]'h).toNat : Int) = 47 := fun h => by rw [hx h]; exact h47
          have h49 : ∀ h : 0 < t.size, (((t[0]'h).toNat : Int) == 47) = false := fun h => by simpa using h48 h
          clear hx
          clear hq hbi
          go_wp2_with fail
          go_ret2
          rw [HG.out]
          exact PaOut.nil H1.out.2.2
end Go.Proofs.YtlpljedacohngaaGreatDoor
end
