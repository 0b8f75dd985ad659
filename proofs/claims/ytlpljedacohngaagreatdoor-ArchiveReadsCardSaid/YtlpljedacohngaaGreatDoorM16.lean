/-
  The checks of an entry, the others: is its directory there, is its path a path's text, where does its link lead. Conditions: the variables that paths' calls read hold what they must; the entries lie in memory.
-/
import Derived.Test.YtlpljedacohngaaGreatDoorM15
import Derived.Deep.RegionHeld3
import Derived.Lib.SlBytesConst
import Derived.Test.YtlpljedacohngaaGreatDoorM7
import Derived.Test.YtlpljedacohngaaGreatDoorM13
import Derived.WalkMore
import Derived.Sort.OwnSortedInts
import Derived.Deep.QuietTactic
import Derived.BigQuiet
section
set_option linter.unusedSimpArgs false
set_option linter.unusedVariables false
set_option maxRecDepth 100000
namespace Go.Proofs.YtlpljedacohngaaGreatDoor
open Go.RowKit

set_option maxHeartbeats 1000000 in
theorem nowhere_any (w : World) (hS : PSigns w) (x : Ev) (AH : Option Addr) (an ac : Nat) (SA : Option Addr) (sn sc : Nat) (p : Pa) (hp : SIn w x.PA x.pn x.pc p) (xs : List Ev) (es : List En) (h : EIn w AH an ac xs es) :
    Calls Tryz.prog 60 #[cdV x AH an ac SA sn sc] w fun e w' => e = .returned (.bool (nowhereE es p)) ∧ Below w.heap.size w w' := by
  have hb := pnew w (.cells (cdC x AH an ac SA sn sc).toArray 82)
  have hk := Blk.new w 82 (cdC x AH an ac SA sn sc)
  have HK := Lib.hid hk
  have HH := Lib.hid (home_any _ (hS.to hb) x AH an ac SA sn sc p (hp.below hb))
  have HB := Lib.hid (And.intro hb (h.below hb))
  have hbig : an ≤ 9223372036854775807 := by have := h.cap; have := h.big; omega
  clear hp h hb hk hS
  obtain ⟨PA, pn, pc, k, m, DA, dn, dc⟩ := x
  go_enter Tryz.func60, Tryz.ntmps60
  go_wp2_with fail
  refine HH.out.mono ?_
  rintro e w1 ⟨A', c', rfl, h1, h2⟩
  have hk1 := HK.out.below h2 HK.out.lt
  have c4 : w1.cell? ⟨w.heap.size, 4, none⟩ = some (.slice AH an ac) := hk1.cell 4
  have H1 := Lib.hid (And.intro h1 (And.intro (HB.out.2.below h2) (And.intro (HB.out.1.trans (h2.mono HB.out.1.size)) hk1)))
  clear h1 h2 hk1
  by_cases h0 : (homeP p).length = 0
  · have HF : Hid (nowhereE es p = false) := Lib.hid (by unfold nowhereE; rw [if_pos h0])
    rw [h0]
    clear h0
    go_wp2_with fail
    go_ret
    exact ⟨pret_bool (by rw [HF.out]), H1.out.2.2.1⟩
  · have HF : Hid (nowhereE es p = nowAt es (atE es (homeP p))) := Lib.hid (by unfold nowhereE; rw [if_neg h0])
    obtain ⟨q, hq⟩ : ∃ q, q = homeP p := ⟨_, rfl⟩
    rw [← hq] at HF H1 h0
    rw [← hq]
    obtain ⟨l, hl⟩ : ∃ l, l = q.length := ⟨_, rfl⟩
    rw [← hl] at H1 h0
    rw [← hl]
    clear hq hl
    have hl0 : ((l : Int) == 0) = false := by simpa using h0
    have hl1 : ¬ (l : Int) = 0 := by omega
    go_wp2_with fail
    refine (at_any12 w1 AH an ac xs es H1.out.2.1 A' l c' q H1.out.1).mono ?_
    rintro e w2 ⟨rfl, h2⟩
    have hk2 := H1.out.2.2.2.below h2 H1.out.2.2.2.lt
    clear c4
    have c4 : w2.cell? ⟨w.heap.size, 4, none⟩ = some (.slice AH an ac) := hk2.cell 4
    have H2 := Lib.hid (And.intro (H1.out.2.1.below h2) (And.intro (H1.out.2.2.1.trans (h2.mono H1.out.2.2.1.size)) hk2))
    clear h2 hk2
    cases ha : atE es q with
    | none =>
      rw [ha] at HF
      clear ha
      unfold plN
      go_wp2_with fail
      go_ret
      exact ⟨pret_bool (by rw [HF.out]; rfl), H2.out.2.1⟩
    | some i =>
      obtain ⟨e, he, _⟩ := ate_lt es q i ha
      rw [ha] at HF
      have hi : i < an := by
        have := (List.getElem?_eq_some_iff.1 he).1
        have := H2.out.1.elen
        omega
      obtain ⟨g, o, y, e', rfl, hg, hy, he', hok, hcl⟩ := H2.out.1.row hi
      rw [he] at he'
      cases he'
      have HG : Hid (nowhereE es p = !(decide (y.k = 1))) := Lib.hid (by rw [HF.out, nowAt_some he, hok.kind])
      have d1 : w2.cell? ⟨g, o + i * 4 + 1, none⟩ = some (.int .i64 y.k) := hcl 1 _ rfl
      have b1 : (i : Int) < (an : Int) := by omega
      have b0 : (0 : Int) ≤ (i : Int) := by omega
      have b2 : ¬ (i : Int) < 0 := by omega
      clear ha he hy hok hcl HF
      unfold plN
      go_wp2_with fail
      go_ret
      exact ⟨pret_bool (by rw [HG.out, decide_eq_false (show ¬ (i : Int) < 0 by omega), Bool.false_or]; exact congrArg (! ·) (Bool.eq_iff_iff.2 (by simp))), H2.out.2.1⟩
set_option maxHeartbeats 1000000 in
theorem pathless_any (w : World) (hV : PV w) (x : Ev) (AH : Option Addr) (an ac : Nat) (SA : Option Addr) (sn sc : Nat) (e : En) (hx : EvOk w x e) :
    Calls Tryz.prog 53 #[cdV x AH an ac SA sn sc] w fun en w' => en = .returned (.bool (pathlessE e.path)) ∧ Below w.heap.size w w' := by
  have hb := pnew w (.cells (cdC x AH an ac SA sn sc).toArray 82)
  have HK := Lib.hid (Blk.new w 82 (cdC x AH an ac SA sn sc))
  have HT := Lib.hid (ptext_any _ x.PA x.pn x.pc e.path (hx.path.below hb) (by rw [← hx.path.len]; exact hx.small.names) hx.small.text)
  have HB := Lib.hid (And.intro hb (And.intro (hV.to hb) (hx.path.below hb)))
  obtain ⟨p, hp⟩ : ∃ p, p = e.path := ⟨_, rfl⟩
  rw [← hp] at HT HB
  rw [← hp]
  clear hx hb hV hp
  obtain ⟨PA, pn, pc, k, m, DA, dn, dc⟩ := x
  go_enter Tryz.func53, Tryz.ntmps53
  go_wp2_with fail
  refine HT.out.mono ?_
  rintro en w1 ⟨rfl, h1⟩
  have hk1 := HK.out.below h1 HK.out.lt
  have H1 := Lib.hid (And.intro (HB.out.2.1.to h1) (And.intro (HB.out.2.2.below h1) (And.intro (HB.out.1.trans (h1.mono HB.out.1.size)) hk1)))
  clear h1 hk1
  go_wp2_with fail
  refine (parse_path w1 H1.out.1 (textP p)).mono ?_
  rintro en w2 ⟨B, c2, rfl, h2, _, h3⟩
  have hk2 := H1.out.2.2.2.below h3 H1.out.2.2.2.lt
  have c0 : w2.cell? ⟨w.heap.size, 0, none⟩ = some (.slice PA pn pc) := hk2.cell 0
  have H2 := Lib.hid (And.intro h2 (And.intro (H1.out.2.1.below h3) (H1.out.2.2.1.trans (h3.mono H1.out.2.2.1.size))))
  clear h2 h3 hk2
  have HF : Hid (pathlessE p = (!(decide ((parseB (textP p)).2 = 0)) || decide ((parseB (textP p)).1.length = 0) || !(decide ((parseB (textP p)).1 = p)))) := Lib.hid rfl
  obtain ⟨q, hq⟩ : ∃ q, q = (parseB (textP p)).1 := ⟨_, rfl⟩
  obtain ⟨z, hz⟩ : ∃ z, z = (parseB (textP p)).2 := ⟨_, rfl⟩
  rw [← hq] at H2
  rw [← hq, ← hz] at HF
  rw [← hq, ← hz]
  obtain ⟨l, hl⟩ : ∃ l, l = q.length := ⟨_, rfl⟩
  rw [← hl] at H2 HF
  rw [← hl]
  clear hq hz hl
  by_cases hz : z = 0
  · subst hz
    by_cases hl : l = 0
    · subst hl
      go_wp2_with fail
      go_ret
      exact ⟨pret_bool (by rw [HF.out]; rfl), H2.out.2.2⟩
    · have HG : Hid (pathlessE p = !(decide (q = p))) := Lib.hid (by rw [HF.out]; simp [hl])
      have hl0 : ((l : Int) == 0) = false := by simpa using hl
      have hl1 : ¬ (l : Int) = 0 := by omega
      clear HF
      go_wp2_with fail
      refine (psame_any w2 B PA l c2 pn pc q p H2.out.1 H2.out.2.1).mono ?_
      rintro en w3 ⟨rfl, h3⟩
      have H3 := Lib.hid (H2.out.2.2.trans (h3.mono H2.out.2.2.size))
      clear h3
      go_wp2_with fail
      go_ret
      exact ⟨pret_bool (by rw [HG.out]), H3.out⟩
  · have HG : Hid (pathlessE p = true) := Lib.hid (by rw [HF.out]; simp [hz])
    clear HF
    go_wp2_with fail
    go_ret
    exact ⟨pret_bool (by rw [HG.out]), H2.out.2.2⟩
end Go.Proofs.YtlpljedacohngaaGreatDoor
end

/-
  Where an entry's link leads. Conditions: the variables that paths' calls read hold what they must; the entry lies in memory.
-/

section
set_option linter.unusedSimpArgs false
set_option linter.unusedVariables false
set_option maxRecDepth 100000
namespace Go.Proofs.YtlpljedacohngaaGreatDoor
open Go.RowKit

theorem conv_txt {w : World} {A : Option Addr} {n c : Nat} {d : List B8} (h : DIn w A n c d) : (convert 22 9 (.slice A n c)).run Tryz.prog w = .ok (.string (txtB d)) w :=
  h.bytesIn.convert (by rw [List.length_map, h.len]) c _ _ _ Tryz.underlying22 Tryz.underlying5 Tryz.underlying9
theorem pref_any (w : World) (A B : Option Addr) (n c m d : Nat) (xs ys : List B8) (h : DIn w A n c xs) (k : DIn w B m d ys) :
    Calls Tryz.prog 25 #[.slice A n c, .slice B m d] w fun e w' => e = .returned (.bool (Lib.hasPrefix (Lib.bytesOf (xs.map nb)) (Lib.bytesOf (ys.map nb)))) ∧ w' = w :=
  Tryz.bytes_HasPrefix_all A B n c m d (xs.map nb) (ys.map nb) w (by rw [List.length_map, h.len]) (by rw [List.length_map, k.len]) h.cap h.bytesIn k.bytesIn
theorem nb47 : nb 47#8 = 47 := by simp [nb]
theorem din_slash (w : World) : DIn (w.alloc (.cells #[.int .u8 47] 5 (1, 2))) (some ⟨w.heap.size, 0, none⟩) 1 1 [47#8] := by
  refine ⟨rfl, Nat.le_refl _, by omega, (fun h => by cases h), fun _ => ⟨_, _, rfl, by simp, fun j u hu => ?_⟩⟩
  rw [Nat.zero_add]
  have := cell_of_row (w.alloc (.cells #[.int .u8 47] 5 (1, 2))) w.heap.size j #[.int .u8 47] 5 (1, 2) (heap_alloc_new w _)
  rw [this]
  rw [show Vb [47#8] = [Value.int .u8 47] by unfold Vb; rw [List.map_cons, nb47]; rfl] at hu
  simpa using hu
theorem conv_const (w : World) (C : Array Value) (n c : Nat) : (convert 22 22 (.slice (some ⟨w.heap.size, 0, none⟩) n c)).run Tryz.prog (w.alloc (.cells C 5)) = .ok (.slice (some ⟨w.heap.size, 0, none⟩) n c) (w.alloc (.cells C 5 (C.size, C.size + 1))) :=
  Lib.run_convert_bytes_const w 22 5 C n c Tryz.underlying22 Tryz.underlying5
/-- The cells of a candidate in its box. -/
def BoxAt (w : World) (b : Nat) (x : Ev) (AH : Option Addr) (an ac : Nat) (SA : Option Addr) (sn sc : Nat) : Prop :=
  w.cell? ⟨b, 0, none⟩ = some (.slice x.PA x.pn x.pc) ∧ w.cell? ⟨b, 1, none⟩ = some (.int .i64 x.k) ∧ w.cell? ⟨b, 2, none⟩ = some (.int .i64 x.m) ∧ w.cell? ⟨b, 3, none⟩ = some (.slice x.DA x.dn x.dc) ∧ w.cell? ⟨b, 4, none⟩ = some (.slice AH an ac) ∧ w.cell? ⟨b, 5, none⟩ = some (.slice SA sn sc)
theorem BoxAt.of {w : World} {b t : Nat} {x : Ev} {AH : Option Addr} {an ac : Nat} {SA : Option Addr} {sn sc : Nat} (h : Blk w b t (cdC x AH an ac SA sn sc)) : BoxAt w b x AH an ac SA sn sc := ⟨h.cell 0, h.cell 1, h.cell 2, h.cell 3, h.cell 4, h.cell 5⟩
set_option maxHeartbeats 2000000 in
theorem leads_any (w : World) (hV : PV w) (x : Ev) (AH : Option Addr) (an ac : Nat) (SA : Option Addr) (sn sc : Nat) (e : En) (hx : EvOk w x e) :
    Calls Tryz.prog 58 #[cdV x AH an ac SA sn sc] w fun en w' => en = .returned (.bool (leadsE e.path x.k e.data)) ∧ Below w.heap.size w w' := by
  have hb := pnew w (.cells (cdC x AH an ac SA sn sc).toArray 82)
  have HK := Lib.hid (Blk.new w 82 (cdC x AH an ac SA sn sc))
  have HB := Lib.hid (And.intro hb (And.intro (hV.to hb) (And.intro (hx.path.below hb) (hx.data.below hb))))
  obtain ⟨p, hp⟩ : ∃ p, p = e.path := ⟨_, rfl⟩
  obtain ⟨dt, hd⟩ : ∃ d, d = e.data := ⟨_, rfl⟩
  rw [← hp, ← hd] at HB
  rw [← hp, ← hd]
  clear hx hb hV hp hd
  obtain ⟨PA, pn, pc, k, m, DA, dn, dc⟩ := x
  by_cases hk : k = 2
  · subst hk
    have hcv := conv_txt HB.out.2.2.2
    have hcd := conv_txt (HB.out.2.2.2.below (pdrew _))
    have hh0 := (BoxAt.of HK.out)
    obtain ⟨y0, y1, y2, y3, y4, y5⟩ := hh0
    have HF : Hid (leadsE p 2 dt = (!(decide ((leadB (homeP p) (txtB dt)).2 = 0)) || Lib.hasPrefix (Lib.bytesOf (dt.map nb)) (Lib.bytesOf [47]))) := Lib.hid (by unfold leadsE; rfl)
    go_enter Tryz.func58, Tryz.ntmps58
    go_wp2_with fail
    go_region_held3 (fun w' => w'.cell? ⟨w.heap.size, 0, none⟩ = some (.slice PA pn pc) ∧ w'.cell? ⟨w.heap.size, 1, none⟩ = some (.int .i64 2) ∧ w'.cell? ⟨w.heap.size, 2, none⟩ = some (.int .i64 m) ∧ w'.cell? ⟨w.heap.size, 3, none⟩ = some (.slice DA dn dc) ∧ w'.cell? ⟨w.heap.size, 4, none⟩ = some (.slice AH an ac) ∧ w'.cell? ⟨w.heap.size, 5, none⟩ = some (.slice SA sn sc) ∧ (convert 22 9 (.slice DA dn dc)).run Tryz.prog w' = .ok (.string (txtB dt)) w')
      (first | exact ⟨y0, y1, y2, y3, y4, y5, hcd⟩ | exact ⟨y0, y1, y2, y3, y4, y5, hcv⟩ | exact ⟨z0, z1, z2, z3, z4, z5, hc5⟩ | exact ⟨v0, v1, v2, v3, v4, v5, hc6⟩)
      (first
        | (go_at_call 74; refine (home_any _ (HB.out.2.1.1.to (pdrew _)) ⟨PA, pn, pc, 2, m, DA, dn, dc⟩ AH an ac SA sn sc p (HB.out.2.2.1.below (pdrew _))).mono ?_; rintro e w5 ⟨A5, c5, rfl, hs, hW⟩; have hk5 := (HK.out.drew).below hW HK.out.lt; obtain ⟨z0, z1, z2, z3, z4, z5⟩ := BoxAt.of hk5; have hc5 := conv_txt ((HB.out.2.2.2.below (pdrew _)).below hW); have H5 := Lib.hid (And.intro hs (And.intro (HB.out.2.1.to ((pdrew _).trans (hW.mono (Nat.le_refl _)))) (And.intro ((HB.out.2.2.2.below (pdrew _)).below hW) (And.intro hk5 (HB.out.1.trans (((pdrew _).trans (hW.mono (Nat.le_refl _))).mono HB.out.1.size)))))); clear hs hW hk5)
        | (go_at_call 73; refine (lead_any _ H5.out.2.1 _ _ _ _ H5.out.1 (txtB dt)).mono ?_; rintro e w6 ⟨A6, c6, rfl, h6, _, hW6⟩; have hk6 := H5.out.2.2.2.1.below hW6 H5.out.2.2.2.1.lt; obtain ⟨v0, v1, v2, v3, v4, v5⟩ := BoxAt.of hk6; have hc6 := conv_txt (H5.out.2.2.1.below hW6); have H6 := Lib.hid (And.intro (H5.out.2.2.1.below hW6) (H5.out.2.2.2.2.trans (hW6.mono H5.out.2.2.2.2.size))); clear h6 hW6 hk6))
    all_goals (
      by_cases hz : (leadB (homeP p) (txtB dt)).2 = 0
      · have HG : Hid (leadsE p 2 dt = Lib.hasPrefix (Lib.bytesOf (dt.map nb)) (Lib.bytesOf [47])) := Lib.hid (by rw [HF.out, decide_eq_true hz]; rfl)
        rw [hz]
        clear hz HF
        have hcs := conv_const
        go_wp2_with (go_at_call 25; go_must (refine (pref_any _ DA _ dn dc 1 1 dt [47#8] (H6.out.1.below (pnew _ _)) (din_slash _)).mono ?_); rintro e w7 ⟨rfl, rfl⟩)
        go_ret
        exact ⟨pret_bool (by rw [HG.out, nb47]), H6.out.2.trans ((pnew _ _).mono H6.out.2.size)⟩
      · have HG : Hid (leadsE p 2 dt = true) := Lib.hid (by rw [HF.out, decide_eq_false hz]; rfl)
        clear HF
        go_wp2_with fail
        go_ret
        exact ⟨pret_bool (by rw [HG.out]), H6.out.2⟩)
  · have HF : Hid (leadsE p k dt = false) := Lib.hid (by unfold leadsE; rw [decide_eq_false hk]; rfl)
    go_enter Tryz.func58, Tryz.ntmps58
    go_wp2_with fail
    go_ret
    exact ⟨pret_bool (by rw [HF.out]), HB.out.1⟩
end Go.Proofs.YtlpljedacohngaaGreatDoor
end

/-
  Why an entry is refused: all checks, in order. Conditions: the variables that paths' calls read hold what they must; the entries lie in memory; whether the digest is bent is told.
-/

section
set_option linter.unusedSimpArgs false
set_option linter.unusedVariables false
set_option maxRecDepth 100000
namespace Go.Proofs.YtlpljedacohngaaGreatDoor
open Go.RowKit

/-- The checks' functions. -/
def chkF : Nat → FuncId
  | 0 => 53
  | 1 => 54
  | 2 => 55
  | 3 => 56
  | 4 => 57
  | 5 => 58
  | 6 => 59
  | 7 => 60
  | _ => 61
def chkC (i : Nat) : List Value := [.func (.func (chkF i)) #[] #[], .int .i64 (errE i)]
def chkCells : List Value := chkC 0 ++ (chkC 1 ++ (chkC 2 ++ (chkC 3 ++ (chkC 4 ++ (chkC 5 ++ (chkC 6 ++ (chkC 7 ++ chkC 8)))))))
theorem chk_enters (i : Nat) : ∀ args w, (callFunc (chkF i) args).run Tryz.prog w = .ok (.enter (chkF i) args) w := by
  match i with
  | 0 => exact enters_of Tryz.func53 (by kernel_rfl) rfl
  | 1 => exact enters_of Tryz.func54 (by kernel_rfl) rfl
  | 2 => exact enters_of Tryz.func55 (by kernel_rfl) rfl
  | 3 => exact enters_of Tryz.func56 (by kernel_rfl) rfl
  | 4 => exact enters_of Tryz.func57 (by kernel_rfl) rfl
  | 5 => exact enters_of Tryz.func58 (by kernel_rfl) rfl
  | 6 => exact enters_of Tryz.func59 (by kernel_rfl) rfl
  | 7 => exact enters_of Tryz.func60 (by kernel_rfl) rfl
  | i + 8 => exact enters_of Tryz.func61 (by kernel_rfl) rfl
theorem checks_any (w : World) : Calls Tryz.prog 48 #[] w fun e w' => e = .returned (.slice (some ⟨w.heap.size, 0, none⟩) 9 9) ∧ w' = w.alloc (.cells chkCells.toArray 99) := by
  go_enter Tryz.func48, Tryz.ntmps48
  go_wp2_with fail
  go_ret
  exact ⟨rfl, rfl⟩
theorem chk_row {w : World} {g t : Nat} (h : Blk w g t chkCells) (i : Nat) (hi : i < 9) : w.rangeAt g (i * 2) (chkC i) := by
  intro j v hj
  show w.cell? ⟨g, i * 2 + j, none⟩ = some v
  rw [h.cell]
  rcases (by omega : i = 0 ∨ i = 1 ∨ i = 2 ∨ i = 3 ∨ i = 4 ∨ i = 5 ∨ i = 6 ∨ i = 7 ∨ i = 8) with rfl | rfl | rfl | rfl | rfl | rfl | rfl | rfl | rfl
  all_goals (match j, hj with
    | 0, hj => exact hj
    | 1, hj => exact hj
    | j + 2, hj => simp [chkC] at hj)
/-- Each check, by its number. -/
theorem chk_call (w : World) (hV : PV w) (x : Ev) (AH : Option Addr) (an ac : Nat) (SA : Option Addr) (sn sc : Nat) (e : En) (hx : EvOk w x e) (xs : List Ev) (es : List En) (h : EIn w AH an ac xs es) (bt : Bool) (i : Nat)
    (hbent : 8 ≤ i → Calls Tryz.prog 61 #[cdV x AH an ac SA sn sc] w fun en w' => en = .returned (.bool bt) ∧ Below w.heap.size w w') :
    Calls Tryz.prog (chkF i) #[cdV x AH an ac SA sn sc] w fun en w' => en = .returned (.bool (failE e es bt i)) ∧ Below w.heap.size w w' := by
  match i with
  | 0 => exact pathless_any w hV x AH an ac SA sn sc e hx
  | 1 =>
    have := kindless_any w x AH an ac SA sn sc
    rw [← hx.kind] at this
    exact this
  | 2 =>
    have := risky_any w x AH an ac SA sn sc
    rw [← hx.kind, ← hx.mode] at this
    exact this
  | 3 =>
    have := filled_any w x AH an ac SA sn sc e.data hx.data
    rw [← hx.kind] at this
    exact this
  | 4 => exact long_any w x AH an ac SA sn sc e.data hx.data
  | 5 =>
    have := leads_any w hV x AH an ac SA sn sc e hx
    rw [← hx.kind] at this
    exact this
  | 6 => exact twice_any w x AH an ac SA sn sc e.path hx.path xs es h
  | 7 => exact nowhere_any w hV.1 x AH an ac SA sn sc e.path hx.path xs es h
  | i + 8 => exact hbent (by omega)
theorem infoChk : (Tryz.prog.info? 99).map (·.size) = some 2 := by kernel_rfl
set_option maxHeartbeats 2000000 in
theorem refusal_arch (w : World) (hV : PV w) (x : Ev) (AH : Option Addr) (an ac : Nat) (SA : Option Addr) (sn sc : Nat) (e : En) (hx : EvOk w x e) (xs : List Ev) (es : List En) (h : EIn w AH an ac xs es) (bt : Bool)
    (hbent : ∀ W, Below w.heap.size w W → (∀ j, j < 8 → failE e es bt j = false) → Calls Tryz.prog 61 #[cdV x AH an ac SA sn sc] W fun en w' => en = .returned (.bool bt) ∧ Below W.heap.size W w') :
    Calls Tryz.prog 35 #[cdV x AH an ac SA sn sc] w fun en w' => en = .returned (.int .i64 (refE e es bt)) ∧ Below w.heap.size w w' := by
  have hb := pnew w (.cells (cdC x AH an ac SA sn sc).toArray 82)
  have hb2 := hb.trans ((pnew (w.alloc (.cells (cdC x AH an ac SA sn sc).toArray 82)) (.cells chkCells.toArray 99)).mono hb.size)
  have HK := Lib.hid ((Blk.new w 82 (cdC x AH an ac SA sn sc)).alloc (.cells chkCells.toArray 99))
  have HKC := Lib.hid (Blk.new (w.alloc (.cells (cdC x AH an ac SA sn sc).toArray 82)) 99 chkCells)
  have H := Lib.hid (And.intro hV (And.intro hx (And.intro h (And.intro hbent hb2))))
  clear hV hx h hbent hb hb2
  obtain ⟨PA, pn, pc, k, m, DA, dn, dc⟩ := x
  go_enter Tryz.func35, Tryz.ntmps35
  go_wp2_with fail
  refine (checks_any _).mono ?_
  rintro en w1 ⟨rfl, rfl⟩
  obtain ⟨w1, hw1⟩ : ∃ w1, w1 = ((w.alloc (.cells (cdC ⟨PA, pn, pc, k, m, DA, dn, dc⟩ AH an ac SA sn sc).toArray 82)).alloc (.cells chkCells.toArray 99)) := ⟨_, rfl⟩
  have hsz : (w.alloc (.cells (cdC ⟨PA, pn, pc, k, m, DA, dn, dc⟩ AH an ac SA sn sc).toArray 82)).heap.size = w.heap.size + 1 := by simp
  rw [← hw1] at HK HKC H
  rw [hsz] at HKC
  simp only [World.size_alloc]
  rw [← hw1]
  clear hsz hw1
  go_wp2_with fail
  go_loopw [7] (fun iv wr => ∃ i : Nat, i ≤ 9 ∧ iv = .int .i64 i ∧ Hid (∀ j, j < i → failE e es bt j = false) ∧ Hid (Below w1.heap.size w1 wr)) (fun iv _ => 9 - (intOf iv).toNat)
  case atStart => exact ⟨0, by omega, rfl, Lib.hid (fun j h => absurd h (by omega)), Lib.hid (Below.refl _ _)⟩
  case round =>
    obtain ⟨i, hi, rfl, HF, HW⟩ := hrel
    by_cases hlt : i < 9
    · have HR := Lib.hid (chk_row (HKC.out.below HW.out HKC.out.lt) i hlt)
      have hent := chk_enters i
      obtain ⟨F, hF⟩ : ∃ F, F = chkF i := ⟨_, rfl⟩
      obtain ⟨E, hE⟩ : ∃ E, E = errE i := ⟨_, rfl⟩
      have HX := Lib.hid (And.intro hF hE)
      have hcC : chkC i = [.func (.func F) #[] #[], .int .i64 E] := by rw [hF, hE]; rfl
      rw [hcC] at HR
      rw [← hF] at hent
      clear hF hE hcC
      have hk1 := HK.out.below HW.out HK.out.lt
      have HN := Lib.hid hk1
      clear hk1
      have r0 : wr.cell? ⟨w.heap.size + 1, i * 2, none⟩ = some (.func (.func F) #[] #[]) := HR.out 0 _ rfl
      have r1 : wr.cell? ⟨w.heap.size + 1, i * 2 + 1, none⟩ = some (.int .i64 E) := HR.out 1 _ rfl
      have HZ := Lib.hid (Blk.new wr 99 [.nilFunc, .int .i64 0])
      go_wp2_with (refine wpList_store_blk rfl 99 (.tmp 4) (.tmp 10) rfl wr.heap.size 0 [.func (.func F) #[] #[], .int .i64 E] rfl rfl HZ.out (by simp) infoChk (by intro u hu; simp at hu; rcases hu with rfl | rfl <;> rfl) ?_; intro w2 hA hO; rw [over_whole (by simp)] at hA; have q0 : w2.cell? ⟨wr.heap.size, 0, none⟩ = some (.func (.func F) #[] #[]) := hA.cell 0; have q1 : w2.cell? ⟨wr.heap.size, 1, none⟩ = some (.int .i64 E) := hA.cell 1; have hb2 : Below wr.heap.size wr w2 := (pnew wr _).trans (hO.below (B := wr.heap.size) (by simp) (by simp)); obtain ⟨z0, z1, z2, z3, z4, z5⟩ := BoxAt.of (HN.out.below hb2 HN.out.lt); have H2 := Lib.hid (And.intro hA (HW.out.trans (hb2.mono HW.out.size))); clear hA hO hb2)
      have hb12 := H.out.2.2.2.2.trans (H2.out.2.mono H.out.2.2.2.2.size)
      have hc := chk_call w2 (H.out.1.to hb12) ⟨PA, pn, pc, k, m, DA, dn, dc⟩ AH an ac SA sn sc e (H.out.2.1.below hb12) xs es (H.out.2.2.1.below hb12) bt i (fun h8 => H.out.2.2.2.1 _ hb12 (fun j hj => HF.out j (by omega)))
      rw [← HX.out.1] at hc
      refine hc.mono ?_
      rintro en w3 ⟨rfl, h3⟩
      have hk3 := H2.out.1.below h3 H2.out.1.lt
      have q1' : w3.cell? ⟨wr.heap.size, 1, none⟩ = some (.int .i64 E) := hk3.cell 1
      have H3 := Lib.hid (And.intro (H2.out.2.trans (h3.mono H2.out.2.size)) (hb12.trans (h3.mono hb12.size)))
      clear hc h3 hk3 hb12 q0 q1 z0 z1 z2 z3 z4 z5 r0 r1
      cases hf : failE e es bt i with
      | true =>
        have HE : Hid (refE e es bt = E) := Lib.hid (by rw [HX.out.2]; exact ref_found hlt HF.out hf)
        clear hf
        go_wp2_with fail
        go_ret
        exact ⟨pret_num (by rw [HE.out]), H3.out.2⟩
      | false =>
        have HE := Lib.hid hf
        clear hf
        go_wp2_with fail
        go_roundw
        case rel => exact ⟨i + 1, by omega, by go_num, Lib.hid (fun j hj => by
          by_cases hji : j < i
          · exact HF.out j hji
          · obtain rfl : j = i := by omega
            exact HE.out), Lib.hid H3.out.1⟩
        case measure => simp [intOf]; omega
    · obtain rfl : i = 9 := by omega
      have HE : Hid (refE e es bt = 0) := Lib.hid (ref_none HF.out)
      have HB := Lib.hid (H.out.2.2.2.2.trans (HW.out.mono H.out.2.2.2.2.size))
      go_wp2_with fail
      go_ret
      exact ⟨pret_num (by rw [HE.out]), HB.out⟩
end Go.Proofs.YtlpljedacohngaaGreatDoor
end

/-
  Check: the place of the first entry that is refused, and why. Conditions: the variables that paths' calls read hold what they must; the entries lie in memory.
-/

section
set_option linter.unusedSimpArgs false
set_option linter.unusedVariables false
set_option maxRecDepth 100000
namespace Go.Proofs.YtlpljedacohngaaGreatDoor
open Go.RowKit

/-- Nothing is told for its digest. -/
theorem bent_none (w : World) (x : Ev) (AH : Option Addr) (an ac : Nat) :
    Calls Tryz.prog 61 #[cdV x AH an ac none 0 0] w fun en w' => en = .returned (.bool false) ∧ Below w.heap.size w w' := by
  have hb := pnew w (.cells (cdC x AH an ac none 0 0).toArray 82)
  obtain ⟨y0, y1, y2, y3, y4, y5⟩ := BoxAt.of (Blk.new w 82 (cdC x AH an ac none 0 0))
  have HB := Lib.hid hb
  clear hb
  obtain ⟨PA, pn, pc, k, m, DA, dn, dc⟩ := x
  go_enter Tryz.func61, Tryz.ntmps61
  go_wp2_with fail
  refine wp_hideQ ?_
  intro QQ hQQ
  refine wp_region_quick [some 3, some 4, some 5, some 6, some 7, some 8, some 9, some 10, some 11, some 12, some 13, some 14, some 2] [isV (.pointer (some ⟨w.heap.size, 5, none⟩)), isV (.slice none 0 0), isV (.bool false), isV (.bool false), isV (undef), isV (undef), isV (undef), isV (undef), isV (undef), isV (undef), isV (undef), isV (.bool false), isV (.bool false)] 13 (by kernel_rfl) rfl rfl rfl (by kernel_rfl) (by simp [isV.st]) ?_ ?_
  · intro hq rz hz
    match rz, hz with
    | 0, _ =>
      refine StepL.val rfl [] (by decide +kernel) ?_
      intro v wx hR hd
      exact ⟨wanted_plain rfl _, _, _, x_field rfl (fill_off rfl rfl) (r_field (off := 5) (by kernel_rfl)), hR, Below.refl _ _, rfl⟩
    | 1, _ =>
      refine StepL.val rfl [0] (by decide +kernel) ?_
      intro v wx hR hd
      have h0 : v 0 = _ := hd 0 (by simp)
      exact ⟨wanted_plain rfl _, _, _, x_load rfl (hq.at_ rfl h0) (r_load (by kernel_rfl) (pcell_below y5 hR)), hR, Below.refl _ _, rfl⟩
    | 2, _ =>
      refine StepL.val rfl [1] (by decide +kernel) ?_
      intro v wx hR hd
      have h1 : v 1 = _ := hd 1 (by simp)
      exact ⟨wanted_plain rfl _, _, _, x_bin rfl (hq.at_ rfl h1) rfl (by kernel_rfl), hR, Below.refl _ _, rfl⟩
    | 3, _ =>
      refine StepL.val rfl [2] (by decide +kernel) ?_
      intro v wx hR hd
      have h2 : v 2 = _ := hd 2 (by simp)
      exact ⟨wanted_plain rfl _, _, _, x_move rfl (hq.at_ rfl h2), hR, Below.refl _ _, rfl⟩
    | 4, _ =>
      refine StepL.skip rfl [3] (by decide +kernel) ?_
      intro v wx hR hd
      have h3 : v 3 = _ := hd 3 (by simp)
      exact ⟨hq.no rfl rfl rfl h3 rfl, Below.refl _ _, rfl⟩
    | 5, _ =>
      refine StepL.skip rfl [3] (by decide +kernel) ?_
      intro v wx hR hd
      have h3 : v 3 = _ := hd 3 (by simp)
      exact ⟨hq.no rfl rfl rfl h3 rfl, Below.refl _ _, rfl⟩
    | 6, _ =>
      refine StepL.skip rfl [3] (by decide +kernel) ?_
      intro v wx hR hd
      have h3 : v 3 = _ := hd 3 (by simp)
      exact ⟨hq.no rfl rfl rfl h3 rfl, Below.refl _ _, rfl⟩
    | 7, _ =>
      refine StepL.skip rfl [3] (by decide +kernel) ?_
      intro v wx hR hd
      have h3 : v 3 = _ := hd 3 (by simp)
      exact ⟨hq.no rfl rfl rfl h3 rfl, Below.refl _ _, rfl⟩
    | 8, _ =>
      refine StepL.skip rfl [3] (by decide +kernel) ?_
      intro v wx hR hd
      have h3 : v 3 = _ := hd 3 (by simp)
      exact ⟨hq.no rfl rfl rfl h3 rfl, Below.refl _ _, rfl⟩
    | 9, _ =>
      refine StepL.skip rfl [3] (by decide +kernel) ?_
      intro v wx hR hd
      have h3 : v 3 = _ := hd 3 (by simp)
      exact ⟨hq.no rfl rfl rfl h3 rfl, Below.refl _ _, rfl⟩
    | 10, _ =>
      refine StepL.skip rfl [3] (by decide +kernel) ?_
      intro v wx hR hd
      have h3 : v 3 = _ := hd 3 (by simp)
      exact ⟨hq.no rfl rfl rfl h3 rfl, Below.refl _ _, rfl⟩
    | 11, _ =>
      refine StepL.val rfl [3, 10] (by decide +kernel) ?_
      intro v wx hR hd
      have h3 : v 3 = _ := hd 3 (by simp)
      have h10 : v 10 = _ := hd 10 (by simp)
      exact ⟨wanted_plain rfl _, _, _, x_pick_no rfl (hq.at_ rfl h3) rfl, hR, Below.refl _ _, rfl⟩
    | 12, _ =>
      refine StepL.val rfl [11] (by decide +kernel) ?_
      intro v wx hR hd
      have h11 : v 11 = _ := hd 11 (by simp)
      exact ⟨wanted_plain rfl _, _, _, x_assign rfl (hq.at_ rfl h11), hR, Below.refl _ _, rfl⟩
    | rz + 13, h => omega
  · intro v wx hR hV
    have h11 : v 11 = _ := hV 11 (by omega)
    have h12 : v 12 = _ := hV 12 (by omega)
    simp only [fillR, Act.put, List.setIfInBounds_toArray, List.set_cons_zero, List.set_cons_succ, h11, h12]
    have HR := Lib.hid (HB.out.trans (hR.mono HB.out.size))
    clear hV hR h11 h12 y0 y1 y2 y3 y4 y5
    go_wp2_with fail
    go_ret
    exact ⟨rfl, HR.out⟩
theorem build_cand (W : World) (x : Ev) (AH : Option Addr) (an ac : Nat) : (Instr.build 82 #[(0, evV x), (1, .slice AH an ac)]).run Tryz.prog W = .ok (cdV x AH an ac none 0 0) W := by kernel_rfl
set_option maxHeartbeats 4000000 in
theorem check_arch (w : World) (hV : PV w) (A : Option Addr) (n c : Nat) (xs : List Ev) (es : List En) (h : EIn w A n c xs es) :
    Calls Tryz.prog 20 #[.slice A n c] w fun e w' => e = .returned (.tuple #[.int .i64 ((chkE es).1 : Int), .int .i64 (chkE es).2]) ∧ Below w.heap.size w w' := by
  have hbig : n ≤ 9223372036854775807 := by have := h.cap; have := h.big; omega
  have hcap := h.cap
  by_cases h40 : 40 < n
  · have HF : Hid (chkE es = (40, 2)) := Lib.hid (by unfold chkE; rw [if_pos (by rw [h.elen]; exact h40)])
    clear h hV
    go_enter Tryz.func20, Tryz.ntmps20
    go_wp2_with fail
    go_ret2
    rw [HF.out]
    exact ⟨rfl, Below.refl _ _⟩
  · have HF : Hid (chkE es = chkFrom [] es) := Lib.hid (by unfold chkE; rw [if_neg (by rw [h.elen]; exact h40)])
    have H := Lib.hid (And.intro h hV)
    clear h hV
    go_enter Tryz.func20, Tryz.ntmps20
    go_wp2_with fail
    go_loopw [12] (fun iv wr => ∃ i : Nat, i ≤ n ∧ iv = .int .i64 i ∧ Hid (∀ (j : Nat) (y : En), j < i → es[j]? = some y → refE y (es.take j) false = 0) ∧ Hid (Below w.heap.size w wr)) (fun iv _ => n - (intOf iv).toNat)
    case atStart => exact ⟨0, by omega, rfl, Lib.hid (fun j y h => absurd h (by omega)), Lib.hid (Below.refl _ _)⟩
    case round =>
      obtain ⟨i, hi, rfl, HK, HW⟩ := hrel
      by_cases hlt : i < n
      · have hE := H.out.1.below HW.out
        obtain ⟨g, o, x, e, rfl, hg, hx, he, hok, hcl⟩ := hE.row hlt
        have HC := Lib.hid hcl
        have HE := Lib.hid (And.intro he (And.intro hok (hE.take (k := i) (c' := c) (by omega) (by omega) (Nat.le_refl _))))
        have HZ := Lib.hid (Blk.new wr 40 [.slice none 0 0, .int .i64 0, .int .i64 0, .slice none 0 0])
        clear hE hx he hok hcl
        go_wp2_with (first
          | (refine wpList_load_mid rfl 40 (.tmp 15) rfl g (o + i * 4) rfl _ _ HC.out Tryz.underlying40 rfl infoEv ?_)
          | (refine wpList_store_blk rfl 40 (.tmp 5) (.tmp 16) rfl wr.heap.size 0 (evC x) rfl rfl HZ.out (by simp [evC]) infoEv (by intro u hu; simp [evC] at hu; rcases hu with rfl | rfl | rfl | rfl <;> rfl) ?_; intro w2 hA hO; rw [over_whole (by simp [evC])] at hA; have hb2 : Below wr.heap.size wr w2 := (pnew wr _).trans (hO.below (B := wr.heap.size) (by simp) (by simp)); have H2 := Lib.hid (And.intro hA (And.intro (HW.out.trans (hb2.mono HW.out.size)) hb2)); clear hA hO hb2))
        have e0 : w2.cell? ⟨wr.heap.size, 0, none⟩ = some (.slice x.PA x.pn x.pc) := H2.out.1.cell 0
        have e1 : w2.cell? ⟨wr.heap.size, 1, none⟩ = some (.int .i64 x.k) := H2.out.1.cell 1
        have e2 : w2.cell? ⟨wr.heap.size, 2, none⟩ = some (.int .i64 x.m) := H2.out.1.cell 2
        have e3 : w2.cell? ⟨wr.heap.size, 3, none⟩ = some (.slice x.DA x.dn x.dc) := H2.out.1.cell 3
        have hbd := fun (W : World) => build_cand W x (some ⟨g, o, none⟩) i c
        have b1 : (0 : Int) ≤ (i : Int) := by omega
        have b2 : (i : Int) ≤ (n : Int) := by omega
        have b3 : (i : Int) ≤ (c : Int) := by omega
        have HV2 := Lib.hid (H.out.2.to (H2.out.2.1.trans ((pdrew w2).mono H2.out.2.1.size)))
        have HE2 := Lib.hid (And.intro ((HE.out.2.1.below H2.out.2.2).below (pdrew w2)) ((HE.out.2.2.below H2.out.2.2).below (pdrew w2)))
        go_region_held3 (fun w' => w'.cell? ⟨wr.heap.size, 0, none⟩ = some (.slice x.PA x.pn x.pc) ∧ w'.cell? ⟨wr.heap.size, 1, none⟩ = some (.int .i64 x.k) ∧ w'.cell? ⟨wr.heap.size, 2, none⟩ = some (.int .i64 x.m) ∧ w'.cell? ⟨wr.heap.size, 3, none⟩ = some (.slice x.DA x.dn x.dc))
          (first | exact ⟨f0, f1, f2, f3⟩ | exact ⟨e0, e1, e2, e3⟩)
          (first
            | (go_at_call 35; refine (refusal_arch _ HV2.out x (some ⟨g, o, none⟩) i c none 0 0 e HE2.out.1 (xs.take i) (es.take i) HE2.out.2 false (fun W _ _ => bent_none W x (some ⟨g, o, none⟩) i c)).mono ?_; rintro en w3 ⟨rfl, h3⟩; have f0 := pcell_drew e0 h3; have f1 := pcell_drew e1 h3; have f2 := pcell_drew e2 h3; have f3 := pcell_drew e3 h3; have H3 := Lib.hid (H2.out.2.1.trans (((pdrew w2).trans (h3.mono (Nat.le_refl _))).mono H2.out.2.1.size)); clear h3))
        by_cases hz : refE e (es.take i) false = 0
        · have HQ := Lib.hid hz
          rw [hz]
          clear hz
          go_wp2_with fail
          exact ⟨⟨i + 1, by omega, by go_num, Lib.hid (fun j y hj hy => by
            by_cases hji : j < i
            · exact HK.out j y hji hy
            · obtain rfl : j = i := by omega
              rw [HE.out.1] at hy
              cases hy
              exact HQ.out), H3⟩, by simp [intOf]; omega⟩
        · have HQ : Hid (chkE es = (i, refE e (es.take i) false)) := Lib.hid (by
            rw [HF.out, chk_stop es [] i e HE.out.1 (fun j y hj hy => by rw [List.nil_append]; exact HK.out j y hj hy) (by rw [List.nil_append]; exact hz)]
            simp)
          go_wp2_with fail
          (try rw [Exit.noGoto_ret])
          go_ret2
          rw [HQ.out]
          exact ⟨rfl, H3.out⟩
      · obtain rfl : i = n := by omega
        have HQ : Hid (chkE es = (es.length, 0)) := Lib.hid (by
          rw [HF.out, chk_all es [] (fun j y hy => by rw [List.nil_append]; exact HK.out j y (by have := (List.getElem?_eq_some_iff.1 hy).1; have := H.out.1.elen; omega) hy)]
          simp)
        have HL := Lib.hid H.out.1.elen
        go_wp2_with fail
        go_ret2
        rw [HQ.out, HL.out]
        exact ⟨rfl, HW.out⟩
end Go.Proofs.YtlpljedacohngaaGreatDoor
end

/-
  New, Laid, Power, Arm and a sector that is read: what each does to a disk. Conditions: the disk is held.
-/

section
set_option maxRecDepth 100000
set_option linter.unusedSimpArgs false
set_option linter.unusedVariables false
namespace Go.Proofs.YtlpljedacohngaaGreatDoor
open Go.RowKit

/-- A slice of the call's own, of these bytes. -/
def OwnBytes (B : Nat) (xs : List Int) (w : World) (e : Ending) (w' : World) : Prop := ∃ v', e = .returned v' ∧ w'.ownsRow w.heap.size 5 1 v' xs.length (U xs) ∧ v' ≠ .slice none 0 0 ∧ Below B w w'

end Go.Proofs.YtlpljedacohngaaGreatDoor
end

/-
  Read: what it tells of a sector. Conditions: the disk is held.
-/

section
set_option maxRecDepth 100000
set_option linter.unusedSimpArgs false
set_option linter.unusedVariables false
namespace Go.Proofs.YtlpljedacohngaaGreatDoor
open Go.RowKit

/-- What Read leaves: the bytes in memory of the call's own. -/
def ReadPost (xs : List Int) (w : World) (e : Ending) (w' : World) : Prop := ∃ v', e = .returned (.tuple #[v', .int .i64 0]) ∧ w'.ownsRow w.heap.size 5 1 v' xs.length (U xs) ∧ v' ≠ .slice none 0 0 ∧ Below w.heap.size w w'

/-- No waiting write from place i on is of sector k. -/
def NoneFrom (s : St) (k i : Nat) : Prop := ∀ p ∈ s.waits.drop i, p.1 ≠ (k : Int)
theorem NoneFrom.start (s : St) (k : Nat) : NoneFrom s k s.waits.length := by
  intro p hp
  simp at hp

theorem seen_none {s : St} {k : Nat} (h : NoneFrom s k 0) : seen s k = (s.laid.drop (64 * k)).take 64 := by
  unfold seen
  have : s.waits.reverse.find? (fun p => p.1 == (k : Int)) = none := by
    rw [List.find?_eq_none]
    intro p hp
    have := h p (by simpa using hp)
    simpa using this
  rw [this]
theorem seen_some {s : St} {k j : Nat} {p : Int × List Int} (h : NoneFrom s k (j + 1)) (hp : s.waits[j]? = some p) (hk : p.1 = (k : Int)) : seen s k = p.2 := by
  unfold seen
  obtain ⟨hj, hpe⟩ := List.getElem?_eq_some_iff.1 hp
  have e : s.waits = s.waits.take j ++ p :: s.waits.drop (j + 1) := by
    rw [← hpe, List.getElem_cons_drop, List.take_append_drop]
  have : s.waits.reverse.find? (fun p => p.1 == (k : Int)) = some p := by
    rw [e, List.reverse_append, List.reverse_cons, List.append_assoc, List.find?_append]
    have h0 : (s.waits.drop (j + 1)).reverse.find? (fun p => p.1 == (k : Int)) = none := by
      rw [List.find?_eq_none]
      intro q hq
      have := h q (by simpa using hq)
      simpa using this
    rw [h0]
    simp [hk]
  rw [this]
theorem NoneFrom.step {s : St} {k j : Nat} {p : Int × List Int} (h : NoneFrom s k (j + 1)) (hp : s.waits[j]? = some p) (hk : (p.1 == (k : Int)) = false) : NoneFrom s k j := by
  obtain ⟨hj, hpe⟩ := List.getElem?_eq_some_iff.1 hp
  intro q hq
  rw [← List.getElem_cons_drop hj, hpe] at hq
  rcases List.mem_cons.1 hq with rfl | hq
  · simpa using hk
  · exact h q hq

theorem add_off (g o j : Nat) : (⟨g, o, none⟩ : Addr).add j = ⟨g, o + j, none⟩ := by unfold Addr.add; split <;> simp_all
theorem sector_cells {w : World} {L k : Nat} {laid : List Int} {tl : List Value} (hL : Blk w L 5 (U laid ++ tl)) : ∀ j u, (U ((laid.drop (64 * k)).take 64))[j]? = some u → w.cell? ((⟨L, k * 64, none⟩ : Addr).add j) = some u := by
  intro j u hu
  rw [add_off, hL.cell]
  rw [← U_take, ← U_drop, List.getElem?_take] at hu
  split at hu
  · rw [List.getElem?_drop] at hu
    rw [List.getElem?_append_left (by have := (List.getElem?_eq_some_iff.1 hu).1; omega), ← hu, Nat.mul_comm]
  · cases hu
theorem wait_cells {w : World} {g o : Nat} {bs : List Int} (h : ∀ j x, bs[j]? = some x → w.cell? ⟨g, o + j, none⟩ = some (.int .u8 x)) : ∀ j u, (U bs)[j]? = some u → w.cell? ((⟨g, o, none⟩ : Addr).add j) = some u := by
  intro j u hu
  rw [U_get] at hu
  cases hx : bs[j]? with
  | none => rw [hx] at hu; cases hu
  | some x =>
    rw [hx] at hu
    simp only [Option.map_some, Option.some.injEq] at hu
    subst hu
    rw [add_off]
    exact h j x hx

end Go.Proofs.YtlpljedacohngaaGreatDoor
end

/-
  Flush: what it does to a disk. Conditions: the disk is held.
-/

section
set_option maxRecDepth 100000
set_option linter.unusedSimpArgs false
set_option linter.unusedVariables false
namespace Go.Proofs.YtlpljedacohngaaGreatDoor
open Go.RowKit

/-- The writes' slice and its cells, in a later world in which the row stands. -/
def Form (w : World) (A : Option Addr) (ws : List (Int × List Int)) : Prop := ∀ i p, ws[i]? = some p →
    ∃ g, A = some ⟨g, 0, none⟩ ∧ w.cell? ⟨g, i * 65, none⟩ = some (.int .i64 p.1) ∧ ∀ j x, p.2[j]? = some x → w.cell? ⟨g, i * 65 + 1 + j, none⟩ = some (.int .u8 x)
theorem Form.only {w w' : World} {A : Option Addr} {ws : List (Int × List Int)} {S : List Nat} (h : Form w A ws) (ho : Only S w w') (hA : ∀ a, A = some a → a.block ∉ S) : Form w' A ws := by
  intro i p hp
  obtain ⟨g, rfl, h1, h2⟩ := h i p hp
  have hb : w'.heap[g]? = w.heap[g]? := ho.block g (World.block_lt_of_cell? w _ h1) (hA _ rfl)
  exact ⟨g, rfl, (World.cell?_of_block (a := ⟨g, i * 65, none⟩) hb).trans h1, fun j x hx => (World.cell?_of_block (a := ⟨g, i * 65 + 1 + j, none⟩) hb).trans (h2 j x hx)⟩

/-- What the loop of Flush keeps. -/
def LayRel (L : Nat) (s : St) (w : World) (k : Nat) (wr : World) : Prop := Blk wr L 5 (U (layAll s.laid (s.waits.take k)) ++ s.tl) ∧ Only [L] w wr

end Go.Proofs.YtlpljedacohngaaGreatDoor
end

/-
  The places that Crash is told: a copy of them, sorted; and which waiting writes they keep. Conditions: the slice's numbers lie at its address.
-/

section
set_option maxRecDepth 100000
set_option linter.unusedSimpArgs false
set_option linter.unusedVariables false
namespace Go.Proofs.YtlpljedacohngaaGreatDoor
open Go.RowKit

/-- The numbers of a slice lie at its address (nil, empty or not). -/
def IntsAt (w : World) (A : Option Addr) (ks : List Int) : Prop := ∀ j x, ks[j]? = some x → ∃ g o, A = some ⟨g, o, none⟩ ∧ w.cell? ⟨g, o + j, none⟩ = some (.int .i64 x)

/-- A slice of the call's own, of these numbers, behind the call. -/
def OwnInts (N : Nat) (ks : List Int) (w : World) (e : Ending) (w' : World) : Prop := ∃ v', e = .returned v' ∧ w'.ownsRow N 3 1 v' ks.length (ks.map (Value.int .i64)) ∧ Below N w w'

/-- The sorted list. -/
def sorted (ks : List Int) : List Int := ks.mergeSort fun x y => decide (x ≤ y)

/-- The waiting writes that are kept, in their order: those whose places are told. -/
def kept (ks : List Int) (ws : List (Int × List Int)) : List (Int × List Int) := (ws.zipIdx.filter fun x => decide ((x.2 : Int) ∈ ks)).map (·.1)
theorem kept_snoc (ks : List Int) (ws : List (Int × List Int)) (p : Int × List Int) : kept ks (ws ++ [p]) = if (ws.length : Int) ∈ ks then kept ks ws ++ [p] else kept ks ws := by
  unfold kept
  rw [List.zipIdx_append]
  by_cases h : (ws.length : Int) ∈ ks
  · simp [h]
  · simp [h]
theorem kept_mem {ks : List Int} {ws : List (Int × List Int)} {p : Int × List Int} (h : p ∈ kept ks ws) : p ∈ ws := by
  unfold kept at h
  simp only [List.mem_map, List.mem_filter] at h
  obtain ⟨x, ⟨h1, _⟩, rfl⟩ := h
  exact (List.mem_zipIdx' h1).2 ▸ List.getElem_mem _
theorem kept_length (ks : List Int) (ws : List (Int × List Int)) : (kept ks ws).length ≤ ws.length := by
  unfold kept
  rw [List.length_map]
  exact Nat.le_trans (List.length_filter_le _ _) (by simp)
theorem kept_none {ks : List Int} (ws ws' : List (Int × List Int)) (h : ∀ j : Nat, ws.length ≤ j → (j : Int) ∉ ks) : kept ks (ws ++ ws') = kept ks ws := by
  unfold kept
  rw [List.zipIdx_append, List.filter_append, List.map_append]
  have e : ((ws'.zipIdx (0 + ws.length)).filter fun x => decide ((x.2 : Int) ∈ ks)) = [] := List.filter_eq_nil_iff.2 (fun x hx => by
    have := List.le_snd_of_mem_zipIdx hx
    simpa using h x.2 (by omega))
  rw [e]
  simp

/-- What Crash makes of a state. -/
def St.crash (s : St) (ks : List Int) : Int × St := (((kept ks s.waits).length : Nat), { s with on := false, laid := layAll s.laid (kept ks s.waits), waits := [] })

/-- What is still to be told from place i on. -/
def Rest (ks rest : List Int) (i : Nat) : Prop := rest.Pairwise (· ≤ ·) ∧ ∀ j : Nat, i ≤ j → ((j : Int) ∈ rest ↔ (j : Int) ∈ ks)
theorem Rest.start (ks : List Int) : Rest ks (sorted ks) 0 := by
  refine ⟨?_, fun j _ => by simp [sorted, List.mem_mergeSort]⟩
  have := List.pairwise_mergeSort (le := fun x y : Int => decide (x ≤ y)) (fun a b c h1 h2 => by simp only [decide_eq_true_eq] at *; omega) (fun a b => by simp only [Bool.or_eq_true, decide_eq_true_eq]; omega) ks
  exact this.imp (by intro a b h; simpa using h)
theorem Rest.drop {ks rest : List Int} {x : Int} {i : Nat} (h : Rest ks (x :: rest) i) (hx : x < i) : Rest ks rest i := by
  obtain ⟨h1, h2⟩ := h
  refine ⟨(List.pairwise_cons.1 h1).2, fun j hj => ?_⟩
  rw [← h2 j hj, List.mem_cons]
  constructor
  · exact Or.inr
  · rintro (e | h)
    · omega
    · exact h
theorem Rest.next {ks rest : List Int} {i : Nat} (h : Rest ks rest i) : Rest ks rest (i + 1) := ⟨h.1, fun j hj => h.2 j (by omega)⟩
theorem Rest.nil {ks : List Int} {i : Nat} (h : Rest ks [] i) : ∀ j : Nat, i ≤ j → (j : Int) ∉ ks := fun j hj hm => by
  have := (h.2 j hj).2 hm
  simp at this
theorem Rest.head {ks rest : List Int} {x : Int} {i : Nat} (h : Rest ks (x :: rest) i) (hx : ¬ x < i) : (i : Int) ∈ ks ↔ x = i := by
  rw [← h.2 i (Nat.le_refl _), List.mem_cons]
  constructor
  · rintro (e | e)
    · exact e.symm
    · have := (List.pairwise_cons.1 h.1).1 _ e
      omega
  · intro e
    exact .inl e.symm

end Go.Proofs.YtlpljedacohngaaGreatDoor
end

/-
  Crash: what it does to a disk. Conditions: the disk is held; the places told lie at their address.
-/

section
set_option maxRecDepth 100000
set_option linter.unusedSimpArgs false
set_option linter.unusedVariables false
namespace Go.Proofs.YtlpljedacohngaaGreatDoor
open Go.RowKit

/-- What the loop of layKept keeps of the laid bytes. -/
def KeptRel (N L : Nat) (s : St) (ks : List Int) (w : World) (i : Nat) (c : Int) (wr : World) : Prop :=
  Blk wr L 5 (U (layAll s.laid (kept ks (s.waits.take i))) ++ s.tl) ∧ Only [L] w wr ∧ c = ((kept ks (s.waits.take i)).length : Nat) ∧ N ≤ w.heap.size
/-- The list of the places still told, in memory of the call's own. -/
def ToldAt (N : Nat) (A : Option Addr) (cap : Nat) (rest : List Int) (wr : World) : Prop :=
  rest.length ≤ cap ∧ cap ≤ maxLen ∧ ∀ j x, rest[j]? = some x → ∃ g o, A = some ⟨g, o, none⟩ ∧ N ≤ g ∧ wr.cell? ⟨g, o + j, none⟩ = some (.int .i64 x)

theorem ToldAt.only {N : Nat} {A : Option Addr} {cap : Nat} {rest : List Int} {w wr : World} {S : List Nat} (h : ToldAt N A cap rest w) (ho : Only S w wr) (hS : ∀ k, k ∈ S → k < N) : ToldAt N A cap rest wr := by
  refine ⟨h.1, h.2.1, fun j x hx => ?_⟩
  obtain ⟨g, o, e, hg, hc⟩ := h.2.2 j x hx
  refine ⟨g, o, e, hg, ?_⟩
  rw [World.cell?_of_block (w := w) (ho.block g (World.block_lt_of_cell? w _ hc) (fun hs => by have := hS g hs; omega))]
  exact hc
theorem ToldAt.tail {N g o cap : Nat} {x : Int} {rest : List Int} {w : World} (h : ToldAt N (some ⟨g, o, none⟩) cap (x :: rest) w) : ToldAt N (some ⟨g, o + 1, none⟩) (cap - 1) rest w := by
  obtain ⟨h1, h2, h3⟩ := h
  refine ⟨by simp at h1; omega, by omega, fun j y hy => ?_⟩
  obtain ⟨g', o', e, hg, hc⟩ := h3 (j + 1) y (by simpa using hy)
  cases e
  exact ⟨g, o + 1, rfl, hg, by rw [← hc]; congr 2; omega⟩
theorem ToldAt.of_own {N : Nat} {w : World} {v : Value} {ks : List Int} (h : w.ownsRow N 3 1 v ks.length (ks.map (Value.int .i64))) : ∃ A cap, v = .slice A ks.length cap ∧ ToldAt N A cap ks w := by
  rcases h.2 with ⟨rfl, h0⟩ | ⟨g, cap, cur, rfl, hbase, hb, h1, h2, h3, h4⟩
  · have hk : ks = [] := List.eq_nil_of_length_eq_zero h0
    subst hk
    exact ⟨none, 0, rfl, by simp, by simp [maxLen], fun j x hx => by simp at hx⟩
  · refine ⟨some ⟨g, 0, none⟩, cap, rfl, h1, h2, fun j x hx => ⟨g, 0, rfl, hbase, ?_⟩⟩
    have := h.cells (g := g) rfl j (.int .i64 x) (by rw [List.getElem?_map, hx]; rfl)
    have hadd : (⟨g, 0, none⟩ : Addr).add j = ⟨g, 0 + j, none⟩ := by unfold Addr.add; split <;> simp_all
    rwa [hadd] at this

def lenV : Value → Nat
  | .slice _ n _ => n
  | _ => 0

/-- The loop has gone through all that is kept. -/
theorem kept_end {L : Nat} {s : St} {ks : List Int} {w w2 wr : World} {cn : Int} (h : KeptRel w.heap.size L s ks w2 s.waits.length cn wr) (le : Below w.heap.size w w2) :
    Ending.returned (.int .i64 cn) = .returned (.int .i64 ((kept ks s.waits).length : Nat)) ∧ Blk wr L 5 (U (layAll s.laid (kept ks s.waits)) ++ s.tl) ∧ Only [L] w wr := by
  obtain ⟨h1, h2, h3, _⟩ := h
  rw [List.take_length] at h1 h3
  exact ⟨by rw [h3], h1, (Only.of_below le).trans h2⟩
theorem kept_stop {N L : Nat} {s : St} {ks : List Int} {w2 wr : World} {cn : Int} {i : Nat} (h : KeptRel N L s ks w2 i cn wr) (hi : i ≤ s.waits.length) (hr : ∀ j : Nat, i ≤ j → (j : Int) ∉ ks) : KeptRel N L s ks w2 s.waits.length cn wr := by
  obtain ⟨h1, h2, h3, h4⟩ := h
  have e : kept ks (s.waits.take s.waits.length) = kept ks (s.waits.take i) := by
    rw [List.take_length]
    have := kept_none (ks := ks) (s.waits.take i) (s.waits.drop i) (by intro j hj; exact hr j (by simp at hj; omega))
    rwa [List.take_append_drop] at this
  unfold KeptRel
  rw [e]
  exact ⟨h1, h2, h3, h4⟩

theorem KeptRel.cn {N L : Nat} {s : St} {ks : List Int} {w2 wr : World} {cn : Int} {i : Nat} (h : KeptRel N L s ks w2 i cn wr) : 0 ≤ cn ∧ cn ≤ i := by
  have h3 := h.2.2.1
  have := kept_length ks (s.waits.take i)
  rw [List.length_take] at this
  omega
theorem kept_lay {N L : Nat} {s : St} {ks : List Int} {w2 wr w3 : World} {cn : Int} {i : Nat} {p : Int × List Int} (h : KeptRel N L s ks w2 i cn wr) (hb : Blk w3 L 5 (U (putS (layAll s.laid (kept ks (s.waits.take i))) p.1.toNat p.2) ++ s.tl)) (ho : Only [L] wr w3)
    (et : s.waits.take (i + 1) = s.waits.take i ++ [p]) (hti : (s.waits.take i).length = i) (hin : (i : Int) ∈ ks) : KeptRel N L s ks w2 (i + 1) (cn + 1) w3 := by
  obtain ⟨h1, h2, h3, h4⟩ := h
  have e : kept ks (s.waits.take (i + 1)) = kept ks (s.waits.take i) ++ [p] := by rw [et, kept_snoc, hti, if_pos hin]
  unfold KeptRel
  rw [e, layAll_snoc]
  exact ⟨hb, h2.trans ho, by rw [h3]; simp, h4⟩
theorem kept_pass {N L : Nat} {s : St} {ks : List Int} {w2 wr : World} {cn : Int} {i : Nat} {p : Int × List Int} (h : KeptRel N L s ks w2 i cn wr)
    (et : s.waits.take (i + 1) = s.waits.take i ++ [p]) (hti : (s.waits.take i).length = i) (hin : (i : Int) ∉ ks) : KeptRel N L s ks w2 (i + 1) cn wr := by
  have e : kept ks (s.waits.take (i + 1)) = kept ks (s.waits.take i) := by rw [et, kept_snoc, hti, if_neg hin]
  unfold KeptRel
  rw [e]
  exact h

end Go.Proofs.YtlpljedacohngaaGreatDoor
end

/-
  New, Power, Arm: what each does. Conditions: the disk is held (Power, Arm).
-/

section
set_option maxRecDepth 100000
set_option linter.unusedSimpArgs false
set_option linter.unusedVariables false
namespace Go.Proofs.YtlpljedacohngaaGreatDoor
open Go.RowKit

/-- A new disk of n sectors. -/
def fresh (n : Nat) : St := { on := true, armed := false, left := 0, n := n, lc := 64 * n, laid := List.replicate (64 * n) 0, tl := [], waits := [], wr := 0, fl := 0 }
theorem fresh_good {n : Nat} (h1 : 1 ≤ n) (h2 : n ≤ 4096) : Good (fresh n) :=
  ⟨by simp [fresh], h1, h2, by intro p hp; simp [fresh] at hp, Int.le_refl _, by simp [fresh], by simp [fresh], Int.le_refl _, by simp [fresh], Int.le_refl _, by simp [fresh], Nat.le_refl _⟩

theorem byte_info : (Tryz.prog.info? 5).map (fun i => (i.zero, i.size, i.bytes)) = some (some (.int .u8 0), 1, 1) := by kernel_rfl
theorem made_bytes (n : Nat) : madeCells #[.int .u8 0] n = (U (List.replicate n 0)).toArray := by
  apply Array.toList_inj.1
  rw [toList_madeCells_one]
  simp [U]
theorem make_bytes (w : World) (n : Int) (h0 : 0 ≤ n) (h1 : n ≤ 1000000) : (Instr.makeSlice 22 (.int .i64 n) (.int .i64 n)).run Tryz.prog w = .ok (.slice (some ⟨w.heap.size, 0, none⟩) n.toNat n.toNat) (w.alloc (.cells (U (List.replicate n.toNat 0)).toArray 5)) := by
  obtain ⟨i0, hi, hz0, hz1, hz2⟩ := info_parts byte_info
  have := run_make (P := Tryz.prog) w 22 5 i0 (.int .u8 0) (by kernel_rfl) hi hz0 .i64 .i64 n n h0 (Int.le_refl _) (by rw [hz2]; omega) (by omega)
  rw [this, hz1, Nat.mul_one, ← made_bytes]
  rfl

end Go.Proofs.YtlpljedacohngaaGreatDoor
end

/-
  The methods once more, in the words that the laws need: a disk that lives, and what a step leaves of other memory. Conditions: those of each contract.
-/

section
set_option maxRecDepth 100000
set_option linter.unusedSimpArgs false
set_option linter.unusedVariables false
namespace Go.Proofs.YtlpljedacohngaaGreatDoor
open Go.RowKit

/-- A slice of bytes in a block of its own, from block N on. -/
def HasBytes (N : Nat) (w : World) (v : Value) (xs : List Int) : Prop := ∃ g cap cs, v = .slice (some ⟨g, 0, none⟩) xs.length cap ∧ N ≤ g ∧ Blk w g 5 cs ∧ cs.take xs.length = U xs
theorem HasBytes.of_own {N : Nat} {w : World} {v : Value} {xs : List Int} (h : w.ownsRow N 5 1 v xs.length (U xs)) (hn : v ≠ .slice none 0 0) : HasBytes N w v xs := by
  rcases h.2 with ⟨rfl, _⟩ | ⟨g, cap, cur, rfl, hg, hb, _, _, _, ht⟩
  · exact absurd rfl hn
  · exact ⟨g, cap, cur.toList, rfl, hg, by simpa [Blk] using hb, by simpa using ht⟩
theorem HasBytes.more {N M : Nat} {w : World} {v : Value} {xs : List Int} (h : HasBytes N w v xs) (hM : M ≤ N) : HasBytes M w v xs := by
  obtain ⟨g, cap, cs, e, hg, hb, ht⟩ := h
  exact ⟨g, cap, cs, e, by omega, hb, ht⟩
theorem HasBytes.cells {N : Nat} {w : World} {v : Value} {xs : List Int} (h : HasBytes N w v xs) : ∃ g cap, v = .slice (some ⟨g, 0, none⟩) xs.length cap ∧ N ≤ g ∧ ∀ j u, (U xs)[j]? = some u → w.cell? ((⟨g, 0, none⟩ : Addr).add j) = some u := by
  obtain ⟨g, cap, cs, rfl, hg, hb, ht⟩ := h
  refine ⟨g, cap, rfl, hg, fun j u hu => ?_⟩
  rw [add_off, hb.cell, Nat.zero_add]
  rw [← ht, List.getElem?_take] at hu
  split at hu
  · exact hu
  · cases hu

theorem HasBytes.at_ {N : Nat} {w : World} {v : Value} {xs : List Int} (h : HasBytes N w v xs) {n : Nat} (hn : xs.length = n) : ∃ g cap, v = .slice (some ⟨g, 0, none⟩) n cap ∧ N ≤ g := by
  obtain ⟨g, cap, rfl, hg, _⟩ := h.cells
  exact ⟨g, cap, by rw [hn], hg⟩
theorem HasBytes.lt_ {N : Nat} {w : World} {v : Value} {xs : List Int} (h : HasBytes N w v xs) : ∀ g n c, v = .slice (some ⟨g, 0, none⟩) n c → g < w.heap.size := by
  obtain ⟨g, cap, cs, rfl, hg, hb, ht⟩ := h
  intro g' n c e
  cases e
  exact hb.lt
theorem HasBytes.grown {N : Nat} {w w' : World} {v : Value} {xs : List Int} {row : Option Nat} (h : HasBytes N w v xs) (hg : w.grownBy w' row) (hr : ∀ g, v.ownBlock = some g → some g ≠ row) : HasBytes N w' v xs := by
  obtain ⟨g, cap, cs, rfl, hN, hb, ht⟩ := h
  exact ⟨g, cap, cs, rfl, hN, hb.grown hg (hr g rfl), ht⟩
theorem HasBytes.of_blk {N : Nat} {w : World} {g : Nat} {xs : List Int} {n : Nat} (h : Blk w g 5 (U xs)) (hn : xs.length = n) (hN : N ≤ g) : HasBytes N w (.slice (some ⟨g, 0, none⟩) n n) xs :=
  ⟨g, n, U xs, by rw [hn], hN, h, by rw [List.take_of_length_le]; simp [U_length]⟩
theorem own_of_blk {N : Nat} {w : World} {g : Nat} {xs : List Int} {n : Nat} (h : Blk w g 5 (U xs)) (hn : xs.length = n) (hN : N ≤ g) (hm : n ≤ maxLen) : w.ownsRow N 5 1 (.slice (some ⟨g, 0, none⟩) n n) n (U xs) :=
  ⟨by rw [U_length, hn]; omega, .inr ⟨g, n, _, rfl, hN, h, Nat.le_refl _, hm, by simp [U_length, hn], by rw [List.take_of_length_le]; simp [U_length, hn]⟩⟩

end Go.Proofs.YtlpljedacohngaaGreatDoor
end

/-
  The laws' own helpers: a sector of one byte, bytes filled up to a sector, are two slices the same. Conditions: the slices' bytes lie at their addresses.
-/

section
set_option maxRecDepth 100000
set_option linter.unusedSimpArgs false
set_option linter.unusedVariables false
namespace Go.Proofs.YtlpljedacohngaaGreatDoor
open Go.RowKit

/-- The bytes of a slice lie at its address (nil, empty or not). -/
def BytesAt (w : World) (A : Option Addr) (xs : List Int) : Prop := 0 < xs.length → ∃ ad, A = some ad ∧ ∀ j x, xs[j]? = some x → w.cell? (ad.add j) = some (.int .u8 x)

def SameRel (xs ys : List Int) (w : World) (k : Nat) (wr : World) : Prop := xs.take k = ys.take k ∧ ∃ q, wr = w.drewN q
theorem same_step {xs ys : List Int} {k : Nat} {x y : Int} (h : xs.take k = ys.take k) (hx : xs[k]? = some x) (hy : ys[k]? = some y) (e : x = y) : xs.take (k + 1) = ys.take (k + 1) := by
  rw [List.take_add_one, List.take_add_one, hx, hy, h, e]
theorem same_no {xs ys : List Int} {k : Nat} {x y : Int} (hx : xs[k]? = some x) (hy : ys[k]? = some y) (e : x ≠ y) : (xs == ys) = false := by
  rw [beq_eq_false_iff_ne]
  rintro rfl
  rw [hx] at hy
  injection hy with hy
  exact e hy
theorem same_yes {xs ys : List Int} {n : Nat} (h : xs.take n = ys.take n) (hx : xs.length = n) (hy : ys.length = n) : (xs == ys) = true := by
  rw [List.take_of_length_le (by omega), List.take_of_length_le (by omega)] at h
  simp [h]

set_option maxHeartbeats 1000000 in
theorem same_walk (w : World) (A A' : Option Addr) (n n' c c' : Nat) (xs ys : List Int) (hx : xs.length = n) (hy : ys.length = n') (hbig : n ≤ 9223372036854775807) (h : BytesAt w A xs) (h' : BytesAt w A' ys) :
    Calls Tryz.prog 12 #[.slice A n c, .slice A' n' c'] w fun e w' => e = .returned (.bool (xs == ys)) ∧ ∃ q, w.drewN q = w' := by
  by_cases hne : n = n'
  · subst hne
    have hd : ((n : Int) != n) = false := by simp
    go_enter Tryz.func12, Tryz.ntmps12
    go_wp2_with fail
    have HX := Lib.hid (And.intro hx hy)
    have HA := Lib.hid h
    have HA' := Lib.hid h'
    clear hx hy h h' hd
    go_loopw [5] (fun i wr => ∃ k : Nat, k ≤ n ∧ i = .int .i64 k ∧ SameRel xs ys w k wr) (fun i _ => n - (intOf i).toNat)
    case atStart => exact ⟨0, Nat.zero_le _, rfl, rfl, 0, rfl⟩
    case round =>
      obtain ⟨k, hk, rfl, hpre, q, rfl⟩ := hrel
      have HP := Lib.hid hpre
      clear hpre
      by_cases hlt : k < n
      · obtain ⟨ad, rfl, hc⟩ := HA.out (by have := HX.out.1; omega)
        obtain ⟨ad', rfl, hc'⟩ := HA'.out (by have := HX.out.2; omega)
        obtain ⟨x, hx⟩ : ∃ x, xs[k]? = some x := ⟨_, List.getElem?_eq_getElem (by have := HX.out.1; omega)⟩
        obtain ⟨y, hy⟩ : ∃ y, ys[k]? = some y := ⟨_, List.getElem?_eq_getElem (by have := HX.out.2; omega)⟩
        have e1 := hc k x hx
        have e2 := hc' k y hy
        have HK := Lib.hid (And.intro hx hy)
        clear hc hc' hx hy
        by_cases hxy : x = y
        · have hb : (x != y) = false := by simp [hxy]
          have HE := Lib.hid hxy
          clear hxy
          go_wp2_with fail
          go_quiet (fail)
          go_wp2_with fail
          go_roundw
          case rel => exact ⟨k + 1, by omega, by go_num, same_step HP.out HK.out.1 HK.out.2 HE.out, _, rfl⟩
          case measure => simp [intOf]; omega
        · have hb : (x != y) = true := by rw [bne_iff_ne]; exact hxy
          have HE := Lib.hid hxy
          clear hxy
          go_wp2_with fail
          go_quiet (fail)
          go_wp2_with fail
          go_ret
          exact ⟨by rw [same_no HK.out.1 HK.out.2 HE.out]; rfl, _, (World.drewN_drewN _ _ _).symm⟩
      · obtain rfl : k = n := by omega
        go_wp2_with fail
        go_ret
        exact ⟨by rw [same_yes HP.out HX.out.1 HX.out.2]; rfl, _, rfl⟩
  · have hd : ((n : Int) != n') = true := by rw [bne_iff_ne]; omega
    have hq : (xs == ys) = false := by
      rw [beq_eq_false_iff_ne]
      rintro rfl
      omega
    rw [hq]
    clear hne hq hx hy h h'
    go_enter Tryz.func12, Tryz.ntmps12
    go_wp2_with fail
    go_ret
    exact ⟨rfl, 0, rfl⟩

def Z64 : List Int := List.replicate 64 0
/-- The first k bytes are c, the others 0. -/
def AllTo (c : Int) (k : Nat) : List Int := List.replicate k c ++ List.replicate (64 - k) 0
def AllRel (N : Nat) (c : Int) (w : World) (k : Nat) (wr : World) : Prop := Blk wr N 5 (U (AllTo c k)) ∧ Below N w wr
theorem AllTo.step (c : Int) (k : Nat) (hk : k < 64) : (U (AllTo c k)).set k (.int .u8 c) = U (AllTo c (k + 1)) := by
  unfold AllTo U
  rw [← List.map_set]
  congr 1
  rw [List.set_append_right _ _ (by simp)]
  simp only [List.length_replicate, Nat.sub_self]
  obtain ⟨m, hm⟩ : ∃ m, 64 - k = m + 1 := ⟨63 - k, by omega⟩
  rw [hm, List.replicate_succ, List.set_cons_zero, show 64 - (k + 1) = m by omega, List.replicate_succ']
  simp

/-- Bytes filled up, or cut, to a sector. -/
def full (xs : List Int) : List Int := xs.take 64 ++ List.replicate (64 - xs.length) 0
theorem full_length (xs : List Int) : (full xs).length = 64 := by simp [full]; omega
def FullTo (xs : List Int) (k : Nat) : List Int := xs.take k ++ List.replicate (64 - k) 0
def FullRel (N : Nat) (xs : List Int) (w : World) (k : Nat) (wr : World) : Prop := Blk wr N 5 (U (FullTo xs k)) ∧ Below N w wr
theorem FullTo.step (xs : List Int) (k : Nat) (x : Int) (hk : k < 64) (hx : xs[k]? = some x) : (U (FullTo xs k)).set k (.int .u8 x) = U (FullTo xs (k + 1)) := by
  have hl : k < xs.length := (List.getElem?_eq_some_iff.1 hx).1
  have ht : (xs.take k).length = k := by rw [List.length_take]; omega
  unfold FullTo U
  rw [← List.map_set]
  congr 1
  rw [List.set_append_right _ _ (by omega), ht, Nat.sub_self, List.take_add_one, hx]
  obtain ⟨m, hm⟩ : ∃ m, 64 - k = m + 1 := ⟨63 - k, by omega⟩
  rw [hm, List.replicate_succ, List.set_cons_zero, show 64 - (k + 1) = m by omega]
  simp
theorem FullTo.done (xs : List Int) (k : Nat) (h : k = xs.length ∧ k ≤ 64 ∨ k = 64 ∧ k ≤ xs.length) : FullTo xs k = full xs := by
  unfold FullTo full
  rcases h with ⟨rfl, h⟩ | ⟨rfl, h⟩
  · rw [List.take_of_length_le (Nat.le_refl _), List.take_of_length_le h]
  · rw [show 64 - 64 = 0 by omega, show 64 - xs.length = 0 by omega]

end Go.Proofs.YtlpljedacohngaaGreatDoor
end
