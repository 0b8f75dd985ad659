/-
  The checks of an entry, one by one. Conditions: the variables that paths' calls read hold what they must; the entries lie in memory.
-/
import Derived.Test.YtbckiembnakmhaaDoorM10
import Derived.Test.YtbckiembnakmhaaDoorM7
import Derived.Deep.RegionHeld3
import Derived.Lib.SlBytesConst
section
set_option linter.unusedSimpArgs false
set_option linter.unusedVariables false
set_option maxRecDepth 100000
namespace Go.Proofs.YtbckiembnakmhaaDoor
open Go.RowKit

theorem kindless_any (w : World) (x : Ev) (AH : Option Addr) (an ac : Nat) (SA : Option Addr) (sn sc : Nat) :
    Calls Tryd.prog 56 #[cdV x AH an ac SA sn sc] w fun e w' => e = .returned (.bool (kindlessE x.k)) ∧ Below w.heap.size w w' := by
  have HB := Lib.hid (pnew w (.cells (cdC x AH an ac SA sn sc).toArray 81))
  obtain ⟨PA, pn, pc, k, m, DA, dn, dc⟩ := x
  by_cases h0 : k = 0
  · subst h0
    go_enter Tryd.func56, Tryd.ntmps56
    go_wp2_with fail
    go_ret
    exact ⟨rfl, HB.out⟩
  · by_cases h1 : k = 1
    · subst h1
      go_enter Tryd.func56, Tryd.ntmps56
      go_wp2_with fail
      go_ret
      exact ⟨rfl, HB.out⟩
    · by_cases h2 : k = 2
      · subst h2
        go_enter Tryd.func56, Tryd.ntmps56
        go_wp2_with fail
        go_ret
        exact ⟨rfl, HB.out⟩
      · have HF : Hid (kindlessE k = true) := Lib.hid (by unfold kindlessE; simp [h0, h1, h2])
        go_enter Tryd.func56, Tryd.ntmps56
        go_wp2_with fail
        go_ret
        exact ⟨pret_bool (by rw [HF.out]; simp only [Bool.and_eq_true, bne_iff_ne, ne_eq]; exact ⟨⟨h0, h1⟩, h2⟩), HB.out⟩
theorem risky_any (w : World) (x : Ev) (AH : Option Addr) (an ac : Nat) (SA : Option Addr) (sn sc : Nat) :
    Calls Tryd.prog 57 #[cdV x AH an ac SA sn sc] w fun e w' => e = .returned (.bool (riskyE x.k x.m)) ∧ Below w.heap.size w w' := by
  have HB := Lib.hid (pnew w (.cells (cdC x AH an ac SA sn sc).toArray 81))
  obtain ⟨PA, pn, pc, k, m, DA, dn, dc⟩ := x
  go_enter Tryd.func57, Tryd.ntmps57
  go_wp2_with fail
  refine (safe_any _ k m 0 0).mono ?_
  rintro e w1 ⟨rfl, h1⟩
  have H1 := Lib.hid (HB.out.trans (h1.mono HB.out.size))
  clear h1
  go_wp2_with fail
  go_ret
  exact ⟨pret_bool rfl, H1.out⟩
theorem filled_any (w : World) (x : Ev) (AH : Option Addr) (an ac : Nat) (SA : Option Addr) (sn sc : Nat) (d : List B8) (hd : DIn w x.DA x.dn x.dc d) :
    Calls Tryd.prog 58 #[cdV x AH an ac SA sn sc] w fun e w' => e = .returned (.bool (filledE x.k d)) ∧ Below w.heap.size w w' := by
  have HB := Lib.hid (pnew w (.cells (cdC x AH an ac SA sn sc).toArray 81))
  have HF : Hid (filledE x.k d = (decide (x.k = 1) && decide (0 < x.dn))) := Lib.hid (by unfold filledE; rw [hd.len])
  clear hd
  obtain ⟨PA, pn, pc, k, m, DA, dn, dc⟩ := x
  by_cases h1 : k = 1
  · subst h1
    go_enter Tryd.func58, Tryd.ntmps58
    go_wp2_with fail
    go_ret
    exact ⟨pret_bool (by rw [HF.out]; simp), HB.out⟩
  · have HG : Hid (filledE k d = false) := Lib.hid (by rw [HF.out]; simp [h1])
    go_enter Tryd.func58, Tryd.ntmps58
    go_wp2_with fail
    go_ret
    exact ⟨pret_bool (by rw [HG.out]), HB.out⟩
theorem long_any (w : World) (x : Ev) (AH : Option Addr) (an ac : Nat) (SA : Option Addr) (sn sc : Nat) (d : List B8) (hd : DIn w x.DA x.dn x.dc d) :
    Calls Tryd.prog 59 #[cdV x AH an ac SA sn sc] w fun e w' => e = .returned (.bool (longE d)) ∧ Below w.heap.size w w' := by
  have HB := Lib.hid (pnew w (.cells (cdC x AH an ac SA sn sc).toArray 81))
  have HF : Hid (longE d = decide (512 < x.dn)) := Lib.hid (by unfold longE; rw [hd.len])
  clear hd
  obtain ⟨PA, pn, pc, k, m, DA, dn, dc⟩ := x
  go_enter Tryd.func59, Tryd.ntmps59
  go_wp2_with fail
  go_ret
  exact ⟨pret_bool (by rw [HF.out]; exact (Bool.eq_iff_iff.2 (by simp; omega))), HB.out⟩
theorem home_any (w : World) (hS : PSigns w) (x : Ev) (AH : Option Addr) (an ac : Nat) (SA : Option Addr) (sn sc : Nat) (p : Pa) (hp : SIn w x.PA x.pn x.pc p) :
    Calls Tryd.prog 75 #[cdV x AH an ac SA sn sc] w fun e w' => ∃ A' c', e = .returned (.slice A' (homeP p).length c') ∧ SIn w' A' (homeP p).length c' (homeP p) ∧ Below w.heap.size w w' := by
  have hb := pnew w (.cells (cdC x AH an ac SA sn sc).toArray 81)
  have HB := Lib.hid (And.intro hb (And.intro (hS.to hb) (hp.below hb)))
  clear hp hS hb
  obtain ⟨PA, pn, pc, k, m, DA, dn, dc⟩ := x
  go_enter Tryd.func75, Tryd.ntmps75
  go_wp2_with fail
  refine (psplit_any _ HB.out.2.1 PA pn pc p HB.out.2.2).mono ?_
  rintro e w1 ⟨A', c', s, z, rfl, h1, h2, h3⟩
  have H1 := Lib.hid (And.intro h1 (HB.out.1.trans (h3.mono HB.out.1.size)))
  clear h1 h2 h3
  go_wp2_with fail
  go_ret
  exact ⟨A', c', rfl, H1.out.1, H1.out.2⟩
end Go.Proofs.YtbckiembnakmhaaDoor
end

/-
  Where the first entry of a path is; whether a path was there, and its directory. Conditions: the variables that paths' calls read hold what they must; the entries lie in memory.
-/

section
set_option linter.unusedSimpArgs false
set_option linter.unusedVariables false
set_option maxRecDepth 100000
namespace Go.Proofs.YtbckiembnakmhaaDoor
open Go.RowKit

theorem evC_length (x : Ev) : (evC x).length = 4 := rfl
theorem infoEv : (Tryd.prog.info? 30).map (·.size) = some 4 := by kernel_rfl
/-- Is it an entry of this path? (the path lies in a box) -/
theorem isAt_any (w : World) (b : Nat) (x : Ev) (e : En) (B : Option Addr) (m d : Nat) (q : Pa) (hx : EvOk w x e) (hq : SIn w B m d q) (hc : w.cell? ⟨b, 0, none⟩ = some (.slice B m d)) :
    Calls Tryd.prog 33 #[.agg (evC x).toArray, .pointer (some ⟨b, 0, none⟩)] w fun en w' => en = .returned (.bool (decide (e.path = q))) ∧ Below w.heap.size w w' := by
  have hb := pnew w (.cells (evC x).toArray 30)
  have hk := Blk.new w 30 (evC x)
  have c0 : (w.alloc (.cells (evC x).toArray 30)).cell? ⟨w.heap.size, 0, none⟩ = some (.slice x.PA x.pn x.pc) := hk.cell 0
  have c2 := pcell_below hc hb
  have HB := Lib.hid (And.intro hb (psame_any _ x.PA B x.pn x.pc m d e.path q (hx.path.below hb) (hq.below hb)))
  obtain ⟨PA, pn, pc, k, md, DA, dn, dc⟩ := x
  clear hx hq hc hb hk
  go_enter Tryd.func33, Tryd.ntmps33
  go_wp2_with fail
  refine HB.out.2.mono ?_
  rintro en w1 ⟨rfl, h1⟩
  have H1 := Lib.hid (HB.out.1.trans (h1.mono HB.out.1.size))
  clear h1
  go_wp2_with fail
  go_ret
  exact ⟨rfl, H1.out⟩
/-- A place, as IndexFunc tells it. -/
def plN : Option Nat → Int
  | some i => i
  | none => -1
set_option maxHeartbeats 1000000 in
theorem index_at (w : World) (b : Nat) (A : Option Addr) (n c : Nat) (xs : List Ev) (es : List En) (h : EIn w A n c xs es) (B : Option Addr) (m d : Nat) (q : Pa) (hq : SIn w B m d q) (hc : w.cell? ⟨b, 0, none⟩ = some (.slice B m d)) :
    Calls Tryd.prog 32 #[.slice A n c, .func (.func 33) #[] #[.pointer (some ⟨b, 0, none⟩)]] w fun e w' => e = .returned (.int .i64 (plN (atE es q))) ∧ Below w.heap.size w w' := by
  have hbig : n ≤ 9223372036854775807 := by have := h.cap; have := h.big; omega
  have H := Lib.hid (And.intro h (And.intro hq hc))
  clear h hq hc
  go_enter Tryd.func32, Tryd.ntmps32
  go_wp2_with fail
  go_loopw [8] (fun iv wr => ∃ i : Nat, i ≤ n ∧ iv = .int .i64 i ∧ Hid (∀ (j : Nat) (y : En), j < i → es[j]? = some y → y.path ≠ q) ∧ Hid (Below w.heap.size w wr)) (fun iv _ => n - (intOf iv).toNat)
  case atStart => exact ⟨0, by omega, rfl, Lib.hid (fun j y h => absurd h (by omega)), Lib.hid (Below.refl _ _)⟩
  case round =>
    obtain ⟨i, hi, rfl, HK, HW⟩ := hrel
    by_cases hlt : i < n
    · obtain ⟨g, o, x, e, rfl, hg, hx, he, hok, hcl⟩ := (H.out.1.below HW.out).row hlt
      have HC := Lib.hid hcl
      have HE := Lib.hid he
      have HI := Lib.hid (isAt_any wr b x e B m d q hok (H.out.2.1.below HW.out) (pcell_below H.out.2.2 HW.out))
      clear hx he hok hcl
      go_wp2_with (refine wpList_load_mid rfl 30 (.tmp 14) rfl g (o + i * 4) rfl _ _ HC.out Tryd.underlying30 rfl infoEv ?_)
      refine HI.out.mono ?_
      rintro en w2 ⟨rfl, h2⟩
      have H2 := Lib.hid (HW.out.trans (h2.mono HW.out.size))
      clear h2
      by_cases hp : e.path = q
      · have hd : decide (e.path = q) = true := decide_eq_true hp
        have HP := Lib.hid hp
        rw [hd]
        clear hd hp
        go_wp2_with fail
        go_ret
        exact ⟨pret_num (by rw [ate_some es q i e HE.out HP.out HK.out]; rfl), H2.out⟩
      · have hd : decide (e.path = q) = false := decide_eq_false hp
        have HP := Lib.hid hp
        rw [hd]
        clear hd hp
        go_wp2_with fail
        go_roundw
        case rel => exact ⟨i + 1, by omega, by go_num, Lib.hid (fun j y hj hy => by
          by_cases hji : j < i
          · exact HK.out j y hji hy
          · obtain rfl : j = i := by omega
            rw [HE.out] at hy
            cases hy
            exact HP.out), H2⟩
        case measure => simp [intOf]; omega
    · obtain rfl : i = n := by omega
      have HQ : Hid (atE es q = none) := Lib.hid (ate_none es q fun j y hy => HK.out j y (by have := (List.getElem?_eq_some_iff.1 hy).1; have := H.out.1.elen; omega) hy)
      go_wp2_with fail
      go_ret
      exact ⟨pret_num (by rw [HQ.out]; rfl), HW.out⟩
theorem at_any12 (w : World) (A : Option Addr) (n c : Nat) (xs : List Ev) (es : List En) (h : EIn w A n c xs es) (B : Option Addr) (m d : Nat) (q : Pa) (hq : SIn w B m d q) :
    Calls Tryd.prog 21 #[.slice A n c, .slice B m d] w fun e w' => e = .returned (.int .i64 (plN (atE es q))) ∧ Below w.heap.size w w' := by
  have hmf : ∀ (fn : Fn) (first cap : Array Value) (w : World), (Instr.makeFunc fn first cap).run Tryd.prog w = .ok (.func fn first cap) w := fun _ _ _ _ => rfl
  have hb := pnew w (.cells #[.slice B m d] 23)
  have HI := Lib.hid (And.intro hb (index_at _ w.heap.size A n c xs es (h.below hb) B m d q (hq.below hb) ((Blk.new w 23 [.slice B m d]).cell 0)))
  clear h hq hb
  go_enter Tryd.func21, Tryd.ntmps21
  go_wp2_with fail
  refine HI.out.2.mono ?_
  rintro e w1 ⟨rfl, h1⟩
  have H1 := Lib.hid (HI.out.1.trans (h1.mono HI.out.1.size))
  clear h1
  go_wp2_with fail
  go_ret
  exact ⟨rfl, H1.out⟩
theorem plN_ge (o : Option Nat) : decide (0 ≤ plN o) = o.isSome := by
  cases o with
  | none => rfl
  | some i => simp [plN]
theorem twice_any (w : World) (x : Ev) (AH : Option Addr) (an ac : Nat) (SA : Option Addr) (sn sc : Nat) (p : Pa) (hp : SIn w x.PA x.pn x.pc p) (xs : List Ev) (es : List En) (h : EIn w AH an ac xs es) :
    Calls Tryd.prog 61 #[cdV x AH an ac SA sn sc] w fun e w' => e = .returned (.bool (twiceE es p)) ∧ Below w.heap.size w w' := by
  have hb := pnew w (.cells (cdC x AH an ac SA sn sc).toArray 81)
  have HB := Lib.hid (And.intro hb (at_any12 _ AH an ac xs es (h.below hb) x.PA x.pn x.pc p (hp.below hb)))
  have HF : Hid (twiceE es p = decide (0 ≤ plN (atE es p))) := Lib.hid (plN_ge _).symm
  clear hp h hb
  obtain ⟨PA, pn, pc, k, m, DA, dn, dc⟩ := x
  go_enter Tryd.func61, Tryd.ntmps61
  go_wp2_with fail
  refine HB.out.2.mono ?_
  rintro e w1 ⟨rfl, h1⟩
  have H1 := Lib.hid (HB.out.1.trans (h1.mono HB.out.1.size))
  clear h1
  go_wp2_with fail
  go_ret
  exact ⟨pret_bool (by rw [HF.out]), H1.out⟩
end Go.Proofs.YtbckiembnakmhaaDoor
end

/-
  The checks of an entry, the others: is its directory there, is its path a path's text, where does its link lead. Conditions: the variables that paths' calls read hold what they must; the entries lie in memory.
-/

section
set_option linter.unusedSimpArgs false
set_option linter.unusedVariables false
set_option maxRecDepth 100000
namespace Go.Proofs.YtbckiembnakmhaaDoor
open Go.RowKit

set_option maxHeartbeats 1000000 in
theorem nowhere_any (w : World) (hS : PSigns w) (x : Ev) (AH : Option Addr) (an ac : Nat) (SA : Option Addr) (sn sc : Nat) (p : Pa) (hp : SIn w x.PA x.pn x.pc p) (xs : List Ev) (es : List En) (h : EIn w AH an ac xs es) :
    Calls Tryd.prog 62 #[cdV x AH an ac SA sn sc] w fun e w' => e = .returned (.bool (nowhereE es p)) ∧ Below w.heap.size w w' := by
  have hb := pnew w (.cells (cdC x AH an ac SA sn sc).toArray 81)
  have hk := Blk.new w 81 (cdC x AH an ac SA sn sc)
  have HK := Lib.hid hk
  have HH := Lib.hid (home_any _ (hS.to hb) x AH an ac SA sn sc p (hp.below hb))
  have HB := Lib.hid (And.intro hb (h.below hb))
  have hbig : an ≤ 9223372036854775807 := by have := h.cap; have := h.big; omega
  clear hp h hb hk hS
  obtain ⟨PA, pn, pc, k, m, DA, dn, dc⟩ := x
  go_enter Tryd.func62, Tryd.ntmps62
  go_wp2_with fail
  refine HH.out.mono ?_
  rintro e w1 ⟨A', c', rfl, h1, h2⟩
  have hk1 := HK.out.below h2 HK.out.lt
  have c4 : w1.cell? ⟨w.heap.size, 4, none⟩ = some (.slice AH an ac) := hk1.cell 4
  have H1 := Lib.hid (And.intro h1 (And.intro (HB.out.2.below h2) (And.intro (HB.out.1.trans (h2.mono HB.out.1.size)) hk1)))
  clear h1 h2 hk1
  by_cases h0 : (homeP p).length = 0
  · have HF : Hid (nowhereE es p = false) := Lib.hid (by unfold nowhereE; rw [if_pos h0])
    rw [h0]
    clear h0
    go_wp2_with fail
    go_ret
    exact ⟨pret_bool (by rw [HF.out]), H1.out.2.2.1⟩
  · have HF : Hid (nowhereE es p = nowAt es (atE es (homeP p))) := Lib.hid (by unfold nowhereE; rw [if_neg h0])
    obtain ⟨q, hq⟩ : ∃ q, q = homeP p := ⟨_, rfl⟩
    rw [← hq] at HF H1 h0
    rw [← hq]
    obtain ⟨l, hl⟩ : ∃ l, l = q.length := ⟨_, rfl⟩
    rw [← hl] at H1 h0
    rw [← hl]
    clear hq hl
    have hl0 : ((l : Int) == 0) = false := by simpa using h0
    have hl1 : ¬ (l : Int) = 0 := by omega
    go_wp2_with fail
    refine (at_any12 w1 AH an ac xs es H1.out.2.1 A' l c' q H1.out.1).mono ?_
    rintro e w2 ⟨rfl, h2⟩
    have hk2 := H1.out.2.2.2.below h2 H1.out.2.2.2.lt
    clear c4
    have c4 : w2.cell? ⟨w.heap.size, 4, none⟩ = some (.slice AH an ac) := hk2.cell 4
    have H2 := Lib.hid (And.intro (H1.out.2.1.below h2) (And.intro (H1.out.2.2.1.trans (h2.mono H1.out.2.2.1.size)) hk2))
    clear h2 hk2
    cases ha : atE es q with
    | none =>
      rw [ha] at HF
      clear ha
      unfold plN
      go_wp2_with fail
      go_ret
      exact ⟨pret_bool (by rw [HF.out]; rfl), H2.out.2.1⟩
    | some i =>
      obtain ⟨e, he, _⟩ := ate_lt es q i ha
      rw [ha] at HF
      have hi : i < an := by
        have := (List.getElem?_eq_some_iff.1 he).1
        have := H2.out.1.elen
        omega
      obtain ⟨g, o, y, e', rfl, hg, hy, he', hok, hcl⟩ := H2.out.1.row hi
      rw [he] at he'
      cases he'
      have HG : Hid (nowhereE es p = !(decide (y.k = 1))) := Lib.hid (by rw [HF.out, nowAt_some he, hok.kind])
      have d1 : w2.cell? ⟨g, o + i * 4 + 1, none⟩ = some (.int .i64 y.k) := hcl 1 _ rfl
      have b1 : (i : Int) < (an : Int) := by omega
      have b0 : (0 : Int) ≤ (i : Int) := by omega
      have b2 : ¬ (i : Int) < 0 := by omega
      clear ha he hy hok hcl HF
      unfold plN
      go_wp2_with fail
      go_ret
      exact ⟨pret_bool (by rw [HG.out, decide_eq_false (show ¬ (i : Int) < 0 by omega), Bool.false_or]; exact congrArg (! ·) (Bool.eq_iff_iff.2 (by simp))), H2.out.2.1⟩
set_option maxHeartbeats 1000000 in
theorem pathless_any (w : World) (hV : PV w) (x : Ev) (AH : Option Addr) (an ac : Nat) (SA : Option Addr) (sn sc : Nat) (e : En) (hx : EvOk w x e) :
    Calls Tryd.prog 55 #[cdV x AH an ac SA sn sc] w fun en w' => en = .returned (.bool (pathlessE e.path)) ∧ Below w.heap.size w w' := by
  have hb := pnew w (.cells (cdC x AH an ac SA sn sc).toArray 81)
  have HK := Lib.hid (Blk.new w 81 (cdC x AH an ac SA sn sc))
  have HT := Lib.hid (ptext_any _ x.PA x.pn x.pc e.path (hx.path.below hb) (by rw [← hx.path.len]; exact hx.small.names) hx.small.text)
  have HB := Lib.hid (And.intro hb (And.intro (hV.to hb) (hx.path.below hb)))
  obtain ⟨p, hp⟩ : ∃ p, p = e.path := ⟨_, rfl⟩
  rw [← hp] at HT HB
  rw [← hp]
  clear hx hb hV hp
  obtain ⟨PA, pn, pc, k, m, DA, dn, dc⟩ := x
  go_enter Tryd.func55, Tryd.ntmps55
  go_wp2_with fail
  refine HT.out.mono ?_
  rintro en w1 ⟨rfl, h1⟩
  have hk1 := HK.out.below h1 HK.out.lt
  have H1 := Lib.hid (And.intro (HB.out.2.1.to h1) (And.intro (HB.out.2.2.below h1) (And.intro (HB.out.1.trans (h1.mono HB.out.1.size)) hk1)))
  clear h1 hk1
  go_wp2_with fail
  refine (parse_path w1 H1.out.1 (textP p)).mono ?_
  rintro en w2 ⟨B, c2, rfl, h2, _, h3⟩
  have hk2 := H1.out.2.2.2.below h3 H1.out.2.2.2.lt
  have c0 : w2.cell? ⟨w.heap.size, 0, none⟩ = some (.slice PA pn pc) := hk2.cell 0
  have H2 := Lib.hid (And.intro h2 (And.intro (H1.out.2.1.below h3) (H1.out.2.2.1.trans (h3.mono H1.out.2.2.1.size))))
  clear h2 h3 hk2
  have HF : Hid (pathlessE p = (!(decide ((parseB (textP p)).2 = 0)) || decide ((parseB (textP p)).1.length = 0) || !(decide ((parseB (textP p)).1 = p)))) := Lib.hid rfl
  obtain ⟨q, hq⟩ : ∃ q, q = (parseB (textP p)).1 := ⟨_, rfl⟩
  obtain ⟨z, hz⟩ : ∃ z, z = (parseB (textP p)).2 := ⟨_, rfl⟩
  rw [← hq] at H2
  rw [← hq, ← hz] at HF
  rw [← hq, ← hz]
  obtain ⟨l, hl⟩ : ∃ l, l = q.length := ⟨_, rfl⟩
  rw [← hl] at H2 HF
  rw [← hl]
  clear hq hz hl
  by_cases hz : z = 0
  · subst hz
    by_cases hl : l = 0
    · subst hl
      go_wp2_with fail
      go_ret
      exact ⟨pret_bool (by rw [HF.out]; rfl), H2.out.2.2⟩
    · have HG : Hid (pathlessE p = !(decide (q = p))) := Lib.hid (by rw [HF.out]; simp [hl])
      have hl0 : ((l : Int) == 0) = false := by simpa using hl
      have hl1 : ¬ (l : Int) = 0 := by omega
      clear HF
      go_wp2_with fail
      refine (psame_any w2 B PA l c2 pn pc q p H2.out.1 H2.out.2.1).mono ?_
      rintro en w3 ⟨rfl, h3⟩
      have H3 := Lib.hid (H2.out.2.2.trans (h3.mono H2.out.2.2.size))
      clear h3
      go_wp2_with fail
      go_ret
      exact ⟨pret_bool (by rw [HG.out]), H3.out⟩
  · have HG : Hid (pathlessE p = true) := Lib.hid (by rw [HF.out]; simp [hz])
    clear HF
    go_wp2_with fail
    go_ret
    exact ⟨pret_bool (by rw [HG.out]), H2.out.2.2⟩
end Go.Proofs.YtbckiembnakmhaaDoor
end

/-
  Where an entry's link leads. Conditions: the variables that paths' calls read hold what they must; the entry lies in memory.
-/

section
set_option linter.unusedSimpArgs false
set_option linter.unusedVariables false
set_option maxRecDepth 100000
namespace Go.Proofs.YtbckiembnakmhaaDoor
open Go.RowKit

theorem conv_txt {w : World} {A : Option Addr} {n c : Nat} {d : List B8} (h : DIn w A n c d) : (convert 28 9 (.slice A n c)).run Tryd.prog w = .ok (.string (txtB d)) w :=
  h.bytesIn.convert (by rw [List.length_map, h.len]) c _ _ _ Tryd.underlying28 Tryd.underlying5 Tryd.underlying9
theorem pref_any (w : World) (A B : Option Addr) (n c m d : Nat) (xs ys : List B8) (h : DIn w A n c xs) (k : DIn w B m d ys) :
    Calls Tryd.prog 43 #[.slice A n c, .slice B m d] w fun e w' => e = .returned (.bool (Lib.hasPrefix (Lib.bytesOf (xs.map nb)) (Lib.bytesOf (ys.map nb)))) ∧ w' = w :=
  Tryd.bytes_HasPrefix_all A B n c m d (xs.map nb) (ys.map nb) w (by rw [List.length_map, h.len]) (by rw [List.length_map, k.len]) h.cap h.bytesIn k.bytesIn
theorem nb47 : nb 47#8 = 47 := by simp [nb]
theorem din_slash (w : World) : DIn (w.alloc (.cells #[.int .u8 47] 5 (1, 2))) (some ⟨w.heap.size, 0, none⟩) 1 1 [47#8] := by
  refine ⟨rfl, Nat.le_refl _, by omega, (fun h => by cases h), fun _ => ⟨_, _, rfl, by simp, fun j u hu => ?_⟩⟩
  rw [Nat.zero_add]
  have := cell_of_row (w.alloc (.cells #[.int .u8 47] 5 (1, 2))) w.heap.size j #[.int .u8 47] 5 (1, 2) (heap_alloc_new w _)
  rw [this]
  rw [show Vb [47#8] = [Value.int .u8 47] by unfold Vb; rw [List.map_cons, nb47]; rfl] at hu
  simpa using hu
theorem conv_const (w : World) (C : Array Value) (n c : Nat) : (convert 28 28 (.slice (some ⟨w.heap.size, 0, none⟩) n c)).run Tryd.prog (w.alloc (.cells C 5)) = .ok (.slice (some ⟨w.heap.size, 0, none⟩) n c) (w.alloc (.cells C 5 (C.size, C.size + 1))) :=
  Lib.run_convert_bytes_const w 28 5 C n c Tryd.underlying28 Tryd.underlying5
/-- The cells of a candidate in its box. -/
def BoxAt (w : World) (b : Nat) (x : Ev) (AH : Option Addr) (an ac : Nat) (SA : Option Addr) (sn sc : Nat) : Prop :=
  w.cell? ⟨b, 0, none⟩ = some (.slice x.PA x.pn x.pc) ∧ w.cell? ⟨b, 1, none⟩ = some (.int .i64 x.k) ∧ w.cell? ⟨b, 2, none⟩ = some (.int .i64 x.m) ∧ w.cell? ⟨b, 3, none⟩ = some (.slice x.DA x.dn x.dc) ∧ w.cell? ⟨b, 4, none⟩ = some (.slice AH an ac) ∧ w.cell? ⟨b, 5, none⟩ = some (.slice SA sn sc)
theorem BoxAt.of {w : World} {b t : Nat} {x : Ev} {AH : Option Addr} {an ac : Nat} {SA : Option Addr} {sn sc : Nat} (h : Blk w b t (cdC x AH an ac SA sn sc)) : BoxAt w b x AH an ac SA sn sc := ⟨h.cell 0, h.cell 1, h.cell 2, h.cell 3, h.cell 4, h.cell 5⟩
set_option maxHeartbeats 2000000 in
theorem leads_any (w : World) (hV : PV w) (x : Ev) (AH : Option Addr) (an ac : Nat) (SA : Option Addr) (sn sc : Nat) (e : En) (hx : EvOk w x e) :
    Calls Tryd.prog 60 #[cdV x AH an ac SA sn sc] w fun en w' => en = .returned (.bool (leadsE e.path x.k e.data)) ∧ Below w.heap.size w w' := by
  have hb := pnew w (.cells (cdC x AH an ac SA sn sc).toArray 81)
  have HK := Lib.hid (Blk.new w 81 (cdC x AH an ac SA sn sc))
  have HB := Lib.hid (And.intro hb (And.intro (hV.to hb) (And.intro (hx.path.below hb) (hx.data.below hb))))
  obtain ⟨p, hp⟩ : ∃ p, p = e.path := ⟨_, rfl⟩
  obtain ⟨dt, hd⟩ : ∃ d, d = e.data := ⟨_, rfl⟩
  rw [← hp, ← hd] at HB
  rw [← hp, ← hd]
  clear hx hb hV hp hd
  obtain ⟨PA, pn, pc, k, m, DA, dn, dc⟩ := x
  by_cases hk : k = 2
  · subst hk
    have hcv := conv_txt HB.out.2.2.2
    have hcd := conv_txt (HB.out.2.2.2.below (pdrew _))
    have hh0 := (BoxAt.of HK.out)
    obtain ⟨y0, y1, y2, y3, y4, y5⟩ := hh0
    have HF : Hid (leadsE p 2 dt = (!(decide ((leadB (homeP p) (txtB dt)).2 = 0)) || Lib.hasPrefix (Lib.bytesOf (dt.map nb)) (Lib.bytesOf [47]))) := Lib.hid (by unfold leadsE; rfl)
    go_enter Tryd.func60, Tryd.ntmps60
    go_wp2_with fail
    go_region_held3 (fun w' => w'.cell? ⟨w.heap.size, 0, none⟩ = some (.slice PA pn pc) ∧ w'.cell? ⟨w.heap.size, 1, none⟩ = some (.int .i64 2) ∧ w'.cell? ⟨w.heap.size, 2, none⟩ = some (.int .i64 m) ∧ w'.cell? ⟨w.heap.size, 3, none⟩ = some (.slice DA dn dc) ∧ w'.cell? ⟨w.heap.size, 4, none⟩ = some (.slice AH an ac) ∧ w'.cell? ⟨w.heap.size, 5, none⟩ = some (.slice SA sn sc) ∧ (convert 28 9 (.slice DA dn dc)).run Tryd.prog w' = .ok (.string (txtB dt)) w')
      (first | exact ⟨y0, y1, y2, y3, y4, y5, hcd⟩ | exact ⟨y0, y1, y2, y3, y4, y5, hcv⟩ | exact ⟨z0, z1, z2, z3, z4, z5, hc5⟩ | exact ⟨v0, v1, v2, v3, v4, v5, hc6⟩)
      (first
        | (go_at_call 75; refine (home_any _ (HB.out.2.1.1.to (pdrew _)) ⟨PA, pn, pc, 2, m, DA, dn, dc⟩ AH an ac SA sn sc p (HB.out.2.2.1.below (pdrew _))).mono ?_; rintro e w5 ⟨A5, c5, rfl, hs, hW⟩; have hk5 := (HK.out.drew).below hW HK.out.lt; obtain ⟨z0, z1, z2, z3, z4, z5⟩ := BoxAt.of hk5; have hc5 := conv_txt ((HB.out.2.2.2.below (pdrew _)).below hW); have H5 := Lib.hid (And.intro hs (And.intro (HB.out.2.1.to ((pdrew _).trans (hW.mono (Nat.le_refl _)))) (And.intro ((HB.out.2.2.2.below (pdrew _)).below hW) (And.intro hk5 (HB.out.1.trans (((pdrew _).trans (hW.mono (Nat.le_refl _))).mono HB.out.1.size)))))); clear hs hW hk5)
        | (go_at_call 74; refine (lead_any _ H5.out.2.1 _ _ _ _ H5.out.1 (txtB dt)).mono ?_; rintro e w6 ⟨A6, c6, rfl, h6, _, hW6⟩; have hk6 := H5.out.2.2.2.1.below hW6 H5.out.2.2.2.1.lt; obtain ⟨v0, v1, v2, v3, v4, v5⟩ := BoxAt.of hk6; have hc6 := conv_txt (H5.out.2.2.1.below hW6); have H6 := Lib.hid (And.intro (H5.out.2.2.1.below hW6) (H5.out.2.2.2.2.trans (hW6.mono H5.out.2.2.2.2.size))); clear h6 hW6 hk6))
    all_goals (
      by_cases hz : (leadB (homeP p) (txtB dt)).2 = 0
      · have HG : Hid (leadsE p 2 dt = Lib.hasPrefix (Lib.bytesOf (dt.map nb)) (Lib.bytesOf [47])) := Lib.hid (by rw [HF.out, decide_eq_true hz]; rfl)
        rw [hz]
        clear hz HF
        have hcs := conv_const
        go_wp2_with (go_at_call 43; go_must (refine (pref_any _ DA _ dn dc 1 1 dt [47#8] (H6.out.1.below (pnew _ _)) (din_slash _)).mono ?_); rintro e w7 ⟨rfl, rfl⟩)
        go_ret
        exact ⟨pret_bool (by rw [HG.out, nb47]), H6.out.2.trans ((pnew _ _).mono H6.out.2.size)⟩
      · have HG : Hid (leadsE p 2 dt = true) := Lib.hid (by rw [HF.out, decide_eq_false hz]; rfl)
        clear HF
        go_wp2_with fail
        go_ret
        exact ⟨pret_bool (by rw [HG.out]), H6.out.2⟩)
  · have HF : Hid (leadsE p k dt = false) := Lib.hid (by unfold leadsE; rw [decide_eq_false hk]; rfl)
    go_enter Tryd.func60, Tryd.ntmps60
    go_wp2_with fail
    go_ret
    exact ⟨pret_bool (by rw [HF.out]), HB.out.1⟩
end Go.Proofs.YtbckiembnakmhaaDoor
end

/-
  Why an entry is refused: all checks, in order. Conditions: the variables that paths' calls read hold what they must; the entries lie in memory; whether the digest is bent is told.
-/

section
set_option linter.unusedSimpArgs false
set_option linter.unusedVariables false
set_option maxRecDepth 100000
namespace Go.Proofs.YtbckiembnakmhaaDoor
open Go.RowKit

/-- The checks' functions. -/
def chkF : Nat → FuncId
  | 0 => 55
  | 1 => 56
  | 2 => 57
  | 3 => 58
  | 4 => 59
  | 5 => 60
  | 6 => 61
  | 7 => 62
  | _ => 63
def chkC (i : Nat) : List Value := [.func (.func (chkF i)) #[] #[], .int .i64 (errE i)]
def chkCells : List Value := chkC 0 ++ (chkC 1 ++ (chkC 2 ++ (chkC 3 ++ (chkC 4 ++ (chkC 5 ++ (chkC 6 ++ (chkC 7 ++ chkC 8)))))))
theorem chk_enters (i : Nat) : ∀ args w, (callFunc (chkF i) args).run Tryd.prog w = .ok (.enter (chkF i) args) w := by
  match i with
  | 0 => exact enters_of Tryd.func55 (by kernel_rfl) rfl
  | 1 => exact enters_of Tryd.func56 (by kernel_rfl) rfl
  | 2 => exact enters_of Tryd.func57 (by kernel_rfl) rfl
  | 3 => exact enters_of Tryd.func58 (by kernel_rfl) rfl
  | 4 => exact enters_of Tryd.func59 (by kernel_rfl) rfl
  | 5 => exact enters_of Tryd.func60 (by kernel_rfl) rfl
  | 6 => exact enters_of Tryd.func61 (by kernel_rfl) rfl
  | 7 => exact enters_of Tryd.func62 (by kernel_rfl) rfl
  | i + 8 => exact enters_of Tryd.func63 (by kernel_rfl) rfl
theorem checks_any (w : World) : Calls Tryd.prog 46 #[] w fun e w' => e = .returned (.slice (some ⟨w.heap.size, 0, none⟩) 9 9) ∧ w' = w.alloc (.cells chkCells.toArray 96) := by
  go_enter Tryd.func46, Tryd.ntmps46
  go_wp2_with fail
  go_ret
  exact ⟨rfl, rfl⟩
theorem chk_row {w : World} {g t : Nat} (h : Blk w g t chkCells) (i : Nat) (hi : i < 9) : w.rangeAt g (i * 2) (chkC i) := by
  intro j v hj
  show w.cell? ⟨g, i * 2 + j, none⟩ = some v
  rw [h.cell]
  rcases (by omega : i = 0 ∨ i = 1 ∨ i = 2 ∨ i = 3 ∨ i = 4 ∨ i = 5 ∨ i = 6 ∨ i = 7 ∨ i = 8) with rfl | rfl | rfl | rfl | rfl | rfl | rfl | rfl | rfl
  all_goals (match j, hj with
    | 0, hj => exact hj
    | 1, hj => exact hj
    | j + 2, hj => simp [chkC] at hj)
/-- Each check, by its number. -/
theorem chk_call (w : World) (hV : PV w) (x : Ev) (AH : Option Addr) (an ac : Nat) (SA : Option Addr) (sn sc : Nat) (e : En) (hx : EvOk w x e) (xs : List Ev) (es : List En) (h : EIn w AH an ac xs es) (bt : Bool)
    (hbent : Calls Tryd.prog 63 #[cdV x AH an ac SA sn sc] w fun en w' => en = .returned (.bool bt) ∧ Below w.heap.size w w') (i : Nat) :
    Calls Tryd.prog (chkF i) #[cdV x AH an ac SA sn sc] w fun en w' => en = .returned (.bool (failE e es bt i)) ∧ Below w.heap.size w w' := by
  match i with
  | 0 => exact pathless_any w hV x AH an ac SA sn sc e hx
  | 1 =>
    have := kindless_any w x AH an ac SA sn sc
    rw [← hx.kind] at this
    exact this
  | 2 =>
    have := risky_any w x AH an ac SA sn sc
    rw [← hx.kind, ← hx.mode] at this
    exact this
  | 3 =>
    have := filled_any w x AH an ac SA sn sc e.data hx.data
    rw [← hx.kind] at this
    exact this
  | 4 => exact long_any w x AH an ac SA sn sc e.data hx.data
  | 5 =>
    have := leads_any w hV x AH an ac SA sn sc e hx
    rw [← hx.kind] at this
    exact this
  | 6 => exact twice_any w x AH an ac SA sn sc e.path hx.path xs es h
  | 7 => exact nowhere_any w hV.1 x AH an ac SA sn sc e.path hx.path xs es h
  | i + 8 => exact hbent
theorem infoChk : (Tryd.prog.info? 96).map (·.size) = some 2 := by kernel_rfl
set_option maxHeartbeats 2000000 in
theorem refusal_arch (w : World) (hV : PV w) (x : Ev) (AH : Option Addr) (an ac : Nat) (SA : Option Addr) (sn sc : Nat) (e : En) (hx : EvOk w x e) (xs : List Ev) (es : List En) (h : EIn w AH an ac xs es) (bt : Bool)
    (hbent : ∀ W, Below w.heap.size w W → Calls Tryd.prog 63 #[cdV x AH an ac SA sn sc] W fun en w' => en = .returned (.bool bt) ∧ Below W.heap.size W w') :
    Calls Tryd.prog 31 #[cdV x AH an ac SA sn sc] w fun en w' => en = .returned (.int .i64 (refE e es bt)) ∧ Below w.heap.size w w' := by
  have hb := pnew w (.cells (cdC x AH an ac SA sn sc).toArray 81)
  have hb2 := hb.trans ((pnew (w.alloc (.cells (cdC x AH an ac SA sn sc).toArray 81)) (.cells chkCells.toArray 96)).mono hb.size)
  have HK := Lib.hid ((Blk.new w 81 (cdC x AH an ac SA sn sc)).alloc (.cells chkCells.toArray 96))
  have HKC := Lib.hid (Blk.new (w.alloc (.cells (cdC x AH an ac SA sn sc).toArray 81)) 96 chkCells)
  have H := Lib.hid (And.intro hV (And.intro hx (And.intro h (And.intro hbent hb2))))
  clear hV hx h hbent hb hb2
  obtain ⟨PA, pn, pc, k, m, DA, dn, dc⟩ := x
  go_enter Tryd.func31, Tryd.ntmps31
  go_wp2_with fail
  refine (checks_any _).mono ?_
  rintro en w1 ⟨rfl, rfl⟩
  obtain ⟨w1, hw1⟩ : ∃ w1, w1 = ((w.alloc (.cells (cdC ⟨PA, pn, pc, k, m, DA, dn, dc⟩ AH an ac SA sn sc).toArray 81)).alloc (.cells chkCells.toArray 96)) := ⟨_, rfl⟩
  have hsz : (w.alloc (.cells (cdC ⟨PA, pn, pc, k, m, DA, dn, dc⟩ AH an ac SA sn sc).toArray 81)).heap.size = w.heap.size + 1 := by simp
  rw [← hw1] at HK HKC H
  rw [hsz] at HKC
  simp only [World.size_alloc]
  rw [← hw1]
  clear hsz hw1
  go_wp2_with fail
  go_loopw [7] (fun iv wr => ∃ i : Nat, i ≤ 9 ∧ iv = .int .i64 i ∧ Hid (∀ j, j < i → failE e es bt j = false) ∧ Hid (Below w1.heap.size w1 wr)) (fun iv _ => 9 - (intOf iv).toNat)
  case atStart => exact ⟨0, by omega, rfl, Lib.hid (fun j h => absurd h (by omega)), Lib.hid (Below.refl _ _)⟩
  case round =>
    obtain ⟨i, hi, rfl, HF, HW⟩ := hrel
    by_cases hlt : i < 9
    · have HR := Lib.hid (chk_row (HKC.out.below HW.out HKC.out.lt) i hlt)
      have hent := chk_enters i
      obtain ⟨F, hF⟩ : ∃ F, F = chkF i := ⟨_, rfl⟩
      obtain ⟨E, hE⟩ : ∃ E, E = errE i := ⟨_, rfl⟩
      have HX := Lib.hid (And.intro hF hE)
      have hcC : chkC i = [.func (.func F) #[] #[], .int .i64 E] := by rw [hF, hE]; rfl
      rw [hcC] at HR
      rw [← hF] at hent
      clear hF hE hcC
      have hk1 := HK.out.below HW.out HK.out.lt
      have HN := Lib.hid hk1
      clear hk1
      have r0 : wr.cell? ⟨w.heap.size + 1, i * 2, none⟩ = some (.func (.func F) #[] #[]) := HR.out 0 _ rfl
      have r1 : wr.cell? ⟨w.heap.size + 1, i * 2 + 1, none⟩ = some (.int .i64 E) := HR.out 1 _ rfl
      have HZ := Lib.hid (Blk.new wr 96 [.nilFunc, .int .i64 0])
      go_wp2_with (refine wpList_store_blk rfl 96 (.tmp 4) (.tmp 10) rfl wr.heap.size 0 [.func (.func F) #[] #[], .int .i64 E] rfl rfl HZ.out (by simp) infoChk (by intro u hu; simp at hu; rcases hu with rfl | rfl <;> rfl) ?_; intro w2 hA hO; rw [over_whole (by simp)] at hA; have q0 : w2.cell? ⟨wr.heap.size, 0, none⟩ = some (.func (.func F) #[] #[]) := hA.cell 0; have q1 : w2.cell? ⟨wr.heap.size, 1, none⟩ = some (.int .i64 E) := hA.cell 1; have hb2 : Below wr.heap.size wr w2 := (pnew wr _).trans (hO.below (B := wr.heap.size) (by simp) (by simp)); obtain ⟨z0, z1, z2, z3, z4, z5⟩ := BoxAt.of (HN.out.below hb2 HN.out.lt); have H2 := Lib.hid (And.intro hA (HW.out.trans (hb2.mono HW.out.size))); clear hA hO hb2)
      have hb12 := H.out.2.2.2.2.trans (H2.out.2.mono H.out.2.2.2.2.size)
      have hc := chk_call w2 (H.out.1.to hb12) ⟨PA, pn, pc, k, m, DA, dn, dc⟩ AH an ac SA sn sc e (H.out.2.1.below hb12) xs es (H.out.2.2.1.below hb12) bt (H.out.2.2.2.1 _ hb12) i
      rw [← HX.out.1] at hc
      refine hc.mono ?_
      rintro en w3 ⟨rfl, h3⟩
      have hk3 := H2.out.1.below h3 H2.out.1.lt
      have q1' : w3.cell? ⟨wr.heap.size, 1, none⟩ = some (.int .i64 E) := hk3.cell 1
      have H3 := Lib.hid (And.intro (H2.out.2.trans (h3.mono H2.out.2.size)) (hb12.trans (h3.mono hb12.size)))
      clear hc h3 hk3 hb12 q0 q1 z0 z1 z2 z3 z4 z5 r0 r1
      cases hf : failE e es bt i with
      | true =>
        have HE : Hid (refE e es bt = E) := Lib.hid (by rw [HX.out.2]; exact ref_found hlt HF.out hf)
        clear hf
        go_wp2_with fail
        go_ret
        exact ⟨pret_num (by rw [HE.out]), H3.out.2⟩
      | false =>
        have HE := Lib.hid hf
        clear hf
        go_wp2_with fail
        go_roundw
        case rel => exact ⟨i + 1, by omega, by go_num, Lib.hid (fun j hj => by
          by_cases hji : j < i
          · exact HF.out j hji
          · obtain rfl : j = i := by omega
            exact HE.out), Lib.hid H3.out.1⟩
        case measure => simp [intOf]; omega
    · obtain rfl : i = 9 := by omega
      have HE : Hid (refE e es bt = 0) := Lib.hid (ref_none HF.out)
      have HB := Lib.hid (H.out.2.2.2.2.trans (HW.out.mono H.out.2.2.2.2.size))
      go_wp2_with fail
      go_ret
      exact ⟨pret_num (by rw [HE.out]), HB.out⟩
end Go.Proofs.YtbckiembnakmhaaDoor
end

/-
  Check: the place of the first entry that is refused, and why. Conditions: the variables that paths' calls read hold what they must; the entries lie in memory.
-/

section
set_option linter.unusedSimpArgs false
set_option linter.unusedVariables false
set_option maxRecDepth 100000
namespace Go.Proofs.YtbckiembnakmhaaDoor
open Go.RowKit

/-- Nothing is told for its digest. -/
theorem bent_none (w : World) (x : Ev) (AH : Option Addr) (an ac : Nat) :
    Calls Tryd.prog 63 #[cdV x AH an ac none 0 0] w fun en w' => en = .returned (.bool false) ∧ Below w.heap.size w w' := by
  have hb := pnew w (.cells (cdC x AH an ac none 0 0).toArray 81)
  obtain ⟨y0, y1, y2, y3, y4, y5⟩ := BoxAt.of (Blk.new w 81 (cdC x AH an ac none 0 0))
  have HB := Lib.hid hb
  clear hb
  obtain ⟨PA, pn, pc, k, m, DA, dn, dc⟩ := x
  go_enter Tryd.func63, Tryd.ntmps63
  go_wp2_with fail
  refine wp_hideQ ?_
  intro QQ hQQ
  refine wp_region_quick [some 3, some 4, some 5, some 6, some 7, some 8, some 9, some 10, some 11, some 12, some 13, some 14, some 2] [isV (.pointer (some ⟨w.heap.size, 5, none⟩)), isV (.slice none 0 0), isV (.bool false), isV (.bool false), isV (undef), isV (undef), isV (undef), isV (undef), isV (undef), isV (undef), isV (undef), isV (.bool false), isV (.bool false)] 13 (by kernel_rfl) rfl rfl rfl (by kernel_rfl) (by simp [isV.st]) ?_ ?_
  · intro hq rz hz
    match rz, hz with
    | 0, _ =>
      refine StepL.val rfl [] (by decide +kernel) ?_
      intro v wx hR hd
      exact ⟨wanted_plain rfl _, _, _, x_field rfl (fill_off rfl rfl) (r_field (off := 5) (by kernel_rfl)), hR, Below.refl _ _, rfl⟩
    | 1, _ =>
      refine StepL.val rfl [0] (by decide +kernel) ?_
      intro v wx hR hd
      have h0 : v 0 = _ := hd 0 (by simp)
      exact ⟨wanted_plain rfl _, _, _, x_load rfl (hq.at_ rfl h0) (r_load (by kernel_rfl) (pcell_below y5 hR)), hR, Below.refl _ _, rfl⟩
    | 2, _ =>
      refine StepL.val rfl [1] (by decide +kernel) ?_
      intro v wx hR hd
      have h1 : v 1 = _ := hd 1 (by simp)
      exact ⟨wanted_plain rfl _, _, _, x_bin rfl (hq.at_ rfl h1) rfl (by kernel_rfl), hR, Below.refl _ _, rfl⟩
    | 3, _ =>
      refine StepL.val rfl [2] (by decide +kernel) ?_
      intro v wx hR hd
      have h2 : v 2 = _ := hd 2 (by simp)
      exact ⟨wanted_plain rfl _, _, _, x_move rfl (hq.at_ rfl h2), hR, Below.refl _ _, rfl⟩
    | 4, _ =>
      refine StepL.skip rfl [3] (by decide +kernel) ?_
      intro v wx hR hd
      have h3 : v 3 = _ := hd 3 (by simp)
      exact ⟨hq.no rfl rfl rfl h3 rfl, Below.refl _ _, rfl⟩
    | 5, _ =>
      refine StepL.skip rfl [3] (by decide +kernel) ?_
      intro v wx hR hd
      have h3 : v 3 = _ := hd 3 (by simp)
      exact ⟨hq.no rfl rfl rfl h3 rfl, Below.refl _ _, rfl⟩
    | 6, _ =>
      refine StepL.skip rfl [3] (by decide +kernel) ?_
      intro v wx hR hd
      have h3 : v 3 = _ := hd 3 (by simp)
      exact ⟨hq.no rfl rfl rfl h3 rfl, Below.refl _ _, rfl⟩
    | 7, _ =>
      refine StepL.skip rfl [3] (by decide +kernel) ?_
      intro v wx hR hd
      have h3 : v 3 = _ := hd 3 (by simp)
      exact ⟨hq.no rfl rfl rfl h3 rfl, Below.refl _ _, rfl⟩
    | 8, _ =>
      refine StepL.skip rfl [3] (by decide +kernel) ?_
      intro v wx hR hd
      have h3 : v 3 = _ := hd 3 (by simp)
      exact ⟨hq.no rfl rfl rfl h3 rfl, Below.refl _ _, rfl⟩
    | 9, _ =>
      refine StepL.skip rfl [3] (by decide +kernel) ?_
      intro v wx hR hd
      have h3 : v 3 = _ := hd 3 (by simp)
      exact ⟨hq.no rfl rfl rfl h3 rfl, Below.refl _ _, rfl⟩
    | 10, _ =>
      refine StepL.skip rfl [3] (by decide +kernel) ?_
      intro v wx hR hd
      have h3 : v 3 = _ := hd 3 (by simp)
      exact ⟨hq.no rfl rfl rfl h3 rfl, Below.refl _ _, rfl⟩
    | 11, _ =>
      refine StepL.val rfl [3, 10] (by decide +kernel) ?_
      intro v wx hR hd
      have h3 : v 3 = _ := hd 3 (by simp)
      have h10 : v 10 = _ := hd 10 (by simp)
      exact ⟨wanted_plain rfl _, _, _, x_pick_no rfl (hq.at_ rfl h3) rfl, hR, Below.refl _ _, rfl⟩
    | 12, _ =>
      refine StepL.val rfl [11] (by decide +kernel) ?_
      intro v wx hR hd
      have h11 : v 11 = _ := hd 11 (by simp)
      exact ⟨wanted_plain rfl _, _, _, x_assign rfl (hq.at_ rfl h11), hR, Below.refl _ _, rfl⟩
    | rz + 13, h => omega
  · intro v wx hR hV
    have h11 : v 11 = _ := hV 11 (by omega)
    have h12 : v 12 = _ := hV 12 (by omega)
    simp only [fillR, Act.put, List.setIfInBounds_toArray, List.set_cons_zero, List.set_cons_succ, h11, h12]
    have HR := Lib.hid (HB.out.trans (hR.mono HB.out.size))
    clear hV hR h11 h12 y0 y1 y2 y3 y4 y5
    go_wp2_with fail
    go_ret
    exact ⟨rfl, HR.out⟩
theorem build_cand (W : World) (x : Ev) (AH : Option Addr) (an ac : Nat) : (Instr.build 81 #[(0, evV x), (1, .slice AH an ac)]).run Tryd.prog W = .ok (cdV x AH an ac none 0 0) W := by kernel_rfl
set_option maxHeartbeats 4000000 in
theorem check_arch (w : World) (hV : PV w) (A : Option Addr) (n c : Nat) (xs : List Ev) (es : List En) (h : EIn w A n c xs es) :
    Calls Tryd.prog 20 #[.slice A n c] w fun e w' => e = .returned (.tuple #[.int .i64 ((chkE es).1 : Int), .int .i64 (chkE es).2]) ∧ Below w.heap.size w w' := by
  have hbig : n ≤ 9223372036854775807 := by have := h.cap; have := h.big; omega
  have hcap := h.cap
  by_cases h40 : 40 < n
  · have HF : Hid (chkE es = (40, 2)) := Lib.hid (by unfold chkE; rw [if_pos (by rw [h.elen]; exact h40)])
    clear h hV
    go_enter Tryd.func20, Tryd.ntmps20
    go_wp2_with fail
    go_ret2
    rw [HF.out]
    exact ⟨rfl, Below.refl _ _⟩
  · have HF : Hid (chkE es = chkFrom [] es) := Lib.hid (by unfold chkE; rw [if_neg (by rw [h.elen]; exact h40)])
    have H := Lib.hid (And.intro h hV)
    clear h hV
    go_enter Tryd.func20, Tryd.ntmps20
    go_wp2_with fail
    go_loopw [12] (fun iv wr => ∃ i : Nat, i ≤ n ∧ iv = .int .i64 i ∧ Hid (∀ (j : Nat) (y : En), j < i → es[j]? = some y → refE y (es.take j) false = 0) ∧ Hid (Below w.heap.size w wr)) (fun iv _ => n - (intOf iv).toNat)
    case atStart => exact ⟨0, by omega, rfl, Lib.hid (fun j y h => absurd h (by omega)), Lib.hid (Below.refl _ _)⟩
    case round =>
      obtain ⟨i, hi, rfl, HK, HW⟩ := hrel
      by_cases hlt : i < n
      · have hE := H.out.1.below HW.out
        obtain ⟨g, o, x, e, rfl, hg, hx, he, hok, hcl⟩ := hE.row hlt
        have HC := Lib.hid hcl
        have HE := Lib.hid (And.intro he (And.intro hok (hE.take (k := i) (c' := c) (by omega) (by omega) (Nat.le_refl _))))
        have HZ := Lib.hid (Blk.new wr 30 [.slice none 0 0, .int .i64 0, .int .i64 0, .slice none 0 0])
        clear hE hx he hok hcl
        go_wp2_with (first
          | (refine wpList_load_mid rfl 30 (.tmp 15) rfl g (o + i * 4) rfl _ _ HC.out Tryd.underlying30 rfl infoEv ?_)
          | (refine wpList_store_blk rfl 30 (.tmp 5) (.tmp 16) rfl wr.heap.size 0 (evC x) rfl rfl HZ.out (by simp [evC]) infoEv (by intro u hu; simp [evC] at hu; rcases hu with rfl | rfl | rfl | rfl <;> rfl) ?_; intro w2 hA hO; rw [over_whole (by simp [evC])] at hA; have hb2 : Below wr.heap.size wr w2 := (pnew wr _).trans (hO.below (B := wr.heap.size) (by simp) (by simp)); have H2 := Lib.hid (And.intro hA (And.intro (HW.out.trans (hb2.mono HW.out.size)) hb2)); clear hA hO hb2))
        have e0 : w2.cell? ⟨wr.heap.size, 0, none⟩ = some (.slice x.PA x.pn x.pc) := H2.out.1.cell 0
        have e1 : w2.cell? ⟨wr.heap.size, 1, none⟩ = some (.int .i64 x.k) := H2.out.1.cell 1
        have e2 : w2.cell? ⟨wr.heap.size, 2, none⟩ = some (.int .i64 x.m) := H2.out.1.cell 2
        have e3 : w2.cell? ⟨wr.heap.size, 3, none⟩ = some (.slice x.DA x.dn x.dc) := H2.out.1.cell 3
        have hbd := fun (W : World) => build_cand W x (some ⟨g, o, none⟩) i c
        have b1 : (0 : Int) ≤ (i : Int) := by omega
        have b2 : (i : Int) ≤ (n : Int) := by omega
        have b3 : (i : Int) ≤ (c : Int) := by omega
        have HV2 := Lib.hid (H.out.2.to (H2.out.2.1.trans ((pdrew w2).mono H2.out.2.1.size)))
        have HE2 := Lib.hid (And.intro ((HE.out.2.1.below H2.out.2.2).below (pdrew w2)) ((HE.out.2.2.below H2.out.2.2).below (pdrew w2)))
        go_region_held3 (fun w' => w'.cell? ⟨wr.heap.size, 0, none⟩ = some (.slice x.PA x.pn x.pc) ∧ w'.cell? ⟨wr.heap.size, 1, none⟩ = some (.int .i64 x.k) ∧ w'.cell? ⟨wr.heap.size, 2, none⟩ = some (.int .i64 x.m) ∧ w'.cell? ⟨wr.heap.size, 3, none⟩ = some (.slice x.DA x.dn x.dc))
          (first | exact ⟨f0, f1, f2, f3⟩ | exact ⟨e0, e1, e2, e3⟩)
          (first
            | (go_at_call 31; refine (refusal_arch _ HV2.out x (some ⟨g, o, none⟩) i c none 0 0 e HE2.out.1 (xs.take i) (es.take i) HE2.out.2 false (fun W _ => bent_none W x (some ⟨g, o, none⟩) i c)).mono ?_; rintro en w3 ⟨rfl, h3⟩; have f0 := pcell_drew e0 h3; have f1 := pcell_drew e1 h3; have f2 := pcell_drew e2 h3; have f3 := pcell_drew e3 h3; have H3 := Lib.hid (H2.out.2.1.trans (((pdrew w2).trans (h3.mono (Nat.le_refl _))).mono H2.out.2.1.size)); clear h3))
        by_cases hz : refE e (es.take i) false = 0
        · have HQ := Lib.hid hz
          rw [hz]
          clear hz
          go_wp2_with fail
          exact ⟨⟨i + 1, by omega, by go_num, Lib.hid (fun j y hj hy => by
            by_cases hji : j < i
            · exact HK.out j y hji hy
            · obtain rfl : j = i := by omega
              rw [HE.out.1] at hy
              cases hy
              exact HQ.out), H3⟩, by simp [intOf]; omega⟩
        · have HQ : Hid (chkE es = (i, refE e (es.take i) false)) := Lib.hid (by
            rw [HF.out, chk_stop es [] i e HE.out.1 (fun j y hj hy => by rw [List.nil_append]; exact HK.out j y hj hy) (by rw [List.nil_append]; exact hz)]
            simp)
          go_wp2_with fail
          (try rw [Exit.noGoto_ret])
          go_ret2
          rw [HQ.out]
          exact ⟨rfl, H3.out⟩
      · obtain rfl : i = n := by omega
        have HQ : Hid (chkE es = (es.length, 0)) := Lib.hid (by
          rw [HF.out, chk_all es [] (fun j y hy => by rw [List.nil_append]; exact HK.out j y (by have := (List.getElem?_eq_some_iff.1 hy).1; have := H.out.1.elen; omega) hy)]
          simp)
        have HL := Lib.hid H.out.1.elen
        go_wp2_with fail
        go_ret2
        rw [HQ.out, HL.out]
        exact ⟨rfl, HW.out⟩
end Go.Proofs.YtbckiembnakmhaaDoor
end
