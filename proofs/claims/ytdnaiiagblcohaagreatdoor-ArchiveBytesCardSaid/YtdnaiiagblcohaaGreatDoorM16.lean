/-
  Where the first entry of a path is; whether a path was there, and its directory. Conditions: the variables that paths' calls read hold what they must; the entries lie in memory.
-/
import Derived.Test.YtdnaiiagblcohaaGreatDoorM15
import Derived.Test.YtdnaiiagblcohaaGreatDoorM6
import Derived.Test.YtdnaiiagblcohaaGreatDoorM4
import Derived.Test.YtdnaiiagblcohaaGreatDoorM7
import Derived.Lib.ConvBytes
import Derived.Lib.AtoiErrMem
import Derived.Deep.RegionHeld3
import Derived.Lib.SlBytesConst
section
set_option linter.unusedSimpArgs false
set_option linter.unusedVariables false
set_option maxRecDepth 100000
namespace Go.Proofs.YtdnaiiagblcohaaGreatDoor
open Go.RowKit

theorem evC_length (x : Ev) : (evC x).length = 4 := rfl
theorem infoEv : (Tryz.prog.info? 52).map (·.size) = some 4 := by kernel_rfl
/-- Is it an entry of this path? (the path lies in a box) -/
theorem isAt_any (w : World) (b : Nat) (x : Ev) (e : En) (B : Option Addr) (m d : Nat) (q : Pa) (hx : EvOk w x e) (hq : SIn w B m d q) (hc : w.cell? ⟨b, 0, none⟩ = some (.slice B m d)) :
    Calls Tryz.prog 192 #[.agg (evC x).toArray, .pointer (some ⟨b, 0, none⟩)] w fun en w' => en = .returned (.bool (decide (e.path = q))) ∧ Below w.heap.size w w' := by
  have hb := pnew w (.cells (evC x).toArray 52)
  have hk := Blk.new w 52 (evC x)
  have c0 : (w.alloc (.cells (evC x).toArray 52)).cell? ⟨w.heap.size, 0, none⟩ = some (.slice x.PA x.pn x.pc) := hk.cell 0
  have c2 := pcell_below hc hb
  have HB := Lib.hid (And.intro hb (psame_any _ x.PA B x.pn x.pc m d e.path q (hx.path.below hb) (hq.below hb)))
  obtain ⟨PA, pn, pc, k, md, DA, dn, dc⟩ := x
  clear hx hq hc hb hk
  go_enter Tryz.func192, Tryz.ntmps192
  go_wp2_with fail
  refine HB.out.2.mono ?_
  rintro en w1 ⟨rfl, h1⟩
  have H1 := Lib.hid (HB.out.1.trans (h1.mono HB.out.1.size))
  clear h1
  go_wp2_with fail
  go_ret
  exact ⟨rfl, H1.out⟩
/-- A place, as IndexFunc tells it. -/
def plN : Option Nat → Int
  | some i => i
  | none => -1
set_option maxHeartbeats 1000000 in
theorem index_at (w : World) (b : Nat) (A : Option Addr) (n c : Nat) (xs : List Ev) (es : List En) (h : EIn w A n c xs es) (B : Option Addr) (m d : Nat) (q : Pa) (hq : SIn w B m d q) (hc : w.cell? ⟨b, 0, none⟩ = some (.slice B m d)) :
    Calls Tryz.prog 191 #[.slice A n c, .func (.func 192) #[] #[.pointer (some ⟨b, 0, none⟩)]] w fun e w' => e = .returned (.int .i64 (plN (atE es q))) ∧ Below w.heap.size w w' := by
  have hbig : n ≤ 9223372036854775807 := by have := h.cap; have := h.big; omega
  have H := Lib.hid (And.intro h (And.intro hq hc))
  clear h hq hc
  go_enter Tryz.func191, Tryz.ntmps191
  go_wp2_with fail
  go_loopw [8] (fun iv wr => ∃ i : Nat, i ≤ n ∧ iv = .int .i64 i ∧ Hid (∀ (j : Nat) (y : En), j < i → es[j]? = some y → y.path ≠ q) ∧ Hid (Below w.heap.size w wr)) (fun iv _ => n - (intOf iv).toNat)
  case atStart => exact ⟨0, by omega, rfl, Lib.hid (fun j y h => absurd h (by omega)), Lib.hid (Below.refl _ _)⟩
  case round =>
    obtain ⟨i, hi, rfl, HK, HW⟩ := hrel
    by_cases hlt : i < n
    · obtain ⟨g, o, x, e, rfl, hg, hx, he, hok, hcl⟩ := (H.out.1.below HW.out).row hlt
      have HC := Lib.hid hcl
      have HE := Lib.hid he
      have HI := Lib.hid (isAt_any wr b x e B m d q hok (H.out.2.1.below HW.out) (pcell_below H.out.2.2 HW.out))
      clear hx he hok hcl
      go_wp2_with (refine wpList_load_mid rfl 52 (.tmp 14) rfl g (o + i * 4) rfl _ _ HC.out Tryz.underlying52 rfl infoEv ?_)
      refine HI.out.mono ?_
      rintro en w2 ⟨rfl, h2⟩
      have H2 := Lib.hid (HW.out.trans (h2.mono HW.out.size))
      clear h2
      by_cases hp : e.path = q
      · have hd : decide (e.path = q) = true := decide_eq_true hp
        have HP := Lib.hid hp
        rw [hd]
        clear hd hp
        go_wp2_with fail
        go_ret
        exact ⟨pret_num (by rw [ate_some es q i e HE.out HP.out HK.out]; rfl), H2.out⟩
      · have hd : decide (e.path = q) = false := decide_eq_false hp
        have HP := Lib.hid hp
        rw [hd]
        clear hd hp
        go_wp2_with fail
        go_roundw
        case rel => exact ⟨i + 1, by omega, by go_num, Lib.hid (fun j y hj hy => by
          by_cases hji : j < i
          · exact HK.out j y hji hy
          · obtain rfl : j = i := by omega
            rw [HE.out] at hy
            cases hy
            exact HP.out), H2⟩
        case measure => simp [intOf]; omega
    · obtain rfl : i = n := by omega
      have HQ : Hid (atE es q = none) := Lib.hid (ate_none es q fun j y hy => HK.out j y (by have := (List.getElem?_eq_some_iff.1 hy).1; have := H.out.1.elen; omega) hy)
      go_wp2_with fail
      go_ret
      exact ⟨pret_num (by rw [HQ.out]; rfl), HW.out⟩
theorem at_any12 (w : World) (A : Option Addr) (n c : Nat) (xs : List Ev) (es : List En) (h : EIn w A n c xs es) (B : Option Addr) (m d : Nat) (q : Pa) (hq : SIn w B m d q) :
    Calls Tryz.prog 152 #[.slice A n c, .slice B m d] w fun e w' => e = .returned (.int .i64 (plN (atE es q))) ∧ Below w.heap.size w w' := by
  have hmf : ∀ (fn : Fn) (first cap : Array Value) (w : World), (Instr.makeFunc fn first cap).run Tryz.prog w = .ok (.func fn first cap) w := fun _ _ _ _ => rfl
  have hb := pnew w (.cells #[.slice B m d] 50)
  have HI := Lib.hid (And.intro hb (index_at _ w.heap.size A n c xs es (h.below hb) B m d q (hq.below hb) ((Blk.new w 50 [.slice B m d]).cell 0)))
  clear h hq hb
  go_enter Tryz.func152, Tryz.ntmps152
  go_wp2_with fail
  refine HI.out.2.mono ?_
  rintro e w1 ⟨rfl, h1⟩
  have H1 := Lib.hid (HI.out.1.trans (h1.mono HI.out.1.size))
  clear h1
  go_wp2_with fail
  go_ret
  exact ⟨rfl, H1.out⟩
theorem plN_ge (o : Option Nat) : decide (0 ≤ plN o) = o.isSome := by
  cases o with
  | none => rfl
  | some i => simp [plN]
theorem twice_any (w : World) (x : Ev) (AH : Option Addr) (an ac : Nat) (SA : Option Addr) (sn sc : Nat) (p : Pa) (hp : SIn w x.PA x.pn x.pc p) (xs : List Ev) (es : List En) (h : EIn w AH an ac xs es) :
    Calls Tryz.prog 118 #[cdV x AH an ac SA sn sc] w fun e w' => e = .returned (.bool (twiceE es p)) ∧ Below w.heap.size w w' := by
  have hb := pnew w (.cells (cdC x AH an ac SA sn sc).toArray 93)
  have HB := Lib.hid (And.intro hb (at_any12 _ AH an ac xs es (h.below hb) x.PA x.pn x.pc p (hp.below hb)))
  have HF : Hid (twiceE es p = decide (0 ≤ plN (atE es p))) := Lib.hid (plN_ge _).symm
  clear hp h hb
  obtain ⟨PA, pn, pc, k, m, DA, dn, dc⟩ := x
  go_enter Tryz.func118, Tryz.ntmps118
  go_wp2_with fail
  refine HB.out.2.mono ?_
  rintro e w1 ⟨rfl, h1⟩
  have H1 := Lib.hid (HB.out.1.trans (h1.mono HB.out.1.size))
  clear h1
  go_wp2_with fail
  go_ret
  exact ⟨pret_bool (by rw [HF.out]), H1.out⟩
end Go.Proofs.YtdnaiiagblcohaaGreatDoor
end

/-
  An entry that shares no memory with the one it is the same as; the first entry of a path. Condition: the entries lie in memory.
-/

section
set_option linter.unusedSimpArgs false
set_option linter.unusedVariables false
set_option maxRecDepth 100000
namespace Go.Proofs.YtdnaiiagblcohaaGreatDoor
open Go.RowKit

theorem four_ev {w : World} {g t : Nat} {x : Ev} (h : Blk w g t (evC x)) : w.cell? ⟨g, 0, none⟩ = some (.slice x.PA x.pn x.pc) ∧ w.cell? ⟨g, 1, none⟩ = some (.int .i64 x.k) ∧ w.cell? ⟨g, 2, none⟩ = some (.int .i64 x.m) ∧ w.cell? ⟨g, 3, none⟩ = some (.slice x.DA x.dn x.dc) := ⟨h.cell 0, h.cell 1, h.cell 2, h.cell 3⟩
set_option maxHeartbeats 2000000 in
theorem own12_any (w : World) (x : Ev) (e : En) (h : EvOk w x e) :
    Calls Tryz.prog 127 #[evV x] w fun en w' => ∃ y, en = .returned (evV y) ∧ OwnE w.heap.size w' y e ∧ Below w.heap.size w w' := by
  have hb0 := (pnew w (.cells (evC x).toArray 52)).trans ((pnew (w.alloc (.cells (evC x).toArray 52)) (.cells #[.slice none 0 0, .int .i64 0, .int .i64 0, .slice none 0 0] 52)).mono (pnew w _).size)
  have hk := (Blk.new w 52 (evC x)).alloc (.cells #[.slice none 0 0, .int .i64 0, .int .i64 0, .slice none 0 0] 52)
  have hz := Blk.new (w.alloc (.cells (evC x).toArray 52)) 52 [.slice none 0 0, .int .i64 0, .int .i64 0, .slice none 0 0]
  rw [World.size_alloc] at hz
  obtain ⟨PA, pn, pc, k, m, DA, dn, dc⟩ := x
  obtain ⟨w1, hw1⟩ : ∃ w1, w1 = (w.alloc (.cells #[.slice PA pn pc, .int .i64 k, .int .i64 m, .slice DA dn dc] 52)).alloc (.cells #[.slice none 0 0, .int .i64 0, .int .i64 0, .slice none 0 0] 52) := ⟨_, rfl⟩
  have H := Lib.hid h
  have H1 : Hid (Blk w1 w.heap.size 52 (evC ⟨PA, pn, pc, k, m, DA, dn, dc⟩) ∧ Blk w1 (w.heap.size + 1) 52 [.slice none 0 0, .int .i64 0, .int .i64 0, .slice none 0 0] ∧ Below w.heap.size w w1) := Lib.hid (by rw [hw1]; exact ⟨hk, hz, hb0⟩)
  clear h hb0 hk hz
  obtain ⟨y0, y1, y2, y3⟩ := four_ev H1.out.1
  go_enter Tryz.func127, Tryz.ntmps127
  go_upto_region 1 with fail
  rw [← hw1]
  clear hw1
  have HP := Lib.hid (H.out.path.below H1.out.2.2)
  have hpn : pn ≤ 1000000 := by have := H.out.small.names; rw [H.out.path.len] at this; exact this
  have hdn : dn ≤ 1000000 := by have := H.out.small.data; rw [H.out.data.len] at this; exact this
  go_wp2_with (first
    | (refine wpList_app (v := .slice none 0 0) (base := w.heap.size) (n := 0) rfl rfl Tryz.underlying50 str_info rfl (by decide) (strV e.path) rfl (World.ownsRow_nil _ _ _ _) rfl (by rw [strV_length, HP.out.len, Nat.mul_one]) (fun h0 => sin_rows HP.out h0) (strV_one _) (by omega) (by decide) H1.out.2.2.size ?_; intro v2 w2 k1 k2 k3; rw [Nat.zero_add, List.nil_append] at k1; obtain ⟨R2, c2, rfl⟩ := own_slice k1; have b2 : Below w1.heap.size w1 w2 := k2.below (Nat.le_refl _) (by simp [Value.ownBlock]); have hk2 := H1.out.1.below b2 H1.out.1.lt; have x0 := hk2.cell 0; have x3 := hk2.cell 3; have f0 := hk2.frozen 0; have f3 := hk2.frozen 3; have hbb : Below w.heap.size w (w2.setCell ⟨w.heap.size, 0, none⟩ (.slice R2 pn c2)) := (H1.out.2.2.trans (b2.mono H1.out.2.2.size)).setCell (p := ⟨w.heap.size, 0, none⟩) (Nat.le_refl _) _; have H2 := Lib.hid (And.intro (ownsRow_only k1 ((Only.refl [w.heap.size] w2).setCell (p := ⟨w.heap.size, 0, none⟩) (.inl (by simp)) (.slice R2 pn c2)) (fun q hq hm => own_blk_ne k1 hk2 (by decide) (by simp at hm; rw [hq, hm]))) (And.intro (hk2.set_ 0 (.slice R2 pn c2)) (And.intro hbb (And.intro ((H1.out.2.1.below b2 H1.out.2.1.lt).far (p := ⟨w.heap.size, 0, none⟩) (by simp) (.slice R2 pn c2)) (H.out.data.below hbb))))); clear k1 k2 k3 b2 hk2 hbb y0 y1 y2 y3; simp only [evC, List.getElem?_cons_zero, List.getElem?_cons_succ] at x0 x3)
    | (refine wpList_app (v := .slice none 0 0) (base := w.heap.size) (n := 0) rfl rfl Tryz.underlying26 byt_info rfl (by decide) (Vb e.data) rfl (World.ownsRow_nil _ _ _ _) rfl (by rw [Vb_length, H2.out.2.2.2.2.len, Nat.mul_one]) (fun h0 => din_rows H2.out.2.2.2.2 h0) (Vb_oneCell _) (by omega) (by decide) H2.out.2.2.1.size ?_; intro v3 w3 k1 k2 k3; rw [Nat.zero_add, List.nil_append] at k1; obtain ⟨R3, c3, rfl⟩ := own_slice k1; have b3 := k2.below (B := (w2.setCell ⟨w.heap.size, 0, none⟩ (.slice R2 pn c2)).heap.size) (Nat.le_refl _) (by simp [Value.ownBlock]); have hk3 := H2.out.2.1.below b3 H2.out.2.1.lt; have hz3 := H2.out.2.2.2.1.below b3 H2.out.2.2.2.1.lt; have H3 := Lib.hid (And.intro (ownsRow_only (S := []) H2.out.1 (Only.of_below b3) (by simp)) (And.intro k1 (And.intro hk3 (And.intro hz3 (H2.out.2.2.1.trans (b3.mono H2.out.2.2.1.size)))))); clear x0 x3 f0 f3; have x0 := hk3.cell 0; have x1 := hk3.cell 1; have x2 := hk3.cell 2; have x3 := hk3.cell 3; have f3 := hk3.frozen 3; clear k1 k2 k3 b3 hk3 hz3; simp only [evC, List.set_cons_zero, List.getElem?_cons_zero, List.getElem?_cons_succ] at x0 x1 x2 x3)
    | (refine wpList_store_blk rfl 52 (.tmp 2) (.tmp 11) rfl (w.heap.size + 1) 0 (evC ⟨R2, pn, c2, k, m, R3, dn, c3⟩) rfl rfl (H3.out.2.2.2.1.far (p := ⟨w.heap.size, 3, none⟩) (by simp) (.slice R3 dn c3)) (by simp [evC]) infoEv (evC_one _) ?_; intro w4 hA hO; rw [over_whole (by simp [evC])] at hA))
  obtain ⟨d0, d1, d2, d3⟩ := four_ev hA
  have o1 : Only [w.heap.size, w.heap.size + 1] w3 w4 := ((Only.refl [w.heap.size, w.heap.size + 1] w3).setCell (p := ⟨w.heap.size, 3, none⟩) (.inl (by simp)) (.slice R3 dn c3)).trans (hO.mono (fun q hq _ => by simp at hq; simp [hq]))
  have hr2 := ownsRow_only H3.out.1 o1 (fun q hq hm => by
    simp at hm
    rcases hm with rfl | rfl
    · exact own_blk_ne H3.out.1 H3.out.2.2.1 (by decide) hq
    · exact own_blk_ne H3.out.1 H3.out.2.2.2.1 (by decide) hq)
  have hr3 := ownsRow_only H3.out.2.1 o1 (fun q hq hm => by
    simp at hm
    rcases hm with rfl | rfl
    · exact own_blk_ne H3.out.2.1 H3.out.2.2.1 (by decide) hq
    · exact own_blk_ne H3.out.2.1 H3.out.2.2.2.1 (by decide) hq)
  have hb4 : Below w.heap.size w w4 := H3.out.2.2.2.2.trans (o1.below H3.out.2.2.2.2.size (fun q hq => by simp at hq; omega))
  refine bodyPost_ret (v := evV ⟨R2, pn, c2, k, m, R3, dn, c3⟩) (by simp [results, Tryz.results127, go_sem, d0, d1, d2, d3]) rfl ?_
  exact ⟨⟨R2, pn, c2, k, m, R3, dn, c3⟩, rfl, ⟨by rw [H.out.path.len]; exact hr2, H.out.kind, H.out.mode, by rw [H.out.data.len]; exact hr3, H.out.small⟩, hb4⟩
end Go.Proofs.YtdnaiiagblcohaaGreatDoor
end

/-
  The first entry of a path, as the program and as the document find it; how many files there are. Condition: the entries lie in memory.
-/

section
set_option linter.unusedSimpArgs false
set_option linter.unusedVariables false
set_option maxRecDepth 100000
namespace Go.Proofs.YtdnaiiagblcohaaGreatDoor
open Go.RowKit

theorem zero_ev_build (W : World) : (Instr.build 52 #[]).run Tryz.prog W = .ok (evV ⟨none, 0, 0, 0, 0, none, 0, 0⟩) W := by kernel_rfl
/-- What Find answers. -/
def FindOut (N : Nat) (es : List En) (q : Pa) (y : Ev) (z : Int) (w' : World) : Prop := match atE es q with
  | none => z = 7
  | some i => z = 0 ∧ ∃ e, es[i]? = some e ∧ OwnE N w' y e
set_option maxHeartbeats 1000000 in
/-- The document's Same, of paths. -/
theorem rsame05_any (w : World) (A B : Option Addr) (n c m d : Nat) (p q : Pa) (h : SIn w A n c p) (k : SIn w B m d q) :
    Calls Tryz.prog 50 #[.slice A n c, .slice B m d] w fun e w' => e = .returned (.bool (decide (p = q))) ∧ Below w.heap.size w w' := by
  have hbig : n ≤ 9223372036854775807 := by have := h.cap; have := h.big; omega
  have H := Lib.hid (And.intro h k)
  have HL := Lib.hid (And.intro h.len k.len)
  clear h k
  by_cases hnm : n = m
  · subst hnm
    go_enter Tryz.func50, Tryz.ntmps50
    go_wp2_with fail
    go_loopw [5] (fun iv wr => ∃ i : Nat, i ≤ n ∧ iv = .int .i64 i ∧ Hid (∀ (j : Nat) t u, j < i → p[j]? = some t → q[j]? = some u → t = u) ∧ Hid (Below w.heap.size w wr)) (fun iv _ => n - (intOf iv).toNat)
    case atStart => exact ⟨0, by omega, rfl, Lib.hid (fun j t u h => absurd h (by omega)), Lib.hid (Below.refl _ _)⟩
    case round =>
      obtain ⟨i, hi, rfl, HK, HW⟩ := hrel
      by_cases hlt : i < n
      · obtain ⟨t, ht⟩ := H.out.1.get hlt
        obtain ⟨u, hu⟩ := H.out.2.get hlt
        obtain ⟨g, o, rfl, hg, hcl⟩ := (H.out.1.below HW.out).cells (by omega)
        obtain ⟨g2, o2, rfl, hg2, hcl2⟩ := (H.out.2.below HW.out).cells (by omega)
        have hc := hcl i t ht
        have hc2 := hcl2 i u hu
        have HT := Lib.hid (And.intro ht hu)
        have b0 : (0 : Int) ≤ (i : Int) := by omega
        have b1 : (i : Int) < (n : Int) := by omega
        clear hcl ht hcl2 hu
        by_cases htu : t = u
        · subst htu
          go_wp2_with fail
          go_region_held3 (fun w' => w'.cell? ⟨g, o + i, none⟩ = some (.string t) ∧ w'.cell? ⟨g2, o2 + i, none⟩ = some (.string t)) (first | exact ⟨hc, hc2⟩) (first | go_in)
          all_goals (go_wp2_with fail)
          all_goals exact ⟨⟨i + 1, by omega, by go_num, Lib.hid (fun j x y hj hx hy => by
            by_cases h : j < i
            · exact HK.out j x y h hx hy
            · obtain rfl : j = i := by omega
              have h1 := HT.out.1
              have h2 := HT.out.2
              rw [hx] at h1
              rw [hy] at h2
              cases h1
              cases h2
              rfl), Lib.hid (HW.out.trans ((pdrew _).mono HW.out.size))⟩, by simp [intOf]; omega⟩
        · have hd := str_ne htu
          have HQ : Hid (decide (p = q) = false) := Lib.hid (decide_eq_false fun e => htu (by
            have h1 := HT.out.1
            have h2 := HT.out.2
            rw [e] at h1
            rw [h1] at h2
            cases h2
            rfl))
          go_wp2_with fail
          go_region_held3 (fun w' => w'.cell? ⟨g, o + i, none⟩ = some (.string t) ∧ w'.cell? ⟨g2, o2 + i, none⟩ = some (.string u)) (first | exact ⟨hc, hc2⟩) (first | go_in)
          all_goals (go_wp2_with fail)
          all_goals ((try rw [Exit.noGoto_ret]); go_ret; exact ⟨pret_bool (by rw [HQ.out]), HW.out.trans ((pdrew _).mono HW.out.size)⟩)
      · obtain rfl : i = n := by omega
        have HQ : Hid (decide (p = q) = true) := Lib.hid (decide_eq_true (pa_ext (by rw [HL.out.1, HL.out.2]) fun j x y hx hy => HK.out j x y (by have := (List.getElem?_eq_some_iff.1 hx).1; have := HL.out.1; omega) hx hy))
        go_wp2_with fail
        go_ret
        exact ⟨pret_bool (by rw [HQ.out]), HW.out⟩
  · have HQ : Hid (decide (p = q) = false) := Lib.hid (decide_eq_false (pa_ne_len (by rw [HL.out.1, HL.out.2]; exact hnm)))
    have hd : ¬ (n : Int) = m := by omega
    go_enter Tryz.func50, Tryz.ntmps50
    go_wp2_with fail
    go_ret
    exact ⟨pret_bool (by rw [HQ.out]), Below.refl _ _⟩
set_option maxHeartbeats 1000000 in
/-- The document's Find. -/
theorem rfind12_any (w : World) (A : Option Addr) (n c : Nat) (xs : List Ev) (es : List En) (h : EIn w A n c xs es) (B : Option Addr) (m d : Nat) (q : Pa) (hq : SIn w B m d q) :
    Calls Tryz.prog 79 #[.slice A n c, .slice B m d] w fun e w' => e = .returned (.int .i64 (plN (atE es q))) ∧ Below w.heap.size w w' := by
  have hbig : n ≤ 9223372036854775807 := by have := h.cap; have := h.big; omega
  have H := Lib.hid (And.intro h hq)
  clear h hq
  go_enter Tryz.func79, Tryz.ntmps79
  go_wp2_with fail
  go_loopw [5] (fun iv wr => ∃ i : Nat, i ≤ n ∧ iv = .int .i64 i ∧ Hid (∀ (j : Nat) (y : En), j < i → es[j]? = some y → y.path ≠ q) ∧ Hid (Below w.heap.size w wr)) (fun iv _ => n - (intOf iv).toNat)
  case atStart => exact ⟨0, by omega, rfl, Lib.hid (fun j y h => absurd h (by omega)), Lib.hid (Below.refl _ _)⟩
  case round =>
    obtain ⟨i, hi, rfl, HK, HW⟩ := hrel
    by_cases hlt : i < n
    · obtain ⟨g, o, x, e, rfl, hg, hx, he, hok, hcl⟩ := (H.out.1.below HW.out).row hlt
      have c0 : wr.cell? ⟨g, o + i * 4, none⟩ = some (.slice x.PA x.pn x.pc) := hcl 0 _ rfl
      have HE := Lib.hid he
      have HI := Lib.hid (rsame05_any wr x.PA B x.pn x.pc m d e.path q hok.path (H.out.2.below HW.out))
      clear hx he hok hcl
      go_wp2_with fail
      refine HI.out.mono ?_
      rintro en w2 ⟨rfl, h2⟩
      have H2 := Lib.hid (HW.out.trans (h2.mono HW.out.size))
      clear h2
      by_cases hp : e.path = q
      · have hd : decide (e.path = q) = true := decide_eq_true hp
        have HP := Lib.hid hp
        rw [hd]
        clear hd hp
        go_wp2_with fail
        go_ret
        exact ⟨pret_num (by rw [ate_some es q i e HE.out HP.out HK.out]; rfl), H2.out⟩
      · have hd : decide (e.path = q) = false := decide_eq_false hp
        have HP := Lib.hid hp
        rw [hd]
        clear hd hp
        go_wp2_with fail
        go_roundw
        case rel => exact ⟨i + 1, by omega, by go_num, Lib.hid (fun j y hj hy => by
          by_cases hji : j < i
          · exact HK.out j y hji hy
          · obtain rfl : j = i := by omega
            rw [HE.out] at hy
            cases hy
            exact HP.out), H2⟩
        case measure => simp [intOf]; omega
    · obtain rfl : i = n := by omega
      have HQ : Hid (atE es q = none) := Lib.hid (ate_none es q fun j y hy => HK.out j y (by have := (List.getElem?_eq_some_iff.1 hy).1; have := H.out.1.elen; omega) hy)
      go_wp2_with fail
      go_ret
      exact ⟨pret_num (by rw [HQ.out]; rfl), HW.out⟩
end Go.Proofs.YtdnaiiagblcohaaGreatDoor
end

/-
  ArchiveFronts, plainly: the first entries of a right archive, and one of its paths once more. Plain theorems; no condition.
-/

section
set_option linter.unusedSimpArgs false
set_option linter.unusedVariables false
set_option maxRecDepth 100000
namespace Go.Proofs.YtdnaiiagblcohaaGreatDoor
open Go.RowKit

theorem chk_spec : ∀ (es ahead : List En), ∃ k, k ≤ es.length ∧ (chkFrom ahead es).1 = ahead.length + k ∧ (∀ (j : Nat) x, j < k → es[j]? = some x → refE x (ahead ++ es.take j) false = 0) ∧ (((chkFrom ahead es).2 = 0 ∧ k = es.length) ∨ ((chkFrom ahead es).2 ≠ 0 ∧ k < es.length)) := by
  intro es
  induction es with
  | nil => intro ahead; exact ⟨0, Nat.le_refl _, rfl, fun j x h => absurd h (by omega), .inl ⟨rfl, rfl⟩⟩
  | cons e es ih =>
    intro ahead
    unfold chkFrom
    by_cases h : refE e ahead false = 0
    · rw [if_pos h]
      obtain ⟨k, h1, h2, h3, h4⟩ := ih (ahead ++ [e])
      refine ⟨k + 1, by simp; exact h1, by rw [h2, List.length_append]; simp; omega, fun j x hj hx => ?_, ?_⟩
      · cases j with
        | zero =>
          simp only [List.getElem?_cons_zero, Option.some.injEq] at hx
          subst hx
          simpa using h
        | succ j =>
          have := h3 j x (by omega) (by simpa using hx)
          rw [List.append_assoc] at this
          rw [List.take_succ_cons]
          exact this
      · rcases h4 with ⟨h5, h6⟩ | ⟨h5, h6⟩
        · exact .inl ⟨h5, by simp [h6]⟩
        · exact .inr ⟨h5, by simp; omega⟩
    · rw [if_neg h]
      exact ⟨0, Nat.zero_le _, rfl, fun j x hj => absurd hj (by omega), .inr ⟨h, by simp⟩⟩
theorem chkE_spec {ts : List En} (h40 : ts.length ≤ 40) : (chkE ts).1 ≤ ts.length ∧ (∀ (j : Nat) x, j < (chkE ts).1 → ts[j]? = some x → refE x (ts.take j) false = 0) ∧ ((chkE ts).2 = 0 → (chkE ts).1 = ts.length) := by
  have e : chkE ts = chkFrom [] ts := by unfold chkE; rw [if_neg (by omega)]
  obtain ⟨k, h1, h2, h3, h4⟩ := chk_spec ts []
  rw [List.length_nil, Nat.zero_add] at h2
  rw [e, h2]
  refine ⟨h1, fun j x hj hx => ?_, fun hz => ?_⟩
  · have := h3 j x hj hx
    rwa [List.nil_append] at this
  · rcases h4 with ⟨_, h6⟩ | ⟨h5, _⟩
    · exact h6
    · exact absurd hz h5
theorem chk_front {ts : List En} (h40 : ts.length ≤ 40) : chkE (ts.take (chkE ts).1) = ((chkE ts).1, 0) := by
  obtain ⟨h1, h2, _⟩ := chkE_spec h40
  have hl : (ts.take (chkE ts).1).length = (chkE ts).1 := by rw [List.length_take]; omega
  have e : chkE (ts.take (chkE ts).1) = chkFrom [] (ts.take (chkE ts).1) := by
    show (if 40 < (ts.take (chkE ts).1).length then ((40, 2) : Nat × Int) else chkFrom [] (ts.take (chkE ts).1)) = _
    rw [if_neg (by rw [hl]; omega)]
  rw [e, chk_all _ [] (fun j x hx => ?_), hl]
  · simp
  · rw [List.nil_append]
    rw [List.getElem?_take] at hx
    split at hx
    · rename_i hj
      rw [List.take_take, show min j (chkE ts).1 = j by omega]
      exact h2 j x hj hx
    · cases hx
theorem at_mem : ∀ {es : List En} {e : En}, e ∈ es → (atE es e.path).isSome = true := by
  intro es
  induction es with
  | nil => intro e h; cases h
  | cons x xs ih =>
    intro e h
    unfold atE
    split
    · rfl
    · rename_i hne
      rcases List.mem_cons.1 h with rfl | h
      · exact absurd rfl hne
      · rw [Option.isSome_map]
        exact ih h
theorem chk_twice {ts : List En} (h40 : ts.length ≤ 40) {n : Nat} {e : En} (hn : n < (chkE ts).1) (he : ts[n]? = some e) (h39 : (chkE ts).1 ≤ 39) : chkE (ts.take (chkE ts).1 ++ [e]) = ((chkE ts).1, 8) := by
  obtain ⟨h1, h2, _⟩ := chkE_spec h40
  obtain ⟨k, hk⟩ : ∃ k, k = (chkE ts).1 := ⟨_, rfl⟩
  rw [← hk] at h1 h2 hn h39 ⊢
  have hl : (ts.take k).length = k := by rw [List.length_take]; omega
  have hz := ref_all (h2 n e hn he)
  have hr : refE e (ts.take k) false = 8 := by
    have hm : e ∈ ts.take k := by
      refine List.mem_of_getElem? (i := n) ?_
      rw [List.getElem?_take, if_pos hn]
      exact he
    refine ref_found (k := 6) (by omega) (fun j hj => ?_) (at_mem hm)
    have := hz j (by omega)
    match j, hj with
    | 0, _ | 1, _ | 2, _ | 3, _ | 4, _ | 5, _ => exact this
    | j + 6, h => omega
  have e2 : chkE (ts.take k ++ [e]) = chkFrom [] (ts.take k ++ [e]) := by unfold chkE; rw [if_neg (by rw [List.length_append, hl]; simp; omega)]
  have hat : (ts.take k ++ [e])[k]? = some e := by
    rw [List.getElem?_append_right (by omega), hl, Nat.sub_self]
    rfl
  have htk : (ts.take k ++ [e]).take k = ts.take k := by rw [List.take_left' hl]
  rw [e2, chk_stop _ [] k e hat (fun j x hj hx => ?_) (by rw [List.nil_append, htk, hr]; decide), List.nil_append, htk, hr]
  · simp
  · rw [List.nil_append]
    rw [List.getElem?_append_left (by omega), List.getElem?_take, if_pos hj] at hx
    rw [List.take_append_of_le_length (by omega), List.take_take, show min j k = j by omega]
    exact h2 j x hj hx
theorem toEs_length (es : List En) : (toEs es).length ≤ 41 := by unfold toEs; rw [List.length_map, List.length_take]; omega
/-- The cells of a row of entries. -/
theorem EIn.rows {w : World} {A : Option Addr} {n c : Nat} {xs : List Ev} {es : List En} (h : EIn w A n c xs es) (h0 : 0 < n) : ∃ g off, A = some ⟨g, off, Option.none⟩ ∧ ∀ (j : Nat) u, (rowE xs)[j]? = some u → w.cell? ⟨g, off + j, Option.none⟩ = some u := by
  obtain ⟨g, o, hA, _, hc⟩ := h.cells h0
  refine ⟨g, o, hA, fun j u hu => ?_⟩
  have hj : j < xs.length * 4 := by
    have := (List.getElem?_eq_some_iff.1 hu).1
    rw [rowE_length] at this
    exact this
  have hx := List.getElem?_eq_getElem (l := xs) (i := j / 4) (by omega)
  obtain ⟨x, hxe⟩ : ∃ x, x = xs[j / 4]'(by omega) := ⟨_, rfl⟩
  rw [← hxe] at hx
  have hv := List.getElem?_eq_getElem (l := evC x) (i := j % 4) (by show j % 4 < 4; omega)
  have h1 := rowE_get xs (j / 4) x hx (j % 4) _ hv
  rw [show j / 4 * 4 + j % 4 = j by omega, hu] at h1
  cases h1
  have := hc (j / 4) x hx (j % 4) _ hv
  rw [show o + j / 4 * 4 + j % 4 = o + j by omega] at this
  exact this
theorem rowE_one (xs : List Ev) : ∀ u ∈ rowE xs, u.oneCell' = true := by
  intro u hu
  unfold rowE at hu
  obtain ⟨x, _, hx⟩ := List.mem_flatMap.1 hu
  exact evC_one x u hx
/-- Entries in a row of the call's own. -/
theorem ein_row {N T n : Nat} {w : World} {v : Value} {xs : List Ev} {es : List En} (h : w.ownsRow N T 4 v n (rowE xs)) (hl : xs.length = n) (hl2 : es.length = n) (hok : ∀ (i : Nat) x e, xs[i]? = some x → es[i]? = some e → EvOk w x e) :
    ∃ A c, v = .slice A n c ∧ EIn w A n c xs es := by
  subst hl
  rcases h.2 with ⟨rfl, h0⟩ | ⟨g, cap, cur, rfl, hg, hb, h1, h2, h3, h4⟩
  · exact ⟨none, 0, by rw [h0], ⟨rfl, hl2, by omega, by omega, fun _ => rfl, fun hp => absurd hp (by omega), hok⟩⟩
  · refine ⟨_, _, rfl, ⟨rfl, hl2, by omega, by unfold maxLen at h2; omega, (fun ha => by cases ha), fun hp => ⟨g, 0, rfl, (Array.getElem?_eq_some_iff.1 hb).1, fun i x hx j u hu => ?_⟩, hok⟩⟩
    have hk : Blk w g T cur.toList := by simpa [Blk] using hb
    rw [hk.cell, Nat.zero_add]
    have := rowE_get xs i x hx j u hu
    rw [← h4, List.getElem?_take] at this
    split at this
    · exact this
    · cases this
end Go.Proofs.YtdnaiiagblcohaaGreatDoor
end

/-
  How many files there are, and how many bytes; the digest of each entry's bytes. Conditions: the entries lie in memory; the constants lie in their variable.
-/

section
set_option linter.unusedSimpArgs false
set_option linter.unusedVariables false
set_option maxRecDepth 100000
namespace Go.Proofs.YtdnaiiagblcohaaGreatDoor
open Go.RowKit

def filesE (es : List En) : Nat := (es.map fun e => if e.kind = 0 then 1 else 0).sum
def sizeE (es : List En) : Nat := (es.map fun e => if e.kind = 0 then e.data.length else 0).sum
theorem files_next {es : List En} {i : Nat} {e : En} (h : es[i]? = some e) : filesE (es.take (i + 1)) = filesE (es.take i) + if e.kind = 0 then 1 else 0 := by
  unfold filesE
  rw [List.take_add_one, h, Option.toList_some, List.map_append, List.sum_append]
  simp
theorem size_next {es : List En} {i : Nat} {e : En} (h : es[i]? = some e) : sizeE (es.take (i + 1)) = sizeE (es.take i) + if e.kind = 0 then e.data.length else 0 := by
  unfold sizeE
  rw [List.take_add_one, h, Option.toList_some, List.map_append, List.sum_append]
  simp
theorem sums_small {es : List En} (h : ∀ e ∈ es, SmallE e) : ∀ i, filesE (es.take i) ≤ i ∧ sizeE (es.take i) ≤ i * 1000000 := by
  intro i
  induction i with
  | zero => simp [filesE, sizeE]
  | succ i ih =>
    cases he : es[i]? with
    | none =>
      have : es.take (i + 1) = es.take i := by
        rw [List.take_add_one, he]
        simp
      rw [this]
      omega
    | some e =>
      rw [files_next he, size_next he]
      have := (h e (List.mem_of_getElem? he)).data
      split <;> omega
theorem EIn.smalls {w : World} {A : Option Addr} {n c : Nat} {xs : List Ev} {es : List En} (h : EIn w A n c xs es) : ∀ e ∈ es, SmallE e := by
  intro e he
  obtain ⟨i, hi⟩ := List.getElem?_of_mem he
  have hl := (List.getElem?_eq_some_iff.1 hi).1
  obtain ⟨x, e', h1, h2, h3⟩ := h.get (i := i) (by rw [← h.elen]; exact hl)
  rw [hi] at h2
  cases h2
  exact h3.small
end Go.Proofs.YtdnaiiagblcohaaGreatDoor
end

/-
  The digest of each entry's bytes. Conditions: the entries lie in memory; the constants lie in their variable.
-/

section
set_option linter.unusedSimpArgs false
set_option linter.unusedVariables false
set_option maxRecDepth 100000
namespace Go.Proofs.YtdnaiiagblcohaaGreatDoor
open Go.RowKit

theorem slice_bs (W : World) (A : Option Addr) (n c : Nat) : (Instr.buildSlice 157 1 #[(0, .slice A n c)]).run Tryz.prog W = .ok (.slice (some ⟨W.heap.size, 0, none⟩) 1 1) (W.alloc (.cells #[.slice A n c] 26)) := by kernel_rfl
theorem dg_info : (Tryz.prog.info? 154).map (fun i => (i.zero, i.size, i.bytes)) = some (some (.agg (List.replicate 32 (Value.int .u8 0)).toArray), 32, 32) := by kernel_rfl
/-- The digests' cells, one behind the other. -/
def rowD (ks : List B32) (es : List En) : List Value := es.flatMap fun e => Vb (sha ks e.data)
theorem rowD_next {ks : List B32} {es : List En} {i : Nat} {e : En} (h : es[i]? = some e) : rowD ks (es.take (i + 1)) = rowD ks (es.take i) ++ Vb (sha ks e.data) := by
  unfold rowD
  rw [List.take_add_one, h, Option.toList_some]
  simp
theorem txts_one {w : World} {q g : Nat} {A : Option Addr} {n c : Nat} {d : List B8} (hk : Blk w g 26 [.slice A n c]) (h : DIn w A n c d) (hq : w.heap.size ≤ q) : Txts w q (some ⟨g, 0, none⟩) 1 [d] := by
  refine ⟨rfl, fun _ => ⟨g, 0, rfl, by have := hk.lt; omega, fun i x hx => ?_⟩⟩
  have hi : i = 0 := by
    have := (List.getElem?_eq_some_iff.1 hx).1
    simp at this
    omega
  subst hi
  simp only [List.getElem?_cons_zero, Option.some.injEq] at hx
  subst hx
  exact ⟨A, n, c, (hk.cell 0).trans rfl, h.txt hq⟩
end Go.Proofs.YtdnaiiagblcohaaGreatDoor
end

/-
  The sum that binds an entry's path and bytes. Conditions: the entry lies in memory; the constants lie in their variable.
-/

section
set_option linter.unusedSimpArgs false
set_option linter.unusedVariables false
set_option maxRecDepth 100000
namespace Go.Proofs.YtdnaiiagblcohaaGreatDoor
open Go.RowKit

theorem conv_str (W : World) (s : ByteArray) : (convert 9 26 (.string s)).run Tryz.prog W = .ok (.slice (some ⟨W.heap.size, 0, none⟩) s.size (grownCap W s.size 0 5)) (Lib.bytesWorld W 5 s) :=
  Lib.run_convert_string_bytes W 9 26 5 s Tryz.underlying9 Tryz.underlying26 Tryz.underlying5
def bytB (s : ByteArray) : List B8 := s.data.toList.map (·.toBitVec)
theorem bytB_length (s : ByteArray) : (bytB s).length = s.size := by
  unfold bytB
  rw [List.length_map, Array.length_toList]
  rfl
def newA (N : Nat) : Value → World → Prop := fun u w => ∃ g, u = .pointer (some ⟨g, 0, none⟩) ∧ N ≤ g ∧ Blk w g 154 (List.replicate 32 (.int .u8 0))
theorem newA.st (N : Nat) : StV (newA N) := fun _ _ _ ⟨g, h1, h2, h3⟩ hb => ⟨g, h1, h2, h3.below hb h3.lt⟩
theorem alloc_dg (W : World) : (Instr.alloc 154 true (.tuple #[])).run Tryz.prog W = .ok (.pointer (some ⟨W.heap.size, 0, none⟩)) (W.alloc (.cells (List.replicate 32 (Value.int .u8 0)).toArray 154)) := by kernel_rfl
theorem din_conv (w : World) (s : ByteArray) (hs : s.size ≤ 100000) : DIn (Lib.bytesWorld w 5 s) (some ⟨w.heap.size, 0, none⟩) s.size (grownCap w s.size 0 5) (bytB s) := by
  have hge := grownCap_ge w s.size 0 5
  have hle := grownCap_le_maxLen w s.size 0 5 (by unfold maxLen; omega)
  refine ⟨bytB_length s, hge, by unfold maxLen at hle; omega, (fun h => by cases h), fun _ => ⟨w.heap.size, 0, rfl, by rw [Lib.bytesWorld_size]; omega, fun j u hu => ?_⟩⟩
  have hj := (List.getElem?_eq_some_iff.1 hu).1
  rw [Vb_length, bytB_length] at hj
  rw [Nat.zero_add, Lib.bytesWorld_cell w 5 s j hj]
  rw [Vb_get] at hu
  unfold bytB at hu
  rw [List.getElem?_map] at hu
  have hx := List.getElem?_eq_getElem (l := s.data.toList) (i := j) (by rw [Array.length_toList]; exact hj)
  rw [hx] at hu
  simp only [Option.map_some, Option.some.injEq] at hu
  rw [← hu, List.getD_eq_getElem?_getD, hx, Option.getD_some]
  unfold nb
  rfl
def dinV (k : Nat) (d : List B8) : Value → World → Prop := fun u w => ∃ A c, u = .slice A k c ∧ DIn w A k c d
theorem dinV.st (k : Nat) (d : List B8) : StV (dinV k d) := fun _ _ _ ⟨A, c, h1, h2⟩ hb => ⟨A, c, h1, h2.below hb⟩
def twoV (k : Nat) (d : List B8) (DA : Option Addr) (dn dc : Nat) : Value → World → Prop := fun u w => ∃ p A c, u = .slice (some ⟨p, 0, none⟩) 2 2 ∧ Blk w p 26 [.slice A k c, .slice DA dn dc] ∧ DIn w A k c d
theorem twoV.st (k : Nat) (d : List B8) (DA : Option Addr) (dn dc : Nat) : StV (twoV k d DA dn dc) := fun _ _ _ ⟨p, A, c, h1, h2, h3⟩ hb => ⟨p, A, c, h1, h2.below hb h2.lt, h3.below hb⟩
theorem slice_two (W : World) (A : Option Addr) (n c : Nat) (B : Option Addr) (m d : Nat) : (Instr.buildSlice 157 2 #[(0, .slice A n c), (1, .slice B m d)]).run Tryz.prog W = .ok (.slice (some ⟨W.heap.size, 0, none⟩) 2 2) (W.alloc (.cells #[.slice A n c, .slice B m d] 26)) := by kernel_rfl
theorem txts_two {w : World} {q g : Nat} {A B : Option Addr} {n c m k : Nat} {d f : List B8} (hk : Blk w g 26 [.slice A n c, .slice B m k]) (h : DIn w A n c d) (h2 : DIn w B m k f) (hq : w.heap.size ≤ q) : Txts w q (some ⟨g, 0, none⟩) 2 [d, f] := by
  refine ⟨rfl, fun _ => ⟨g, 0, rfl, by have := hk.lt; omega, fun i x hx => ?_⟩⟩
  match i, hx with
  | 0, hx =>
    simp only [List.getElem?_cons_zero, Option.some.injEq] at hx
    subst hx
    exact ⟨A, n, c, (hk.cell 0).trans rfl, h.txt hq⟩
  | 1, hx =>
    simp only [List.getElem?_cons_succ, List.getElem?_cons_zero, Option.some.injEq] at hx
    subst hx
    exact ⟨B, m, k, (hk.cell 1).trans rfl, h2.txt hq⟩
  | i + 2, hx => simp at hx
theorem slice8 (b : Nat) (W : World) : (Instr.sliceAt 154 (.pointer (some ⟨b, 0, none⟩)) none (some (.int .i64 8)) none).run Tryz.prog W = .ok (.slice (some ⟨b, 0, none⟩) 8 32) W := by
  have hl : Tryz.prog.arrayLen 154 = 32 := by kernel_rfl
  have he : Tryz.prog.elem 154 = 5 := by kernel_rfl
  have hs : (sizeOf 5).run Tryz.prog W = .ok 1 W := by kernel_rfl
  have h := run_sliceAt_array_h (P := Tryz.prog) W 154 ⟨b, 0, none⟩ (by rw [hl, he]; exact Tryz.underlying154) .i64 8 (by omega) (by rw [hl]; omega)
  rw [h, he, hs, hl]
  simp only [Result.andThen_ok, slicedAt]
  rw [if_neg (by omega), Addr.add_mid]
  rfl
/-- The sum of an entry. -/
def sumE (e : En) : List B8 := (sha Ks (framesOf [bytB (textP e.path), e.data])).take 8
set_option maxHeartbeats 4000000 in
theorem sumof_any (w : World) (hK : Roots Ks w) (x : Ev) (e : En) (h : EvOk w x e) (hj : (joinP e.path).size ≤ 900) (hdn : e.data.length ≤ 1000) :
    Calls Tryz.prog 76 #[evV x] w fun en w' => ∃ A, en = .returned (.slice A 8 32) ∧ DIn w' A 8 32 (sumE e) ∧ Below w.heap.size w w' := by
  have hb := pnew w (.cells (evC x).toArray 52)
  obtain ⟨y0, y1, y2, y3⟩ := four_ev (Blk.new w 52 (evC x))
  have HB := Lib.hid hb
  have hE := h.below hb
  have HE := Lib.hid (And.intro hE.path (And.intro hE.data (hK.below hb hK.pos)))
  have hpn : x.pn ≤ 1000000 := by have := h.small.names; rw [h.path.len] at this; omega
  have hjn : (joinP e.path).size ≤ 1000000000 := by have := h.small.text; omega
  have htx : (textP e.path).size ≤ 901 := by
    unfold textP
    rw [ByteArray.size_append]
    have : slashB.size = 1 := rfl
    omega
  obtain ⟨tx, htxe⟩ : ∃ t, textP e.path = t := ⟨_, rfl⟩
  rw [htxe] at htx
  have hsz : tx.size = (bytB tx).length := (bytB_length tx).symm
  have HX : Hid (textP e.path = tx ∧ (bytB tx).length ≤ 1000) := Lib.hid ⟨htxe, by rw [bytB_length]; omega⟩
  obtain ⟨dg, hdg⟩ : ∃ d, sha Ks (framesOf [bytB tx, e.data]) = d := ⟨_, rfl⟩
  have hls := sha_length Ks (framesOf [bytB tx, e.data])
  rw [hdg] at hls
  have HG := Lib.hid hdg
  have HS : Hid (sumE e = dg.take 8) := Lib.hid (by unfold sumE; rw [htxe, hdg])
  clear h hE hK hb htxe hdg y1 y2
  obtain ⟨PA, pn, pc, k, m, DA, dn, dc⟩ := x
  go_enter Tryz.func76, Tryz.ntmps76
  go_wp2_with fail
  refine wp_hideQ ?_
  intro QQ hQQ
  refine wp_region_quickT [some 4, some 5, some 6, some 7, some 8, some 9, some 10, some 11, some 3] [isV (.pointer (some ⟨w.heap.size, 0, none⟩)), isV (.slice PA pn pc), isV (.string tx), dinV tx.size (bytB tx), isV (.pointer (some ⟨w.heap.size, 3, none⟩)), isV (.slice DA dn dc), twoV tx.size (bytB tx) DA dn dc, isV (.agg (Vb dg).toArray), newA w.heap.size] 9 10 (by kernel_rfl) rfl rfl rfl rfl (by kernel_rfl) (by kernel_rfl) (by simp [isV.st, dinV.st, twoV.st, newA.st]) ?_ ?_
  · intro hq rz hz
    match rz, hz with
    | 0, _ =>
      refine StepL.val rfl [] (by decide +kernel) ?_
      intro v wx hR hd
      exact ⟨wanted_plain rfl _, _, _, x_field rfl (fill_off rfl rfl) (r_field (off := 0) (by kernel_rfl)), hR, Below.refl _ _, rfl⟩
    | 1, _ =>
      refine StepL.val rfl [0] (by decide +kernel) ?_
      intro v wx hR hd
      have h0 : v 0 = _ := hd 0 (by simp)
      exact ⟨wanted_plain rfl _, _, _, x_load rfl (hq.at_ rfl h0) (r_load (by kernel_rfl) (pcell_below y0 hR)), hR, Below.refl _ _, rfl⟩
    | 2, _ =>
      refine StepL.call rfl [1] (by decide +kernel) ?_
      intro v wx hR hd
      have h1 : v 1 = _ := hd 1 (by simp)
      refine ⟨wanted_plain rfl _, 75, _, _, x_call rfl rfl (args_1 (hq.at_ rfl h1)) (by kernel_rfl) rfl, ?_⟩
      refine (ptext_any wx PA pn pc e.path (HE.out.1.below hR) (by omega) (by omega)).mono ?_
      rintro en w' ⟨rfl, hW⟩
      exact ⟨.string tx, by rw [HX.out.1], hR.trans (hW.mono hR.size), hW, rfl⟩
    | 3, _ =>
      refine StepL.val rfl [2] (by decide +kernel) ?_
      intro v wx hR hd
      have h2 : v 2 = _ := hd 2 (by simp)
      have hb := Lib.bytesWorld_below wx 5 tx
      exact ⟨wanted_plain rfl _, xe_ex (x_conv rfl (hq.at_ rfl h2) (conv_str wx tx)) ⟨hR.trans (hb.mono hR.size), hb, _, _, rfl, din_conv wx tx (by omega)⟩⟩
    | 4, _ =>
      refine StepL.val rfl [] (by decide +kernel) ?_
      intro v wx hR hd
      exact ⟨wanted_plain rfl _, _, _, x_field rfl (fill_off rfl rfl) (r_field (off := 3) (by kernel_rfl)), hR, Below.refl _ _, rfl⟩
    | 5, _ =>
      refine StepL.val rfl [4] (by decide +kernel) ?_
      intro v wx hR hd
      have h4 : v 4 = _ := hd 4 (by simp)
      exact ⟨wanted_plain rfl _, _, _, x_load rfl (hq.at_ rfl h4) (r_load (by kernel_rfl) (pcell_below y3 hR)), hR, Below.refl _ _, rfl⟩
    | 6, _ =>
      refine StepL.val rfl [3, 5] (by decide +kernel) ?_
      intro v wx hR hd
      obtain ⟨A3, c3, h3, hd3⟩ : dinV tx.size (bytB tx) (v 3) wx := hd 3 (by simp)
      have h5 : v 5 = _ := hd 5 (by simp)
      have hb := pnew wx (.cells #[.slice A3 tx.size c3, .slice DA dn dc] 26)
      exact ⟨wanted_plain rfl _, xe_ex (x_slice rfl (pairs_2 (hq.at_ rfl h3) (hq.at_ rfl h5)) (slice_two wx _ _ _ _ _ _)) ⟨hR.trans (hb.mono hR.size), hb, _, _, _, rfl, Blk.new wx 26 [.slice A3 tx.size c3, .slice DA dn dc], hd3.below hb⟩⟩
    | 7, _ =>
      refine StepL.call rfl [6] (by decide +kernel) ?_
      intro v wx hR hd
      obtain ⟨p6, A6, c6, h6, hk6, hd6⟩ : twoV tx.size (bytB tx) DA dn dc (v 6) wx := hd 6 (by simp)
      refine ⟨wanted_plain rfl _, 111, _, _, x_call rfl rfl (args_1 (hq.at_ rfl h6)) (by kernel_rfl) rfl, ?_⟩
      refine (framed_1k Ks wx _ 2 2 [bytB tx, e.data] (HE.out.2.2.below hR HE.out.2.2.pos) (txts_two hk6 hd6 (HE.out.2.1.below hR) (Nat.le_refl _)) (by omega) (by have := HX.out.2; intro z hz; simp at hz; rcases hz with rfl | rfl <;> omega)).mono ?_
      rintro en w' ⟨rfl, hW⟩
      exact ⟨.agg (Vb dg).toArray, by rw [HG.out], hR.trans (hW.mono hR.size), hW, rfl⟩
    | 8, _ =>
      refine StepL.val rfl [] (by decide +kernel) ?_
      intro v wx hR hd
      have hb := pnew wx (.cells (List.replicate 32 (Value.int .u8 0)).toArray 154)
      exact ⟨wanted_plain rfl _, xe_ex (x_alloc rfl (alloc_dg wx)) ⟨hR.trans (hb.mono hR.size), hb, _, rfl, Nat.le_trans HB.out.size hR.size, Blk.new wx 154 (List.replicate 32 (.int .u8 0))⟩⟩
    | rz + 9, h => omega
  · intro v wx hR hV
    have h7 : v 7 = _ := hV 7 (by omega)
    obtain ⟨g8, h8, hg8, hk8⟩ : newA w.heap.size (v 8) wx := hV 8 (by omega)
    simp only [fillR, Act.put, List.setIfInBounds_toArray, List.set_cons_zero, List.set_cons_succ, List.drop_succ_cons, List.drop_zero, h7, h8]
    have HR := Lib.hid (And.intro (HB.out.trans (hR.mono HB.out.size)) (And.intro hk8 hg8))
    have hs8 := slice8
    clear hV hR h7 h8 y0 y3 hk8 hg8
    go_wp2_with (refine wpList_store_blk rfl 154 (.tmp 3) (.tmp 11) rfl g8 0 (Vb dg) rfl rfl HR.out.2.1 (by simp [Vb_length, hls]) (info31.trans (by simp [Vb_length, hls])) (Vb_oneCell _) ?_; intro w5 hA hO; rw [over_whole (by simp [Vb_length, hls])] at hA; have H5 := Lib.hid (And.intro hA (HR.out.1.trans (hO.below (B := w.heap.size) HR.out.1.size (by intro q hq; simp at hq; subst hq; have := HR.out.2.2; have := HB.out.size; omega)))); clear hA hO)
    go_ret
    refine ⟨some ⟨g8, 0, none⟩, rfl, ?_, H5.out.2⟩
    rw [HS.out]
    exact ⟨by rw [List.length_take, hls]; rfl, by omega, by omega, (fun ha => by cases ha), fun _ => ⟨g8, 0, rfl, H5.out.1.lt, fun j u hu => by
      rw [Nat.zero_add, H5.out.1.cell]
      rw [Vb_get, List.getElem?_take] at hu
      rw [Vb_get]
      split at hu
      · exact hu
      · cases hu⟩⟩
end Go.Proofs.YtdnaiiagblcohaaGreatDoor
end

/-
  The checks of an entry, the others: is its directory there, is its path a path's text, where does its link lead. Conditions: the variables that paths' calls read hold what they must; the entries lie in memory.
-/

section
set_option linter.unusedSimpArgs false
set_option linter.unusedVariables false
set_option maxRecDepth 100000
namespace Go.Proofs.YtdnaiiagblcohaaGreatDoor
open Go.RowKit

set_option maxHeartbeats 1000000 in
theorem nowhere_any (w : World) (hS : PSigns w) (x : Ev) (AH : Option Addr) (an ac : Nat) (SA : Option Addr) (sn sc : Nat) (p : Pa) (hp : SIn w x.PA x.pn x.pc p) (xs : List Ev) (es : List En) (h : EIn w AH an ac xs es) :
    Calls Tryz.prog 119 #[cdV x AH an ac SA sn sc] w fun e w' => e = .returned (.bool (nowhereE es p)) ∧ Below w.heap.size w w' := by
  have hb := pnew w (.cells (cdC x AH an ac SA sn sc).toArray 93)
  have hk := Blk.new w 93 (cdC x AH an ac SA sn sc)
  have HK := Lib.hid hk
  have HH := Lib.hid (home_any _ (hS.to hb) x AH an ac SA sn sc p (hp.below hb))
  have HB := Lib.hid (And.intro hb (h.below hb))
  have hbig : an ≤ 9223372036854775807 := by have := h.cap; have := h.big; omega
  clear hp h hb hk hS
  obtain ⟨PA, pn, pc, k, m, DA, dn, dc⟩ := x
  go_enter Tryz.func119, Tryz.ntmps119
  go_wp2_with fail
  refine HH.out.mono ?_
  rintro e w1 ⟨A', c', rfl, h1, h2⟩
  have hk1 := HK.out.below h2 HK.out.lt
  have c4 : w1.cell? ⟨w.heap.size, 4, none⟩ = some (.slice AH an ac) := hk1.cell 4
  have H1 := Lib.hid (And.intro h1 (And.intro (HB.out.2.below h2) (And.intro (HB.out.1.trans (h2.mono HB.out.1.size)) hk1)))
  clear h1 h2 hk1
  by_cases h0 : (homeP p).length = 0
  · have HF : Hid (nowhereE es p = false) := Lib.hid (by unfold nowhereE; rw [if_pos h0])
    rw [h0]
    clear h0
    go_wp2_with fail
    go_ret
    exact ⟨pret_bool (by rw [HF.out]), H1.out.2.2.1⟩
  · have HF : Hid (nowhereE es p = nowAt es (atE es (homeP p))) := Lib.hid (by unfold nowhereE; rw [if_neg h0])
    obtain ⟨q, hq⟩ : ∃ q, q = homeP p := ⟨_, rfl⟩
    rw [← hq] at HF H1 h0
    rw [← hq]
    obtain ⟨l, hl⟩ : ∃ l, l = q.length := ⟨_, rfl⟩
    rw [← hl] at H1 h0
    rw [← hl]
    clear hq hl
    have hl0 : ((l : Int) == 0) = false := by simpa using h0
    have hl1 : ¬ (l : Int) = 0 := by omega
    go_wp2_with fail
    refine (at_any12 w1 AH an ac xs es H1.out.2.1 A' l c' q H1.out.1).mono ?_
    rintro e w2 ⟨rfl, h2⟩
    have hk2 := H1.out.2.2.2.below h2 H1.out.2.2.2.lt
    clear c4
    have c4 : w2.cell? ⟨w.heap.size, 4, none⟩ = some (.slice AH an ac) := hk2.cell 4
    have H2 := Lib.hid (And.intro (H1.out.2.1.below h2) (And.intro (H1.out.2.2.1.trans (h2.mono H1.out.2.2.1.size)) hk2))
    clear h2 hk2
    cases ha : atE es q with
    | none =>
      rw [ha] at HF
      clear ha
      unfold plN
      go_wp2_with fail
      go_ret
      exact ⟨pret_bool (by rw [HF.out]; rfl), H2.out.2.1⟩
    | some i =>
      obtain ⟨e, he, _⟩ := ate_lt es q i ha
      rw [ha] at HF
      have hi : i < an := by
        have := (List.getElem?_eq_some_iff.1 he).1
        have := H2.out.1.elen
        omega
      obtain ⟨g, o, y, e', rfl, hg, hy, he', hok, hcl⟩ := H2.out.1.row hi
      rw [he] at he'
      cases he'
      have HG : Hid (nowhereE es p = !(decide (y.k = 1))) := Lib.hid (by rw [HF.out, nowAt_some he, hok.kind])
      have d1 : w2.cell? ⟨g, o + i * 4 + 1, none⟩ = some (.int .i64 y.k) := hcl 1 _ rfl
      have b1 : (i : Int) < (an : Int) := by omega
      have b0 : (0 : Int) ≤ (i : Int) := by omega
      have b2 : ¬ (i : Int) < 0 := by omega
      clear ha he hy hok hcl HF
      unfold plN
      go_wp2_with fail
      go_ret
      exact ⟨pret_bool (by rw [HG.out, decide_eq_false (show ¬ (i : Int) < 0 by omega), Bool.false_or]; exact congrArg (! ·) (Bool.eq_iff_iff.2 (by simp))), H2.out.2.1⟩
set_option maxHeartbeats 1000000 in
theorem pathless_any (w : World) (hV : PV w) (x : Ev) (AH : Option Addr) (an ac : Nat) (SA : Option Addr) (sn sc : Nat) (e : En) (hx : EvOk w x e) :
    Calls Tryz.prog 112 #[cdV x AH an ac SA sn sc] w fun en w' => en = .returned (.bool (pathlessE e.path)) ∧ Below w.heap.size w w' := by
  have hb := pnew w (.cells (cdC x AH an ac SA sn sc).toArray 93)
  have HK := Lib.hid (Blk.new w 93 (cdC x AH an ac SA sn sc))
  have HT := Lib.hid (ptext_any _ x.PA x.pn x.pc e.path (hx.path.below hb) (by rw [← hx.path.len]; exact hx.small.names) hx.small.text)
  have HB := Lib.hid (And.intro hb (And.intro (hV.to hb) (hx.path.below hb)))
  obtain ⟨p, hp⟩ : ∃ p, p = e.path := ⟨_, rfl⟩
  rw [← hp] at HT HB
  rw [← hp]
  clear hx hb hV hp
  obtain ⟨PA, pn, pc, k, m, DA, dn, dc⟩ := x
  go_enter Tryz.func112, Tryz.ntmps112
  go_wp2_with fail
  refine HT.out.mono ?_
  rintro en w1 ⟨rfl, h1⟩
  have hk1 := HK.out.below h1 HK.out.lt
  have H1 := Lib.hid (And.intro (HB.out.2.1.to h1) (And.intro (HB.out.2.2.below h1) (And.intro (HB.out.1.trans (h1.mono HB.out.1.size)) hk1)))
  clear h1 hk1
  go_wp2_with fail
  refine (parse_path w1 H1.out.1 (textP p)).mono ?_
  rintro en w2 ⟨B, c2, rfl, h2, _, h3⟩
  have hk2 := H1.out.2.2.2.below h3 H1.out.2.2.2.lt
  have c0 : w2.cell? ⟨w.heap.size, 0, none⟩ = some (.slice PA pn pc) := hk2.cell 0
  have H2 := Lib.hid (And.intro h2 (And.intro (H1.out.2.1.below h3) (H1.out.2.2.1.trans (h3.mono H1.out.2.2.1.size))))
  clear h2 h3 hk2
  have HF : Hid (pathlessE p = (!(decide ((parseB (textP p)).2 = 0)) || decide ((parseB (textP p)).1.length = 0) || !(decide ((parseB (textP p)).1 = p)))) := Lib.hid rfl
  obtain ⟨q, hq⟩ : ∃ q, q = (parseB (textP p)).1 := ⟨_, rfl⟩
  obtain ⟨z, hz⟩ : ∃ z, z = (parseB (textP p)).2 := ⟨_, rfl⟩
  rw [← hq] at H2
  rw [← hq, ← hz] at HF
  rw [← hq, ← hz]
  obtain ⟨l, hl⟩ : ∃ l, l = q.length := ⟨_, rfl⟩
  rw [← hl] at H2 HF
  rw [← hl]
  clear hq hz hl
  by_cases hz : z = 0
  · subst hz
    by_cases hl : l = 0
    · subst hl
      go_wp2_with fail
      go_ret
      exact ⟨pret_bool (by rw [HF.out]; rfl), H2.out.2.2⟩
    · have HG : Hid (pathlessE p = !(decide (q = p))) := Lib.hid (by rw [HF.out]; simp [hl])
      have hl0 : ((l : Int) == 0) = false := by simpa using hl
      have hl1 : ¬ (l : Int) = 0 := by omega
      clear HF
      go_wp2_with fail
      refine (psame_any w2 B PA l c2 pn pc q p H2.out.1 H2.out.2.1).mono ?_
      rintro en w3 ⟨rfl, h3⟩
      have H3 := Lib.hid (H2.out.2.2.trans (h3.mono H2.out.2.2.size))
      clear h3
      go_wp2_with fail
      go_ret
      exact ⟨pret_bool (by rw [HG.out]), H3.out⟩
  · have HG : Hid (pathlessE p = true) := Lib.hid (by rw [HF.out]; simp [hz])
    clear HF
    go_wp2_with fail
    go_ret
    exact ⟨pret_bool (by rw [HG.out]), H2.out.2.2⟩
end Go.Proofs.YtdnaiiagblcohaaGreatDoor
end

/-
  Where an entry's link leads. Conditions: the variables that paths' calls read hold what they must; the entry lies in memory.
-/

section
set_option linter.unusedSimpArgs false
set_option linter.unusedVariables false
set_option maxRecDepth 100000
namespace Go.Proofs.YtdnaiiagblcohaaGreatDoor
open Go.RowKit

theorem conv_txt {w : World} {A : Option Addr} {n c : Nat} {d : List B8} (h : DIn w A n c d) : (convert 26 9 (.slice A n c)).run Tryz.prog w = .ok (.string (txtB d)) w :=
  h.bytesIn.convert (by rw [List.length_map, h.len]) c _ _ _ Tryz.underlying26 Tryz.underlying5 Tryz.underlying9
theorem pref_any (w : World) (A B : Option Addr) (n c m d : Nat) (xs ys : List B8) (h : DIn w A n c xs) (k : DIn w B m d ys) :
    Calls Tryz.prog 80 #[.slice A n c, .slice B m d] w fun e w' => e = .returned (.bool (Lib.hasPrefix (Lib.bytesOf (xs.map nb)) (Lib.bytesOf (ys.map nb)))) ∧ w' = w :=
  Tryz.bytes_HasPrefix_all A B n c m d (xs.map nb) (ys.map nb) w (by rw [List.length_map, h.len]) (by rw [List.length_map, k.len]) h.cap h.bytesIn k.bytesIn
theorem nb47 : nb 47#8 = 47 := by simp [nb]
theorem din_slash (w : World) : DIn (w.alloc (.cells #[.int .u8 47] 5 (1, 2))) (some ⟨w.heap.size, 0, none⟩) 1 1 [47#8] := by
  refine ⟨rfl, Nat.le_refl _, by omega, (fun h => by cases h), fun _ => ⟨_, _, rfl, by simp, fun j u hu => ?_⟩⟩
  rw [Nat.zero_add]
  have := cell_of_row (w.alloc (.cells #[.int .u8 47] 5 (1, 2))) w.heap.size j #[.int .u8 47] 5 (1, 2) (heap_alloc_new w _)
  rw [this]
  rw [show Vb [47#8] = [Value.int .u8 47] by unfold Vb; rw [List.map_cons, nb47]; rfl] at hu
  simpa using hu
theorem conv_const (w : World) (C : Array Value) (n c : Nat) : (convert 26 26 (.slice (some ⟨w.heap.size, 0, none⟩) n c)).run Tryz.prog (w.alloc (.cells C 5)) = .ok (.slice (some ⟨w.heap.size, 0, none⟩) n c) (w.alloc (.cells C 5 (C.size, C.size + 1))) :=
  Lib.run_convert_bytes_const w 26 5 C n c Tryz.underlying26 Tryz.underlying5
/-- The cells of a candidate in its box. -/
def BoxAt (w : World) (b : Nat) (x : Ev) (AH : Option Addr) (an ac : Nat) (SA : Option Addr) (sn sc : Nat) : Prop :=
  w.cell? ⟨b, 0, none⟩ = some (.slice x.PA x.pn x.pc) ∧ w.cell? ⟨b, 1, none⟩ = some (.int .i64 x.k) ∧ w.cell? ⟨b, 2, none⟩ = some (.int .i64 x.m) ∧ w.cell? ⟨b, 3, none⟩ = some (.slice x.DA x.dn x.dc) ∧ w.cell? ⟨b, 4, none⟩ = some (.slice AH an ac) ∧ w.cell? ⟨b, 5, none⟩ = some (.slice SA sn sc)
theorem BoxAt.of {w : World} {b t : Nat} {x : Ev} {AH : Option Addr} {an ac : Nat} {SA : Option Addr} {sn sc : Nat} (h : Blk w b t (cdC x AH an ac SA sn sc)) : BoxAt w b x AH an ac SA sn sc := ⟨h.cell 0, h.cell 1, h.cell 2, h.cell 3, h.cell 4, h.cell 5⟩
set_option maxHeartbeats 2000000 in
theorem leads_any (w : World) (hV : PV w) (x : Ev) (AH : Option Addr) (an ac : Nat) (SA : Option Addr) (sn sc : Nat) (e : En) (hx : EvOk w x e) :
    Calls Tryz.prog 117 #[cdV x AH an ac SA sn sc] w fun en w' => en = .returned (.bool (leadsE e.path x.k e.data)) ∧ Below w.heap.size w w' := by
  have hb := pnew w (.cells (cdC x AH an ac SA sn sc).toArray 93)
  have HK := Lib.hid (Blk.new w 93 (cdC x AH an ac SA sn sc))
  have HB := Lib.hid (And.intro hb (And.intro (hV.to hb) (And.intro (hx.path.below hb) (hx.data.below hb))))
  obtain ⟨p, hp⟩ : ∃ p, p = e.path := ⟨_, rfl⟩
  obtain ⟨dt, hd⟩ : ∃ d, d = e.data := ⟨_, rfl⟩
  rw [← hp, ← hd] at HB
  rw [← hp, ← hd]
  clear hx hb hV hp hd
  obtain ⟨PA, pn, pc, k, m, DA, dn, dc⟩ := x
  by_cases hk : k = 2
  · subst hk
    have hcv := conv_txt HB.out.2.2.2
    have hcd := conv_txt (HB.out.2.2.2.below (pdrew _))
    have hh0 := (BoxAt.of HK.out)
    obtain ⟨y0, y1, y2, y3, y4, y5⟩ := hh0
    have HF : Hid (leadsE p 2 dt = (!(decide ((leadB (homeP p) (txtB dt)).2 = 0)) || Lib.hasPrefix (Lib.bytesOf (dt.map nb)) (Lib.bytesOf [47]))) := Lib.hid (by unfold leadsE; rfl)
    go_enter Tryz.func117, Tryz.ntmps117
    go_wp2_with fail
    go_region_held3 (fun w' => w'.cell? ⟨w.heap.size, 0, none⟩ = some (.slice PA pn pc) ∧ w'.cell? ⟨w.heap.size, 1, none⟩ = some (.int .i64 2) ∧ w'.cell? ⟨w.heap.size, 2, none⟩ = some (.int .i64 m) ∧ w'.cell? ⟨w.heap.size, 3, none⟩ = some (.slice DA dn dc) ∧ w'.cell? ⟨w.heap.size, 4, none⟩ = some (.slice AH an ac) ∧ w'.cell? ⟨w.heap.size, 5, none⟩ = some (.slice SA sn sc) ∧ (convert 26 9 (.slice DA dn dc)).run Tryz.prog w' = .ok (.string (txtB dt)) w')
      (first | exact ⟨y0, y1, y2, y3, y4, y5, hcd⟩ | exact ⟨y0, y1, y2, y3, y4, y5, hcv⟩ | exact ⟨z0, z1, z2, z3, z4, z5, hc5⟩ | exact ⟨v0, v1, v2, v3, v4, v5, hc6⟩)
      (first
        | (go_at_call 151; refine (home_any _ (HB.out.2.1.1.to (pdrew _)) ⟨PA, pn, pc, 2, m, DA, dn, dc⟩ AH an ac SA sn sc p (HB.out.2.2.1.below (pdrew _))).mono ?_; rintro e w5 ⟨A5, c5, rfl, hs, hW⟩; have hk5 := (HK.out.drew).below hW HK.out.lt; obtain ⟨z0, z1, z2, z3, z4, z5⟩ := BoxAt.of hk5; have hc5 := conv_txt ((HB.out.2.2.2.below (pdrew _)).below hW); have H5 := Lib.hid (And.intro hs (And.intro (HB.out.2.1.to ((pdrew _).trans (hW.mono (Nat.le_refl _)))) (And.intro ((HB.out.2.2.2.below (pdrew _)).below hW) (And.intro hk5 (HB.out.1.trans (((pdrew _).trans (hW.mono (Nat.le_refl _))).mono HB.out.1.size)))))); clear hs hW hk5)
        | (go_at_call 150; refine (lead_any _ H5.out.2.1 _ _ _ _ H5.out.1 (txtB dt)).mono ?_; rintro e w6 ⟨A6, c6, rfl, h6, _, hW6⟩; have hk6 := H5.out.2.2.2.1.below hW6 H5.out.2.2.2.1.lt; obtain ⟨v0, v1, v2, v3, v4, v5⟩ := BoxAt.of hk6; have hc6 := conv_txt (H5.out.2.2.1.below hW6); have H6 := Lib.hid (And.intro (H5.out.2.2.1.below hW6) (H5.out.2.2.2.2.trans (hW6.mono H5.out.2.2.2.2.size))); clear h6 hW6 hk6))
    all_goals (
      by_cases hz : (leadB (homeP p) (txtB dt)).2 = 0
      · have HG : Hid (leadsE p 2 dt = Lib.hasPrefix (Lib.bytesOf (dt.map nb)) (Lib.bytesOf [47])) := Lib.hid (by rw [HF.out, decide_eq_true hz]; rfl)
        rw [hz]
        clear hz HF
        have hcs := conv_const
        go_wp2_with (go_at_call 80; go_must (refine (pref_any _ DA _ dn dc 1 1 dt [47#8] (H6.out.1.below (pnew _ _)) (din_slash _)).mono ?_); rintro e w7 ⟨rfl, rfl⟩)
        go_ret
        exact ⟨pret_bool (by rw [HG.out, nb47]), H6.out.2.trans ((pnew _ _).mono H6.out.2.size)⟩
      · have HG : Hid (leadsE p 2 dt = true) := Lib.hid (by rw [HF.out, decide_eq_false hz]; rfl)
        clear HF
        go_wp2_with fail
        go_ret
        exact ⟨pret_bool (by rw [HG.out]), H6.out.2⟩)
  · have HF : Hid (leadsE p k dt = false) := Lib.hid (by unfold leadsE; rw [decide_eq_false hk]; rfl)
    go_enter Tryz.func117, Tryz.ntmps117
    go_wp2_with fail
    go_ret
    exact ⟨pret_bool (by rw [HF.out]), HB.out.1⟩
end Go.Proofs.YtdnaiiagblcohaaGreatDoor
end
