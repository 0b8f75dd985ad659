/-
  The law's To: at most 41 entries, cut, in memory of the call's own, and the document's beside them. Condition: the entries lie in memory.
-/
import Derived.Test.YtlpljedacohngaaGreatDoorM14
import Derived.Deep.RegionHeld3
import Derived.Test.YtlpljedacohngaaGreatDoorM7
import Derived.Test.YtlpljedacohngaaGreatDoorM6
import Derived.Test.YtlpljedacohngaaGreatDoorM4
import Derived.Lib.ConvBytes
import Derived.Lib.AtoiErrMem
section
set_option linter.unusedSimpArgs false
set_option linter.unusedVariables false
set_option maxRecDepth 100000
namespace Go.Proofs.YtlpljedacohngaaGreatDoor
open Go.RowKit

theorem not_own {v : Value} {S : Value} (h : ∀ g, v.ownBlock = some g → S.ownBlock ≠ some g) : ∀ k, v.ownBlock = some k → k ∉ S.ownBlock.toList := by
  intro k hk hm
  exact h k hk (by simpa using hm)
theorem OwnE.row {N M T s n : Nat} {w w' : World} {x : Ev} {e : En} {v : Value} {xs : List Value} (h : OwnE N w x e) (hr : w.ownsRow M T s v n xs) (ho : Only v.ownBlock.toList w w') (h1 : 9 ≠ T) (h2 : 5 ≠ T) : OwnE N w' x e :=
  h.only ho (not_own (own_own_ne h.path hr h1)) (not_own (own_own_ne h.data hr h2))
/-- Where To stands behind i entries. -/
structure ToAt (N : Nat) (w : World) (u4 u5 : Value) (es : List En) (i : Nat) (co cd : List Ev) : Prop where
  l1 : co.length = i
  l2 : cd.length = i
  r1 : w.ownsRow N 40 4 u4 i (rowE co)
  r2 : w.ownsRow N 54 4 u5 i (rowE cd)
  o1 : ∀ (j : Nat) x e, co[j]? = some x → ((es.take i).map toE)[j]? = some e → OwnE N w x e
  o2 : ∀ (j : Nat) x e, cd[j]? = some x → ((es.take i).map toE)[j]? = some e → OwnE N w x e
theorem ToAt.below {N : Nat} {w w' : World} {u4 u5 : Value} {es : List En} {i : Nat} {co cd : List Ev} (h : ToAt N w u4 u5 es i co cd) (hb : Below w.heap.size w w') : ToAt N w' u4 u5 es i co cd :=
  ⟨h.l1, h.l2, ownsRow_only (S := []) h.r1 (Only.of_below hb) (by simp), ownsRow_only (S := []) h.r2 (Only.of_below hb) (by simp), fun j x e h1 h2 => (h.o1 j x e h1 h2).below hb, fun j x e h1 h2 => (h.o2 j x e h1 h2).below hb⟩
theorem to_out {N i : Nat} {w : World} {u4 u5 : Value} {es ts : List En} {co cd : List Ev} (h : ToAt N w u4 u5 es i co cd) (ht : (es.take i).map toE = ts) (hi : i ≤ es.length) :
    ∃ A1 c1 A2 c2, u4 = .slice A1 ts.length c1 ∧ u5 = .slice A2 ts.length c2 ∧ EIn w A1 ts.length c1 co ts ∧ EIn w A2 ts.length c2 cd ts := by
  subst ht
  have hl : ((es.take i).map toE).length = i := by rw [List.length_map, List.length_take]; omega
  have r1 := h.r1
  have r2 := h.r2
  rw [← h.l1] at r1
  rw [← h.l2] at r2
  obtain ⟨A1, c1, e1, h1⟩ := ein_own r1 (by rw [h.l1, hl]) h.o1
  obtain ⟨A2, c2, e2, h2⟩ := ein_own r2 (by rw [h.l2, hl]) h.o2
  exact ⟨A1, c1, A2, c2, e1, e2, h1, h2⟩
theorem ev_info : (Tryz.prog.info? 40).map (fun i => (i.zero, i.size, i.bytes)) = some (some (.agg #[.slice none 0 0, .int .i64 0, .int .i64 0, .slice none 0 0]), 4, 64) := by kernel_rfl
theorem rev_info12 : (Tryz.prog.info? 54).map (fun i => (i.zero, i.size, i.bytes)) = some (some (.agg #[.slice none 0 0, .int .i64 0, .int .i64 0, .slice none 0 0]), 4, 64) := by kernel_rfl
theorem byt_info : (Tryz.prog.info? 5).map (fun i => (i.zero, i.size, i.bytes)) = some (some (.int .u8 0), 1, 1) := by kernel_rfl
theorem build_ev (W : World) (A : Option Addr) (n c : Nat) (k m : Int) (D : Option Addr) (dn dc : Nat) : (Instr.build 40 #[(0, .slice A n c), (1, .int .i64 k), (2, .int .i64 m), (3, .slice D dn dc)]).run Tryz.prog W = .ok (evV ⟨A, n, c, k, m, D, dn, dc⟩) W := by kernel_rfl
theorem build_rev (W : World) (A : Option Addr) (n c : Nat) (k m : Int) (D : Option Addr) (dn dc : Nat) : (Instr.build 54 #[(0, .slice A n c), (1, .int .i64 k), (2, .int .i64 m), (3, .slice D dn dc)]).run Tryz.prog W = .ok (evV ⟨A, n, c, k, m, D, dn, dc⟩) W := by kernel_rfl
theorem slice_ev (W : World) (x : Ev) : (Instr.buildSlice 23 1 #[(0, evV x)]).run Tryz.prog W = .ok (.slice (some ⟨W.heap.size, 0, none⟩) 1 1) (W.alloc (.cells (evC x).toArray 40)) := by kernel_rfl
theorem slice_rev12 (W : World) (x : Ev) : (Instr.buildSlice 27 1 #[(0, evV x)]).run Tryz.prog W = .ok (.slice (some ⟨W.heap.size, 0, none⟩) 1 1) (W.alloc (.cells (evC x).toArray 54)) := by kernel_rfl
theorem slice0_b (W : World) : (Instr.buildSlice 22 0 #[]).run Tryz.prog W = .ok (.slice (some ⟨W.heap.size, 0, none⟩) 0 0) (W.alloc (.cells #[] 5)) := by kernel_rfl
theorem slice0_s (W : World) : (Instr.buildSlice 38 0 #[]).run Tryz.prog W = .ok (.slice (some ⟨W.heap.size, 0, none⟩) 0 0) (W.alloc (.cells #[] 9)) := by kernel_rfl
/-- A new row of one. -/
def rowOneE (t : TypeId) (b0 : Nat) (cs : List Value) : Value → World → Prop := fun u w => ∃ p, u = .slice (some ⟨p, 0, none⟩) 1 1 ∧ b0 ≤ p ∧ Blk w p t cs
theorem rowOneE.st (t : TypeId) (b0 : Nat) (cs : List Value) : StV (rowOneE t b0 cs) := fun _ _ _ ⟨p, h1, h2, h3⟩ hb => ⟨p, h1, h2, h3.below hb h3.lt⟩
def evNV (N : Nat) (e : En) : Value → World → Prop := fun u w => ∃ x : Ev, u = evV x ∧ OwnE N w x e
theorem evNV.st (N : Nat) (e : En) : StV (evNV N e) := fun _ _ _ ⟨x, h1, h2⟩ hb => ⟨x, h1, h2.below hb⟩
def rowNV (t N : Nat) (e : En) : Value → World → Prop := fun u w => ∃ p, ∃ x : Ev, u = .slice (some ⟨p, 0, none⟩) 1 1 ∧ N ≤ p ∧ Blk w p t (evC x) ∧ OwnE N w x e
theorem rowNV.st (t N : Nat) (e : En) : StV (rowNV t N e) := fun _ _ _ ⟨p, x, h1, h2, h3, h4⟩ hb => ⟨p, x, h1, h2, h3.below hb h3.lt, h4.below hb⟩
theorem own_mk {N dn : Nat} {w : World} {A D : Option Addr} {pc dc : Nat} {k m : Int} {e : En} {dt : List B8} (hp : w.ownsRow N 9 1 (.slice A (fewP e.path).length pc) (fewP e.path).length (strV (fewP e.path))) (hk : (toE e).kind = k) (hm : (toE e).mode = m) (hd : w.ownsRow N 5 1 (.slice D dn dc) dt.length (Vb dt)) (he : dt = e.data.take 520) : OwnE N w ⟨A, (fewP e.path).length, pc, k, m, D, dn, dc⟩ (toE e) := by
  subst he
  exact ⟨hp, hk, hm, hd, toE_small e⟩
theorem OwnE.base {N M : Nat} {w : World} {x : Ev} {e : En} (h : OwnE M w x e) (hN : N ≤ M) : OwnE N w x e := ⟨own_base h.path hN, h.kind, h.mode, own_base h.data hN, h.small⟩
theorem own_snoc {N i : Nat} {w : World} {es : List En} {co : List Ev} {x : Ev} {e : En} (hl : co.length = i) (he : es[i]? = some e) (h : ∀ (j : Nat) y f, co[j]? = some y → ((es.take i).map toE)[j]? = some f → OwnE N w y f) (hx : OwnE N w x (toE e)) :
    ∀ (j : Nat) y f, (co ++ [x])[j]? = some y → ((es.take (i + 1)).map toE)[j]? = some f → OwnE N w y f := by
  intro j y f hy hf
  rw [toEs_next he] at hf
  have hi : ((es.take i).map toE).length = i := by
    have := (List.getElem?_eq_some_iff.1 he).1
    rw [List.length_map, List.length_take]
    omega
  rcases Nat.lt_or_ge j i with hj | hj
  · rw [List.getElem?_append_left (by omega)] at hy hf
    exact h j y f hy hf
  · rw [List.getElem?_append_right (by omega), hl] at hy
    rw [List.getElem?_append_right (by omega), hi] at hf
    have h0 : j - i = 0 := by
      have := (List.getElem?_eq_some_iff.1 hy).1
      simp at this
      omega
    rw [h0] at hy hf
    simp only [List.getElem?_cons_zero, Option.some.injEq] at hy hf
    subst hy hf
    exact hx
theorem sin_rows {w : World} {A : Option Addr} {n c : Nat} {p : Pa} (h : SIn w A n c p) (h0 : 0 < n) : ∃ g off, A = some ⟨g, off, none⟩ ∧ ∀ (j : Nat) u, (strV p)[j]? = some u → w.cell? ⟨g, off + j, none⟩ = some u := by
  obtain ⟨g, o, hA, _, hc⟩ := h.cells h0
  exact ⟨g, o, hA, fun j u hu => by obtain ⟨t, h1, rfl⟩ := strV_get hu; exact hc j t h1⟩
theorem din_rows {w : World} {A : Option Addr} {n c : Nat} {d : List B8} (h : DIn w A n c d) (h0 : 0 < n) : ∃ g off, A = some ⟨g, off, none⟩ ∧ ∀ (j : Nat) u, (Vb d)[j]? = some u → w.cell? ⟨g, off + j, none⟩ = some u := by
  obtain ⟨g, o, hA, _, hc⟩ := h.cells h0
  exact ⟨g, o, hA, hc⟩
end Go.Proofs.YtlpljedacohngaaGreatDoor
end

/-
  The checks of an entry, one by one. Conditions: the variables that paths' calls read hold what they must; the entries lie in memory.
-/

section
set_option linter.unusedSimpArgs false
set_option linter.unusedVariables false
set_option maxRecDepth 100000
namespace Go.Proofs.YtlpljedacohngaaGreatDoor
open Go.RowKit

theorem kindless_any (w : World) (x : Ev) (AH : Option Addr) (an ac : Nat) (SA : Option Addr) (sn sc : Nat) :
    Calls Tryz.prog 54 #[cdV x AH an ac SA sn sc] w fun e w' => e = .returned (.bool (kindlessE x.k)) ∧ Below w.heap.size w w' := by
  have HB := Lib.hid (pnew w (.cells (cdC x AH an ac SA sn sc).toArray 82))
  obtain ⟨PA, pn, pc, k, m, DA, dn, dc⟩ := x
  by_cases h0 : k = 0
  · subst h0
    go_enter Tryz.func54, Tryz.ntmps54
    go_wp2_with fail
    go_ret
    exact ⟨rfl, HB.out⟩
  · by_cases h1 : k = 1
    · subst h1
      go_enter Tryz.func54, Tryz.ntmps54
      go_wp2_with fail
      go_ret
      exact ⟨rfl, HB.out⟩
    · by_cases h2 : k = 2
      · subst h2
        go_enter Tryz.func54, Tryz.ntmps54
        go_wp2_with fail
        go_ret
        exact ⟨rfl, HB.out⟩
      · have HF : Hid (kindlessE k = true) := Lib.hid (by unfold kindlessE; simp [h0, h1, h2])
        go_enter Tryz.func54, Tryz.ntmps54
        go_wp2_with fail
        go_ret
        exact ⟨pret_bool (by rw [HF.out]; simp only [Bool.and_eq_true, bne_iff_ne, ne_eq]; exact ⟨⟨h0, h1⟩, h2⟩), HB.out⟩
theorem risky_any (w : World) (x : Ev) (AH : Option Addr) (an ac : Nat) (SA : Option Addr) (sn sc : Nat) :
    Calls Tryz.prog 55 #[cdV x AH an ac SA sn sc] w fun e w' => e = .returned (.bool (riskyE x.k x.m)) ∧ Below w.heap.size w w' := by
  have HB := Lib.hid (pnew w (.cells (cdC x AH an ac SA sn sc).toArray 82))
  obtain ⟨PA, pn, pc, k, m, DA, dn, dc⟩ := x
  go_enter Tryz.func55, Tryz.ntmps55
  go_wp2_with fail
  refine (safe_any _ k m 0 0).mono ?_
  rintro e w1 ⟨rfl, h1⟩
  have H1 := Lib.hid (HB.out.trans (h1.mono HB.out.size))
  clear h1
  go_wp2_with fail
  go_ret
  exact ⟨pret_bool rfl, H1.out⟩
theorem filled_any (w : World) (x : Ev) (AH : Option Addr) (an ac : Nat) (SA : Option Addr) (sn sc : Nat) (d : List B8) (hd : DIn w x.DA x.dn x.dc d) :
    Calls Tryz.prog 56 #[cdV x AH an ac SA sn sc] w fun e w' => e = .returned (.bool (filledE x.k d)) ∧ Below w.heap.size w w' := by
  have HB := Lib.hid (pnew w (.cells (cdC x AH an ac SA sn sc).toArray 82))
  have HF : Hid (filledE x.k d = (decide (x.k = 1) && decide (0 < x.dn))) := Lib.hid (by unfold filledE; rw [hd.len])
  clear hd
  obtain ⟨PA, pn, pc, k, m, DA, dn, dc⟩ := x
  by_cases h1 : k = 1
  · subst h1
    go_enter Tryz.func56, Tryz.ntmps56
    go_wp2_with fail
    go_ret
    exact ⟨pret_bool (by rw [HF.out]; simp), HB.out⟩
  · have HG : Hid (filledE k d = false) := Lib.hid (by rw [HF.out]; simp [h1])
    go_enter Tryz.func56, Tryz.ntmps56
    go_wp2_with fail
    go_ret
    exact ⟨pret_bool (by rw [HG.out]), HB.out⟩
theorem long_any (w : World) (x : Ev) (AH : Option Addr) (an ac : Nat) (SA : Option Addr) (sn sc : Nat) (d : List B8) (hd : DIn w x.DA x.dn x.dc d) :
    Calls Tryz.prog 57 #[cdV x AH an ac SA sn sc] w fun e w' => e = .returned (.bool (longE d)) ∧ Below w.heap.size w w' := by
  have HB := Lib.hid (pnew w (.cells (cdC x AH an ac SA sn sc).toArray 82))
  have HF : Hid (longE d = decide (512 < x.dn)) := Lib.hid (by unfold longE; rw [hd.len])
  clear hd
  obtain ⟨PA, pn, pc, k, m, DA, dn, dc⟩ := x
  go_enter Tryz.func57, Tryz.ntmps57
  go_wp2_with fail
  go_ret
  exact ⟨pret_bool (by rw [HF.out]; exact (Bool.eq_iff_iff.2 (by simp; omega))), HB.out⟩
theorem home_any (w : World) (hS : PSigns w) (x : Ev) (AH : Option Addr) (an ac : Nat) (SA : Option Addr) (sn sc : Nat) (p : Pa) (hp : SIn w x.PA x.pn x.pc p) :
    Calls Tryz.prog 74 #[cdV x AH an ac SA sn sc] w fun e w' => ∃ A' c', e = .returned (.slice A' (homeP p).length c') ∧ SIn w' A' (homeP p).length c' (homeP p) ∧ Below w.heap.size w w' := by
  have hb := pnew w (.cells (cdC x AH an ac SA sn sc).toArray 82)
  have HB := Lib.hid (And.intro hb (And.intro (hS.to hb) (hp.below hb)))
  clear hp hS hb
  obtain ⟨PA, pn, pc, k, m, DA, dn, dc⟩ := x
  go_enter Tryz.func74, Tryz.ntmps74
  go_wp2_with fail
  refine (psplit_any _ HB.out.2.1 PA pn pc p HB.out.2.2).mono ?_
  rintro e w1 ⟨A', c', s, z, rfl, h1, h2, h3⟩
  have H1 := Lib.hid (And.intro h1 (HB.out.1.trans (h3.mono HB.out.1.size)))
  clear h1 h2 h3
  go_wp2_with fail
  go_ret
  exact ⟨A', c', rfl, H1.out.1, H1.out.2⟩
end Go.Proofs.YtlpljedacohngaaGreatDoor
end

/-
  Where the first entry of a path is; whether a path was there, and its directory. Conditions: the variables that paths' calls read hold what they must; the entries lie in memory.
-/

section
set_option linter.unusedSimpArgs false
set_option linter.unusedVariables false
set_option maxRecDepth 100000
namespace Go.Proofs.YtlpljedacohngaaGreatDoor
open Go.RowKit

theorem evC_length (x : Ev) : (evC x).length = 4 := rfl
theorem infoEv : (Tryz.prog.info? 40).map (·.size) = some 4 := by kernel_rfl
/-- Is it an entry of this path? (the path lies in a box) -/
theorem isAt_any (w : World) (b : Nat) (x : Ev) (e : En) (B : Option Addr) (m d : Nat) (q : Pa) (hx : EvOk w x e) (hq : SIn w B m d q) (hc : w.cell? ⟨b, 0, none⟩ = some (.slice B m d)) :
    Calls Tryz.prog 92 #[.agg (evC x).toArray, .pointer (some ⟨b, 0, none⟩)] w fun en w' => en = .returned (.bool (decide (e.path = q))) ∧ Below w.heap.size w w' := by
  have hb := pnew w (.cells (evC x).toArray 40)
  have hk := Blk.new w 40 (evC x)
  have c0 : (w.alloc (.cells (evC x).toArray 40)).cell? ⟨w.heap.size, 0, none⟩ = some (.slice x.PA x.pn x.pc) := hk.cell 0
  have c2 := pcell_below hc hb
  have HB := Lib.hid (And.intro hb (psame_any _ x.PA B x.pn x.pc m d e.path q (hx.path.below hb) (hq.below hb)))
  obtain ⟨PA, pn, pc, k, md, DA, dn, dc⟩ := x
  clear hx hq hc hb hk
  go_enter Tryz.func92, Tryz.ntmps92
  go_wp2_with fail
  refine HB.out.2.mono ?_
  rintro en w1 ⟨rfl, h1⟩
  have H1 := Lib.hid (HB.out.1.trans (h1.mono HB.out.1.size))
  clear h1
  go_wp2_with fail
  go_ret
  exact ⟨rfl, H1.out⟩
/-- A place, as IndexFunc tells it. -/
def plN : Option Nat → Int
  | some i => i
  | none => -1
set_option maxHeartbeats 1000000 in
theorem index_at (w : World) (b : Nat) (A : Option Addr) (n c : Nat) (xs : List Ev) (es : List En) (h : EIn w A n c xs es) (B : Option Addr) (m d : Nat) (q : Pa) (hq : SIn w B m d q) (hc : w.cell? ⟨b, 0, none⟩ = some (.slice B m d)) :
    Calls Tryz.prog 91 #[.slice A n c, .func (.func 92) #[] #[.pointer (some ⟨b, 0, none⟩)]] w fun e w' => e = .returned (.int .i64 (plN (atE es q))) ∧ Below w.heap.size w w' := by
  have hbig : n ≤ 9223372036854775807 := by have := h.cap; have := h.big; omega
  have H := Lib.hid (And.intro h (And.intro hq hc))
  clear h hq hc
  go_enter Tryz.func91, Tryz.ntmps91
  go_wp2_with fail
  go_loopw [8] (fun iv wr => ∃ i : Nat, i ≤ n ∧ iv = .int .i64 i ∧ Hid (∀ (j : Nat) (y : En), j < i → es[j]? = some y → y.path ≠ q) ∧ Hid (Below w.heap.size w wr)) (fun iv _ => n - (intOf iv).toNat)
  case atStart => exact ⟨0, by omega, rfl, Lib.hid (fun j y h => absurd h (by omega)), Lib.hid (Below.refl _ _)⟩
  case round =>
    obtain ⟨i, hi, rfl, HK, HW⟩ := hrel
    by_cases hlt : i < n
    · obtain ⟨g, o, x, e, rfl, hg, hx, he, hok, hcl⟩ := (H.out.1.below HW.out).row hlt
      have HC := Lib.hid hcl
      have HE := Lib.hid he
      have HI := Lib.hid (isAt_any wr b x e B m d q hok (H.out.2.1.below HW.out) (pcell_below H.out.2.2 HW.out))
      clear hx he hok hcl
      go_wp2_with (refine wpList_load_mid rfl 40 (.tmp 14) rfl g (o + i * 4) rfl _ _ HC.out Tryz.underlying40 rfl infoEv ?_)
      refine HI.out.mono ?_
      rintro en w2 ⟨rfl, h2⟩
      have H2 := Lib.hid (HW.out.trans (h2.mono HW.out.size))
      clear h2
      by_cases hp : e.path = q
      · have hd : decide (e.path = q) = true := decide_eq_true hp
        have HP := Lib.hid hp
        rw [hd]
        clear hd hp
        go_wp2_with fail
        go_ret
        exact ⟨pret_num (by rw [ate_some es q i e HE.out HP.out HK.out]; rfl), H2.out⟩
      · have hd : decide (e.path = q) = false := decide_eq_false hp
        have HP := Lib.hid hp
        rw [hd]
        clear hd hp
        go_wp2_with fail
        go_roundw
        case rel => exact ⟨i + 1, by omega, by go_num, Lib.hid (fun j y hj hy => by
          by_cases hji : j < i
          · exact HK.out j y hji hy
          · obtain rfl : j = i := by omega
            rw [HE.out] at hy
            cases hy
            exact HP.out), H2⟩
        case measure => simp [intOf]; omega
    · obtain rfl : i = n := by omega
      have HQ : Hid (atE es q = none) := Lib.hid (ate_none es q fun j y hy => HK.out j y (by have := (List.getElem?_eq_some_iff.1 hy).1; have := H.out.1.elen; omega) hy)
      go_wp2_with fail
      go_ret
      exact ⟨pret_num (by rw [HQ.out]; rfl), HW.out⟩
theorem at_any12 (w : World) (A : Option Addr) (n c : Nat) (xs : List Ev) (es : List En) (h : EIn w A n c xs es) (B : Option Addr) (m d : Nat) (q : Pa) (hq : SIn w B m d q) :
    Calls Tryz.prog 75 #[.slice A n c, .slice B m d] w fun e w' => e = .returned (.int .i64 (plN (atE es q))) ∧ Below w.heap.size w w' := by
  have hmf : ∀ (fn : Fn) (first cap : Array Value) (w : World), (Instr.makeFunc fn first cap).run Tryz.prog w = .ok (.func fn first cap) w := fun _ _ _ _ => rfl
  have hb := pnew w (.cells #[.slice B m d] 38)
  have HI := Lib.hid (And.intro hb (index_at _ w.heap.size A n c xs es (h.below hb) B m d q (hq.below hb) ((Blk.new w 38 [.slice B m d]).cell 0)))
  clear h hq hb
  go_enter Tryz.func75, Tryz.ntmps75
  go_wp2_with fail
  refine HI.out.2.mono ?_
  rintro e w1 ⟨rfl, h1⟩
  have H1 := Lib.hid (HI.out.1.trans (h1.mono HI.out.1.size))
  clear h1
  go_wp2_with fail
  go_ret
  exact ⟨rfl, H1.out⟩
theorem plN_ge (o : Option Nat) : decide (0 ≤ plN o) = o.isSome := by
  cases o with
  | none => rfl
  | some i => simp [plN]
theorem twice_any (w : World) (x : Ev) (AH : Option Addr) (an ac : Nat) (SA : Option Addr) (sn sc : Nat) (p : Pa) (hp : SIn w x.PA x.pn x.pc p) (xs : List Ev) (es : List En) (h : EIn w AH an ac xs es) :
    Calls Tryz.prog 59 #[cdV x AH an ac SA sn sc] w fun e w' => e = .returned (.bool (twiceE es p)) ∧ Below w.heap.size w w' := by
  have hb := pnew w (.cells (cdC x AH an ac SA sn sc).toArray 82)
  have HB := Lib.hid (And.intro hb (at_any12 _ AH an ac xs es (h.below hb) x.PA x.pn x.pc p (hp.below hb)))
  have HF : Hid (twiceE es p = decide (0 ≤ plN (atE es p))) := Lib.hid (plN_ge _).symm
  clear hp h hb
  obtain ⟨PA, pn, pc, k, m, DA, dn, dc⟩ := x
  go_enter Tryz.func59, Tryz.ntmps59
  go_wp2_with fail
  refine HB.out.2.mono ?_
  rintro e w1 ⟨rfl, h1⟩
  have H1 := Lib.hid (HB.out.1.trans (h1.mono HB.out.1.size))
  clear h1
  go_wp2_with fail
  go_ret
  exact ⟨pret_bool (by rw [HF.out]), H1.out⟩
end Go.Proofs.YtlpljedacohngaaGreatDoor
end

/-
  An entry that shares no memory with the one it is the same as; the first entry of a path. Condition: the entries lie in memory.
-/

section
set_option linter.unusedSimpArgs false
set_option linter.unusedVariables false
set_option maxRecDepth 100000
namespace Go.Proofs.YtlpljedacohngaaGreatDoor
open Go.RowKit

theorem four_ev {w : World} {g t : Nat} {x : Ev} (h : Blk w g t (evC x)) : w.cell? ⟨g, 0, none⟩ = some (.slice x.PA x.pn x.pc) ∧ w.cell? ⟨g, 1, none⟩ = some (.int .i64 x.k) ∧ w.cell? ⟨g, 2, none⟩ = some (.int .i64 x.m) ∧ w.cell? ⟨g, 3, none⟩ = some (.slice x.DA x.dn x.dc) := ⟨h.cell 0, h.cell 1, h.cell 2, h.cell 3⟩
set_option maxHeartbeats 2000000 in
theorem own12_any (w : World) (x : Ev) (e : En) (h : EvOk w x e) :
    Calls Tryz.prog 43 #[evV x] w fun en w' => ∃ y, en = .returned (evV y) ∧ OwnE w.heap.size w' y e ∧ Below w.heap.size w w' := by
  have hb0 := (pnew w (.cells (evC x).toArray 40)).trans ((pnew (w.alloc (.cells (evC x).toArray 40)) (.cells #[.slice none 0 0, .int .i64 0, .int .i64 0, .slice none 0 0] 40)).mono (pnew w _).size)
  have hk := (Blk.new w 40 (evC x)).alloc (.cells #[.slice none 0 0, .int .i64 0, .int .i64 0, .slice none 0 0] 40)
  have hz := Blk.new (w.alloc (.cells (evC x).toArray 40)) 40 [.slice none 0 0, .int .i64 0, .int .i64 0, .slice none 0 0]
  rw [World.size_alloc] at hz
  obtain ⟨PA, pn, pc, k, m, DA, dn, dc⟩ := x
  obtain ⟨w1, hw1⟩ : ∃ w1, w1 = (w.alloc (.cells #[.slice PA pn pc, .int .i64 k, .int .i64 m, .slice DA dn dc] 40)).alloc (.cells #[.slice none 0 0, .int .i64 0, .int .i64 0, .slice none 0 0] 40) := ⟨_, rfl⟩
  have H := Lib.hid h
  have H1 : Hid (Blk w1 w.heap.size 40 (evC ⟨PA, pn, pc, k, m, DA, dn, dc⟩) ∧ Blk w1 (w.heap.size + 1) 40 [.slice none 0 0, .int .i64 0, .int .i64 0, .slice none 0 0] ∧ Below w.heap.size w w1) := Lib.hid (by rw [hw1]; exact ⟨hk, hz, hb0⟩)
  clear h hb0 hk hz
  obtain ⟨y0, y1, y2, y3⟩ := four_ev H1.out.1
  go_enter Tryz.func43, Tryz.ntmps43
  go_upto_region 1 with fail
  rw [← hw1]
  clear hw1
  have HP := Lib.hid (H.out.path.below H1.out.2.2)
  have hpn : pn ≤ 1000000 := by have := H.out.small.names; rw [H.out.path.len] at this; exact this
  have hdn : dn ≤ 1000000 := by have := H.out.small.data; rw [H.out.data.len] at this; exact this
  go_wp2_with (first
    | (refine wpList_app (v := .slice none 0 0) (base := w.heap.size) (n := 0) rfl rfl Tryz.underlying38 str_info rfl (by decide) (strV e.path) rfl (World.ownsRow_nil _ _ _ _) rfl (by rw [strV_length, HP.out.len, Nat.mul_one]) (fun h0 => sin_rows HP.out h0) (strV_one _) (by omega) (by decide) H1.out.2.2.size ?_; intro v2 w2 k1 k2 k3; rw [Nat.zero_add, List.nil_append] at k1; obtain ⟨R2, c2, rfl⟩ := own_slice k1; have b2 : Below w1.heap.size w1 w2 := k2.below (Nat.le_refl _) (by simp [Value.ownBlock]); have hk2 := H1.out.1.below b2 H1.out.1.lt; have x0 := hk2.cell 0; have x3 := hk2.cell 3; have f0 := hk2.frozen 0; have f3 := hk2.frozen 3; have hbb : Below w.heap.size w (w2.setCell ⟨w.heap.size, 0, none⟩ (.slice R2 pn c2)) := (H1.out.2.2.trans (b2.mono H1.out.2.2.size)).setCell (p := ⟨w.heap.size, 0, none⟩) (Nat.le_refl _) _; have H2 := Lib.hid (And.intro (ownsRow_only k1 ((Only.refl [w.heap.size] w2).setCell (p := ⟨w.heap.size, 0, none⟩) (.inl (by simp)) (.slice R2 pn c2)) (fun q hq hm => own_blk_ne k1 hk2 (by decide) (by simp at hm; rw [hq, hm]))) (And.intro (hk2.set_ 0 (.slice R2 pn c2)) (And.intro hbb (And.intro ((H1.out.2.1.below b2 H1.out.2.1.lt).far (p := ⟨w.heap.size, 0, none⟩) (by simp) (.slice R2 pn c2)) (H.out.data.below hbb))))); clear k1 k2 k3 b2 hk2 hbb y0 y1 y2 y3; simp only [evC, List.getElem?_cons_zero, List.getElem?_cons_succ] at x0 x3)
    | (refine wpList_app (v := .slice none 0 0) (base := w.heap.size) (n := 0) rfl rfl Tryz.underlying22 byt_info rfl (by decide) (Vb e.data) rfl (World.ownsRow_nil _ _ _ _) rfl (by rw [Vb_length, H2.out.2.2.2.2.len, Nat.mul_one]) (fun h0 => din_rows H2.out.2.2.2.2 h0) (Vb_oneCell _) (by omega) (by decide) H2.out.2.2.1.size ?_; intro v3 w3 k1 k2 k3; rw [Nat.zero_add, List.nil_append] at k1; obtain ⟨R3, c3, rfl⟩ := own_slice k1; have b3 := k2.below (B := (w2.setCell ⟨w.heap.size, 0, none⟩ (.slice R2 pn c2)).heap.size) (Nat.le_refl _) (by simp [Value.ownBlock]); have hk3 := H2.out.2.1.below b3 H2.out.2.1.lt; have hz3 := H2.out.2.2.2.1.below b3 H2.out.2.2.2.1.lt; have H3 := Lib.hid (And.intro (ownsRow_only (S := []) H2.out.1 (Only.of_below b3) (by simp)) (And.intro k1 (And.intro hk3 (And.intro hz3 (H2.out.2.2.1.trans (b3.mono H2.out.2.2.1.size)))))); clear x0 x3 f0 f3; have x0 := hk3.cell 0; have x1 := hk3.cell 1; have x2 := hk3.cell 2; have x3 := hk3.cell 3; have f3 := hk3.frozen 3; clear k1 k2 k3 b3 hk3 hz3; simp only [evC, List.set_cons_zero, List.getElem?_cons_zero, List.getElem?_cons_succ] at x0 x1 x2 x3)
    | (refine wpList_store_blk rfl 40 (.tmp 2) (.tmp 11) rfl (w.heap.size + 1) 0 (evC ⟨R2, pn, c2, k, m, R3, dn, c3⟩) rfl rfl (H3.out.2.2.2.1.far (p := ⟨w.heap.size, 3, none⟩) (by simp) (.slice R3 dn c3)) (by simp [evC]) infoEv (evC_one _) ?_; intro w4 hA hO; rw [over_whole (by simp [evC])] at hA))
  obtain ⟨d0, d1, d2, d3⟩ := four_ev hA
  have o1 : Only [w.heap.size, w.heap.size + 1] w3 w4 := ((Only.refl [w.heap.size, w.heap.size + 1] w3).setCell (p := ⟨w.heap.size, 3, none⟩) (.inl (by simp)) (.slice R3 dn c3)).trans (hO.mono (fun q hq _ => by simp at hq; simp [hq]))
  have hr2 := ownsRow_only H3.out.1 o1 (fun q hq hm => by
    simp at hm
    rcases hm with rfl | rfl
    · exact own_blk_ne H3.out.1 H3.out.2.2.1 (by decide) hq
    · exact own_blk_ne H3.out.1 H3.out.2.2.2.1 (by decide) hq)
  have hr3 := ownsRow_only H3.out.2.1 o1 (fun q hq hm => by
    simp at hm
    rcases hm with rfl | rfl
    · exact own_blk_ne H3.out.2.1 H3.out.2.2.1 (by decide) hq
    · exact own_blk_ne H3.out.2.1 H3.out.2.2.2.1 (by decide) hq)
  have hb4 : Below w.heap.size w w4 := H3.out.2.2.2.2.trans (o1.below H3.out.2.2.2.2.size (fun q hq => by simp at hq; omega))
  refine bodyPost_ret (v := evV ⟨R2, pn, c2, k, m, R3, dn, c3⟩) (by simp [results, Tryz.results43, go_sem, d0, d1, d2, d3]) rfl ?_
  exact ⟨⟨R2, pn, c2, k, m, R3, dn, c3⟩, rfl, ⟨by rw [H.out.path.len]; exact hr2, H.out.kind, H.out.mode, by rw [H.out.data.len]; exact hr3, H.out.small⟩, hb4⟩
end Go.Proofs.YtlpljedacohngaaGreatDoor
end

/-
  The first entry of a path, as the program and as the document find it; how many files there are. Condition: the entries lie in memory.
-/

section
set_option linter.unusedSimpArgs false
set_option linter.unusedVariables false
set_option maxRecDepth 100000
namespace Go.Proofs.YtlpljedacohngaaGreatDoor
open Go.RowKit

theorem zero_ev_build (W : World) : (Instr.build 40 #[]).run Tryz.prog W = .ok (evV ⟨none, 0, 0, 0, 0, none, 0, 0⟩) W := by kernel_rfl
/-- What Find answers. -/
def FindOut (N : Nat) (es : List En) (q : Pa) (y : Ev) (z : Int) (w' : World) : Prop := match atE es q with
  | none => z = 7
  | some i => z = 0 ∧ ∃ e, es[i]? = some e ∧ OwnE N w' y e
set_option maxHeartbeats 1000000 in
/-- The document's Same, of paths. -/
theorem rsame05_any (w : World) (A B : Option Addr) (n c m d : Nat) (p q : Pa) (h : SIn w A n c p) (k : SIn w B m d q) :
    Calls Tryz.prog 19 #[.slice A n c, .slice B m d] w fun e w' => e = .returned (.bool (decide (p = q))) ∧ Below w.heap.size w w' := by
  have hbig : n ≤ 9223372036854775807 := by have := h.cap; have := h.big; omega
  have H := Lib.hid (And.intro h k)
  have HL := Lib.hid (And.intro h.len k.len)
  clear h k
  by_cases hnm : n = m
  · subst hnm
    go_enter Tryz.func19, Tryz.ntmps19
    go_wp2_with fail
    go_loopw [5] (fun iv wr => ∃ i : Nat, i ≤ n ∧ iv = .int .i64 i ∧ Hid (∀ (j : Nat) t u, j < i → p[j]? = some t → q[j]? = some u → t = u) ∧ Hid (Below w.heap.size w wr)) (fun iv _ => n - (intOf iv).toNat)
    case atStart => exact ⟨0, by omega, rfl, Lib.hid (fun j t u h => absurd h (by omega)), Lib.hid (Below.refl _ _)⟩
    case round =>
      obtain ⟨i, hi, rfl, HK, HW⟩ := hrel
      by_cases hlt : i < n
      · obtain ⟨t, ht⟩ := H.out.1.get hlt
        obtain ⟨u, hu⟩ := H.out.2.get hlt
        obtain ⟨g, o, rfl, hg, hcl⟩ := (H.out.1.below HW.out).cells (by omega)
        obtain ⟨g2, o2, rfl, hg2, hcl2⟩ := (H.out.2.below HW.out).cells (by omega)
        have hc := hcl i t ht
        have hc2 := hcl2 i u hu
        have HT := Lib.hid (And.intro ht hu)
        have b0 : (0 : Int) ≤ (i : Int) := by omega
        have b1 : (i : Int) < (n : Int) := by omega
        clear hcl ht hcl2 hu
        by_cases htu : t = u
        · subst htu
          go_wp2_with fail
          go_region_held3 (fun w' => w'.cell? ⟨g, o + i, none⟩ = some (.string t) ∧ w'.cell? ⟨g2, o2 + i, none⟩ = some (.string t)) (first | exact ⟨hc, hc2⟩) (first | go_in)
          all_goals (go_wp2_with fail)
          all_goals exact ⟨⟨i + 1, by omega, by go_num, Lib.hid (fun j x y hj hx hy => by
            by_cases h : j < i
            · exact HK.out j x y h hx hy
            · obtain rfl : j = i := by omega
              have h1 := HT.out.1
              have h2 := HT.out.2
              rw [hx] at h1
              rw [hy] at h2
              cases h1
              cases h2
              rfl), Lib.hid (HW.out.trans ((pdrew _).mono HW.out.size))⟩, by simp [intOf]; omega⟩
        · have hd := str_ne htu
          have HQ : Hid (decide (p = q) = false) := Lib.hid (decide_eq_false fun e => htu (by
            have h1 := HT.out.1
            have h2 := HT.out.2
            rw [e] at h1
            rw [h1] at h2
            cases h2
            rfl))
          go_wp2_with fail
          go_region_held3 (fun w' => w'.cell? ⟨g, o + i, none⟩ = some (.string t) ∧ w'.cell? ⟨g2, o2 + i, none⟩ = some (.string u)) (first | exact ⟨hc, hc2⟩) (first | go_in)
          all_goals (go_wp2_with fail)
          all_goals ((try rw [Exit.noGoto_ret]); go_ret; exact ⟨pret_bool (by rw [HQ.out]), HW.out.trans ((pdrew _).mono HW.out.size)⟩)
      · obtain rfl : i = n := by omega
        have HQ : Hid (decide (p = q) = true) := Lib.hid (decide_eq_true (pa_ext (by rw [HL.out.1, HL.out.2]) fun j x y hx hy => HK.out j x y (by have := (List.getElem?_eq_some_iff.1 hx).1; have := HL.out.1; omega) hx hy))
        go_wp2_with fail
        go_ret
        exact ⟨pret_bool (by rw [HQ.out]), HW.out⟩
  · have HQ : Hid (decide (p = q) = false) := Lib.hid (decide_eq_false (pa_ne_len (by rw [HL.out.1, HL.out.2]; exact hnm)))
    have hd : ¬ (n : Int) = m := by omega
    go_enter Tryz.func19, Tryz.ntmps19
    go_wp2_with fail
    go_ret
    exact ⟨pret_bool (by rw [HQ.out]), Below.refl _ _⟩
set_option maxHeartbeats 1000000 in
/-- The document's Find. -/
theorem rfind12_any (w : World) (A : Option Addr) (n c : Nat) (xs : List Ev) (es : List En) (h : EIn w A n c xs es) (B : Option Addr) (m d : Nat) (q : Pa) (hq : SIn w B m d q) :
    Calls Tryz.prog 30 #[.slice A n c, .slice B m d] w fun e w' => e = .returned (.int .i64 (plN (atE es q))) ∧ Below w.heap.size w w' := by
  have hbig : n ≤ 9223372036854775807 := by have := h.cap; have := h.big; omega
  have H := Lib.hid (And.intro h hq)
  clear h hq
  go_enter Tryz.func30, Tryz.ntmps30
  go_wp2_with fail
  go_loopw [5] (fun iv wr => ∃ i : Nat, i ≤ n ∧ iv = .int .i64 i ∧ Hid (∀ (j : Nat) (y : En), j < i → es[j]? = some y → y.path ≠ q) ∧ Hid (Below w.heap.size w wr)) (fun iv _ => n - (intOf iv).toNat)
  case atStart => exact ⟨0, by omega, rfl, Lib.hid (fun j y h => absurd h (by omega)), Lib.hid (Below.refl _ _)⟩
  case round =>
    obtain ⟨i, hi, rfl, HK, HW⟩ := hrel
    by_cases hlt : i < n
    · obtain ⟨g, o, x, e, rfl, hg, hx, he, hok, hcl⟩ := (H.out.1.below HW.out).row hlt
      have c0 : wr.cell? ⟨g, o + i * 4, none⟩ = some (.slice x.PA x.pn x.pc) := hcl 0 _ rfl
      have HE := Lib.hid he
      have HI := Lib.hid (rsame05_any wr x.PA B x.pn x.pc m d e.path q hok.path (H.out.2.below HW.out))
      clear hx he hok hcl
      go_wp2_with fail
      refine HI.out.mono ?_
      rintro en w2 ⟨rfl, h2⟩
      have H2 := Lib.hid (HW.out.trans (h2.mono HW.out.size))
      clear h2
      by_cases hp : e.path = q
      · have hd : decide (e.path = q) = true := decide_eq_true hp
        have HP := Lib.hid hp
        rw [hd]
        clear hd hp
        go_wp2_with fail
        go_ret
        exact ⟨pret_num (by rw [ate_some es q i e HE.out HP.out HK.out]; rfl), H2.out⟩
      · have hd : decide (e.path = q) = false := decide_eq_false hp
        have HP := Lib.hid hp
        rw [hd]
        clear hd hp
        go_wp2_with fail
        go_roundw
        case rel => exact ⟨i + 1, by omega, by go_num, Lib.hid (fun j y hj hy => by
          by_cases hji : j < i
          · exact HK.out j y hji hy
          · obtain rfl : j = i := by omega
            rw [HE.out] at hy
            cases hy
            exact HP.out), H2⟩
        case measure => simp [intOf]; omega
    · obtain rfl : i = n := by omega
      have HQ : Hid (atE es q = none) := Lib.hid (ate_none es q fun j y hy => HK.out j y (by have := (List.getElem?_eq_some_iff.1 hy).1; have := H.out.1.elen; omega) hy)
      go_wp2_with fail
      go_ret
      exact ⟨pret_num (by rw [HQ.out]; rfl), HW.out⟩
end Go.Proofs.YtlpljedacohngaaGreatDoor
end

/-
  ArchiveFronts, plainly: the first entries of a right archive, and one of its paths once more. Plain theorems; no condition.
-/

section
set_option linter.unusedSimpArgs false
set_option linter.unusedVariables false
set_option maxRecDepth 100000
namespace Go.Proofs.YtlpljedacohngaaGreatDoor
open Go.RowKit

theorem chk_spec : ∀ (es ahead : List En), ∃ k, k ≤ es.length ∧ (chkFrom ahead es).1 = ahead.length + k ∧ (∀ (j : Nat) x, j < k → es[j]? = some x → refE x (ahead ++ es.take j) false = 0) ∧ (((chkFrom ahead es).2 = 0 ∧ k = es.length) ∨ ((chkFrom ahead es).2 ≠ 0 ∧ k < es.length)) := by
  intro es
  induction es with
  | nil => intro ahead; exact ⟨0, Nat.le_refl _, rfl, fun j x h => absurd h (by omega), .inl ⟨rfl, rfl⟩⟩
  | cons e es ih =>
    intro ahead
    unfold chkFrom
    by_cases h : refE e ahead false = 0
    · rw [if_pos h]
      obtain ⟨k, h1, h2, h3, h4⟩ := ih (ahead ++ [e])
      refine ⟨k + 1, by simp; exact h1, by rw [h2, List.length_append]; simp; omega, fun j x hj hx => ?_, ?_⟩
      · cases j with
        | zero =>
          simp only [List.getElem?_cons_zero, Option.some.injEq] at hx
          subst hx
          simpa using h
        | succ j =>
          have := h3 j x (by omega) (by simpa using hx)
          rw [List.append_assoc] at this
          rw [List.take_succ_cons]
          exact this
      · rcases h4 with ⟨h5, h6⟩ | ⟨h5, h6⟩
        · exact .inl ⟨h5, by simp [h6]⟩
        · exact .inr ⟨h5, by simp; omega⟩
    · rw [if_neg h]
      exact ⟨0, Nat.zero_le _, rfl, fun j x hj => absurd hj (by omega), .inr ⟨h, by simp⟩⟩
theorem chkE_spec {ts : List En} (h40 : ts.length ≤ 40) : (chkE ts).1 ≤ ts.length ∧ (∀ (j : Nat) x, j < (chkE ts).1 → ts[j]? = some x → refE x (ts.take j) false = 0) ∧ ((chkE ts).2 = 0 → (chkE ts).1 = ts.length) := by
  have e : chkE ts = chkFrom [] ts := by unfold chkE; rw [if_neg (by omega)]
  obtain ⟨k, h1, h2, h3, h4⟩ := chk_spec ts []
  rw [List.length_nil, Nat.zero_add] at h2
  rw [e, h2]
  refine ⟨h1, fun j x hj hx => ?_, fun hz => ?_⟩
  · have := h3 j x hj hx
    rwa [List.nil_append] at this
  · rcases h4 with ⟨_, h6⟩ | ⟨h5, _⟩
    · exact h6
    · exact absurd hz h5
theorem chk_front {ts : List En} (h40 : ts.length ≤ 40) : chkE (ts.take (chkE ts).1) = ((chkE ts).1, 0) := by
  obtain ⟨h1, h2, _⟩ := chkE_spec h40
  have hl : (ts.take (chkE ts).1).length = (chkE ts).1 := by rw [List.length_take]; omega
  have e : chkE (ts.take (chkE ts).1) = chkFrom [] (ts.take (chkE ts).1) := by
    show (if 40 < (ts.take (chkE ts).1).length then ((40, 2) : Nat × Int) else chkFrom [] (ts.take (chkE ts).1)) = _
    rw [if_neg (by rw [hl]; omega)]
  rw [e, chk_all _ [] (fun j x hx => ?_), hl]
  · simp
  · rw [List.nil_append]
    rw [List.getElem?_take] at hx
    split at hx
    · rename_i hj
      rw [List.take_take, show min j (chkE ts).1 = j by omega]
      exact h2 j x hj hx
    · cases hx
theorem at_mem : ∀ {es : List En} {e : En}, e ∈ es → (atE es e.path).isSome = true := by
  intro es
  induction es with
  | nil => intro e h; cases h
  | cons x xs ih =>
    intro e h
    unfold atE
    split
    · rfl
    · rename_i hne
      rcases List.mem_cons.1 h with rfl | h
      · exact absurd rfl hne
      · rw [Option.isSome_map]
        exact ih h
theorem chk_twice {ts : List En} (h40 : ts.length ≤ 40) {n : Nat} {e : En} (hn : n < (chkE ts).1) (he : ts[n]? = some e) (h39 : (chkE ts).1 ≤ 39) : chkE (ts.take (chkE ts).1 ++ [e]) = ((chkE ts).1, 8) := by
  obtain ⟨h1, h2, _⟩ := chkE_spec h40
  obtain ⟨k, hk⟩ : ∃ k, k = (chkE ts).1 := ⟨_, rfl⟩
  rw [← hk] at h1 h2 hn h39 ⊢
  have hl : (ts.take k).length = k := by rw [List.length_take]; omega
  have hz := ref_all (h2 n e hn he)
  have hr : refE e (ts.take k) false = 8 := by
    have hm : e ∈ ts.take k := by
      refine List.mem_of_getElem? (i := n) ?_
      rw [List.getElem?_take, if_pos hn]
      exact he
    refine ref_found (k := 6) (by omega) (fun j hj => ?_) (at_mem hm)
    have := hz j (by omega)
    match j, hj with
    | 0, _ | 1, _ | 2, _ | 3, _ | 4, _ | 5, _ => exact this
    | j + 6, h => omega
  have e2 : chkE (ts.take k ++ [e]) = chkFrom [] (ts.take k ++ [e]) := by unfold chkE; rw [if_neg (by rw [List.length_append, hl]; simp; omega)]
  have hat : (ts.take k ++ [e])[k]? = some e := by
    rw [List.getElem?_append_right (by omega), hl, Nat.sub_self]
    rfl
  have htk : (ts.take k ++ [e]).take k = ts.take k := by rw [List.take_left' hl]
  rw [e2, chk_stop _ [] k e hat (fun j x hj hx => ?_) (by rw [List.nil_append, htk, hr]; decide), List.nil_append, htk, hr]
  · simp
  · rw [List.nil_append]
    rw [List.getElem?_append_left (by omega), List.getElem?_take, if_pos hj] at hx
    rw [List.take_append_of_le_length (by omega), List.take_take, show min j k = j by omega]
    exact h2 j x hj hx
theorem toEs_length (es : List En) : (toEs es).length ≤ 41 := by unfold toEs; rw [List.length_map, List.length_take]; omega
/-- The cells of a row of entries. -/
theorem EIn.rows {w : World} {A : Option Addr} {n c : Nat} {xs : List Ev} {es : List En} (h : EIn w A n c xs es) (h0 : 0 < n) : ∃ g off, A = some ⟨g, off, Option.none⟩ ∧ ∀ (j : Nat) u, (rowE xs)[j]? = some u → w.cell? ⟨g, off + j, Option.none⟩ = some u := by
  obtain ⟨g, o, hA, _, hc⟩ := h.cells h0
  refine ⟨g, o, hA, fun j u hu => ?_⟩
  have hj : j < xs.length * 4 := by
    have := (List.getElem?_eq_some_iff.1 hu).1
    rw [rowE_length] at this
    exact this
  have hx := List.getElem?_eq_getElem (l := xs) (i := j / 4) (by omega)
  obtain ⟨x, hxe⟩ : ∃ x, x = xs[j / 4]'(by omega) := ⟨_, rfl⟩
  rw [← hxe] at hx
  have hv := List.getElem?_eq_getElem (l := evC x) (i := j % 4) (by show j % 4 < 4; omega)
  have h1 := rowE_get xs (j / 4) x hx (j % 4) _ hv
  rw [show j / 4 * 4 + j % 4 = j by omega, hu] at h1
  cases h1
  have := hc (j / 4) x hx (j % 4) _ hv
  rw [show o + j / 4 * 4 + j % 4 = o + j by omega] at this
  exact this
theorem rowE_one (xs : List Ev) : ∀ u ∈ rowE xs, u.oneCell' = true := by
  intro u hu
  unfold rowE at hu
  obtain ⟨x, _, hx⟩ := List.mem_flatMap.1 hu
  exact evC_one x u hx
/-- Entries in a row of the call's own. -/
theorem ein_row {N T n : Nat} {w : World} {v : Value} {xs : List Ev} {es : List En} (h : w.ownsRow N T 4 v n (rowE xs)) (hl : xs.length = n) (hl2 : es.length = n) (hok : ∀ (i : Nat) x e, xs[i]? = some x → es[i]? = some e → EvOk w x e) :
    ∃ A c, v = .slice A n c ∧ EIn w A n c xs es := by
  subst hl
  rcases h.2 with ⟨rfl, h0⟩ | ⟨g, cap, cur, rfl, hg, hb, h1, h2, h3, h4⟩
  · exact ⟨none, 0, by rw [h0], ⟨rfl, hl2, by omega, by omega, fun _ => rfl, fun hp => absurd hp (by omega), hok⟩⟩
  · refine ⟨_, _, rfl, ⟨rfl, hl2, by omega, by unfold maxLen at h2; omega, (fun ha => by cases ha), fun hp => ⟨g, 0, rfl, (Array.getElem?_eq_some_iff.1 hb).1, fun i x hx j u hu => ?_⟩, hok⟩⟩
    have hk : Blk w g T cur.toList := by simpa [Blk] using hb
    rw [hk.cell, Nat.zero_add]
    have := rowE_get xs i x hx j u hu
    rw [← h4, List.getElem?_take] at this
    split at this
    · exact this
    · cases this
end Go.Proofs.YtlpljedacohngaaGreatDoor
end

/-
  How many files there are, and how many bytes; the digest of each entry's bytes. Conditions: the entries lie in memory; the constants lie in their variable.
-/

section
set_option linter.unusedSimpArgs false
set_option linter.unusedVariables false
set_option maxRecDepth 100000
namespace Go.Proofs.YtlpljedacohngaaGreatDoor
open Go.RowKit

def filesE (es : List En) : Nat := (es.map fun e => if e.kind = 0 then 1 else 0).sum
def sizeE (es : List En) : Nat := (es.map fun e => if e.kind = 0 then e.data.length else 0).sum
theorem files_next {es : List En} {i : Nat} {e : En} (h : es[i]? = some e) : filesE (es.take (i + 1)) = filesE (es.take i) + if e.kind = 0 then 1 else 0 := by
  unfold filesE
  rw [List.take_add_one, h, Option.toList_some, List.map_append, List.sum_append]
  simp
theorem size_next {es : List En} {i : Nat} {e : En} (h : es[i]? = some e) : sizeE (es.take (i + 1)) = sizeE (es.take i) + if e.kind = 0 then e.data.length else 0 := by
  unfold sizeE
  rw [List.take_add_one, h, Option.toList_some, List.map_append, List.sum_append]
  simp
theorem sums_small {es : List En} (h : ∀ e ∈ es, SmallE e) : ∀ i, filesE (es.take i) ≤ i ∧ sizeE (es.take i) ≤ i * 1000000 := by
  intro i
  induction i with
  | zero => simp [filesE, sizeE]
  | succ i ih =>
    cases he : es[i]? with
    | none =>
      have : es.take (i + 1) = es.take i := by
        rw [List.take_add_one, he]
        simp
      rw [this]
      omega
    | some e =>
      rw [files_next he, size_next he]
      have := (h e (List.mem_of_getElem? he)).data
      split <;> omega
theorem EIn.smalls {w : World} {A : Option Addr} {n c : Nat} {xs : List Ev} {es : List En} (h : EIn w A n c xs es) : ∀ e ∈ es, SmallE e := by
  intro e he
  obtain ⟨i, hi⟩ := List.getElem?_of_mem he
  have hl := (List.getElem?_eq_some_iff.1 hi).1
  obtain ⟨x, e', h1, h2, h3⟩ := h.get (i := i) (by rw [← h.elen]; exact hl)
  rw [hi] at h2
  cases h2
  exact h3.small
end Go.Proofs.YtlpljedacohngaaGreatDoor
end

/-
  The digest of each entry's bytes. Conditions: the entries lie in memory; the constants lie in their variable.
-/

section
set_option linter.unusedSimpArgs false
set_option linter.unusedVariables false
set_option maxRecDepth 100000
namespace Go.Proofs.YtlpljedacohngaaGreatDoor
open Go.RowKit

theorem slice_bs (W : World) (A : Option Addr) (n c : Nat) : (Instr.buildSlice 77 1 #[(0, .slice A n c)]).run Tryz.prog W = .ok (.slice (some ⟨W.heap.size, 0, none⟩) 1 1) (W.alloc (.cells #[.slice A n c] 22)) := by kernel_rfl
theorem dg_info : (Tryz.prog.info? 74).map (fun i => (i.zero, i.size, i.bytes)) = some (some (.agg (List.replicate 32 (Value.int .u8 0)).toArray), 32, 32) := by kernel_rfl
/-- The digests' cells, one behind the other. -/
def rowD (ks : List B32) (es : List En) : List Value := es.flatMap fun e => Vb (sha ks e.data)
theorem rowD_next {ks : List B32} {es : List En} {i : Nat} {e : En} (h : es[i]? = some e) : rowD ks (es.take (i + 1)) = rowD ks (es.take i) ++ Vb (sha ks e.data) := by
  unfold rowD
  rw [List.take_add_one, h, Option.toList_some]
  simp
theorem txts_one {w : World} {q g : Nat} {A : Option Addr} {n c : Nat} {d : List B8} (hk : Blk w g 22 [.slice A n c]) (h : DIn w A n c d) (hq : w.heap.size ≤ q) : Txts w q (some ⟨g, 0, none⟩) 1 [d] := by
  refine ⟨rfl, fun _ => ⟨g, 0, rfl, by have := hk.lt; omega, fun i x hx => ?_⟩⟩
  have hi : i = 0 := by
    have := (List.getElem?_eq_some_iff.1 hx).1
    simp at this
    omega
  subst hi
  simp only [List.getElem?_cons_zero, Option.some.injEq] at hx
  subst hx
  exact ⟨A, n, c, (hk.cell 0).trans rfl, h.txt hq⟩
end Go.Proofs.YtlpljedacohngaaGreatDoor
end

/-
  The sum that binds an entry's path and bytes. Conditions: the entry lies in memory; the constants lie in their variable.
-/

section
set_option linter.unusedSimpArgs false
set_option linter.unusedVariables false
set_option maxRecDepth 100000
namespace Go.Proofs.YtlpljedacohngaaGreatDoor
open Go.RowKit

theorem conv_str (W : World) (s : ByteArray) : (convert 9 22 (.string s)).run Tryz.prog W = .ok (.slice (some ⟨W.heap.size, 0, none⟩) s.size (grownCap W s.size 0 5)) (Lib.bytesWorld W 5 s) :=
  Lib.run_convert_string_bytes W 9 22 5 s Tryz.underlying9 Tryz.underlying22 Tryz.underlying5
def bytB (s : ByteArray) : List B8 := s.data.toList.map (·.toBitVec)
theorem bytB_length (s : ByteArray) : (bytB s).length = s.size := by
  unfold bytB
  rw [List.length_map, Array.length_toList]
  rfl
def newA (N : Nat) : Value → World → Prop := fun u w => ∃ g, u = .pointer (some ⟨g, 0, none⟩) ∧ N ≤ g ∧ Blk w g 74 (List.replicate 32 (.int .u8 0))
theorem newA.st (N : Nat) : StV (newA N) := fun _ _ _ ⟨g, h1, h2, h3⟩ hb => ⟨g, h1, h2, h3.below hb h3.lt⟩
theorem alloc_dg (W : World) : (Instr.alloc 74 true (.tuple #[])).run Tryz.prog W = .ok (.pointer (some ⟨W.heap.size, 0, none⟩)) (W.alloc (.cells (List.replicate 32 (Value.int .u8 0)).toArray 74)) := by kernel_rfl
theorem din_conv (w : World) (s : ByteArray) (hs : s.size ≤ 100000) : DIn (Lib.bytesWorld w 5 s) (some ⟨w.heap.size, 0, none⟩) s.size (grownCap w s.size 0 5) (bytB s) := by
  have hge := grownCap_ge w s.size 0 5
  have hle := grownCap_le_maxLen w s.size 0 5 (by unfold maxLen; omega)
  refine ⟨bytB_length s, hge, by unfold maxLen at hle; omega, (fun h => by cases h), fun _ => ⟨w.heap.size, 0, rfl, by rw [Lib.bytesWorld_size]; omega, fun j u hu => ?_⟩⟩
  have hj := (List.getElem?_eq_some_iff.1 hu).1
  rw [Vb_length, bytB_length] at hj
  rw [Nat.zero_add, Lib.bytesWorld_cell w 5 s j hj]
  rw [Vb_get] at hu
  unfold bytB at hu
  rw [List.getElem?_map] at hu
  have hx := List.getElem?_eq_getElem (l := s.data.toList) (i := j) (by rw [Array.length_toList]; exact hj)
  rw [hx] at hu
  simp only [Option.map_some, Option.some.injEq] at hu
  rw [← hu, List.getD_eq_getElem?_getD, hx, Option.getD_some]
  unfold nb
  rfl
def dinV (k : Nat) (d : List B8) : Value → World → Prop := fun u w => ∃ A c, u = .slice A k c ∧ DIn w A k c d
theorem dinV.st (k : Nat) (d : List B8) : StV (dinV k d) := fun _ _ _ ⟨A, c, h1, h2⟩ hb => ⟨A, c, h1, h2.below hb⟩
def twoV (k : Nat) (d : List B8) (DA : Option Addr) (dn dc : Nat) : Value → World → Prop := fun u w => ∃ p A c, u = .slice (some ⟨p, 0, none⟩) 2 2 ∧ Blk w p 22 [.slice A k c, .slice DA dn dc] ∧ DIn w A k c d
theorem twoV.st (k : Nat) (d : List B8) (DA : Option Addr) (dn dc : Nat) : StV (twoV k d DA dn dc) := fun _ _ _ ⟨p, A, c, h1, h2, h3⟩ hb => ⟨p, A, c, h1, h2.below hb h2.lt, h3.below hb⟩
theorem slice_two (W : World) (A : Option Addr) (n c : Nat) (B : Option Addr) (m d : Nat) : (Instr.buildSlice 77 2 #[(0, .slice A n c), (1, .slice B m d)]).run Tryz.prog W = .ok (.slice (some ⟨W.heap.size, 0, none⟩) 2 2) (W.alloc (.cells #[.slice A n c, .slice B m d] 22)) := by kernel_rfl
theorem txts_two {w : World} {q g : Nat} {A B : Option Addr} {n c m k : Nat} {d f : List B8} (hk : Blk w g 22 [.slice A n c, .slice B m k]) (h : DIn w A n c d) (h2 : DIn w B m k f) (hq : w.heap.size ≤ q) : Txts w q (some ⟨g, 0, none⟩) 2 [d, f] := by
  refine ⟨rfl, fun _ => ⟨g, 0, rfl, by have := hk.lt; omega, fun i x hx => ?_⟩⟩
  match i, hx with
  | 0, hx =>
    simp only [List.getElem?_cons_zero, Option.some.injEq] at hx
    subst hx
    exact ⟨A, n, c, (hk.cell 0).trans rfl, h.txt hq⟩
  | 1, hx =>
    simp only [List.getElem?_cons_succ, List.getElem?_cons_zero, Option.some.injEq] at hx
    subst hx
    exact ⟨B, m, k, (hk.cell 1).trans rfl, h2.txt hq⟩
  | i + 2, hx => simp at hx
theorem slice8 (b : Nat) (W : World) : (Instr.sliceAt 74 (.pointer (some ⟨b, 0, none⟩)) none (some (.int .i64 8)) none).run Tryz.prog W = .ok (.slice (some ⟨b, 0, none⟩) 8 32) W := by
  have hl : Tryz.prog.arrayLen 74 = 32 := by kernel_rfl
  have he : Tryz.prog.elem 74 = 5 := by kernel_rfl
  have hs : (sizeOf 5).run Tryz.prog W = .ok 1 W := by kernel_rfl
  have h := run_sliceAt_array_h (P := Tryz.prog) W 74 ⟨b, 0, none⟩ (by rw [hl, he]; exact Tryz.underlying74) .i64 8 (by omega) (by rw [hl]; omega)
  rw [h, he, hs, hl]
  simp only [Result.andThen_ok, slicedAt]
  rw [if_neg (by omega), Addr.add_mid]
  rfl
/-- The sum of an entry. -/
def sumE (e : En) : List B8 := (sha Ks (framesOf [bytB (textP e.path), e.data])).take 8
set_option maxHeartbeats 4000000 in
theorem sumof_any (w : World) (hK : Roots Ks w) (x : Ev) (e : En) (h : EvOk w x e) (hj : (joinP e.path).size ≤ 900) (hdn : e.data.length ≤ 1000) :
    Calls Tryz.prog 38 #[evV x] w fun en w' => ∃ A, en = .returned (.slice A 8 32) ∧ DIn w' A 8 32 (sumE e) ∧ Below w.heap.size w w' := by
  have hb := pnew w (.cells (evC x).toArray 40)
  obtain ⟨y0, y1, y2, y3⟩ := four_ev (Blk.new w 40 (evC x))
  have HB := Lib.hid hb
  have hE := h.below hb
  have HE := Lib.hid (And.intro hE.path (And.intro hE.data (hK.below hb hK.pos)))
  have hpn : x.pn ≤ 1000000 := by have := h.small.names; rw [h.path.len] at this; omega
  have hjn : (joinP e.path).size ≤ 1000000000 := by have := h.small.text; omega
  have htx : (textP e.path).size ≤ 901 := by
    unfold textP
    rw [ByteArray.size_append]
    have : slashB.size = 1 := rfl
    omega
  obtain ⟨tx, htxe⟩ : ∃ t, textP e.path = t := ⟨_, rfl⟩
  rw [htxe] at htx
  have hsz : tx.size = (bytB tx).length := (bytB_length tx).symm
  have HX : Hid (textP e.path = tx ∧ (bytB tx).length ≤ 1000) := Lib.hid ⟨htxe, by rw [bytB_length]; omega⟩
  obtain ⟨dg, hdg⟩ : ∃ d, sha Ks (framesOf [bytB tx, e.data]) = d := ⟨_, rfl⟩
  have hls := sha_length Ks (framesOf [bytB tx, e.data])
  rw [hdg] at hls
  have HG := Lib.hid hdg
  have HS : Hid (sumE e = dg.take 8) := Lib.hid (by unfold sumE; rw [htxe, hdg])
  clear h hE hK hb htxe hdg y1 y2
  obtain ⟨PA, pn, pc, k, m, DA, dn, dc⟩ := x
  go_enter Tryz.func38, Tryz.ntmps38
  go_wp2_with fail
  refine wp_hideQ ?_
  intro QQ hQQ
  refine wp_region_quickT [some 4, some 5, some 6, some 7, some 8, some 9, some 10, some 11, some 3] [isV (.pointer (some ⟨w.heap.size, 0, none⟩)), isV (.slice PA pn pc), isV (.string tx), dinV tx.size (bytB tx), isV (.pointer (some ⟨w.heap.size, 3, none⟩)), isV (.slice DA dn dc), twoV tx.size (bytB tx) DA dn dc, isV (.agg (Vb dg).toArray), newA w.heap.size] 9 10 (by kernel_rfl) rfl rfl rfl rfl (by kernel_rfl) (by kernel_rfl) (by simp [isV.st, dinV.st, twoV.st, newA.st]) ?_ ?_
  · intro hq rz hz
    match rz, hz with
    | 0, _ =>
      refine StepL.val rfl [] (by decide +kernel) ?_
      intro v wx hR hd
      exact ⟨wanted_plain rfl _, _, _, x_field rfl (fill_off rfl rfl) (r_field (off := 0) (by kernel_rfl)), hR, Below.refl _ _, rfl⟩
    | 1, _ =>
      refine StepL.val rfl [0] (by decide +kernel) ?_
      intro v wx hR hd
      have h0 : v 0 = _ := hd 0 (by simp)
      exact ⟨wanted_plain rfl _, _, _, x_load rfl (hq.at_ rfl h0) (r_load (by kernel_rfl) (pcell_below y0 hR)), hR, Below.refl _ _, rfl⟩
    | 2, _ =>
      refine StepL.call rfl [1] (by decide +kernel) ?_
      intro v wx hR hd
      have h1 : v 1 = _ := hd 1 (by simp)
      refine ⟨wanted_plain rfl _, 37, _, _, x_call rfl rfl (args_1 (hq.at_ rfl h1)) (by kernel_rfl) rfl, ?_⟩
      refine (ptext_any wx PA pn pc e.path (HE.out.1.below hR) (by omega) (by omega)).mono ?_
      rintro en w' ⟨rfl, hW⟩
      exact ⟨.string tx, by rw [HX.out.1], hR.trans (hW.mono hR.size), hW, rfl⟩
    | 3, _ =>
      refine StepL.val rfl [2] (by decide +kernel) ?_
      intro v wx hR hd
      have h2 : v 2 = _ := hd 2 (by simp)
      have hb := Lib.bytesWorld_below wx 5 tx
      exact ⟨wanted_plain rfl _, xe_ex (x_conv rfl (hq.at_ rfl h2) (conv_str wx tx)) ⟨hR.trans (hb.mono hR.size), hb, _, _, rfl, din_conv wx tx (by omega)⟩⟩
    | 4, _ =>
      refine StepL.val rfl [] (by decide +kernel) ?_
      intro v wx hR hd
      exact ⟨wanted_plain rfl _, _, _, x_field rfl (fill_off rfl rfl) (r_field (off := 3) (by kernel_rfl)), hR, Below.refl _ _, rfl⟩
    | 5, _ =>
      refine StepL.val rfl [4] (by decide +kernel) ?_
      intro v wx hR hd
      have h4 : v 4 = _ := hd 4 (by simp)
      exact ⟨wanted_plain rfl _, _, _, x_load rfl (hq.at_ rfl h4) (r_load (by kernel_rfl) (pcell_below y3 hR)), hR, Below.refl _ _, rfl⟩
    | 6, _ =>
      refine StepL.val rfl [3, 5] (by decide +kernel) ?_
      intro v wx hR hd
      obtain ⟨A3, c3, h3, hd3⟩ : dinV tx.size (bytB tx) (v 3) wx := hd 3 (by simp)
      have h5 : v 5 = _ := hd 5 (by simp)
      have hb := pnew wx (.cells #[.slice A3 tx.size c3, .slice DA dn dc] 22)
      exact ⟨wanted_plain rfl _, xe_ex (x_slice rfl (pairs_2 (hq.at_ rfl h3) (hq.at_ rfl h5)) (slice_two wx _ _ _ _ _ _)) ⟨hR.trans (hb.mono hR.size), hb, _, _, _, rfl, Blk.new wx 22 [.slice A3 tx.size c3, .slice DA dn dc], hd3.below hb⟩⟩
    | 7, _ =>
      refine StepL.call rfl [6] (by decide +kernel) ?_
      intro v wx hR hd
      obtain ⟨p6, A6, c6, h6, hk6, hd6⟩ : twoV tx.size (bytB tx) DA dn dc (v 6) wx := hd 6 (by simp)
      refine ⟨wanted_plain rfl _, 50, _, _, x_call rfl rfl (args_1 (hq.at_ rfl h6)) (by kernel_rfl) rfl, ?_⟩
      refine (framed_1k Ks wx _ 2 2 [bytB tx, e.data] (HE.out.2.2.below hR HE.out.2.2.pos) (txts_two hk6 hd6 (HE.out.2.1.below hR) (Nat.le_refl _)) (by omega) (by have := HX.out.2; intro z hz; simp at hz; rcases hz with rfl | rfl <;> omega)).mono ?_
      rintro en w' ⟨rfl, hW⟩
      exact ⟨.agg (Vb dg).toArray, by rw [HG.out], hR.trans (hW.mono hR.size), hW, rfl⟩
    | 8, _ =>
      refine StepL.val rfl [] (by decide +kernel) ?_
      intro v wx hR hd
      have hb := pnew wx (.cells (List.replicate 32 (Value.int .u8 0)).toArray 74)
      exact ⟨wanted_plain rfl _, xe_ex (x_alloc rfl (alloc_dg wx)) ⟨hR.trans (hb.mono hR.size), hb, _, rfl, Nat.le_trans HB.out.size hR.size, Blk.new wx 74 (List.replicate 32 (.int .u8 0))⟩⟩
    | rz + 9, h => omega
  · intro v wx hR hV
    have h7 : v 7 = _ := hV 7 (by omega)
    obtain ⟨g8, h8, hg8, hk8⟩ : newA w.heap.size (v 8) wx := hV 8 (by omega)
    simp only [fillR, Act.put, List.setIfInBounds_toArray, List.set_cons_zero, List.set_cons_succ, List.drop_succ_cons, List.drop_zero, h7, h8]
    have HR := Lib.hid (And.intro (HB.out.trans (hR.mono HB.out.size)) (And.intro hk8 hg8))
    have hs8 := slice8
    clear hV hR h7 h8 y0 y3 hk8 hg8
    go_wp2_with (refine wpList_store_blk rfl 74 (.tmp 3) (.tmp 11) rfl g8 0 (Vb dg) rfl rfl HR.out.2.1 (by simp [Vb_length, hls]) (info31.trans (by simp [Vb_length, hls])) (Vb_oneCell _) ?_; intro w5 hA hO; rw [over_whole (by simp [Vb_length, hls])] at hA; have H5 := Lib.hid (And.intro hA (HR.out.1.trans (hO.below (B := w.heap.size) HR.out.1.size (by intro q hq; simp at hq; subst hq; have := HR.out.2.2; have := HB.out.size; omega)))); clear hA hO)
    go_ret
    refine ⟨some ⟨g8, 0, none⟩, rfl, ?_, H5.out.2⟩
    rw [HS.out]
    exact ⟨by rw [List.length_take, hls]; rfl, by omega, by omega, (fun ha => by cases ha), fun _ => ⟨g8, 0, rfl, H5.out.1.lt, fun j u hu => by
      rw [Nat.zero_add, H5.out.1.cell]
      rw [Vb_get, List.getElem?_take] at hu
      rw [Vb_get]
      split at hu
      · exact hu
      · cases hu⟩⟩
end Go.Proofs.YtlpljedacohngaaGreatDoor
end
