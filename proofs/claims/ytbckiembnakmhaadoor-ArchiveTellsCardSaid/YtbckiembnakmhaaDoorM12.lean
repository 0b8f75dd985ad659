/-
  The law's To: at most 41 entries, cut, in memory of the call's own, and the document's beside them. Condition: the entries lie in memory.
-/
import Derived.Test.YtbckiembnakmhaaDoorM10
import Derived.Deep.RegionHeld3
import Derived.Test.YtbckiembnakmhaaDoorM7
import Derived.Test.YtbckiembnakmhaaDoorM9
import Derived.WalkMore
import Derived.Sort.OwnSortedInts
section
set_option linter.unusedSimpArgs false
set_option linter.unusedVariables false
set_option maxRecDepth 100000
namespace Go.Proofs.YtbckiembnakmhaaDoor
open Go.RowKit

theorem not_own {v : Value} {S : Value} (h : ∀ g, v.ownBlock = some g → S.ownBlock ≠ some g) : ∀ k, v.ownBlock = some k → k ∉ S.ownBlock.toList := by
  intro k hk hm
  exact h k hk (by simpa using hm)
theorem OwnE.row {N M T s n : Nat} {w w' : World} {x : Ev} {e : En} {v : Value} {xs : List Value} (h : OwnE N w x e) (hr : w.ownsRow M T s v n xs) (ho : Only v.ownBlock.toList w w') (h1 : 9 ≠ T) (h2 : 5 ≠ T) : OwnE N w' x e :=
  h.only ho (not_own (own_own_ne h.path hr h1)) (not_own (own_own_ne h.data hr h2))
/-- Where To stands behind i entries. -/
structure ToAt (N : Nat) (w : World) (u4 u5 : Value) (es : List En) (i : Nat) (co cd : List Ev) : Prop where
  l1 : co.length = i
  l2 : cd.length = i
  r1 : w.ownsRow N 30 4 u4 i (rowE co)
  r2 : w.ownsRow N 39 4 u5 i (rowE cd)
  o1 : ∀ (j : Nat) x e, co[j]? = some x → ((es.take i).map toE)[j]? = some e → OwnE N w x e
  o2 : ∀ (j : Nat) x e, cd[j]? = some x → ((es.take i).map toE)[j]? = some e → OwnE N w x e
theorem ToAt.below {N : Nat} {w w' : World} {u4 u5 : Value} {es : List En} {i : Nat} {co cd : List Ev} (h : ToAt N w u4 u5 es i co cd) (hb : Below w.heap.size w w') : ToAt N w' u4 u5 es i co cd :=
  ⟨h.l1, h.l2, ownsRow_only (S := []) h.r1 (Only.of_below hb) (by simp), ownsRow_only (S := []) h.r2 (Only.of_below hb) (by simp), fun j x e h1 h2 => (h.o1 j x e h1 h2).below hb, fun j x e h1 h2 => (h.o2 j x e h1 h2).below hb⟩
theorem to_out {N i : Nat} {w : World} {u4 u5 : Value} {es ts : List En} {co cd : List Ev} (h : ToAt N w u4 u5 es i co cd) (ht : (es.take i).map toE = ts) (hi : i ≤ es.length) :
    ∃ A1 c1 A2 c2, u4 = .slice A1 ts.length c1 ∧ u5 = .slice A2 ts.length c2 ∧ EIn w A1 ts.length c1 co ts ∧ EIn w A2 ts.length c2 cd ts := by
  subst ht
  have hl : ((es.take i).map toE).length = i := by rw [List.length_map, List.length_take]; omega
  have r1 := h.r1
  have r2 := h.r2
  rw [← h.l1] at r1
  rw [← h.l2] at r2
  obtain ⟨A1, c1, e1, h1⟩ := ein_own r1 (by rw [h.l1, hl]) h.o1
  obtain ⟨A2, c2, e2, h2⟩ := ein_own r2 (by rw [h.l2, hl]) h.o2
  exact ⟨A1, c1, A2, c2, e1, e2, h1, h2⟩
theorem ev_info : (Tryd.prog.info? 30).map (fun i => (i.zero, i.size, i.bytes)) = some (some (.agg #[.slice none 0 0, .int .i64 0, .int .i64 0, .slice none 0 0]), 4, 64) := by kernel_rfl
theorem rev_info12 : (Tryd.prog.info? 39).map (fun i => (i.zero, i.size, i.bytes)) = some (some (.agg #[.slice none 0 0, .int .i64 0, .int .i64 0, .slice none 0 0]), 4, 64) := by kernel_rfl
theorem byt_info : (Tryd.prog.info? 5).map (fun i => (i.zero, i.size, i.bytes)) = some (some (.int .u8 0), 1, 1) := by kernel_rfl
theorem build_ev (W : World) (A : Option Addr) (n c : Nat) (k m : Int) (D : Option Addr) (dn dc : Nat) : (Instr.build 30 #[(0, .slice A n c), (1, .int .i64 k), (2, .int .i64 m), (3, .slice D dn dc)]).run Tryd.prog W = .ok (evV ⟨A, n, c, k, m, D, dn, dc⟩) W := by kernel_rfl
theorem build_rev (W : World) (A : Option Addr) (n c : Nat) (k m : Int) (D : Option Addr) (dn dc : Nat) : (Instr.build 39 #[(0, .slice A n c), (1, .int .i64 k), (2, .int .i64 m), (3, .slice D dn dc)]).run Tryd.prog W = .ok (evV ⟨A, n, c, k, m, D, dn, dc⟩) W := by kernel_rfl
theorem slice_ev (W : World) (x : Ev) : (Instr.buildSlice 24 1 #[(0, evV x)]).run Tryd.prog W = .ok (.slice (some ⟨W.heap.size, 0, none⟩) 1 1) (W.alloc (.cells (evC x).toArray 30)) := by kernel_rfl
theorem slice_rev12 (W : World) (x : Ev) : (Instr.buildSlice 22 1 #[(0, evV x)]).run Tryd.prog W = .ok (.slice (some ⟨W.heap.size, 0, none⟩) 1 1) (W.alloc (.cells (evC x).toArray 39)) := by kernel_rfl
theorem slice0_b (W : World) : (Instr.buildSlice 28 0 #[]).run Tryd.prog W = .ok (.slice (some ⟨W.heap.size, 0, none⟩) 0 0) (W.alloc (.cells #[] 5)) := by kernel_rfl
theorem slice0_s (W : World) : (Instr.buildSlice 23 0 #[]).run Tryd.prog W = .ok (.slice (some ⟨W.heap.size, 0, none⟩) 0 0) (W.alloc (.cells #[] 9)) := by kernel_rfl
/-- A new row of one. -/
def rowOneE (t : TypeId) (b0 : Nat) (cs : List Value) : Value → World → Prop := fun u w => ∃ p, u = .slice (some ⟨p, 0, none⟩) 1 1 ∧ b0 ≤ p ∧ Blk w p t cs
theorem rowOneE.st (t : TypeId) (b0 : Nat) (cs : List Value) : StV (rowOneE t b0 cs) := fun _ _ _ ⟨p, h1, h2, h3⟩ hb => ⟨p, h1, h2, h3.below hb h3.lt⟩
def evNV (N : Nat) (e : En) : Value → World → Prop := fun u w => ∃ x : Ev, u = evV x ∧ OwnE N w x e
theorem evNV.st (N : Nat) (e : En) : StV (evNV N e) := fun _ _ _ ⟨x, h1, h2⟩ hb => ⟨x, h1, h2.below hb⟩
def rowNV (t N : Nat) (e : En) : Value → World → Prop := fun u w => ∃ p, ∃ x : Ev, u = .slice (some ⟨p, 0, none⟩) 1 1 ∧ N ≤ p ∧ Blk w p t (evC x) ∧ OwnE N w x e
theorem rowNV.st (t N : Nat) (e : En) : StV (rowNV t N e) := fun _ _ _ ⟨p, x, h1, h2, h3, h4⟩ hb => ⟨p, x, h1, h2, h3.below hb h3.lt, h4.below hb⟩
theorem own_mk {N dn : Nat} {w : World} {A D : Option Addr} {pc dc : Nat} {k m : Int} {e : En} {dt : List B8} (hp : w.ownsRow N 9 1 (.slice A (fewP e.path).length pc) (fewP e.path).length (strV (fewP e.path))) (hk : (toE e).kind = k) (hm : (toE e).mode = m) (hd : w.ownsRow N 5 1 (.slice D dn dc) dt.length (Vb dt)) (he : dt = e.data.take 520) : OwnE N w ⟨A, (fewP e.path).length, pc, k, m, D, dn, dc⟩ (toE e) := by
  subst he
  exact ⟨hp, hk, hm, hd, toE_small e⟩
theorem OwnE.base {N M : Nat} {w : World} {x : Ev} {e : En} (h : OwnE M w x e) (hN : N ≤ M) : OwnE N w x e := ⟨own_base h.path hN, h.kind, h.mode, own_base h.data hN, h.small⟩
theorem own_snoc {N i : Nat} {w : World} {es : List En} {co : List Ev} {x : Ev} {e : En} (hl : co.length = i) (he : es[i]? = some e) (h : ∀ (j : Nat) y f, co[j]? = some y → ((es.take i).map toE)[j]? = some f → OwnE N w y f) (hx : OwnE N w x (toE e)) :
    ∀ (j : Nat) y f, (co ++ [x])[j]? = some y → ((es.take (i + 1)).map toE)[j]? = some f → OwnE N w y f := by
  intro j y f hy hf
  rw [toEs_next he] at hf
  have hi : ((es.take i).map toE).length = i := by
    have := (List.getElem?_eq_some_iff.1 he).1
    rw [List.length_map, List.length_take]
    omega
  rcases Nat.lt_or_ge j i with hj | hj
  · rw [List.getElem?_append_left (by omega)] at hy hf
    exact h j y f hy hf
  · rw [List.getElem?_append_right (by omega), hl] at hy
    rw [List.getElem?_append_right (by omega), hi] at hf
    have h0 : j - i = 0 := by
      have := (List.getElem?_eq_some_iff.1 hy).1
      simp at this
      omega
    rw [h0] at hy hf
    simp only [List.getElem?_cons_zero, Option.some.injEq] at hy hf
    subst hy hf
    exact hx
theorem sin_rows {w : World} {A : Option Addr} {n c : Nat} {p : Pa} (h : SIn w A n c p) (h0 : 0 < n) : ∃ g off, A = some ⟨g, off, none⟩ ∧ ∀ (j : Nat) u, (strV p)[j]? = some u → w.cell? ⟨g, off + j, none⟩ = some u := by
  obtain ⟨g, o, hA, _, hc⟩ := h.cells h0
  exact ⟨g, o, hA, fun j u hu => by obtain ⟨t, h1, rfl⟩ := strV_get hu; exact hc j t h1⟩
theorem din_rows {w : World} {A : Option Addr} {n c : Nat} {d : List B8} (h : DIn w A n c d) (h0 : 0 < n) : ∃ g off, A = some ⟨g, off, none⟩ ∧ ∀ (j : Nat) u, (Vb d)[j]? = some u → w.cell? ⟨g, off + j, none⟩ = some u := by
  obtain ⟨g, o, hA, _, hc⟩ := h.cells h0
  exact ⟨g, o, hA, hc⟩
set_option maxHeartbeats 8000000 in
theorem to12_any (w : World) (A : Option Addr) (n c : Nat) (xs : List Ev) (es : List En) (h : ERd w A n c xs es) :
    Calls Tryd.prog 6 #[.slice A n c] w fun e w' => ∃ A1 c1 A2 c2 X Y, e = .returned (.tuple #[.slice A1 (toEs es).length c1, .slice A2 (toEs es).length c2]) ∧ EIn w' A1 (toEs es).length c1 X (toEs es) ∧ EIn w' A2 (toEs es).length c2 Y (toEs es) ∧ Below w.heap.size w w' := by
  have hbig : n ≤ 9223372036854775807 := by have := h.cap; have := h.big; omega
  have hcap := h.cap
  have H := Lib.hid h
  have HL := Lib.hid h.elen
  clear h
  go_enter Tryd.func6, Tryd.ntmps6
  go_wp2_with fail
  go_loopw [4, 5, 6] (fun u4 u5 iv wr => ∃ (i : Nat) (co cd : List Ev), i ≤ n ∧ i ≤ 41 ∧ iv = .int .i64 i ∧ Hid (ToAt w.heap.size wr u4 u5 es i co cd) ∧ Hid (Below w.heap.size w wr)) (fun _ _ iv _ => 41 - (intOf iv).toNat)
  case atStart => exact ⟨0, [], [], by omega, by omega, rfl, Lib.hid ⟨rfl, rfl, World.ownsRow_nil _ _ _ _, World.ownsRow_nil _ _ _ _, fun j x e h => by simp at h, fun j x e h => by simp at h⟩, Lib.hid (Below.refl _ _)⟩
  case round =>
    obtain ⟨i, co, cd, hi, hi41, rfl, HO, HW⟩ := hrel
    by_cases hlt : i < n
    · by_cases hlt41 : i < 41
      · obtain ⟨g, o, x, e, rfl, hg, hx, he, hok, hcl⟩ := H.out.row hlt
        have HC := Lib.hid hcl
        have q0 : wr.cell? ⟨g, o + i * 4, none⟩ = some (.slice x.PA x.pn x.pc) := pcell_below (hcl 0 _ rfl) HW.out
        have HK := Lib.hid (And.intro (hok.below HW.out) (And.intro he hg))
        clear hx he hok hcl
        have b0 : (0 : Int) ≤ (i : Int) := by omega
        have b1 : (i : Int) < (n : Int) := by omega
        go_wp2_with fail
        refine (few_any wr x.PA x.pn x.pc e.path HK.out.1.path).mono ?_
        rintro en w1 ⟨v7, rfl, h7, hW1⟩
        obtain ⟨P7, c7, rfl⟩ := own_slice h7
        have q3 : w1.cell? ⟨g, o + i * 4 + 3, none⟩ = some (.slice x.DA x.dn x.dc) := pcell_below (pcell_below (HC.out 3 _ rfl) HW.out) hW1
        have H1 := Lib.hid (And.intro (own_base h7 HW.out.size) (And.intro (HO.out.below hW1) (And.intro (HW.out.trans (hW1.mono HW.out.size)) (HK.out.1.data.below hW1))))
        clear h7 hW1 q0
        have hdc := H1.out.2.2.2.cap
        have hdb := H1.out.2.2.2.big
        have d0 : (0 : Int) ≤ min (x.dn : Int) 520 := by omega
        have d1 : min (x.dn : Int) 520 ≤ (x.dc : Int) := by omega
        have d2 : min (x.dn : Int) 520 ≤ (x.dn : Int) := by omega
        have HD := Lib.hid (H1.out.2.2.2.take (k := (min (x.dn : Int) 520).toNat) (c' := x.dc) (by omega) (by omega) (Nat.le_refl _))
        obtain ⟨dt, hdt⟩ : ∃ d, d = e.data.take 520 := ⟨_, rfl⟩
        have HDt : Hid (dt = e.data.take 520 ∧ dt.length ≤ 520) := Lib.hid ⟨hdt, by rw [hdt, List.length_take]; omega⟩
        have HT : Hid (e.data.take (min (x.dn : Int) 520).toNat = dt ∧ dt.length = (min (x.dn : Int) 520).toNat) := Lib.hid (by
          rw [hdt]
          have hl := H1.out.2.2.2.len
          have e1 : e.data.take (min (x.dn : Int) 520).toNat = e.data.take 520 := by
            rcases Nat.lt_or_ge 520 x.dn with h | h
            · rw [show (min (x.dn : Int) 520).toNat = 520 by omega]
            · rw [List.take_of_length_le (by omega), List.take_of_length_le (by omega)]
          exact ⟨e1, by rw [← e1, List.length_take]; omega⟩)
        clear hdt
        go_wp2_with fail
        refine wp_hideQ ?_
        intro QQ hQQ
        refine wp_region_quickT [some 25, some 26, some 27, some 28, some 29, some 30, some 31, some 32, some 33, some 34, some 35, some 36, some 37, some 38] [noV 5 w1.heap.size, isV (.slice (some ⟨g, o, none⟩) n c), isV (.int .i64 (i : Int)), isV (.pointer (some ⟨g, o + i * 4, none⟩)), isV (.pointer (some ⟨g, o + i * 4 + 3, none⟩)), isV (.slice x.DA x.dn x.dc), isV (.slice (some ⟨g, o, none⟩) n c), isV (.int .i64 (i : Int)), isV (.pointer (some ⟨g, o + i * 4, none⟩)), isV (.pointer (some ⟨g, o + i * 4 + 3, none⟩)), isV (.slice x.DA x.dn x.dc), isV (.int .i64 (x.dn : Int)), isV (.int .i64 (min (x.dn : Int) 520)), isV (.slice x.DA (min (x.dn : Int) 520).toNat x.dc)] 14 16 (by kernel_rfl) rfl rfl rfl rfl (by kernel_rfl) (by kernel_rfl) (by simp [isV.st, noV.st]) ?_ ?_
        · intro hq rz hz
          match rz, hz with
          | 0, _ =>
            refine StepL.val rfl [] (by decide +kernel) ?_
            intro v wx hR hd
            have hb := pnew wx (.cells #[] 5)
            exact ⟨wanted_plain rfl _, xe_ex (x_slice rfl pairs_0 (slice0_b wx)) ⟨hR.trans (hb.mono hR.size), hb, _, rfl, hR.size, Blk.new wx 5 []⟩⟩
          | 1, _ =>
            refine StepL.val rfl [] (by decide +kernel) ?_
            intro v wx hR hd
            exact ⟨wanted_plain rfl _, _, _, x_move rfl (fill_off rfl rfl), hR, Below.refl _ _, rfl⟩
          | 2, _ =>
            refine StepL.val rfl [] (by decide +kernel) ?_
            intro v wx hR hd
            exact ⟨wanted_plain rfl _, _, _, x_move rfl (fill_off rfl rfl), hR, Below.refl _ _, rfl⟩
          | 3, _ =>
            refine StepL.val rfl [1, 2] (by decide +kernel) ?_
            intro v wx hR hd
            have h1 : v 1 = _ := hd 1 (by simp)
            have h2 : v 2 = _ := hd 2 (by simp)
            exact ⟨wanted_plain rfl _, _, _, x_index rfl (hq.at_ rfl h1) (hq.at_ rfl h2) (r_index (e := 39) (size := 4) (by kernel_rfl) (by kernel_rfl) (by omega) (by omega) (by first | omega | simp)), hR, Below.refl _ _, rfl⟩
          | 4, _ =>
            refine StepL.val rfl [3] (by decide +kernel) ?_
            intro v wx hR hd
            have h3 : v 3 = _ := hd 3 (by simp)
            exact ⟨wanted_plain rfl _, _, _, x_field rfl (hq.at_ rfl h3) (r_field (off := 3) (by kernel_rfl)), hR, Below.refl _ _, rfl⟩
          | 5, _ =>
            refine StepL.val rfl [4] (by decide +kernel) ?_
            intro v wx hR hd
            have h4 : v 4 = _ := hd 4 (by simp)
            exact ⟨wanted_plain rfl _, _, _, x_load rfl (hq.at_ rfl h4) (r_load (by kernel_rfl) (pcell_below q3 hR)), hR, Below.refl _ _, rfl⟩
          | 6, _ =>
            refine StepL.val rfl [] (by decide +kernel) ?_
            intro v wx hR hd
            exact ⟨wanted_plain rfl _, _, _, x_move rfl (fill_off rfl rfl), hR, Below.refl _ _, rfl⟩
          | 7, _ =>
            refine StepL.val rfl [] (by decide +kernel) ?_
            intro v wx hR hd
            exact ⟨wanted_plain rfl _, _, _, x_move rfl (fill_off rfl rfl), hR, Below.refl _ _, rfl⟩
          | 8, _ =>
            refine StepL.val rfl [6, 7] (by decide +kernel) ?_
            intro v wx hR hd
            have h6 : v 6 = _ := hd 6 (by simp)
            have h7 : v 7 = _ := hd 7 (by simp)
            exact ⟨wanted_plain rfl _, _, _, x_index rfl (hq.at_ rfl h6) (hq.at_ rfl h7) (r_index (e := 39) (size := 4) (by kernel_rfl) (by kernel_rfl) (by omega) (by omega) (by first | omega | simp)), hR, Below.refl _ _, rfl⟩
          | 9, _ =>
            refine StepL.val rfl [8] (by decide +kernel) ?_
            intro v wx hR hd
            have h8 : v 8 = _ := hd 8 (by simp)
            exact ⟨wanted_plain rfl _, _, _, x_field rfl (hq.at_ rfl h8) (r_field (off := 3) (by kernel_rfl)), hR, Below.refl _ _, rfl⟩
          | 10, _ =>
            refine StepL.val rfl [9] (by decide +kernel) ?_
            intro v wx hR hd
            have h9 : v 9 = _ := hd 9 (by simp)
            exact ⟨wanted_plain rfl _, _, _, x_load rfl (hq.at_ rfl h9) (r_load (by kernel_rfl) (pcell_below q3 hR)), hR, Below.refl _ _, rfl⟩
          | 11, _ =>
            refine StepL.val rfl [10] (by decide +kernel) ?_
            intro v wx hR hd
            have h10 : v 10 = _ := hd 10 (by simp)
            exact ⟨wanted_plain rfl _, _, _, x_len rfl rfl rfl rfl (by kernel_rfl) (hq.at_ rfl h10), hR, Below.refl _ _, rfl⟩
          | 12, _ =>
            refine StepL.val rfl [11] (by decide +kernel) ?_
            intro v wx hR hd
            have h11 : v 11 = _ := hd 11 (by simp)
            exact ⟨wanted_plain rfl _, _, _, x_min2 rfl (hq.at_ rfl h11) rfl, hR, Below.refl _ _, rfl⟩
          | 13, _ =>
            refine StepL.val rfl [5, 12] (by decide +kernel) ?_
            intro v wx hR hd
            have h5 : v 5 = _ := hd 5 (by simp)
            have h12 : v 12 = _ := hd 12 (by simp)
            exact ⟨wanted_plain rfl _, _, _, x_sub_h rfl (by kernel_rfl) (hq.at_ rfl h5) (hq.at_ rfl h12) d0 d1, hR, Below.refl _ _, rfl⟩
          | rz + 14, h => omega
        · intro v wx hR hV
          obtain ⟨p0, h0, hp0, hk0⟩ : noV 5 w1.heap.size (v 0) wx := hV 0 (by omega)
          have h13 : v 13 = _ := hV 13 (by omega)
          simp only [fillR, Act.put, List.setIfInBounds_toArray, List.set_cons_zero, List.set_cons_succ, List.drop_succ_cons, List.drop_zero, h0, h13]
          refine wpList_app (v := .slice (some ⟨p0, 0, none⟩) 0 0) (base := w.heap.size) rfl rfl Tryd.underlying28 byt_info rfl (by decide) (Vb dt) rfl (own_made hk0 (Nat.le_trans H1.out.2.2.1.size hp0)) rfl (by rw [Vb_length, HT.out.2, Nat.mul_one]) (fun h0 => by rw [← HT.out.1]; exact din_rows (HD.out.below hR) h0) (Vb_oneCell _) (by omega) (by decide) (Nat.le_trans H1.out.2.2.1.size hR.size) ?_
          intro v8 w2 k1 k2 k3
          rw [Nat.zero_add, List.nil_append, ← HT.out.2] at k1
          obtain ⟨P8, c8, rfl⟩ := own_slice k1
          have hb12 : Below w1.heap.size w1 w2 := hR.trans (k2.below hR.size (by intro k hk; simp [Value.ownBlock] at hk; omega))
          have q1 : w2.cell? ⟨g, o + i * 4 + 1, none⟩ = some (.int .i64 x.k) := pcell_below (pcell_below (HC.out 1 _ rfl) H1.out.2.2.1) hb12
          have q2 : w2.cell? ⟨g, o + i * 4 + 2, none⟩ = some (.int .i64 x.m) := pcell_below (pcell_below (HC.out 2 _ rfl) H1.out.2.2.1) hb12
          have hN2 : w.heap.size ≤ w2.heap.size := Nat.le_trans H1.out.2.2.1.size hb12.size
          have H2 := Lib.hid (And.intro (ownsRow_only (S := []) H1.out.1 (Only.of_below hb12) (by simp)) (And.intro (H1.out.2.1.below hb12) (And.intro (H1.out.2.2.1.trans (hb12.mono H1.out.2.2.1.size)) (And.intro k1 hN2))))
          have HKM : Hid ((toE e).kind = x.k ∧ (toE e).mode = x.m) := Lib.hid ⟨HK.out.1.kind, HK.out.1.mode⟩
          clear k1 k2 k3 hb12 hN2 hR hV h13 h0 hp0 hk0 q3
          go_wp2_with fail
          refine wp_hideQ ?_
          intro QR hQR
          refine wp_region_quickT [some 40, some 41, some 42, some 43, some 44, some 45, some 46, some 47, some 48, some 49, some 50, some 51, some 52, some 53, some 54] [isV (u4), isV (.slice P7 (fewP e.path).length c7), isV (.slice (some ⟨g, o, none⟩) n c), isV (.int .i64 (i : Int)), isV (.pointer (some ⟨g, o + i * 4, none⟩)), isV (.pointer (some ⟨g, o + i * 4 + 1, none⟩)), isV (.int .i64 x.k), isV (.slice (some ⟨g, o, none⟩) n c), isV (.int .i64 (i : Int)), isV (.pointer (some ⟨g, o + i * 4, none⟩)), isV (.pointer (some ⟨g, o + i * 4 + 2, none⟩)), isV (.int .i64 x.m), isV (.slice P8 dt.length c8), isV (evV (⟨P7, (fewP e.path).length, c7, x.k, x.m, P8, dt.length, c8⟩ : Ev)), rowOneE 30 w2.heap.size (evC (⟨P7, (fewP e.path).length, c7, x.k, x.m, P8, dt.length, c8⟩ : Ev))] 15 17 (by kernel_rfl) rfl rfl rfl rfl (by kernel_rfl) (by kernel_rfl) (by simp [isV.st, rowOneE.st]) ?_ ?_
          · intro hq rz hz
            match rz, hz with
            | 0, _ =>
              refine StepL.val rfl [] (by decide +kernel) ?_
              intro v wx hR hd
              exact ⟨wanted_plain rfl _, _, _, x_move rfl (fill_off rfl rfl), hR, Below.refl _ _, rfl⟩
            | 1, _ =>
              refine StepL.val rfl [] (by decide +kernel) ?_
              intro v wx hR hd
              exact ⟨wanted_plain rfl _, _, _, x_move rfl (fill_off rfl rfl), hR, Below.refl _ _, rfl⟩
            | 2, _ =>
              refine StepL.val rfl [] (by decide +kernel) ?_
              intro v wx hR hd
              exact ⟨wanted_plain rfl _, _, _, x_move rfl (fill_off rfl rfl), hR, Below.refl _ _, rfl⟩
            | 3, _ =>
              refine StepL.val rfl [] (by decide +kernel) ?_
              intro v wx hR hd
              exact ⟨wanted_plain rfl _, _, _, x_move rfl (fill_off rfl rfl), hR, Below.refl _ _, rfl⟩
            | 4, _ =>
              refine StepL.val rfl [2, 3] (by decide +kernel) ?_
              intro v wx hR hd
              have h2 : v 2 = _ := hd 2 (by simp)
              have h3 : v 3 = _ := hd 3 (by simp)
              exact ⟨wanted_plain rfl _, _, _, x_index rfl (hq.at_ rfl h2) (hq.at_ rfl h3) (r_index (e := 39) (size := 4) (by kernel_rfl) (by kernel_rfl) (by omega) (by omega) (by first | omega | simp)), hR, Below.refl _ _, rfl⟩
            | 5, _ =>
              refine StepL.val rfl [4] (by decide +kernel) ?_
              intro v wx hR hd
              have h4 : v 4 = _ := hd 4 (by simp)
              exact ⟨wanted_plain rfl _, _, _, x_field rfl (hq.at_ rfl h4) (r_field (off := 1) (by kernel_rfl)), hR, Below.refl _ _, rfl⟩
            | 6, _ =>
              refine StepL.val rfl [5] (by decide +kernel) ?_
              intro v wx hR hd
              have h5 : v 5 = _ := hd 5 (by simp)
              exact ⟨wanted_plain rfl _, _, _, x_load rfl (hq.at_ rfl h5) (r_load (by kernel_rfl) (pcell_below q1 hR)), hR, Below.refl _ _, rfl⟩
            | 7, _ =>
              refine StepL.val rfl [] (by decide +kernel) ?_
              intro v wx hR hd
              exact ⟨wanted_plain rfl _, _, _, x_move rfl (fill_off rfl rfl), hR, Below.refl _ _, rfl⟩
            | 8, _ =>
              refine StepL.val rfl [] (by decide +kernel) ?_
              intro v wx hR hd
              exact ⟨wanted_plain rfl _, _, _, x_move rfl (fill_off rfl rfl), hR, Below.refl _ _, rfl⟩
            | 9, _ =>
              refine StepL.val rfl [7, 8] (by decide +kernel) ?_
              intro v wx hR hd
              have h7 : v 7 = _ := hd 7 (by simp)
              have h8 : v 8 = _ := hd 8 (by simp)
              exact ⟨wanted_plain rfl _, _, _, x_index rfl (hq.at_ rfl h7) (hq.at_ rfl h8) (r_index (e := 39) (size := 4) (by kernel_rfl) (by kernel_rfl) (by omega) (by omega) (by first | omega | simp)), hR, Below.refl _ _, rfl⟩
            | 10, _ =>
              refine StepL.val rfl [9] (by decide +kernel) ?_
              intro v wx hR hd
              have h9 : v 9 = _ := hd 9 (by simp)
              exact ⟨wanted_plain rfl _, _, _, x_field rfl (hq.at_ rfl h9) (r_field (off := 2) (by kernel_rfl)), hR, Below.refl _ _, rfl⟩
            | 11, _ =>
              refine StepL.val rfl [10] (by decide +kernel) ?_
              intro v wx hR hd
              have h10 : v 10 = _ := hd 10 (by simp)
              exact ⟨wanted_plain rfl _, _, _, x_load rfl (hq.at_ rfl h10) (r_load (by kernel_rfl) (pcell_below q2 hR)), hR, Below.refl _ _, rfl⟩
            | 12, _ =>
              refine StepL.val rfl [] (by decide +kernel) ?_
              intro v wx hR hd
              exact ⟨wanted_plain rfl _, _, _, x_move rfl (fill_off rfl rfl), hR, Below.refl _ _, rfl⟩
            | 13, _ =>
              refine StepL.val rfl [1, 6, 11, 12] (by decide +kernel) ?_
              intro v wx hR hd
              have h1 : v 1 = _ := hd 1 (by simp)
              have h6 : v 6 = _ := hd 6 (by simp)
              have h11 : v 11 = _ := hd 11 (by simp)
              have h12 : v 12 = _ := hd 12 (by simp)
              exact ⟨wanted_plain rfl _, xe_ex (x_build rfl (pairs_4 (hq.at_ rfl h1) (hq.at_ rfl h6) (hq.at_ rfl h11) (hq.at_ rfl h12)) (build_ev wx _ _ _ _ _ _ _ _)) ⟨hR, Below.refl _ _, rfl⟩⟩
            | 14, _ =>
              refine StepL.val rfl [13] (by decide +kernel) ?_
              intro v wx hR hd
              have h13 : v 13 = _ := hd 13 (by simp)
              have hb := pnew wx (.cells (evC (⟨P7, (fewP e.path).length, c7, x.k, x.m, P8, dt.length, c8⟩ : Ev)).toArray 30)
              exact ⟨wanted_plain rfl _, xe_ex (x_slice rfl (pairs_1 (hq.at_ rfl h13)) (slice_ev wx _)) ⟨hR.trans (hb.mono hR.size), hb, _, rfl, hR.size, Blk.new wx 30 (evC _)⟩⟩
            | rz + 15, h => omega
          · intro v wx hR hV
            obtain ⟨p14, h14, hp14, hk14⟩ : rowOneE 30 w2.heap.size (evC (⟨P7, (fewP e.path).length, c7, x.k, x.m, P8, dt.length, c8⟩ : Ev)) (v 14) wx := hV 14 (by omega)
            have h00 : v 0 = _ := hV 0 (by omega)
            simp only [fillR, Act.put, List.setIfInBounds_toArray, List.set_cons_zero, List.set_cons_succ, List.drop_succ_cons, List.drop_zero, h14, h00]
            refine wpList_app (v := u4) (base := w.heap.size) (n := i) rfl rfl Tryd.underlying24 ev_info rfl (by decide) (evC (⟨P7, (fewP e.path).length, c7, x.k, x.m, P8, dt.length, c8⟩ : Ev)) rfl ((H2.out.2.1.below hR).r1) rfl rfl (fun _ => ⟨_, _, rfl, fun j u hu => by rw [Nat.zero_add]; exact (hk14.cell j).trans hu⟩) (evC_one _) (by omega) (by decide) (Nat.le_trans H2.out.2.2.2.2 hR.size) ?_
            intro v4 w3 k1 k2 k3
            have hN3 : Below w.heap.size w w3 := (H2.out.2.2.1.trans (hR.mono H2.out.2.2.2.2)).trans (k2.below (Nat.le_trans H2.out.2.2.2.2 hR.size) (fun k hk => (H2.out.2.1.r1.lt k (by simpa using hk)).1))
            have q1' : w3.cell? ⟨g, o + i * 4 + 1, none⟩ = some (.int .i64 x.k) := (hN3.cell (p := ⟨g, _, none⟩) HK.out.2.2).trans (HC.out 1 _ rfl)
            have q2' : w3.cell? ⟨g, o + i * 4 + 2, none⟩ = some (.int .i64 x.m) := (hN3.cell (p := ⟨g, _, none⟩) HK.out.2.2).trans (HC.out 2 _ rfl)
            have hp3 := ownsRow_only (ownsRow_only (S := []) H2.out.1 (Only.of_below hR) (by simp)) k2 (not_own (own_own_ne (ownsRow_only (S := []) H2.out.1 (Only.of_below hR) (by simp)) (H2.out.2.1.below hR).r1 (by decide)))
            have hd3 := ownsRow_only (ownsRow_only (S := []) H2.out.2.2.2.1 (Only.of_below hR) (by simp)) k2 (not_own (own_own_ne (ownsRow_only (S := []) H2.out.2.2.2.1 (Only.of_below hR) (by simp)) (H2.out.2.1.below hR).r1 (by decide)))
            have h5 := ownsRow_only (H2.out.2.1.below hR).r2 k2 (not_own (own_own_ne (H2.out.2.1.below hR).r2 (H2.out.2.1.below hR).r1 (by decide)))
            have H3 := Lib.hid (And.intro k1 (And.intro h5 (And.intro (fun (j : Nat) y (f : En) (h1 : co[j]? = some y) h2 => ((H2.out.2.1.below hR).o1 j y f h1 h2).row (H2.out.2.1.below hR).r1 k2 (by decide) (by decide)) (And.intro (fun (j : Nat) y (f : En) (h1 : cd[j]? = some y) h2 => ((H2.out.2.1.below hR).o2 j y f h1 h2).row (H2.out.2.1.below hR).r1 k2 (by decide) (by decide)) (And.intro hp3 (And.intro hd3 hN3))))))
            have HS := Lib.hid (And.intro (sin_own hp3) (din_own hd3))
            clear k1 k2 k3 hN3 hp3 hd3 h5 hR hV h14 h00 hp14 hk14 q1 q2
            have q1 := q1'
            have q2 := q2'
            clear q1' q2'
            go_wp2_with fail
            refine wp_hideQ ?_
            intro QT hQT
            refine wp_region_quickT [some 56, some 57, some 58, some 59, some 60, some 61, some 62, some 63, some 64, some 65, some 66, some 67, some 68, some 69, some 70, some 71, some 72, some 73, some 74] [isV (u5), noV 9 w3.heap.size, isV (.slice P7 (fewP e.path).length c7), ownSV w3.heap.size 9 1 (fewP e.path).length (strV (fewP e.path)), isV (.slice (some ⟨g, o, none⟩) n c), isV (.int .i64 (i : Int)), isV (.pointer (some ⟨g, o + i * 4, none⟩)), isV (.pointer (some ⟨g, o + i * 4 + 1, none⟩)), isV (.int .i64 x.k), isV (.slice (some ⟨g, o, none⟩) n c), isV (.int .i64 (i : Int)), isV (.pointer (some ⟨g, o + i * 4, none⟩)), isV (.pointer (some ⟨g, o + i * 4 + 2, none⟩)), isV (.int .i64 x.m), noV 5 w3.heap.size, isV (.slice P8 dt.length c8), ownSV w3.heap.size 5 1 dt.length (Vb dt), evNV w3.heap.size (toE e), rowNV 39 w3.heap.size (toE e)] 19 21 (by kernel_rfl) rfl rfl rfl rfl (by kernel_rfl) (by kernel_rfl) (by simp [isV.st, noV.st, ownSV.st, evNV.st, rowNV.st]) ?_ ?_
            · intro hq rz hz
              match rz, hz with
              | 0, _ =>
                refine StepL.val rfl [] (by decide +kernel) ?_
                intro v wx hR hd
                exact ⟨wanted_plain rfl _, _, _, x_move rfl (fill_off rfl rfl), hR, Below.refl _ _, rfl⟩
              | 1, _ =>
                refine StepL.val rfl [] (by decide +kernel) ?_
                intro v wx hR hd
                have hb := pnew wx (.cells #[] 9)
                exact ⟨wanted_plain rfl _, xe_ex (x_slice rfl pairs_0 (slice0_s wx)) ⟨hR.trans (hb.mono hR.size), hb, _, rfl, hR.size, Blk.new wx 9 []⟩⟩
              | 2, _ =>
                refine StepL.val rfl [] (by decide +kernel) ?_
                intro v wx hR hd
                exact ⟨wanted_plain rfl _, _, _, x_move rfl (fill_off rfl rfl), hR, Below.refl _ _, rfl⟩
              | 3, _ =>
                refine StepL.val rfl [1, 2] (by decide +kernel) ?_
                intro v wx hR hd
                obtain ⟨p1, h1, hp1, hkp1⟩ : noV 9 w3.heap.size (v 1) wx := hd 1 (by simp)
                have h2 : v 2 = _ := hd 2 (by simp)
                exact ⟨wanted_plain rfl _, xe_app_zeroG (N := w3.heap.size) rfl Tryd.underlying23 str_info rfl (by decide) (hq.at_ rfl h1) hp1 hkp1 (hq.at_ rfl h2) (strV (fewP e.path)) (by rw [strV_length, Nat.mul_one]) (fun h0 => sin_rows (HS.out.1.below hR) h0) (strV_one _) (by have := (few_small e.path).1; omega) (by decide) hR.size (fun R' c' w' k1 k2 => ⟨hR.trans (k2.mono hR.size), k2, _, _, rfl, k1⟩)⟩
              | 4, _ =>
                refine StepL.val rfl [] (by decide +kernel) ?_
                intro v wx hR hd
                exact ⟨wanted_plain rfl _, _, _, x_move rfl (fill_off rfl rfl), hR, Below.refl _ _, rfl⟩
              | 5, _ =>
                refine StepL.val rfl [] (by decide +kernel) ?_
                intro v wx hR hd
                exact ⟨wanted_plain rfl _, _, _, x_move rfl (fill_off rfl rfl), hR, Below.refl _ _, rfl⟩
              | 6, _ =>
                refine StepL.val rfl [4, 5] (by decide +kernel) ?_
                intro v wx hR hd
                have h4 : v 4 = _ := hd 4 (by simp)
                have h5 : v 5 = _ := hd 5 (by simp)
                exact ⟨wanted_plain rfl _, _, _, x_index rfl (hq.at_ rfl h4) (hq.at_ rfl h5) (r_index (e := 39) (size := 4) (by kernel_rfl) (by kernel_rfl) (by omega) (by omega) (by first | omega | simp)), hR, Below.refl _ _, rfl⟩
              | 7, _ =>
                refine StepL.val rfl [6] (by decide +kernel) ?_
                intro v wx hR hd
                have h6 : v 6 = _ := hd 6 (by simp)
                exact ⟨wanted_plain rfl _, _, _, x_field rfl (hq.at_ rfl h6) (r_field (off := 1) (by kernel_rfl)), hR, Below.refl _ _, rfl⟩
              | 8, _ =>
                refine StepL.val rfl [7] (by decide +kernel) ?_
                intro v wx hR hd
                have h7 : v 7 = _ := hd 7 (by simp)
                exact ⟨wanted_plain rfl _, _, _, x_load rfl (hq.at_ rfl h7) (r_load (by kernel_rfl) (pcell_below q1 hR)), hR, Below.refl _ _, rfl⟩
              | 9, _ =>
                refine StepL.val rfl [] (by decide +kernel) ?_
                intro v wx hR hd
                exact ⟨wanted_plain rfl _, _, _, x_move rfl (fill_off rfl rfl), hR, Below.refl _ _, rfl⟩
              | 10, _ =>
                refine StepL.val rfl [] (by decide +kernel) ?_
                intro v wx hR hd
                exact ⟨wanted_plain rfl _, _, _, x_move rfl (fill_off rfl rfl), hR, Below.refl _ _, rfl⟩
              | 11, _ =>
                refine StepL.val rfl [9, 10] (by decide +kernel) ?_
                intro v wx hR hd
                have h9 : v 9 = _ := hd 9 (by simp)
                have h10 : v 10 = _ := hd 10 (by simp)
                exact ⟨wanted_plain rfl _, _, _, x_index rfl (hq.at_ rfl h9) (hq.at_ rfl h10) (r_index (e := 39) (size := 4) (by kernel_rfl) (by kernel_rfl) (by omega) (by omega) (by first | omega | simp)), hR, Below.refl _ _, rfl⟩
              | 12, _ =>
                refine StepL.val rfl [11] (by decide +kernel) ?_
                intro v wx hR hd
                have h11 : v 11 = _ := hd 11 (by simp)
                exact ⟨wanted_plain rfl _, _, _, x_field rfl (hq.at_ rfl h11) (r_field (off := 2) (by kernel_rfl)), hR, Below.refl _ _, rfl⟩
              | 13, _ =>
                refine StepL.val rfl [12] (by decide +kernel) ?_
                intro v wx hR hd
                have h12 : v 12 = _ := hd 12 (by simp)
                exact ⟨wanted_plain rfl _, _, _, x_load rfl (hq.at_ rfl h12) (r_load (by kernel_rfl) (pcell_below q2 hR)), hR, Below.refl _ _, rfl⟩
              | 14, _ =>
                refine StepL.val rfl [] (by decide +kernel) ?_
                intro v wx hR hd
                have hb := pnew wx (.cells #[] 5)
                exact ⟨wanted_plain rfl _, xe_ex (x_slice rfl pairs_0 (slice0_b wx)) ⟨hR.trans (hb.mono hR.size), hb, _, rfl, hR.size, Blk.new wx 5 []⟩⟩
              | 15, _ =>
                refine StepL.val rfl [] (by decide +kernel) ?_
                intro v wx hR hd
                exact ⟨wanted_plain rfl _, _, _, x_move rfl (fill_off rfl rfl), hR, Below.refl _ _, rfl⟩
              | 16, _ =>
                refine StepL.val rfl [14, 15] (by decide +kernel) ?_
                intro v wx hR hd
                obtain ⟨p14, h14, hp14, hkp14⟩ : noV 5 w3.heap.size (v 14) wx := hd 14 (by simp)
                have h15 : v 15 = _ := hd 15 (by simp)
                exact ⟨wanted_plain rfl _, xe_app_zeroG (N := w3.heap.size) rfl Tryd.underlying28 byt_info rfl (by decide) (hq.at_ rfl h14) hp14 hkp14 (hq.at_ rfl h15) (Vb dt) (by rw [Vb_length, Nat.mul_one]) (fun h0 => din_rows (HS.out.2.below hR) h0) (Vb_oneCell _) (by have := HDt.out.2; omega) (by decide) hR.size (fun R' c' w' k1 k2 => ⟨hR.trans (k2.mono hR.size), k2, _, _, rfl, k1⟩)⟩
              | 17, _ =>
                refine StepL.val rfl [3, 8, 13, 16] (by decide +kernel) ?_
                intro v wx hR hd
                obtain ⟨P3, c3, h3, ho3⟩ : ownSV w3.heap.size 9 1 (fewP e.path).length (strV (fewP e.path)) (v 3) wx := hd 3 (by simp)
                have h8 : v 8 = _ := hd 8 (by simp)
                have h13 : v 13 = _ := hd 13 (by simp)
                obtain ⟨P16, c16, h16, ho16⟩ : ownSV w3.heap.size 5 1 dt.length (Vb dt) (v 16) wx := hd 16 (by simp)
                exact ⟨wanted_plain rfl _, xe_ex (x_build rfl (pairs_4 (hq.at_ rfl h3) (hq.at_ rfl h8) (hq.at_ rfl h13) (hq.at_ rfl h16)) (build_rev wx _ _ _ _ _ _ _ _)) ⟨hR, Below.refl _ _, _, rfl, own_mk ho3 HKM.out.1 HKM.out.2 ho16 HDt.out.1⟩⟩
              | 18, _ =>
                refine StepL.val rfl [17] (by decide +kernel) ?_
                intro v wx hR hd
                obtain ⟨x2, h17, ho17⟩ : evNV w3.heap.size (toE e) (v 17) wx := hd 17 (by simp)
                have hb := pnew wx (.cells (evC x2).toArray 39)
                exact ⟨wanted_plain rfl _, xe_ex (x_slice rfl (pairs_1 (hq.at_ rfl h17)) (slice_rev12 wx x2)) ⟨hR.trans (hb.mono hR.size), hb, _, _, rfl, hR.size, Blk.new wx 39 (evC x2), ho17.below hb⟩⟩
              | rz + 19, h => omega
            · intro v wx hR hV
              obtain ⟨p18, x18, h18, hp18, hk18, ho18⟩ : rowNV 39 w3.heap.size (toE e) (v 18) wx := hV 18 (by omega)
              have h00 : v 0 = _ := hV 0 (by omega)
              simp only [fillR, Act.put, List.setIfInBounds_toArray, List.set_cons_zero, List.set_cons_succ, List.drop_succ_cons, List.drop_zero, h18, h00]
              refine wpList_app (v := u5) (base := w.heap.size) (n := i) rfl rfl Tryd.underlying22 rev_info12 rfl (by decide) (evC x18) rfl (ownsRow_only (S := []) H3.out.2.1 (Only.of_below hR) (by simp)) rfl rfl (fun _ => ⟨_, _, rfl, fun j u hu => by rw [Nat.zero_add]; exact (hk18.cell j).trans hu⟩) (evC_one _) (by omega) (by decide) (Nat.le_trans H3.out.2.2.2.2.2.2.size hR.size) ?_
              intro v5 w4 k1 k2 k3
              have r1x := ownsRow_only (S := []) H3.out.1 (Only.of_below hR) (by simp)
              have r2x := ownsRow_only (S := []) H3.out.2.1 (Only.of_below hR) (by simp)
              have x1x := (own_mk (e := e) H3.out.2.2.2.2.1 HKM.out.1 HKM.out.2 H3.out.2.2.2.2.2.1 HDt.out.1).below hR
              have HF := Lib.hid (show ToAt w.heap.size w4 v4 v5 es (i + 1) (co ++ [(⟨P7, (fewP e.path).length, c7, x.k, x.m, P8, dt.length, c8⟩ : Ev)]) (cd ++ [x18]) ∧ Below w.heap.size w w4 from
                ⟨⟨by rw [List.length_append, HO.out.l1]; rfl, by rw [List.length_append, HO.out.l2]; rfl, by rw [rowE_snoc]; exact ownsRow_only r1x k2 (not_own (own_own_ne r1x r2x (by decide))), by rw [rowE_snoc]; exact k1,
                  own_snoc HO.out.l1 HK.out.2.1 (fun j y f h1 h2 => ((H3.out.2.2.1 j y f h1 h2).below hR).row r2x k2 (by decide) (by decide)) (x1x.row r2x k2 (by decide) (by decide)),
                  own_snoc HO.out.l2 HK.out.2.1 (fun j y f h1 h2 => ((H3.out.2.2.2.1 j y f h1 h2).below hR).row r2x k2 (by decide) (by decide)) ((ho18.base (N := w.heap.size) H3.out.2.2.2.2.2.2.size).row r2x k2 (by decide) (by decide))⟩,
                 (H3.out.2.2.2.2.2.2.trans (hR.mono H3.out.2.2.2.2.2.2.size)).trans (k2.below (Nat.le_trans H3.out.2.2.2.2.2.2.size hR.size) (fun k hk => (r2x.lt k (by simpa using hk)).1))⟩)
              clear k1 k2 k3 r1x r2x x1x hR hV h18 h00 hp18 hk18 ho18 q1 q2
              go_wp2_with fail
              exact ⟨⟨i + 1, _, _, by omega, by omega, by go_num, Lib.hid HF.out.1, Lib.hid HF.out.2⟩, by simp [intOf]; omega⟩
      · obtain rfl : i = 41 := by omega
        have HE : Hid ((es.take 41).map toE = toEs es) := Lib.hid rfl
        have HF := Lib.hid (to_out HO.out HE.out (by rw [HL.out]; exact hi))
        clear HO
        obtain ⟨A1, c1, A2, c2, rfl, rfl, e1, e2⟩ := HF.out
        have HG := Lib.hid (And.intro e1 e2)
        clear HF e1 e2
        go_wp2_with fail
        go_ret2
        exact ⟨A1, c1, A2, c2, co, cd, rfl, HG.out.1, HG.out.2, HW.out⟩
    · obtain rfl : i = n := by omega
      have HE : Hid ((es.take i).map toE = toEs es) := Lib.hid (by unfold toEs; rw [List.take_of_length_le (by rw [HL.out]; omega), List.take_of_length_le (by rw [HL.out]; omega)])
      have HF := Lib.hid (to_out HO.out HE.out (by rw [HL.out]; exact hi))
      clear HO
      obtain ⟨A1, c1, A2, c2, rfl, rfl, e1, e2⟩ := HF.out
      have HG := Lib.hid (And.intro e1 e2)
      clear HF e1 e2
      go_wp2_with fail
      go_ret2
      exact ⟨A1, c1, A2, c2, co, cd, rfl, HG.out.1, HG.out.2, HW.out⟩
end Go.Proofs.YtbckiembnakmhaaDoor
end

/-
  New, Laid, Power, Arm and a sector that is read: what each does to a disk. Conditions: the disk is held.
-/

section
set_option maxRecDepth 100000
set_option linter.unusedSimpArgs false
set_option linter.unusedVariables false
namespace Go.Proofs.YtbckiembnakmhaaDoor
open Go.RowKit

/-- A slice of the call's own, of these bytes. -/
def OwnBytes (B : Nat) (xs : List Int) (w : World) (e : Ending) (w' : World) : Prop := ∃ v', e = .returned v' ∧ w'.ownsRow w.heap.size 5 1 v' xs.length (U xs) ∧ v' ≠ .slice none 0 0 ∧ Below B w w'

end Go.Proofs.YtbckiembnakmhaaDoor
end

/-
  Read: what it tells of a sector. Conditions: the disk is held.
-/

section
set_option maxRecDepth 100000
set_option linter.unusedSimpArgs false
set_option linter.unusedVariables false
namespace Go.Proofs.YtbckiembnakmhaaDoor
open Go.RowKit

/-- What Read leaves: the bytes in memory of the call's own. -/
def ReadPost (xs : List Int) (w : World) (e : Ending) (w' : World) : Prop := ∃ v', e = .returned (.tuple #[v', .int .i64 0]) ∧ w'.ownsRow w.heap.size 5 1 v' xs.length (U xs) ∧ v' ≠ .slice none 0 0 ∧ Below w.heap.size w w'

/-- No waiting write from place i on is of sector k. -/
def NoneFrom (s : St) (k i : Nat) : Prop := ∀ p ∈ s.waits.drop i, p.1 ≠ (k : Int)
theorem NoneFrom.start (s : St) (k : Nat) : NoneFrom s k s.waits.length := by
  intro p hp
  simp at hp

theorem seen_none {s : St} {k : Nat} (h : NoneFrom s k 0) : seen s k = (s.laid.drop (64 * k)).take 64 := by
  unfold seen
  have : s.waits.reverse.find? (fun p => p.1 == (k : Int)) = none := by
    rw [List.find?_eq_none]
    intro p hp
    have := h p (by simpa using hp)
    simpa using this
  rw [this]
theorem seen_some {s : St} {k j : Nat} {p : Int × List Int} (h : NoneFrom s k (j + 1)) (hp : s.waits[j]? = some p) (hk : p.1 = (k : Int)) : seen s k = p.2 := by
  unfold seen
  obtain ⟨hj, hpe⟩ := List.getElem?_eq_some_iff.1 hp
  have e : s.waits = s.waits.take j ++ p :: s.waits.drop (j + 1) := by
    rw [← hpe, List.getElem_cons_drop, List.take_append_drop]
  have : s.waits.reverse.find? (fun p => p.1 == (k : Int)) = some p := by
    rw [e, List.reverse_append, List.reverse_cons, List.append_assoc, List.find?_append]
    have h0 : (s.waits.drop (j + 1)).reverse.find? (fun p => p.1 == (k : Int)) = none := by
      rw [List.find?_eq_none]
      intro q hq
      have := h q (by simpa using hq)
      simpa using this
    rw [h0]
    simp [hk]
  rw [this]
theorem NoneFrom.step {s : St} {k j : Nat} {p : Int × List Int} (h : NoneFrom s k (j + 1)) (hp : s.waits[j]? = some p) (hk : (p.1 == (k : Int)) = false) : NoneFrom s k j := by
  obtain ⟨hj, hpe⟩ := List.getElem?_eq_some_iff.1 hp
  intro q hq
  rw [← List.getElem_cons_drop hj, hpe] at hq
  rcases List.mem_cons.1 hq with rfl | hq
  · simpa using hk
  · exact h q hq

theorem add_off (g o j : Nat) : (⟨g, o, none⟩ : Addr).add j = ⟨g, o + j, none⟩ := by unfold Addr.add; split <;> simp_all
theorem sector_cells {w : World} {L k : Nat} {laid : List Int} {tl : List Value} (hL : Blk w L 5 (U laid ++ tl)) : ∀ j u, (U ((laid.drop (64 * k)).take 64))[j]? = some u → w.cell? ((⟨L, k * 64, none⟩ : Addr).add j) = some u := by
  intro j u hu
  rw [add_off, hL.cell]
  rw [← U_take, ← U_drop, List.getElem?_take] at hu
  split at hu
  · rw [List.getElem?_drop] at hu
    rw [List.getElem?_append_left (by have := (List.getElem?_eq_some_iff.1 hu).1; omega), ← hu, Nat.mul_comm]
  · cases hu
theorem wait_cells {w : World} {g o : Nat} {bs : List Int} (h : ∀ j x, bs[j]? = some x → w.cell? ⟨g, o + j, none⟩ = some (.int .u8 x)) : ∀ j u, (U bs)[j]? = some u → w.cell? ((⟨g, o, none⟩ : Addr).add j) = some u := by
  intro j u hu
  rw [U_get] at hu
  cases hx : bs[j]? with
  | none => rw [hx] at hu; cases hu
  | some x =>
    rw [hx] at hu
    simp only [Option.map_some, Option.some.injEq] at hu
    subst hu
    rw [add_off]
    exact h j x hx

end Go.Proofs.YtbckiembnakmhaaDoor
end

/-
  Flush: what it does to a disk. Conditions: the disk is held.
-/

section
set_option maxRecDepth 100000
set_option linter.unusedSimpArgs false
set_option linter.unusedVariables false
namespace Go.Proofs.YtbckiembnakmhaaDoor
open Go.RowKit

/-- The writes' slice and its cells, in a later world in which the row stands. -/
def Form (w : World) (A : Option Addr) (ws : List (Int × List Int)) : Prop := ∀ i p, ws[i]? = some p →
    ∃ g, A = some ⟨g, 0, none⟩ ∧ w.cell? ⟨g, i * 65, none⟩ = some (.int .i64 p.1) ∧ ∀ j x, p.2[j]? = some x → w.cell? ⟨g, i * 65 + 1 + j, none⟩ = some (.int .u8 x)
theorem Form.only {w w' : World} {A : Option Addr} {ws : List (Int × List Int)} {S : List Nat} (h : Form w A ws) (ho : Only S w w') (hA : ∀ a, A = some a → a.block ∉ S) : Form w' A ws := by
  intro i p hp
  obtain ⟨g, rfl, h1, h2⟩ := h i p hp
  have hb : w'.heap[g]? = w.heap[g]? := ho.block g (World.block_lt_of_cell? w _ h1) (hA _ rfl)
  exact ⟨g, rfl, (World.cell?_of_block (a := ⟨g, i * 65, none⟩) hb).trans h1, fun j x hx => (World.cell?_of_block (a := ⟨g, i * 65 + 1 + j, none⟩) hb).trans (h2 j x hx)⟩

/-- What the loop of Flush keeps. -/
def LayRel (L : Nat) (s : St) (w : World) (k : Nat) (wr : World) : Prop := Blk wr L 5 (U (layAll s.laid (s.waits.take k)) ++ s.tl) ∧ Only [L] w wr

end Go.Proofs.YtbckiembnakmhaaDoor
end

/-
  The places that Crash is told: a copy of them, sorted; and which waiting writes they keep. Conditions: the slice's numbers lie at its address.
-/

section
set_option maxRecDepth 100000
set_option linter.unusedSimpArgs false
set_option linter.unusedVariables false
namespace Go.Proofs.YtbckiembnakmhaaDoor
open Go.RowKit

/-- The numbers of a slice lie at its address (nil, empty or not). -/
def IntsAt (w : World) (A : Option Addr) (ks : List Int) : Prop := ∀ j x, ks[j]? = some x → ∃ g o, A = some ⟨g, o, none⟩ ∧ w.cell? ⟨g, o + j, none⟩ = some (.int .i64 x)

/-- A slice of the call's own, of these numbers, behind the call. -/
def OwnInts (N : Nat) (ks : List Int) (w : World) (e : Ending) (w' : World) : Prop := ∃ v', e = .returned v' ∧ w'.ownsRow N 3 1 v' ks.length (ks.map (Value.int .i64)) ∧ Below N w w'

/-- The sorted list. -/
def sorted (ks : List Int) : List Int := ks.mergeSort fun x y => decide (x ≤ y)

/-- The waiting writes that are kept, in their order: those whose places are told. -/
def kept (ks : List Int) (ws : List (Int × List Int)) : List (Int × List Int) := (ws.zipIdx.filter fun x => decide ((x.2 : Int) ∈ ks)).map (·.1)
theorem kept_snoc (ks : List Int) (ws : List (Int × List Int)) (p : Int × List Int) : kept ks (ws ++ [p]) = if (ws.length : Int) ∈ ks then kept ks ws ++ [p] else kept ks ws := by
  unfold kept
  rw [List.zipIdx_append]
  by_cases h : (ws.length : Int) ∈ ks
  · simp [h]
  · simp [h]
theorem kept_mem {ks : List Int} {ws : List (Int × List Int)} {p : Int × List Int} (h : p ∈ kept ks ws) : p ∈ ws := by
  unfold kept at h
  simp only [List.mem_map, List.mem_filter] at h
  obtain ⟨x, ⟨h1, _⟩, rfl⟩ := h
  exact (List.mem_zipIdx' h1).2 ▸ List.getElem_mem _
theorem kept_length (ks : List Int) (ws : List (Int × List Int)) : (kept ks ws).length ≤ ws.length := by
  unfold kept
  rw [List.length_map]
  exact Nat.le_trans (List.length_filter_le _ _) (by simp)
theorem kept_none {ks : List Int} (ws ws' : List (Int × List Int)) (h : ∀ j : Nat, ws.length ≤ j → (j : Int) ∉ ks) : kept ks (ws ++ ws') = kept ks ws := by
  unfold kept
  rw [List.zipIdx_append, List.filter_append, List.map_append]
  have e : ((ws'.zipIdx (0 + ws.length)).filter fun x => decide ((x.2 : Int) ∈ ks)) = [] := List.filter_eq_nil_iff.2 (fun x hx => by
    have := List.le_snd_of_mem_zipIdx hx
    simpa using h x.2 (by omega))
  rw [e]
  simp

/-- What Crash makes of a state. -/
def St.crash (s : St) (ks : List Int) : Int × St := (((kept ks s.waits).length : Nat), { s with on := false, laid := layAll s.laid (kept ks s.waits), waits := [] })

/-- What is still to be told from place i on. -/
def Rest (ks rest : List Int) (i : Nat) : Prop := rest.Pairwise (· ≤ ·) ∧ ∀ j : Nat, i ≤ j → ((j : Int) ∈ rest ↔ (j : Int) ∈ ks)
theorem Rest.start (ks : List Int) : Rest ks (sorted ks) 0 := by
  refine ⟨?_, fun j _ => by simp [sorted, List.mem_mergeSort]⟩
  have := List.pairwise_mergeSort (le := fun x y : Int => decide (x ≤ y)) (fun a b c h1 h2 => by simp only [decide_eq_true_eq] at *; omega) (fun a b => by simp only [Bool.or_eq_true, decide_eq_true_eq]; omega) ks
  exact this.imp (by intro a b h; simpa using h)
theorem Rest.drop {ks rest : List Int} {x : Int} {i : Nat} (h : Rest ks (x :: rest) i) (hx : x < i) : Rest ks rest i := by
  obtain ⟨h1, h2⟩ := h
  refine ⟨(List.pairwise_cons.1 h1).2, fun j hj => ?_⟩
  rw [← h2 j hj, List.mem_cons]
  constructor
  · exact Or.inr
  · rintro (e | h)
    · omega
    · exact h
theorem Rest.next {ks rest : List Int} {i : Nat} (h : Rest ks rest i) : Rest ks rest (i + 1) := ⟨h.1, fun j hj => h.2 j (by omega)⟩
theorem Rest.nil {ks : List Int} {i : Nat} (h : Rest ks [] i) : ∀ j : Nat, i ≤ j → (j : Int) ∉ ks := fun j hj hm => by
  have := (h.2 j hj).2 hm
  simp at this
theorem Rest.head {ks rest : List Int} {x : Int} {i : Nat} (h : Rest ks (x :: rest) i) (hx : ¬ x < i) : (i : Int) ∈ ks ↔ x = i := by
  rw [← h.2 i (Nat.le_refl _), List.mem_cons]
  constructor
  · rintro (e | e)
    · exact e.symm
    · have := (List.pairwise_cons.1 h.1).1 _ e
      omega
  · intro e
    exact .inl e.symm

end Go.Proofs.YtbckiembnakmhaaDoor
end

/-
  Crash: what it does to a disk. Conditions: the disk is held; the places told lie at their address.
-/

section
set_option maxRecDepth 100000
set_option linter.unusedSimpArgs false
set_option linter.unusedVariables false
namespace Go.Proofs.YtbckiembnakmhaaDoor
open Go.RowKit

/-- What the loop of layKept keeps of the laid bytes. -/
def KeptRel (N L : Nat) (s : St) (ks : List Int) (w : World) (i : Nat) (c : Int) (wr : World) : Prop :=
  Blk wr L 5 (U (layAll s.laid (kept ks (s.waits.take i))) ++ s.tl) ∧ Only [L] w wr ∧ c = ((kept ks (s.waits.take i)).length : Nat) ∧ N ≤ w.heap.size
/-- The list of the places still told, in memory of the call's own. -/
def ToldAt (N : Nat) (A : Option Addr) (cap : Nat) (rest : List Int) (wr : World) : Prop :=
  rest.length ≤ cap ∧ cap ≤ maxLen ∧ ∀ j x, rest[j]? = some x → ∃ g o, A = some ⟨g, o, none⟩ ∧ N ≤ g ∧ wr.cell? ⟨g, o + j, none⟩ = some (.int .i64 x)

theorem ToldAt.only {N : Nat} {A : Option Addr} {cap : Nat} {rest : List Int} {w wr : World} {S : List Nat} (h : ToldAt N A cap rest w) (ho : Only S w wr) (hS : ∀ k, k ∈ S → k < N) : ToldAt N A cap rest wr := by
  refine ⟨h.1, h.2.1, fun j x hx => ?_⟩
  obtain ⟨g, o, e, hg, hc⟩ := h.2.2 j x hx
  refine ⟨g, o, e, hg, ?_⟩
  rw [World.cell?_of_block (w := w) (ho.block g (World.block_lt_of_cell? w _ hc) (fun hs => by have := hS g hs; omega))]
  exact hc
theorem ToldAt.tail {N g o cap : Nat} {x : Int} {rest : List Int} {w : World} (h : ToldAt N (some ⟨g, o, none⟩) cap (x :: rest) w) : ToldAt N (some ⟨g, o + 1, none⟩) (cap - 1) rest w := by
  obtain ⟨h1, h2, h3⟩ := h
  refine ⟨by simp at h1; omega, by omega, fun j y hy => ?_⟩
  obtain ⟨g', o', e, hg, hc⟩ := h3 (j + 1) y (by simpa using hy)
  cases e
  exact ⟨g, o + 1, rfl, hg, by rw [← hc]; congr 2; omega⟩
theorem ToldAt.of_own {N : Nat} {w : World} {v : Value} {ks : List Int} (h : w.ownsRow N 3 1 v ks.length (ks.map (Value.int .i64))) : ∃ A cap, v = .slice A ks.length cap ∧ ToldAt N A cap ks w := by
  rcases h.2 with ⟨rfl, h0⟩ | ⟨g, cap, cur, rfl, hbase, hb, h1, h2, h3, h4⟩
  · have hk : ks = [] := List.eq_nil_of_length_eq_zero h0
    subst hk
    exact ⟨none, 0, rfl, by simp, by simp [maxLen], fun j x hx => by simp at hx⟩
  · refine ⟨some ⟨g, 0, none⟩, cap, rfl, h1, h2, fun j x hx => ⟨g, 0, rfl, hbase, ?_⟩⟩
    have := h.cells (g := g) rfl j (.int .i64 x) (by rw [List.getElem?_map, hx]; rfl)
    have hadd : (⟨g, 0, none⟩ : Addr).add j = ⟨g, 0 + j, none⟩ := by unfold Addr.add; split <;> simp_all
    rwa [hadd] at this

def lenV : Value → Nat
  | .slice _ n _ => n
  | _ => 0

/-- The loop has gone through all that is kept. -/
theorem kept_end {L : Nat} {s : St} {ks : List Int} {w w2 wr : World} {cn : Int} (h : KeptRel w.heap.size L s ks w2 s.waits.length cn wr) (le : Below w.heap.size w w2) :
    Ending.returned (.int .i64 cn) = .returned (.int .i64 ((kept ks s.waits).length : Nat)) ∧ Blk wr L 5 (U (layAll s.laid (kept ks s.waits)) ++ s.tl) ∧ Only [L] w wr := by
  obtain ⟨h1, h2, h3, _⟩ := h
  rw [List.take_length] at h1 h3
  exact ⟨by rw [h3], h1, (Only.of_below le).trans h2⟩
theorem kept_stop {N L : Nat} {s : St} {ks : List Int} {w2 wr : World} {cn : Int} {i : Nat} (h : KeptRel N L s ks w2 i cn wr) (hi : i ≤ s.waits.length) (hr : ∀ j : Nat, i ≤ j → (j : Int) ∉ ks) : KeptRel N L s ks w2 s.waits.length cn wr := by
  obtain ⟨h1, h2, h3, h4⟩ := h
  have e : kept ks (s.waits.take s.waits.length) = kept ks (s.waits.take i) := by
    rw [List.take_length]
    have := kept_none (ks := ks) (s.waits.take i) (s.waits.drop i) (by intro j hj; exact hr j (by simp at hj; omega))
    rwa [List.take_append_drop] at this
  unfold KeptRel
  rw [e]
  exact ⟨h1, h2, h3, h4⟩

theorem KeptRel.cn {N L : Nat} {s : St} {ks : List Int} {w2 wr : World} {cn : Int} {i : Nat} (h : KeptRel N L s ks w2 i cn wr) : 0 ≤ cn ∧ cn ≤ i := by
  have h3 := h.2.2.1
  have := kept_length ks (s.waits.take i)
  rw [List.length_take] at this
  omega
theorem kept_lay {N L : Nat} {s : St} {ks : List Int} {w2 wr w3 : World} {cn : Int} {i : Nat} {p : Int × List Int} (h : KeptRel N L s ks w2 i cn wr) (hb : Blk w3 L 5 (U (putS (layAll s.laid (kept ks (s.waits.take i))) p.1.toNat p.2) ++ s.tl)) (ho : Only [L] wr w3)
    (et : s.waits.take (i + 1) = s.waits.take i ++ [p]) (hti : (s.waits.take i).length = i) (hin : (i : Int) ∈ ks) : KeptRel N L s ks w2 (i + 1) (cn + 1) w3 := by
  obtain ⟨h1, h2, h3, h4⟩ := h
  have e : kept ks (s.waits.take (i + 1)) = kept ks (s.waits.take i) ++ [p] := by rw [et, kept_snoc, hti, if_pos hin]
  unfold KeptRel
  rw [e, layAll_snoc]
  exact ⟨hb, h2.trans ho, by rw [h3]; simp, h4⟩
theorem kept_pass {N L : Nat} {s : St} {ks : List Int} {w2 wr : World} {cn : Int} {i : Nat} {p : Int × List Int} (h : KeptRel N L s ks w2 i cn wr)
    (et : s.waits.take (i + 1) = s.waits.take i ++ [p]) (hti : (s.waits.take i).length = i) (hin : (i : Int) ∉ ks) : KeptRel N L s ks w2 (i + 1) cn wr := by
  have e : kept ks (s.waits.take (i + 1)) = kept ks (s.waits.take i) := by rw [et, kept_snoc, hti, if_neg hin]
  unfold KeptRel
  rw [e]
  exact h

end Go.Proofs.YtbckiembnakmhaaDoor
end

/-
  New, Power, Arm: what each does. Conditions: the disk is held (Power, Arm).
-/

section
set_option maxRecDepth 100000
set_option linter.unusedSimpArgs false
set_option linter.unusedVariables false
namespace Go.Proofs.YtbckiembnakmhaaDoor
open Go.RowKit

/-- A new disk of n sectors. -/
def fresh (n : Nat) : St := { on := true, armed := false, left := 0, n := n, lc := 64 * n, laid := List.replicate (64 * n) 0, tl := [], waits := [], wr := 0, fl := 0 }
theorem fresh_good {n : Nat} (h1 : 1 ≤ n) (h2 : n ≤ 4096) : Good (fresh n) :=
  ⟨by simp [fresh], h1, h2, by intro p hp; simp [fresh] at hp, Int.le_refl _, by simp [fresh], by simp [fresh], Int.le_refl _, by simp [fresh], Int.le_refl _, by simp [fresh], Nat.le_refl _⟩

theorem byte_info : (Tryd.prog.info? 5).map (fun i => (i.zero, i.size, i.bytes)) = some (some (.int .u8 0), 1, 1) := by kernel_rfl
theorem made_bytes (n : Nat) : madeCells #[.int .u8 0] n = (U (List.replicate n 0)).toArray := by
  apply Array.toList_inj.1
  rw [toList_madeCells_one]
  simp [U]
theorem make_bytes (w : World) (n : Int) (h0 : 0 ≤ n) (h1 : n ≤ 1000000) : (Instr.makeSlice 28 (.int .i64 n) (.int .i64 n)).run Tryd.prog w = .ok (.slice (some ⟨w.heap.size, 0, none⟩) n.toNat n.toNat) (w.alloc (.cells (U (List.replicate n.toNat 0)).toArray 5)) := by
  obtain ⟨i0, hi, hz0, hz1, hz2⟩ := info_parts byte_info
  have := run_make (P := Tryd.prog) w 28 5 i0 (.int .u8 0) (by kernel_rfl) hi hz0 .i64 .i64 n n h0 (Int.le_refl _) (by rw [hz2]; omega) (by omega)
  rw [this, hz1, Nat.mul_one, ← made_bytes]
  rfl

end Go.Proofs.YtbckiembnakmhaaDoor
end

/-
  The methods once more, in the words that the laws need: a disk that lives, and what a step leaves of other memory. Conditions: those of each contract.
-/

section
set_option maxRecDepth 100000
set_option linter.unusedSimpArgs false
set_option linter.unusedVariables false
namespace Go.Proofs.YtbckiembnakmhaaDoor
open Go.RowKit

/-- A slice of bytes in a block of its own, from block N on. -/
def HasBytes (N : Nat) (w : World) (v : Value) (xs : List Int) : Prop := ∃ g cap cs, v = .slice (some ⟨g, 0, none⟩) xs.length cap ∧ N ≤ g ∧ Blk w g 5 cs ∧ cs.take xs.length = U xs
theorem HasBytes.of_own {N : Nat} {w : World} {v : Value} {xs : List Int} (h : w.ownsRow N 5 1 v xs.length (U xs)) (hn : v ≠ .slice none 0 0) : HasBytes N w v xs := by
  rcases h.2 with ⟨rfl, _⟩ | ⟨g, cap, cur, rfl, hg, hb, _, _, _, ht⟩
  · exact absurd rfl hn
  · exact ⟨g, cap, cur.toList, rfl, hg, by simpa [Blk] using hb, by simpa using ht⟩
theorem HasBytes.more {N M : Nat} {w : World} {v : Value} {xs : List Int} (h : HasBytes N w v xs) (hM : M ≤ N) : HasBytes M w v xs := by
  obtain ⟨g, cap, cs, e, hg, hb, ht⟩ := h
  exact ⟨g, cap, cs, e, by omega, hb, ht⟩
theorem HasBytes.cells {N : Nat} {w : World} {v : Value} {xs : List Int} (h : HasBytes N w v xs) : ∃ g cap, v = .slice (some ⟨g, 0, none⟩) xs.length cap ∧ N ≤ g ∧ ∀ j u, (U xs)[j]? = some u → w.cell? ((⟨g, 0, none⟩ : Addr).add j) = some u := by
  obtain ⟨g, cap, cs, rfl, hg, hb, ht⟩ := h
  refine ⟨g, cap, rfl, hg, fun j u hu => ?_⟩
  rw [add_off, hb.cell, Nat.zero_add]
  rw [← ht, List.getElem?_take] at hu
  split at hu
  · exact hu
  · cases hu

theorem HasBytes.at_ {N : Nat} {w : World} {v : Value} {xs : List Int} (h : HasBytes N w v xs) {n : Nat} (hn : xs.length = n) : ∃ g cap, v = .slice (some ⟨g, 0, none⟩) n cap ∧ N ≤ g := by
  obtain ⟨g, cap, rfl, hg, _⟩ := h.cells
  exact ⟨g, cap, by rw [hn], hg⟩
theorem HasBytes.lt_ {N : Nat} {w : World} {v : Value} {xs : List Int} (h : HasBytes N w v xs) : ∀ g n c, v = .slice (some ⟨g, 0, none⟩) n c → g < w.heap.size := by
  obtain ⟨g, cap, cs, rfl, hg, hb, ht⟩ := h
  intro g' n c e
  cases e
  exact hb.lt
theorem HasBytes.grown {N : Nat} {w w' : World} {v : Value} {xs : List Int} {row : Option Nat} (h : HasBytes N w v xs) (hg : w.grownBy w' row) (hr : ∀ g, v.ownBlock = some g → some g ≠ row) : HasBytes N w' v xs := by
  obtain ⟨g, cap, cs, rfl, hN, hb, ht⟩ := h
  exact ⟨g, cap, cs, rfl, hN, hb.grown hg (hr g rfl), ht⟩
theorem HasBytes.of_blk {N : Nat} {w : World} {g : Nat} {xs : List Int} {n : Nat} (h : Blk w g 5 (U xs)) (hn : xs.length = n) (hN : N ≤ g) : HasBytes N w (.slice (some ⟨g, 0, none⟩) n n) xs :=
  ⟨g, n, U xs, by rw [hn], hN, h, by rw [List.take_of_length_le]; simp [U_length]⟩
theorem own_of_blk {N : Nat} {w : World} {g : Nat} {xs : List Int} {n : Nat} (h : Blk w g 5 (U xs)) (hn : xs.length = n) (hN : N ≤ g) (hm : n ≤ maxLen) : w.ownsRow N 5 1 (.slice (some ⟨g, 0, none⟩) n n) n (U xs) :=
  ⟨by rw [U_length, hn]; omega, .inr ⟨g, n, _, rfl, hN, h, Nat.le_refl _, hm, by simp [U_length, hn], by rw [List.take_of_length_le]; simp [U_length, hn]⟩⟩

end Go.Proofs.YtbckiembnakmhaaDoor
end
