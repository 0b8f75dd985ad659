/-
  The law's To: at most 41 entries, cut, in memory of the call's own, and the document's beside them. Condition: the entries lie in memory.
-/
import Derived.Test.YtdnaiiagblcohaaDoorM10
import Derived.Deep.RegionHeld3
import Derived.Test.YtdnaiiagblcohaaDoorM7
section
set_option linter.unusedSimpArgs false
set_option linter.unusedVariables false
set_option maxRecDepth 100000
namespace Go.Proofs.YtdnaiiagblcohaaDoor
open Go.RowKit

theorem not_own {v : Value} {S : Value} (h : ∀ g, v.ownBlock = some g → S.ownBlock ≠ some g) : ∀ k, v.ownBlock = some k → k ∉ S.ownBlock.toList := by
  intro k hk hm
  exact h k hk (by simpa using hm)
theorem OwnE.row {N M T s n : Nat} {w w' : World} {x : Ev} {e : En} {v : Value} {xs : List Value} (h : OwnE N w x e) (hr : w.ownsRow M T s v n xs) (ho : Only v.ownBlock.toList w w') (h1 : 9 ≠ T) (h2 : 5 ≠ T) : OwnE N w' x e :=
  h.only ho (not_own (own_own_ne h.path hr h1)) (not_own (own_own_ne h.data hr h2))
/-- Where To stands behind i entries. -/
structure ToAt (N : Nat) (w : World) (u4 u5 : Value) (es : List En) (i : Nat) (co cd : List Ev) : Prop where
  l1 : co.length = i
  l2 : cd.length = i
  r1 : w.ownsRow N 41 4 u4 i (rowE co)
  r2 : w.ownsRow N 40 4 u5 i (rowE cd)
  o1 : ∀ (j : Nat) x e, co[j]? = some x → ((es.take i).map toE)[j]? = some e → OwnE N w x e
  o2 : ∀ (j : Nat) x e, cd[j]? = some x → ((es.take i).map toE)[j]? = some e → OwnE N w x e
theorem ToAt.below {N : Nat} {w w' : World} {u4 u5 : Value} {es : List En} {i : Nat} {co cd : List Ev} (h : ToAt N w u4 u5 es i co cd) (hb : Below w.heap.size w w') : ToAt N w' u4 u5 es i co cd :=
  ⟨h.l1, h.l2, ownsRow_only (S := []) h.r1 (Only.of_below hb) (by simp), ownsRow_only (S := []) h.r2 (Only.of_below hb) (by simp), fun j x e h1 h2 => (h.o1 j x e h1 h2).below hb, fun j x e h1 h2 => (h.o2 j x e h1 h2).below hb⟩
theorem to_out {N i : Nat} {w : World} {u4 u5 : Value} {es ts : List En} {co cd : List Ev} (h : ToAt N w u4 u5 es i co cd) (ht : (es.take i).map toE = ts) (hi : i ≤ es.length) :
    ∃ A1 c1 A2 c2, u4 = .slice A1 ts.length c1 ∧ u5 = .slice A2 ts.length c2 ∧ EIn w A1 ts.length c1 co ts ∧ EIn w A2 ts.length c2 cd ts := by
  subst ht
  have hl : ((es.take i).map toE).length = i := by rw [List.length_map, List.length_take]; omega
  have r1 := h.r1
  have r2 := h.r2
  rw [← h.l1] at r1
  rw [← h.l2] at r2
  obtain ⟨A1, c1, e1, h1⟩ := ein_own r1 (by rw [h.l1, hl]) h.o1
  obtain ⟨A2, c2, e2, h2⟩ := ein_own r2 (by rw [h.l2, hl]) h.o2
  exact ⟨A1, c1, A2, c2, e1, e2, h1, h2⟩
theorem ev_info : (Tryd.prog.info? 41).map (fun i => (i.zero, i.size, i.bytes)) = some (some (.agg #[.slice none 0 0, .int .i64 0, .int .i64 0, .slice none 0 0]), 4, 64) := by kernel_rfl
theorem rev_info12 : (Tryd.prog.info? 40).map (fun i => (i.zero, i.size, i.bytes)) = some (some (.agg #[.slice none 0 0, .int .i64 0, .int .i64 0, .slice none 0 0]), 4, 64) := by kernel_rfl
theorem byt_info : (Tryd.prog.info? 5).map (fun i => (i.zero, i.size, i.bytes)) = some (some (.int .u8 0), 1, 1) := by kernel_rfl
theorem build_ev (W : World) (A : Option Addr) (n c : Nat) (k m : Int) (D : Option Addr) (dn dc : Nat) : (Instr.build 41 #[(0, .slice A n c), (1, .int .i64 k), (2, .int .i64 m), (3, .slice D dn dc)]).run Tryd.prog W = .ok (evV ⟨A, n, c, k, m, D, dn, dc⟩) W := by kernel_rfl
theorem build_rev (W : World) (A : Option Addr) (n c : Nat) (k m : Int) (D : Option Addr) (dn dc : Nat) : (Instr.build 40 #[(0, .slice A n c), (1, .int .i64 k), (2, .int .i64 m), (3, .slice D dn dc)]).run Tryd.prog W = .ok (evV ⟨A, n, c, k, m, D, dn, dc⟩) W := by kernel_rfl
theorem slice_ev (W : World) (x : Ev) : (Instr.buildSlice 23 1 #[(0, evV x)]).run Tryd.prog W = .ok (.slice (some ⟨W.heap.size, 0, none⟩) 1 1) (W.alloc (.cells (evC x).toArray 41)) := by kernel_rfl
theorem slice_rev12 (W : World) (x : Ev) : (Instr.buildSlice 22 1 #[(0, evV x)]).run Tryd.prog W = .ok (.slice (some ⟨W.heap.size, 0, none⟩) 1 1) (W.alloc (.cells (evC x).toArray 40)) := by kernel_rfl
theorem slice0_b (W : World) : (Instr.buildSlice 26 0 #[]).run Tryd.prog W = .ok (.slice (some ⟨W.heap.size, 0, none⟩) 0 0) (W.alloc (.cells #[] 5)) := by kernel_rfl
theorem slice0_s (W : World) : (Instr.buildSlice 37 0 #[]).run Tryd.prog W = .ok (.slice (some ⟨W.heap.size, 0, none⟩) 0 0) (W.alloc (.cells #[] 9)) := by kernel_rfl
/-- A new row of one. -/
def rowOneE (t : TypeId) (b0 : Nat) (cs : List Value) : Value → World → Prop := fun u w => ∃ p, u = .slice (some ⟨p, 0, none⟩) 1 1 ∧ b0 ≤ p ∧ Blk w p t cs
theorem rowOneE.st (t : TypeId) (b0 : Nat) (cs : List Value) : StV (rowOneE t b0 cs) := fun _ _ _ ⟨p, h1, h2, h3⟩ hb => ⟨p, h1, h2, h3.below hb h3.lt⟩
def evNV (N : Nat) (e : En) : Value → World → Prop := fun u w => ∃ x : Ev, u = evV x ∧ OwnE N w x e
theorem evNV.st (N : Nat) (e : En) : StV (evNV N e) := fun _ _ _ ⟨x, h1, h2⟩ hb => ⟨x, h1, h2.below hb⟩
def rowNV (t N : Nat) (e : En) : Value → World → Prop := fun u w => ∃ p, ∃ x : Ev, u = .slice (some ⟨p, 0, none⟩) 1 1 ∧ N ≤ p ∧ Blk w p t (evC x) ∧ OwnE N w x e
theorem rowNV.st (t N : Nat) (e : En) : StV (rowNV t N e) := fun _ _ _ ⟨p, x, h1, h2, h3, h4⟩ hb => ⟨p, x, h1, h2, h3.below hb h3.lt, h4.below hb⟩
theorem own_mk {N dn : Nat} {w : World} {A D : Option Addr} {pc dc : Nat} {k m : Int} {e : En} {dt : List B8} (hp : w.ownsRow N 9 1 (.slice A (fewP e.path).length pc) (fewP e.path).length (strV (fewP e.path))) (hk : (toE e).kind = k) (hm : (toE e).mode = m) (hd : w.ownsRow N 5 1 (.slice D dn dc) dt.length (Vb dt)) (he : dt = e.data.take 520) : OwnE N w ⟨A, (fewP e.path).length, pc, k, m, D, dn, dc⟩ (toE e) := by
  subst he
  exact ⟨hp, hk, hm, hd, toE_small e⟩
theorem OwnE.base {N M : Nat} {w : World} {x : Ev} {e : En} (h : OwnE M w x e) (hN : N ≤ M) : OwnE N w x e := ⟨own_base h.path hN, h.kind, h.mode, own_base h.data hN, h.small⟩
theorem own_snoc {N i : Nat} {w : World} {es : List En} {co : List Ev} {x : Ev} {e : En} (hl : co.length = i) (he : es[i]? = some e) (h : ∀ (j : Nat) y f, co[j]? = some y → ((es.take i).map toE)[j]? = some f → OwnE N w y f) (hx : OwnE N w x (toE e)) :
    ∀ (j : Nat) y f, (co ++ [x])[j]? = some y → ((es.take (i + 1)).map toE)[j]? = some f → OwnE N w y f := by
  intro j y f hy hf
  rw [toEs_next he] at hf
  have hi : ((es.take i).map toE).length = i := by
    have := (List.getElem?_eq_some_iff.1 he).1
    rw [List.length_map, List.length_take]
    omega
  rcases Nat.lt_or_ge j i with hj | hj
  · rw [List.getElem?_append_left (by omega)] at hy hf
    exact h j y f hy hf
  · rw [List.getElem?_append_right (by omega), hl] at hy
    rw [List.getElem?_append_right (by omega), hi] at hf
    have h0 : j - i = 0 := by
      have := (List.getElem?_eq_some_iff.1 hy).1
      simp at this
      omega
    rw [h0] at hy hf
    simp only [List.getElem?_cons_zero, Option.some.injEq] at hy hf
    subst hy hf
    exact hx
theorem sin_rows {w : World} {A : Option Addr} {n c : Nat} {p : Pa} (h : SIn w A n c p) (h0 : 0 < n) : ∃ g off, A = some ⟨g, off, none⟩ ∧ ∀ (j : Nat) u, (strV p)[j]? = some u → w.cell? ⟨g, off + j, none⟩ = some u := by
  obtain ⟨g, o, hA, _, hc⟩ := h.cells h0
  exact ⟨g, o, hA, fun j u hu => by obtain ⟨t, h1, rfl⟩ := strV_get hu; exact hc j t h1⟩
theorem din_rows {w : World} {A : Option Addr} {n c : Nat} {d : List B8} (h : DIn w A n c d) (h0 : 0 < n) : ∃ g off, A = some ⟨g, off, none⟩ ∧ ∀ (j : Nat) u, (Vb d)[j]? = some u → w.cell? ⟨g, off + j, none⟩ = some u := by
  obtain ⟨g, o, hA, _, hc⟩ := h.cells h0
  exact ⟨g, o, hA, hc⟩
set_option maxHeartbeats 8000000 in
theorem to12_any (w : World) (A : Option Addr) (n c : Nat) (xs : List Ev) (es : List En) (h : ERd w A n c xs es) :
    Calls Tryd.prog 4 #[.slice A n c] w fun e w' => ∃ A1 c1 A2 c2 X Y, e = .returned (.tuple #[.slice A1 (toEs es).length c1, .slice A2 (toEs es).length c2]) ∧ EIn w' A1 (toEs es).length c1 X (toEs es) ∧ EIn w' A2 (toEs es).length c2 Y (toEs es) ∧ Below w.heap.size w w' := by
  have hbig : n ≤ 9223372036854775807 := by have := h.cap; have := h.big; omega
  have hcap := h.cap
  have H := Lib.hid h
  have HL := Lib.hid h.elen
  clear h
  go_enter Tryd.func4, Tryd.ntmps4
  go_wp2_with fail
  go_loopw [4, 5, 6] (fun u4 u5 iv wr => ∃ (i : Nat) (co cd : List Ev), i ≤ n ∧ i ≤ 41 ∧ iv = .int .i64 i ∧ Hid (ToAt w.heap.size wr u4 u5 es i co cd) ∧ Hid (Below w.heap.size w wr)) (fun _ _ iv _ => 41 - (intOf iv).toNat)
  case atStart => exact ⟨0, [], [], by omega, by omega, rfl, Lib.hid ⟨rfl, rfl, World.ownsRow_nil _ _ _ _, World.ownsRow_nil _ _ _ _, fun j x e h => by simp at h, fun j x e h => by simp at h⟩, Lib.hid (Below.refl _ _)⟩
  case round =>
    obtain ⟨i, co, cd, hi, hi41, rfl, HO, HW⟩ := hrel
    by_cases hlt : i < n
    · by_cases hlt41 : i < 41
      · obtain ⟨g, o, x, e, rfl, hg, hx, he, hok, hcl⟩ := H.out.row hlt
        have HC := Lib.hid hcl
        have q0 : wr.cell? ⟨g, o + i * 4, none⟩ = some (.slice x.PA x.pn x.pc) := pcell_below (hcl 0 _ rfl) HW.out
        have HK := Lib.hid (And.intro (hok.below HW.out) (And.intro he hg))
        clear hx he hok hcl
        have b0 : (0 : Int) ≤ (i : Int) := by omega
        have b1 : (i : Int) < (n : Int) := by omega
        go_wp2_with fail
        refine (few_any wr x.PA x.pn x.pc e.path HK.out.1.path).mono ?_
        rintro en w1 ⟨v7, rfl, h7, hW1⟩
        obtain ⟨P7, c7, rfl⟩ := own_slice h7
        have q3 : w1.cell? ⟨g, o + i * 4 + 3, none⟩ = some (.slice x.DA x.dn x.dc) := pcell_below (pcell_below (HC.out 3 _ rfl) HW.out) hW1
        have H1 := Lib.hid (And.intro (own_base h7 HW.out.size) (And.intro (HO.out.below hW1) (And.intro (HW.out.trans (hW1.mono HW.out.size)) (HK.out.1.data.below hW1))))
        clear h7 hW1 q0
        have hdc := H1.out.2.2.2.cap
        have hdb := H1.out.2.2.2.big
        have d0 : (0 : Int) ≤ min (x.dn : Int) 520 := by omega
        have d1 : min (x.dn : Int) 520 ≤ (x.dc : Int) := by omega
        have d2 : min (x.dn : Int) 520 ≤ (x.dn : Int) := by omega
        have HD := Lib.hid (H1.out.2.2.2.take (k := (min (x.dn : Int) 520).toNat) (c' := x.dc) (by omega) (by omega) (Nat.le_refl _))
        obtain ⟨dt, hdt⟩ : ∃ d, d = e.data.take 520 := ⟨_, rfl⟩
        have HDt : Hid (dt = e.data.take 520 ∧ dt.length ≤ 520) := Lib.hid ⟨hdt, by rw [hdt, List.length_take]; omega⟩
        have HT : Hid (e.data.take (min (x.dn : Int) 520).toNat = dt ∧ dt.length = (min (x.dn : Int) 520).toNat) := Lib.hid (by
          rw [hdt]
          have hl := H1.out.2.2.2.len
          have e1 : e.data.take (min (x.dn : Int) 520).toNat = e.data.take 520 := by
            rcases Nat.lt_or_ge 520 x.dn with h | h
            · rw [show (min (x.dn : Int) 520).toNat = 520 by omega]
            · rw [List.take_of_length_le (by omega), List.take_of_length_le (by omega)]
          exact ⟨e1, by rw [← e1, List.length_take]; omega⟩)
        clear hdt
        go_wp2_with fail
        refine wp_hideQ ?_
        intro QQ hQQ
        refine wp_region_quickT [some 25, some 26, some 27, some 28, some 29, some 30, some 31, some 32, some 33, some 34, some 35, some 36, some 37, some 38] [noV 5 w1.heap.size, isV (.slice (some ⟨g, o, none⟩) n c), isV (.int .i64 (i : Int)), isV (.pointer (some ⟨g, o + i * 4, none⟩)), isV (.pointer (some ⟨g, o + i * 4 + 3, none⟩)), isV (.slice x.DA x.dn x.dc), isV (.slice (some ⟨g, o, none⟩) n c), isV (.int .i64 (i : Int)), isV (.pointer (some ⟨g, o + i * 4, none⟩)), isV (.pointer (some ⟨g, o + i * 4 + 3, none⟩)), isV (.slice x.DA x.dn x.dc), isV (.int .i64 (x.dn : Int)), isV (.int .i64 (min (x.dn : Int) 520)), isV (.slice x.DA (min (x.dn : Int) 520).toNat x.dc)] 14 16 (by kernel_rfl) rfl rfl rfl rfl (by kernel_rfl) (by kernel_rfl) (by simp [isV.st, noV.st]) ?_ ?_
        · intro hq rz hz
          match rz, hz with
          | 0, _ =>
            refine StepL.val rfl [] (by decide +kernel) ?_
            intro v wx hR hd
            have hb := pnew wx (.cells #[] 5)
            exact ⟨wanted_plain rfl _, xe_ex (x_slice rfl pairs_0 (slice0_b wx)) ⟨hR.trans (hb.mono hR.size), hb, _, rfl, hR.size, Blk.new wx 5 []⟩⟩
          | 1, _ =>
            refine StepL.val rfl [] (by decide +kernel) ?_
            intro v wx hR hd
            exact ⟨wanted_plain rfl _, _, _, x_move rfl (fill_off rfl rfl), hR, Below.refl _ _, rfl⟩
          | 2, _ =>
            refine StepL.val rfl [] (by decide +kernel) ?_
            intro v wx hR hd
            exact ⟨wanted_plain rfl _, _, _, x_move rfl (fill_off rfl rfl), hR, Below.refl _ _, rfl⟩
          | 3, _ =>
            refine StepL.val rfl [1, 2] (by decide +kernel) ?_
            intro v wx hR hd
            have h1 : v 1 = _ := hd 1 (by simp)
            have h2 : v 2 = _ := hd 2 (by simp)
            exact ⟨wanted_plain rfl _, _, _, x_index rfl (hq.at_ rfl h1) (hq.at_ rfl h2) (r_index (e := 40) (size := 4) (by kernel_rfl) (by kernel_rfl) (by omega) (by omega) (by first | omega | simp)), hR, Below.refl _ _, rfl⟩
          | 4, _ =>
            refine StepL.val rfl [3] (by decide +kernel) ?_
            intro v wx hR hd
            have h3 : v 3 = _ := hd 3 (by simp)
            exact ⟨wanted_plain rfl _, _, _, x_field rfl (hq.at_ rfl h3) (r_field (off := 3) (by kernel_rfl)), hR, Below.refl _ _, rfl⟩
          | 5, _ =>
            refine StepL.val rfl [4] (by decide +kernel) ?_
            intro v wx hR hd
            have h4 : v 4 = _ := hd 4 (by simp)
            exact ⟨wanted_plain rfl _, _, _, x_load rfl (hq.at_ rfl h4) (r_load (by kernel_rfl) (pcell_below q3 hR)), hR, Below.refl _ _, rfl⟩
          | 6, _ =>
            refine StepL.val rfl [] (by decide +kernel) ?_
            intro v wx hR hd
            exact ⟨wanted_plain rfl _, _, _, x_move rfl (fill_off rfl rfl), hR, Below.refl _ _, rfl⟩
          | 7, _ =>
            refine StepL.val rfl [] (by decide +kernel) ?_
            intro v wx hR hd
            exact ⟨wanted_plain rfl _, _, _, x_move rfl (fill_off rfl rfl), hR, Below.refl _ _, rfl⟩
          | 8, _ =>
            refine StepL.val rfl [6, 7] (by decide +kernel) ?_
            intro v wx hR hd
            have h6 : v 6 = _ := hd 6 (by simp)
            have h7 : v 7 = _ := hd 7 (by simp)
            exact ⟨wanted_plain rfl _, _, _, x_index rfl (hq.at_ rfl h6) (hq.at_ rfl h7) (r_index (e := 40) (size := 4) (by kernel_rfl) (by kernel_rfl) (by omega) (by omega) (by first | omega | simp)), hR, Below.refl _ _, rfl⟩
          | 9, _ =>
            refine StepL.val rfl [8] (by decide +kernel) ?_
            intro v wx hR hd
            have h8 : v 8 = _ := hd 8 (by simp)
            exact ⟨wanted_plain rfl _, _, _, x_field rfl (hq.at_ rfl h8) (r_field (off := 3) (by kernel_rfl)), hR, Below.refl _ _, rfl⟩
          | 10, _ =>
            refine StepL.val rfl [9] (by decide +kernel) ?_
            intro v wx hR hd
            have h9 : v 9 = _ := hd 9 (by simp)
            exact ⟨wanted_plain rfl _, _, _, x_load rfl (hq.at_ rfl h9) (r_load (by kernel_rfl) (pcell_below q3 hR)), hR, Below.refl _ _, rfl⟩
          | 11, _ =>
            refine StepL.val rfl [10] (by decide +kernel) ?_
            intro v wx hR hd
            have h10 : v 10 = _ := hd 10 (by simp)
            exact ⟨wanted_plain rfl _, _, _, x_len rfl rfl rfl rfl (by kernel_rfl) (hq.at_ rfl h10), hR, Below.refl _ _, rfl⟩
          | 12, _ =>
            refine StepL.val rfl [11] (by decide +kernel) ?_
            intro v wx hR hd
            have h11 : v 11 = _ := hd 11 (by simp)
            exact ⟨wanted_plain rfl _, _, _, x_min2 rfl (hq.at_ rfl h11) rfl, hR, Below.refl _ _, rfl⟩
          | 13, _ =>
            refine StepL.val rfl [5, 12] (by decide +kernel) ?_
            intro v wx hR hd
            have h5 : v 5 = _ := hd 5 (by simp)
            have h12 : v 12 = _ := hd 12 (by simp)
            exact ⟨wanted_plain rfl _, _, _, x_sub_h rfl (by kernel_rfl) (hq.at_ rfl h5) (hq.at_ rfl h12) d0 d1, hR, Below.refl _ _, rfl⟩
          | rz + 14, h => omega
        · intro v wx hR hV
          obtain ⟨p0, h0, hp0, hk0⟩ : noV 5 w1.heap.size (v 0) wx := hV 0 (by omega)
          have h13 : v 13 = _ := hV 13 (by omega)
          simp only [fillR, Act.put, List.setIfInBounds_toArray, List.set_cons_zero, List.set_cons_succ, List.drop_succ_cons, List.drop_zero, h0, h13]
          refine wpList_app (v := .slice (some ⟨p0, 0, none⟩) 0 0) (base := w.heap.size) rfl rfl Tryd.underlying26 byt_info rfl (by decide) (Vb dt) rfl (own_made hk0 (Nat.le_trans H1.out.2.2.1.size hp0)) rfl (by rw [Vb_length, HT.out.2, Nat.mul_one]) (fun h0 => by rw [← HT.out.1]; exact din_rows (HD.out.below hR) h0) (Vb_oneCell _) (by omega) (by decide) (Nat.le_trans H1.out.2.2.1.size hR.size) ?_
          intro v8 w2 k1 k2 k3
          rw [Nat.zero_add, List.nil_append, ← HT.out.2] at k1
          obtain ⟨P8, c8, rfl⟩ := own_slice k1
          have hb12 : Below w1.heap.size w1 w2 := hR.trans (k2.below hR.size (by intro k hk; simp [Value.ownBlock] at hk; omega))
          have q1 : w2.cell? ⟨g, o + i * 4 + 1, none⟩ = some (.int .i64 x.k) := pcell_below (pcell_below (HC.out 1 _ rfl) H1.out.2.2.1) hb12
          have q2 : w2.cell? ⟨g, o + i * 4 + 2, none⟩ = some (.int .i64 x.m) := pcell_below (pcell_below (HC.out 2 _ rfl) H1.out.2.2.1) hb12
          have hN2 : w.heap.size ≤ w2.heap.size := Nat.le_trans H1.out.2.2.1.size hb12.size
          have H2 := Lib.hid (And.intro (ownsRow_only (S := []) H1.out.1 (Only.of_below hb12) (by simp)) (And.intro (H1.out.2.1.below hb12) (And.intro (H1.out.2.2.1.trans (hb12.mono H1.out.2.2.1.size)) (And.intro k1 hN2))))
          have HKM : Hid ((toE e).kind = x.k ∧ (toE e).mode = x.m) := Lib.hid ⟨HK.out.1.kind, HK.out.1.mode⟩
          clear k1 k2 k3 hb12 hN2 hR hV h13 h0 hp0 hk0 q3
          go_wp2_with fail
          refine wp_hideQ ?_
          intro QR hQR
          refine wp_region_quickT [some 40, some 41, some 42, some 43, some 44, some 45, some 46, some 47, some 48, some 49, some 50, some 51, some 52, some 53, some 54] [isV (u4), isV (.slice P7 (fewP e.path).length c7), isV (.slice (some ⟨g, o, none⟩) n c), isV (.int .i64 (i : Int)), isV (.pointer (some ⟨g, o + i * 4, none⟩)), isV (.pointer (some ⟨g, o + i * 4 + 1, none⟩)), isV (.int .i64 x.k), isV (.slice (some ⟨g, o, none⟩) n c), isV (.int .i64 (i : Int)), isV (.pointer (some ⟨g, o + i * 4, none⟩)), isV (.pointer (some ⟨g, o + i * 4 + 2, none⟩)), isV (.int .i64 x.m), isV (.slice P8 dt.length c8), isV (evV (⟨P7, (fewP e.path).length, c7, x.k, x.m, P8, dt.length, c8⟩ : Ev)), rowOneE 41 w2.heap.size (evC (⟨P7, (fewP e.path).length, c7, x.k, x.m, P8, dt.length, c8⟩ : Ev))] 15 17 (by kernel_rfl) rfl rfl rfl rfl (by kernel_rfl) (by kernel_rfl) (by simp [isV.st, rowOneE.st]) ?_ ?_
          · intro hq rz hz
            match rz, hz with
            | 0, _ =>
              refine StepL.val rfl [] (by decide +kernel) ?_
              intro v wx hR hd
              exact ⟨wanted_plain rfl _, _, _, x_move rfl (fill_off rfl rfl), hR, Below.refl _ _, rfl⟩
            | 1, _ =>
              refine StepL.val rfl [] (by decide +kernel) ?_
              intro v wx hR hd
              exact ⟨wanted_plain rfl _, _, _, x_move rfl (fill_off rfl rfl), hR, Below.refl _ _, rfl⟩
            | 2, _ =>
              refine StepL.val rfl [] (by decide +kernel) ?_
              intro v wx hR hd
              exact ⟨wanted_plain rfl _, _, _, x_move rfl (fill_off rfl rfl), hR, Below.refl _ _, rfl⟩
            | 3, _ =>
              refine StepL.val rfl [] (by decide +kernel) ?_
              intro v wx hR hd
              exact ⟨wanted_plain rfl _, _, _, x_move rfl (fill_off rfl rfl), hR, Below.refl _ _, rfl⟩
            | 4, _ =>
              refine StepL.val rfl [2, 3] (by decide +kernel) ?_
              intro v wx hR hd
              have h2 : v 2 = _ := hd 2 (by simp)
              have h3 : v 3 = _ := hd 3 (by simp)
              exact ⟨wanted_plain rfl _, _, _, x_index rfl (hq.at_ rfl h2) (hq.at_ rfl h3) (r_index (e := 40) (size := 4) (by kernel_rfl) (by kernel_rfl) (by omega) (by omega) (by first | omega | simp)), hR, Below.refl _ _, rfl⟩
            | 5, _ =>
              refine StepL.val rfl [4] (by decide +kernel) ?_
              intro v wx hR hd
              have h4 : v 4 = _ := hd 4 (by simp)
              exact ⟨wanted_plain rfl _, _, _, x_field rfl (hq.at_ rfl h4) (r_field (off := 1) (by kernel_rfl)), hR, Below.refl _ _, rfl⟩
            | 6, _ =>
              refine StepL.val rfl [5] (by decide +kernel) ?_
              intro v wx hR hd
              have h5 : v 5 = _ := hd 5 (by simp)
              exact ⟨wanted_plain rfl _, _, _, x_load rfl (hq.at_ rfl h5) (r_load (by kernel_rfl) (pcell_below q1 hR)), hR, Below.refl _ _, rfl⟩
            | 7, _ =>
              refine StepL.val rfl [] (by decide +kernel) ?_
              intro v wx hR hd
              exact ⟨wanted_plain rfl _, _, _, x_move rfl (fill_off rfl rfl), hR, Below.refl _ _, rfl⟩
            | 8, _ =>
              refine StepL.val rfl [] (by decide +kernel) ?_
              intro v wx hR hd
              exact ⟨wanted_plain rfl _, _, _, x_move rfl (fill_off rfl rfl), hR, Below.refl _ _, rfl⟩
            | 9, _ =>
              refine StepL.val rfl [7, 8] (by decide +kernel) ?_
              intro v wx hR hd
              have h7 : v 7 = _ := hd 7 (by simp)
              have h8 : v 8 = _ := hd 8 (by simp)
              exact ⟨wanted_plain rfl _, _, _, x_index rfl (hq.at_ rfl h7) (hq.at_ rfl h8) (r_index (e := 40) (size := 4) (by kernel_rfl) (by kernel_rfl) (by omega) (by omega) (by first | omega | simp)), hR, Below.refl _ _, rfl⟩
            | 10, _ =>
              refine StepL.val rfl [9] (by decide +kernel) ?_
              intro v wx hR hd
              have h9 : v 9 = _ := hd 9 (by simp)
              exact ⟨wanted_plain rfl _, _, _, x_field rfl (hq.at_ rfl h9) (r_field (off := 2) (by kernel_rfl)), hR, Below.refl _ _, rfl⟩
            | 11, _ =>
              refine StepL.val rfl [10] (by decide +kernel) ?_
              intro v wx hR hd
              have h10 : v 10 = _ := hd 10 (by simp)
              exact ⟨wanted_plain rfl _, _, _, x_load rfl (hq.at_ rfl h10) (r_load (by kernel_rfl) (pcell_below q2 hR)), hR, Below.refl _ _, rfl⟩
            | 12, _ =>
              refine StepL.val rfl [] (by decide +kernel) ?_
              intro v wx hR hd
              exact ⟨wanted_plain rfl _, _, _, x_move rfl (fill_off rfl rfl), hR, Below.refl _ _, rfl⟩
            | 13, _ =>
              refine StepL.val rfl [1, 6, 11, 12] (by decide +kernel) ?_
              intro v wx hR hd
              have h1 : v 1 = _ := hd 1 (by simp)
              have h6 : v 6 = _ := hd 6 (by simp)
              have h11 : v 11 = _ := hd 11 (by simp)
              have h12 : v 12 = _ := hd 12 (by simp)
              exact ⟨wanted_plain rfl _, xe_ex (x_build rfl (pairs_4 (hq.at_ rfl h1) (hq.at_ rfl h6) (hq.at_ rfl h11) (hq.at_ rfl h12)) (build_ev wx _ _ _ _ _ _ _ _)) ⟨hR, Below.refl _ _, rfl⟩⟩
            | 14, _ =>
              refine StepL.val rfl [13] (by decide +kernel) ?_
              intro v wx hR hd
              have h13 : v 13 = _ := hd 13 (by simp)
              have hb := pnew wx (.cells (evC (⟨P7, (fewP e.path).length, c7, x.k, x.m, P8, dt.length, c8⟩ : Ev)).toArray 41)
              exact ⟨wanted_plain rfl _, xe_ex (x_slice rfl (pairs_1 (hq.at_ rfl h13)) (slice_ev wx _)) ⟨hR.trans (hb.mono hR.size), hb, _, rfl, hR.size, Blk.new wx 41 (evC _)⟩⟩
            | rz + 15, h => omega
          · intro v wx hR hV
            obtain ⟨p14, h14, hp14, hk14⟩ : rowOneE 41 w2.heap.size (evC (⟨P7, (fewP e.path).length, c7, x.k, x.m, P8, dt.length, c8⟩ : Ev)) (v 14) wx := hV 14 (by omega)
            have h00 : v 0 = _ := hV 0 (by omega)
            simp only [fillR, Act.put, List.setIfInBounds_toArray, List.set_cons_zero, List.set_cons_succ, List.drop_succ_cons, List.drop_zero, h14, h00]
            refine wpList_app (v := u4) (base := w.heap.size) (n := i) rfl rfl Tryd.underlying23 ev_info rfl (by decide) (evC (⟨P7, (fewP e.path).length, c7, x.k, x.m, P8, dt.length, c8⟩ : Ev)) rfl ((H2.out.2.1.below hR).r1) rfl rfl (fun _ => ⟨_, _, rfl, fun j u hu => by rw [Nat.zero_add]; exact (hk14.cell j).trans hu⟩) (evC_one _) (by omega) (by decide) (Nat.le_trans H2.out.2.2.2.2 hR.size) ?_
            intro v4 w3 k1 k2 k3
            have hN3 : Below w.heap.size w w3 := (H2.out.2.2.1.trans (hR.mono H2.out.2.2.2.2)).trans (k2.below (Nat.le_trans H2.out.2.2.2.2 hR.size) (fun k hk => (H2.out.2.1.r1.lt k (by simpa using hk)).1))
            have q1' : w3.cell? ⟨g, o + i * 4 + 1, none⟩ = some (.int .i64 x.k) := (hN3.cell (p := ⟨g, _, none⟩) HK.out.2.2).trans (HC.out 1 _ rfl)
            have q2' : w3.cell? ⟨g, o + i * 4 + 2, none⟩ = some (.int .i64 x.m) := (hN3.cell (p := ⟨g, _, none⟩) HK.out.2.2).trans (HC.out 2 _ rfl)
            have hp3 := ownsRow_only (ownsRow_only (S := []) H2.out.1 (Only.of_below hR) (by simp)) k2 (not_own (own_own_ne (ownsRow_only (S := []) H2.out.1 (Only.of_below hR) (by simp)) (H2.out.2.1.below hR).r1 (by decide)))
            have hd3 := ownsRow_only (ownsRow_only (S := []) H2.out.2.2.2.1 (Only.of_below hR) (by simp)) k2 (not_own (own_own_ne (ownsRow_only (S := []) H2.out.2.2.2.1 (Only.of_below hR) (by simp)) (H2.out.2.1.below hR).r1 (by decide)))
            have h5 := ownsRow_only (H2.out.2.1.below hR).r2 k2 (not_own (own_own_ne (H2.out.2.1.below hR).r2 (H2.out.2.1.below hR).r1 (by decide)))
            have H3 := Lib.hid (And.intro k1 (And.intro h5 (And.intro (fun (j : Nat) y (f : En) (h1 : co[j]? = some y) h2 => ((H2.out.2.1.below hR).o1 j y f h1 h2).row (H2.out.2.1.below hR).r1 k2 (by decide) (by decide)) (And.intro (fun (j : Nat) y (f : En) (h1 : cd[j]? = some y) h2 => ((H2.out.2.1.below hR).o2 j y f h1 h2).row (H2.out.2.1.below hR).r1 k2 (by decide) (by decide)) (And.intro hp3 (And.intro hd3 hN3))))))
            have HS := Lib.hid (And.intro (sin_own hp3) (din_own hd3))
            clear k1 k2 k3 hN3 hp3 hd3 h5 hR hV h14 h00 hp14 hk14 q1 q2
            have q1 := q1'
            have q2 := q2'
            clear q1' q2'
            go_wp2_with fail
            refine wp_hideQ ?_
            intro QT hQT
            refine wp_region_quickT [some 56, some 57, some 58, some 59, some 60, some 61, some 62, some 63, some 64, some 65, some 66, some 67, some 68, some 69, some 70, some 71, some 72, some 73, some 74] [isV (u5), noV 9 w3.heap.size, isV (.slice P7 (fewP e.path).length c7), ownSV w3.heap.size 9 1 (fewP e.path).length (strV (fewP e.path)), isV (.slice (some ⟨g, o, none⟩) n c), isV (.int .i64 (i : Int)), isV (.pointer (some ⟨g, o + i * 4, none⟩)), isV (.pointer (some ⟨g, o + i * 4 + 1, none⟩)), isV (.int .i64 x.k), isV (.slice (some ⟨g, o, none⟩) n c), isV (.int .i64 (i : Int)), isV (.pointer (some ⟨g, o + i * 4, none⟩)), isV (.pointer (some ⟨g, o + i * 4 + 2, none⟩)), isV (.int .i64 x.m), noV 5 w3.heap.size, isV (.slice P8 dt.length c8), ownSV w3.heap.size 5 1 dt.length (Vb dt), evNV w3.heap.size (toE e), rowNV 40 w3.heap.size (toE e)] 19 21 (by kernel_rfl) rfl rfl rfl rfl (by kernel_rfl) (by kernel_rfl) (by simp [isV.st, noV.st, ownSV.st, evNV.st, rowNV.st]) ?_ ?_
            · intro hq rz hz
              match rz, hz with
              | 0, _ =>
                refine StepL.val rfl [] (by decide +kernel) ?_
                intro v wx hR hd
                exact ⟨wanted_plain rfl _, _, _, x_move rfl (fill_off rfl rfl), hR, Below.refl _ _, rfl⟩
              | 1, _ =>
                refine StepL.val rfl [] (by decide +kernel) ?_
                intro v wx hR hd
                have hb := pnew wx (.cells #[] 9)
                exact ⟨wanted_plain rfl _, xe_ex (x_slice rfl pairs_0 (slice0_s wx)) ⟨hR.trans (hb.mono hR.size), hb, _, rfl, hR.size, Blk.new wx 9 []⟩⟩
              | 2, _ =>
                refine StepL.val rfl [] (by decide +kernel) ?_
                intro v wx hR hd
                exact ⟨wanted_plain rfl _, _, _, x_move rfl (fill_off rfl rfl), hR, Below.refl _ _, rfl⟩
              | 3, _ =>
                refine StepL.val rfl [1, 2] (by decide +kernel) ?_
                intro v wx hR hd
                obtain ⟨p1, h1, hp1, hkp1⟩ : noV 9 w3.heap.size (v 1) wx := hd 1 (by simp)
                have h2 : v 2 = _ := hd 2 (by simp)
                exact ⟨wanted_plain rfl _, xe_app_zeroG (N := w3.heap.size) rfl Tryd.underlying37 str_info rfl (by decide) (hq.at_ rfl h1) hp1 hkp1 (hq.at_ rfl h2) (strV (fewP e.path)) (by rw [strV_length, Nat.mul_one]) (fun h0 => sin_rows (HS.out.1.below hR) h0) (strV_one _) (by have := (few_small e.path).1; omega) (by decide) hR.size (fun R' c' w' k1 k2 => ⟨hR.trans (k2.mono hR.size), k2, _, _, rfl, k1⟩)⟩
              | 4, _ =>
                refine StepL.val rfl [] (by decide +kernel) ?_
                intro v wx hR hd
                exact ⟨wanted_plain rfl _, _, _, x_move rfl (fill_off rfl rfl), hR, Below.refl _ _, rfl⟩
              | 5, _ =>
                refine StepL.val rfl [] (by decide +kernel) ?_
                intro v wx hR hd
                exact ⟨wanted_plain rfl _, _, _, x_move rfl (fill_off rfl rfl), hR, Below.refl _ _, rfl⟩
              | 6, _ =>
                refine StepL.val rfl [4, 5] (by decide +kernel) ?_
                intro v wx hR hd
                have h4 : v 4 = _ := hd 4 (by simp)
                have h5 : v 5 = _ := hd 5 (by simp)
                exact ⟨wanted_plain rfl _, _, _, x_index rfl (hq.at_ rfl h4) (hq.at_ rfl h5) (r_index (e := 40) (size := 4) (by kernel_rfl) (by kernel_rfl) (by omega) (by omega) (by first | omega | simp)), hR, Below.refl _ _, rfl⟩
              | 7, _ =>
                refine StepL.val rfl [6] (by decide +kernel) ?_
                intro v wx hR hd
                have h6 : v 6 = _ := hd 6 (by simp)
                exact ⟨wanted_plain rfl _, _, _, x_field rfl (hq.at_ rfl h6) (r_field (off := 1) (by kernel_rfl)), hR, Below.refl _ _, rfl⟩
              | 8, _ =>
                refine StepL.val rfl [7] (by decide +kernel) ?_
                intro v wx hR hd
                have h7 : v 7 = _ := hd 7 (by simp)
                exact ⟨wanted_plain rfl _, _, _, x_load rfl (hq.at_ rfl h7) (r_load (by kernel_rfl) (pcell_below q1 hR)), hR, Below.refl _ _, rfl⟩
              | 9, _ =>
                refine StepL.val rfl [] (by decide +kernel) ?_
                intro v wx hR hd
                exact ⟨wanted_plain rfl _, _, _, x_move rfl (fill_off rfl rfl), hR, Below.refl _ _, rfl⟩
              | 10, _ =>
                refine StepL.val rfl [] (by decide +kernel) ?_
                intro v wx hR hd
                exact ⟨wanted_plain rfl _, _, _, x_move rfl (fill_off rfl rfl), hR, Below.refl _ _, rfl⟩
              | 11, _ =>
                refine StepL.val rfl [9, 10] (by decide +kernel) ?_
                intro v wx hR hd
                have h9 : v 9 = _ := hd 9 (by simp)
                have h10 : v 10 = _ := hd 10 (by simp)
                exact ⟨wanted_plain rfl _, _, _, x_index rfl (hq.at_ rfl h9) (hq.at_ rfl h10) (r_index (e := 40) (size := 4) (by kernel_rfl) (by kernel_rfl) (by omega) (by omega) (by first | omega | simp)), hR, Below.refl _ _, rfl⟩
              | 12, _ =>
                refine StepL.val rfl [11] (by decide +kernel) ?_
                intro v wx hR hd
                have h11 : v 11 = _ := hd 11 (by simp)
                exact ⟨wanted_plain rfl _, _, _, x_field rfl (hq.at_ rfl h11) (r_field (off := 2) (by kernel_rfl)), hR, Below.refl _ _, rfl⟩
              | 13, _ =>
                refine StepL.val rfl [12] (by decide +kernel) ?_
                intro v wx hR hd
                have h12 : v 12 = _ := hd 12 (by simp)
                exact ⟨wanted_plain rfl _, _, _, x_load rfl (hq.at_ rfl h12) (r_load (by kernel_rfl) (pcell_below q2 hR)), hR, Below.refl _ _, rfl⟩
              | 14, _ =>
                refine StepL.val rfl [] (by decide +kernel) ?_
                intro v wx hR hd
                have hb := pnew wx (.cells #[] 5)
                exact ⟨wanted_plain rfl _, xe_ex (x_slice rfl pairs_0 (slice0_b wx)) ⟨hR.trans (hb.mono hR.size), hb, _, rfl, hR.size, Blk.new wx 5 []⟩⟩
              | 15, _ =>
                refine StepL.val rfl [] (by decide +kernel) ?_
                intro v wx hR hd
                exact ⟨wanted_plain rfl _, _, _, x_move rfl (fill_off rfl rfl), hR, Below.refl _ _, rfl⟩
              | 16, _ =>
                refine StepL.val rfl [14, 15] (by decide +kernel) ?_
                intro v wx hR hd
                obtain ⟨p14, h14, hp14, hkp14⟩ : noV 5 w3.heap.size (v 14) wx := hd 14 (by simp)
                have h15 : v 15 = _ := hd 15 (by simp)
                exact ⟨wanted_plain rfl _, xe_app_zeroG (N := w3.heap.size) rfl Tryd.underlying26 byt_info rfl (by decide) (hq.at_ rfl h14) hp14 hkp14 (hq.at_ rfl h15) (Vb dt) (by rw [Vb_length, Nat.mul_one]) (fun h0 => din_rows (HS.out.2.below hR) h0) (Vb_oneCell _) (by have := HDt.out.2; omega) (by decide) hR.size (fun R' c' w' k1 k2 => ⟨hR.trans (k2.mono hR.size), k2, _, _, rfl, k1⟩)⟩
              | 17, _ =>
                refine StepL.val rfl [3, 8, 13, 16] (by decide +kernel) ?_
                intro v wx hR hd
                obtain ⟨P3, c3, h3, ho3⟩ : ownSV w3.heap.size 9 1 (fewP e.path).length (strV (fewP e.path)) (v 3) wx := hd 3 (by simp)
                have h8 : v 8 = _ := hd 8 (by simp)
                have h13 : v 13 = _ := hd 13 (by simp)
                obtain ⟨P16, c16, h16, ho16⟩ : ownSV w3.heap.size 5 1 dt.length (Vb dt) (v 16) wx := hd 16 (by simp)
                exact ⟨wanted_plain rfl _, xe_ex (x_build rfl (pairs_4 (hq.at_ rfl h3) (hq.at_ rfl h8) (hq.at_ rfl h13) (hq.at_ rfl h16)) (build_rev wx _ _ _ _ _ _ _ _)) ⟨hR, Below.refl _ _, _, rfl, own_mk ho3 HKM.out.1 HKM.out.2 ho16 HDt.out.1⟩⟩
              | 18, _ =>
                refine StepL.val rfl [17] (by decide +kernel) ?_
                intro v wx hR hd
                obtain ⟨x2, h17, ho17⟩ : evNV w3.heap.size (toE e) (v 17) wx := hd 17 (by simp)
                have hb := pnew wx (.cells (evC x2).toArray 40)
                exact ⟨wanted_plain rfl _, xe_ex (x_slice rfl (pairs_1 (hq.at_ rfl h17)) (slice_rev12 wx x2)) ⟨hR.trans (hb.mono hR.size), hb, _, _, rfl, hR.size, Blk.new wx 40 (evC x2), ho17.below hb⟩⟩
              | rz + 19, h => omega
            · intro v wx hR hV
              obtain ⟨p18, x18, h18, hp18, hk18, ho18⟩ : rowNV 40 w3.heap.size (toE e) (v 18) wx := hV 18 (by omega)
              have h00 : v 0 = _ := hV 0 (by omega)
              simp only [fillR, Act.put, List.setIfInBounds_toArray, List.set_cons_zero, List.set_cons_succ, List.drop_succ_cons, List.drop_zero, h18, h00]
              refine wpList_app (v := u5) (base := w.heap.size) (n := i) rfl rfl Tryd.underlying22 rev_info12 rfl (by decide) (evC x18) rfl (ownsRow_only (S := []) H3.out.2.1 (Only.of_below hR) (by simp)) rfl rfl (fun _ => ⟨_, _, rfl, fun j u hu => by rw [Nat.zero_add]; exact (hk18.cell j).trans hu⟩) (evC_one _) (by omega) (by decide) (Nat.le_trans H3.out.2.2.2.2.2.2.size hR.size) ?_
              intro v5 w4 k1 k2 k3
              have r1x := ownsRow_only (S := []) H3.out.1 (Only.of_below hR) (by simp)
              have r2x := ownsRow_only (S := []) H3.out.2.1 (Only.of_below hR) (by simp)
              have x1x := (own_mk (e := e) H3.out.2.2.2.2.1 HKM.out.1 HKM.out.2 H3.out.2.2.2.2.2.1 HDt.out.1).below hR
              have HF := Lib.hid (show ToAt w.heap.size w4 v4 v5 es (i + 1) (co ++ [(⟨P7, (fewP e.path).length, c7, x.k, x.m, P8, dt.length, c8⟩ : Ev)]) (cd ++ [x18]) ∧ Below w.heap.size w w4 from
                ⟨⟨by rw [List.length_append, HO.out.l1]; rfl, by rw [List.length_append, HO.out.l2]; rfl, by rw [rowE_snoc]; exact ownsRow_only r1x k2 (not_own (own_own_ne r1x r2x (by decide))), by rw [rowE_snoc]; exact k1,
                  own_snoc HO.out.l1 HK.out.2.1 (fun j y f h1 h2 => ((H3.out.2.2.1 j y f h1 h2).below hR).row r2x k2 (by decide) (by decide)) (x1x.row r2x k2 (by decide) (by decide)),
                  own_snoc HO.out.l2 HK.out.2.1 (fun j y f h1 h2 => ((H3.out.2.2.2.1 j y f h1 h2).below hR).row r2x k2 (by decide) (by decide)) ((ho18.base (N := w.heap.size) H3.out.2.2.2.2.2.2.size).row r2x k2 (by decide) (by decide))⟩,
                 (H3.out.2.2.2.2.2.2.trans (hR.mono H3.out.2.2.2.2.2.2.size)).trans (k2.below (Nat.le_trans H3.out.2.2.2.2.2.2.size hR.size) (fun k hk => (r2x.lt k (by simpa using hk)).1))⟩)
              clear k1 k2 k3 r1x r2x x1x hR hV h18 h00 hp18 hk18 ho18 q1 q2
              go_wp2_with fail
              exact ⟨⟨i + 1, _, _, by omega, by omega, by go_num, Lib.hid HF.out.1, Lib.hid HF.out.2⟩, by simp [intOf]; omega⟩
      · obtain rfl : i = 41 := by omega
        have HE : Hid ((es.take 41).map toE = toEs es) := Lib.hid rfl
        have HF := Lib.hid (to_out HO.out HE.out (by rw [HL.out]; exact hi))
        clear HO
        obtain ⟨A1, c1, A2, c2, rfl, rfl, e1, e2⟩ := HF.out
        have HG := Lib.hid (And.intro e1 e2)
        clear HF e1 e2
        go_wp2_with fail
        go_ret2
        exact ⟨A1, c1, A2, c2, co, cd, rfl, HG.out.1, HG.out.2, HW.out⟩
    · obtain rfl : i = n := by omega
      have HE : Hid ((es.take i).map toE = toEs es) := Lib.hid (by unfold toEs; rw [List.take_of_length_le (by rw [HL.out]; omega), List.take_of_length_le (by rw [HL.out]; omega)])
      have HF := Lib.hid (to_out HO.out HE.out (by rw [HL.out]; exact hi))
      clear HO
      obtain ⟨A1, c1, A2, c2, rfl, rfl, e1, e2⟩ := HF.out
      have HG := Lib.hid (And.intro e1 e2)
      clear HF e1 e2
      go_wp2_with fail
      go_ret2
      exact ⟨A1, c1, A2, c2, co, cd, rfl, HG.out.1, HG.out.2, HW.out⟩
end Go.Proofs.YtdnaiiagblcohaaDoor
end

/-
  The checks of an entry, one by one. Conditions: the variables that paths' calls read hold what they must; the entries lie in memory.
-/

section
set_option linter.unusedSimpArgs false
set_option linter.unusedVariables false
set_option maxRecDepth 100000
namespace Go.Proofs.YtdnaiiagblcohaaDoor
open Go.RowKit

theorem kindless_any (w : World) (x : Ev) (AH : Option Addr) (an ac : Nat) (SA : Option Addr) (sn sc : Nat) :
    Calls Tryd.prog 35 #[cdV x AH an ac SA sn sc] w fun e w' => e = .returned (.bool (kindlessE x.k)) ∧ Below w.heap.size w w' := by
  have HB := Lib.hid (pnew w (.cells (cdC x AH an ac SA sn sc).toArray 55))
  obtain ⟨PA, pn, pc, k, m, DA, dn, dc⟩ := x
  by_cases h0 : k = 0
  · subst h0
    go_enter Tryd.func35, Tryd.ntmps35
    go_wp2_with fail
    go_ret
    exact ⟨rfl, HB.out⟩
  · by_cases h1 : k = 1
    · subst h1
      go_enter Tryd.func35, Tryd.ntmps35
      go_wp2_with fail
      go_ret
      exact ⟨rfl, HB.out⟩
    · by_cases h2 : k = 2
      · subst h2
        go_enter Tryd.func35, Tryd.ntmps35
        go_wp2_with fail
        go_ret
        exact ⟨rfl, HB.out⟩
      · have HF : Hid (kindlessE k = true) := Lib.hid (by unfold kindlessE; simp [h0, h1, h2])
        go_enter Tryd.func35, Tryd.ntmps35
        go_wp2_with fail
        go_ret
        exact ⟨pret_bool (by rw [HF.out]; simp only [Bool.and_eq_true, bne_iff_ne, ne_eq]; exact ⟨⟨h0, h1⟩, h2⟩), HB.out⟩
theorem risky_any (w : World) (x : Ev) (AH : Option Addr) (an ac : Nat) (SA : Option Addr) (sn sc : Nat) :
    Calls Tryd.prog 36 #[cdV x AH an ac SA sn sc] w fun e w' => e = .returned (.bool (riskyE x.k x.m)) ∧ Below w.heap.size w w' := by
  have HB := Lib.hid (pnew w (.cells (cdC x AH an ac SA sn sc).toArray 55))
  obtain ⟨PA, pn, pc, k, m, DA, dn, dc⟩ := x
  go_enter Tryd.func36, Tryd.ntmps36
  go_wp2_with fail
  refine (safe_any _ k m 0 0).mono ?_
  rintro e w1 ⟨rfl, h1⟩
  have H1 := Lib.hid (HB.out.trans (h1.mono HB.out.size))
  clear h1
  go_wp2_with fail
  go_ret
  exact ⟨pret_bool rfl, H1.out⟩
theorem filled_any (w : World) (x : Ev) (AH : Option Addr) (an ac : Nat) (SA : Option Addr) (sn sc : Nat) (d : List B8) (hd : DIn w x.DA x.dn x.dc d) :
    Calls Tryd.prog 37 #[cdV x AH an ac SA sn sc] w fun e w' => e = .returned (.bool (filledE x.k d)) ∧ Below w.heap.size w w' := by
  have HB := Lib.hid (pnew w (.cells (cdC x AH an ac SA sn sc).toArray 55))
  have HF : Hid (filledE x.k d = (decide (x.k = 1) && decide (0 < x.dn))) := Lib.hid (by unfold filledE; rw [hd.len])
  clear hd
  obtain ⟨PA, pn, pc, k, m, DA, dn, dc⟩ := x
  by_cases h1 : k = 1
  · subst h1
    go_enter Tryd.func37, Tryd.ntmps37
    go_wp2_with fail
    go_ret
    exact ⟨pret_bool (by rw [HF.out]; simp), HB.out⟩
  · have HG : Hid (filledE k d = false) := Lib.hid (by rw [HF.out]; simp [h1])
    go_enter Tryd.func37, Tryd.ntmps37
    go_wp2_with fail
    go_ret
    exact ⟨pret_bool (by rw [HG.out]), HB.out⟩
theorem long_any (w : World) (x : Ev) (AH : Option Addr) (an ac : Nat) (SA : Option Addr) (sn sc : Nat) (d : List B8) (hd : DIn w x.DA x.dn x.dc d) :
    Calls Tryd.prog 38 #[cdV x AH an ac SA sn sc] w fun e w' => e = .returned (.bool (longE d)) ∧ Below w.heap.size w w' := by
  have HB := Lib.hid (pnew w (.cells (cdC x AH an ac SA sn sc).toArray 55))
  have HF : Hid (longE d = decide (512 < x.dn)) := Lib.hid (by unfold longE; rw [hd.len])
  clear hd
  obtain ⟨PA, pn, pc, k, m, DA, dn, dc⟩ := x
  go_enter Tryd.func38, Tryd.ntmps38
  go_wp2_with fail
  go_ret
  exact ⟨pret_bool (by rw [HF.out]; exact (Bool.eq_iff_iff.2 (by simp; omega))), HB.out⟩
theorem home_any (w : World) (hS : PSigns w) (x : Ev) (AH : Option Addr) (an ac : Nat) (SA : Option Addr) (sn sc : Nat) (p : Pa) (hp : SIn w x.PA x.pn x.pc p) :
    Calls Tryd.prog 52 #[cdV x AH an ac SA sn sc] w fun e w' => ∃ A' c', e = .returned (.slice A' (homeP p).length c') ∧ SIn w' A' (homeP p).length c' (homeP p) ∧ Below w.heap.size w w' := by
  have hb := pnew w (.cells (cdC x AH an ac SA sn sc).toArray 55)
  have HB := Lib.hid (And.intro hb (And.intro (hS.to hb) (hp.below hb)))
  clear hp hS hb
  obtain ⟨PA, pn, pc, k, m, DA, dn, dc⟩ := x
  go_enter Tryd.func52, Tryd.ntmps52
  go_wp2_with fail
  refine (psplit_any _ HB.out.2.1 PA pn pc p HB.out.2.2).mono ?_
  rintro e w1 ⟨A', c', s, z, rfl, h1, h2, h3⟩
  have H1 := Lib.hid (And.intro h1 (HB.out.1.trans (h3.mono HB.out.1.size)))
  clear h1 h2 h3
  go_wp2_with fail
  go_ret
  exact ⟨A', c', rfl, H1.out.1, H1.out.2⟩
end Go.Proofs.YtdnaiiagblcohaaDoor
end

/-
  Where the first entry of a path is; whether a path was there, and its directory. Conditions: the variables that paths' calls read hold what they must; the entries lie in memory.
-/

section
set_option linter.unusedSimpArgs false
set_option linter.unusedVariables false
set_option maxRecDepth 100000
namespace Go.Proofs.YtdnaiiagblcohaaDoor
open Go.RowKit

theorem evC_length (x : Ev) : (evC x).length = 4 := rfl
theorem infoEv : (Tryd.prog.info? 41).map (·.size) = some 4 := by kernel_rfl
/-- Is it an entry of this path? (the path lies in a box) -/
theorem isAt_any (w : World) (b : Nat) (x : Ev) (e : En) (B : Option Addr) (m d : Nat) (q : Pa) (hx : EvOk w x e) (hq : SIn w B m d q) (hc : w.cell? ⟨b, 0, none⟩ = some (.slice B m d)) :
    Calls Tryd.prog 70 #[.agg (evC x).toArray, .pointer (some ⟨b, 0, none⟩)] w fun en w' => en = .returned (.bool (decide (e.path = q))) ∧ Below w.heap.size w w' := by
  have hb := pnew w (.cells (evC x).toArray 41)
  have hk := Blk.new w 41 (evC x)
  have c0 : (w.alloc (.cells (evC x).toArray 41)).cell? ⟨w.heap.size, 0, none⟩ = some (.slice x.PA x.pn x.pc) := hk.cell 0
  have c2 := pcell_below hc hb
  have HB := Lib.hid (And.intro hb (psame_any _ x.PA B x.pn x.pc m d e.path q (hx.path.below hb) (hq.below hb)))
  obtain ⟨PA, pn, pc, k, md, DA, dn, dc⟩ := x
  clear hx hq hc hb hk
  go_enter Tryd.func70, Tryd.ntmps70
  go_wp2_with fail
  refine HB.out.2.mono ?_
  rintro en w1 ⟨rfl, h1⟩
  have H1 := Lib.hid (HB.out.1.trans (h1.mono HB.out.1.size))
  clear h1
  go_wp2_with fail
  go_ret
  exact ⟨rfl, H1.out⟩
/-- A place, as IndexFunc tells it. -/
def plN : Option Nat → Int
  | some i => i
  | none => -1
set_option maxHeartbeats 1000000 in
theorem index_at (w : World) (b : Nat) (A : Option Addr) (n c : Nat) (xs : List Ev) (es : List En) (h : EIn w A n c xs es) (B : Option Addr) (m d : Nat) (q : Pa) (hq : SIn w B m d q) (hc : w.cell? ⟨b, 0, none⟩ = some (.slice B m d)) :
    Calls Tryd.prog 69 #[.slice A n c, .func (.func 70) #[] #[.pointer (some ⟨b, 0, none⟩)]] w fun e w' => e = .returned (.int .i64 (plN (atE es q))) ∧ Below w.heap.size w w' := by
  have hbig : n ≤ 9223372036854775807 := by have := h.cap; have := h.big; omega
  have H := Lib.hid (And.intro h (And.intro hq hc))
  clear h hq hc
  go_enter Tryd.func69, Tryd.ntmps69
  go_wp2_with fail
  go_loopw [8] (fun iv wr => ∃ i : Nat, i ≤ n ∧ iv = .int .i64 i ∧ Hid (∀ (j : Nat) (y : En), j < i → es[j]? = some y → y.path ≠ q) ∧ Hid (Below w.heap.size w wr)) (fun iv _ => n - (intOf iv).toNat)
  case atStart => exact ⟨0, by omega, rfl, Lib.hid (fun j y h => absurd h (by omega)), Lib.hid (Below.refl _ _)⟩
  case round =>
    obtain ⟨i, hi, rfl, HK, HW⟩ := hrel
    by_cases hlt : i < n
    · obtain ⟨g, o, x, e, rfl, hg, hx, he, hok, hcl⟩ := (H.out.1.below HW.out).row hlt
      have HC := Lib.hid hcl
      have HE := Lib.hid he
      have HI := Lib.hid (isAt_any wr b x e B m d q hok (H.out.2.1.below HW.out) (pcell_below H.out.2.2 HW.out))
      clear hx he hok hcl
      go_wp2_with (refine wpList_load_mid rfl 41 (.tmp 14) rfl g (o + i * 4) rfl _ _ HC.out Tryd.underlying41 rfl infoEv ?_)
      refine HI.out.mono ?_
      rintro en w2 ⟨rfl, h2⟩
      have H2 := Lib.hid (HW.out.trans (h2.mono HW.out.size))
      clear h2
      by_cases hp : e.path = q
      · have hd : decide (e.path = q) = true := decide_eq_true hp
        have HP := Lib.hid hp
        rw [hd]
        clear hd hp
        go_wp2_with fail
        go_ret
        exact ⟨pret_num (by rw [ate_some es q i e HE.out HP.out HK.out]; rfl), H2.out⟩
      · have hd : decide (e.path = q) = false := decide_eq_false hp
        have HP := Lib.hid hp
        rw [hd]
        clear hd hp
        go_wp2_with fail
        go_roundw
        case rel => exact ⟨i + 1, by omega, by go_num, Lib.hid (fun j y hj hy => by
          by_cases hji : j < i
          · exact HK.out j y hji hy
          · obtain rfl : j = i := by omega
            rw [HE.out] at hy
            cases hy
            exact HP.out), H2⟩
        case measure => simp [intOf]; omega
    · obtain rfl : i = n := by omega
      have HQ : Hid (atE es q = none) := Lib.hid (ate_none es q fun j y hy => HK.out j y (by have := (List.getElem?_eq_some_iff.1 hy).1; have := H.out.1.elen; omega) hy)
      go_wp2_with fail
      go_ret
      exact ⟨pret_num (by rw [HQ.out]; rfl), HW.out⟩
theorem at_any12 (w : World) (A : Option Addr) (n c : Nat) (xs : List Ev) (es : List En) (h : EIn w A n c xs es) (B : Option Addr) (m d : Nat) (q : Pa) (hq : SIn w B m d q) :
    Calls Tryd.prog 53 #[.slice A n c, .slice B m d] w fun e w' => e = .returned (.int .i64 (plN (atE es q))) ∧ Below w.heap.size w w' := by
  have hmf : ∀ (fn : Fn) (first cap : Array Value) (w : World), (Instr.makeFunc fn first cap).run Tryd.prog w = .ok (.func fn first cap) w := fun _ _ _ _ => rfl
  have hb := pnew w (.cells #[.slice B m d] 37)
  have HI := Lib.hid (And.intro hb (index_at _ w.heap.size A n c xs es (h.below hb) B m d q (hq.below hb) ((Blk.new w 37 [.slice B m d]).cell 0)))
  clear h hq hb
  go_enter Tryd.func53, Tryd.ntmps53
  go_wp2_with fail
  refine HI.out.2.mono ?_
  rintro e w1 ⟨rfl, h1⟩
  have H1 := Lib.hid (HI.out.1.trans (h1.mono HI.out.1.size))
  clear h1
  go_wp2_with fail
  go_ret
  exact ⟨rfl, H1.out⟩
theorem plN_ge (o : Option Nat) : decide (0 ≤ plN o) = o.isSome := by
  cases o with
  | none => rfl
  | some i => simp [plN]
theorem twice_any (w : World) (x : Ev) (AH : Option Addr) (an ac : Nat) (SA : Option Addr) (sn sc : Nat) (p : Pa) (hp : SIn w x.PA x.pn x.pc p) (xs : List Ev) (es : List En) (h : EIn w AH an ac xs es) :
    Calls Tryd.prog 40 #[cdV x AH an ac SA sn sc] w fun e w' => e = .returned (.bool (twiceE es p)) ∧ Below w.heap.size w w' := by
  have hb := pnew w (.cells (cdC x AH an ac SA sn sc).toArray 55)
  have HB := Lib.hid (And.intro hb (at_any12 _ AH an ac xs es (h.below hb) x.PA x.pn x.pc p (hp.below hb)))
  have HF : Hid (twiceE es p = decide (0 ≤ plN (atE es p))) := Lib.hid (plN_ge _).symm
  clear hp h hb
  obtain ⟨PA, pn, pc, k, m, DA, dn, dc⟩ := x
  go_enter Tryd.func40, Tryd.ntmps40
  go_wp2_with fail
  refine HB.out.2.mono ?_
  rintro e w1 ⟨rfl, h1⟩
  have H1 := Lib.hid (HB.out.1.trans (h1.mono HB.out.1.size))
  clear h1
  go_wp2_with fail
  go_ret
  exact ⟨pret_bool (by rw [HF.out]), H1.out⟩
end Go.Proofs.YtdnaiiagblcohaaDoor
end

/-
  An entry that shares no memory with the one it is the same as; the first entry of a path. Condition: the entries lie in memory.
-/

section
set_option linter.unusedSimpArgs false
set_option linter.unusedVariables false
set_option maxRecDepth 100000
namespace Go.Proofs.YtdnaiiagblcohaaDoor
open Go.RowKit

theorem four_ev {w : World} {g t : Nat} {x : Ev} (h : Blk w g t (evC x)) : w.cell? ⟨g, 0, none⟩ = some (.slice x.PA x.pn x.pc) ∧ w.cell? ⟨g, 1, none⟩ = some (.int .i64 x.k) ∧ w.cell? ⟨g, 2, none⟩ = some (.int .i64 x.m) ∧ w.cell? ⟨g, 3, none⟩ = some (.slice x.DA x.dn x.dc) := ⟨h.cell 0, h.cell 1, h.cell 2, h.cell 3⟩
set_option maxHeartbeats 2000000 in
theorem own12_any (w : World) (x : Ev) (e : En) (h : EvOk w x e) :
    Calls Tryd.prog 32 #[evV x] w fun en w' => ∃ y, en = .returned (evV y) ∧ OwnE w.heap.size w' y e ∧ Below w.heap.size w w' := by
  have hb0 := (pnew w (.cells (evC x).toArray 41)).trans ((pnew (w.alloc (.cells (evC x).toArray 41)) (.cells #[.slice none 0 0, .int .i64 0, .int .i64 0, .slice none 0 0] 41)).mono (pnew w _).size)
  have hk := (Blk.new w 41 (evC x)).alloc (.cells #[.slice none 0 0, .int .i64 0, .int .i64 0, .slice none 0 0] 41)
  have hz := Blk.new (w.alloc (.cells (evC x).toArray 41)) 41 [.slice none 0 0, .int .i64 0, .int .i64 0, .slice none 0 0]
  rw [World.size_alloc] at hz
  obtain ⟨PA, pn, pc, k, m, DA, dn, dc⟩ := x
  obtain ⟨w1, hw1⟩ : ∃ w1, w1 = (w.alloc (.cells #[.slice PA pn pc, .int .i64 k, .int .i64 m, .slice DA dn dc] 41)).alloc (.cells #[.slice none 0 0, .int .i64 0, .int .i64 0, .slice none 0 0] 41) := ⟨_, rfl⟩
  have H := Lib.hid h
  have H1 : Hid (Blk w1 w.heap.size 41 (evC ⟨PA, pn, pc, k, m, DA, dn, dc⟩) ∧ Blk w1 (w.heap.size + 1) 41 [.slice none 0 0, .int .i64 0, .int .i64 0, .slice none 0 0] ∧ Below w.heap.size w w1) := Lib.hid (by rw [hw1]; exact ⟨hk, hz, hb0⟩)
  clear h hb0 hk hz
  obtain ⟨y0, y1, y2, y3⟩ := four_ev H1.out.1
  go_enter Tryd.func32, Tryd.ntmps32
  go_upto_region 1 with fail
  rw [← hw1]
  clear hw1
  have HP := Lib.hid (H.out.path.below H1.out.2.2)
  have hpn : pn ≤ 1000000 := by have := H.out.small.names; rw [H.out.path.len] at this; exact this
  have hdn : dn ≤ 1000000 := by have := H.out.small.data; rw [H.out.data.len] at this; exact this
  go_wp2_with (first
    | (refine wpList_app (v := .slice none 0 0) (base := w.heap.size) (n := 0) rfl rfl Tryd.underlying37 str_info rfl (by decide) (strV e.path) rfl (World.ownsRow_nil _ _ _ _) rfl (by rw [strV_length, HP.out.len, Nat.mul_one]) (fun h0 => sin_rows HP.out h0) (strV_one _) (by omega) (by decide) H1.out.2.2.size ?_; intro v2 w2 k1 k2 k3; rw [Nat.zero_add, List.nil_append] at k1; obtain ⟨R2, c2, rfl⟩ := own_slice k1; have b2 : Below w1.heap.size w1 w2 := k2.below (Nat.le_refl _) (by simp [Value.ownBlock]); have hk2 := H1.out.1.below b2 H1.out.1.lt; have x0 := hk2.cell 0; have x3 := hk2.cell 3; have f0 := hk2.frozen 0; have f3 := hk2.frozen 3; have hbb : Below w.heap.size w (w2.setCell ⟨w.heap.size, 0, none⟩ (.slice R2 pn c2)) := (H1.out.2.2.trans (b2.mono H1.out.2.2.size)).setCell (p := ⟨w.heap.size, 0, none⟩) (Nat.le_refl _) _; have H2 := Lib.hid (And.intro (ownsRow_only k1 ((Only.refl [w.heap.size] w2).setCell (p := ⟨w.heap.size, 0, none⟩) (.inl (by simp)) (.slice R2 pn c2)) (fun q hq hm => own_blk_ne k1 hk2 (by decide) (by simp at hm; rw [hq, hm]))) (And.intro (hk2.set_ 0 (.slice R2 pn c2)) (And.intro hbb (And.intro ((H1.out.2.1.below b2 H1.out.2.1.lt).far (p := ⟨w.heap.size, 0, none⟩) (by simp) (.slice R2 pn c2)) (H.out.data.below hbb))))); clear k1 k2 k3 b2 hk2 hbb y0 y1 y2 y3; simp only [evC, List.getElem?_cons_zero, List.getElem?_cons_succ] at x0 x3)
    | (refine wpList_app (v := .slice none 0 0) (base := w.heap.size) (n := 0) rfl rfl Tryd.underlying26 byt_info rfl (by decide) (Vb e.data) rfl (World.ownsRow_nil _ _ _ _) rfl (by rw [Vb_length, H2.out.2.2.2.2.len, Nat.mul_one]) (fun h0 => din_rows H2.out.2.2.2.2 h0) (Vb_oneCell _) (by omega) (by decide) H2.out.2.2.1.size ?_; intro v3 w3 k1 k2 k3; rw [Nat.zero_add, List.nil_append] at k1; obtain ⟨R3, c3, rfl⟩ := own_slice k1; have b3 := k2.below (B := (w2.setCell ⟨w.heap.size, 0, none⟩ (.slice R2 pn c2)).heap.size) (Nat.le_refl _) (by simp [Value.ownBlock]); have hk3 := H2.out.2.1.below b3 H2.out.2.1.lt; have hz3 := H2.out.2.2.2.1.below b3 H2.out.2.2.2.1.lt; have H3 := Lib.hid (And.intro (ownsRow_only (S := []) H2.out.1 (Only.of_below b3) (by simp)) (And.intro k1 (And.intro hk3 (And.intro hz3 (H2.out.2.2.1.trans (b3.mono H2.out.2.2.1.size)))))); clear x0 x3 f0 f3; have x0 := hk3.cell 0; have x1 := hk3.cell 1; have x2 := hk3.cell 2; have x3 := hk3.cell 3; have f3 := hk3.frozen 3; clear k1 k2 k3 b3 hk3 hz3; simp only [evC, List.set_cons_zero, List.getElem?_cons_zero, List.getElem?_cons_succ] at x0 x1 x2 x3)
    | (refine wpList_store_blk rfl 41 (.tmp 2) (.tmp 11) rfl (w.heap.size + 1) 0 (evC ⟨R2, pn, c2, k, m, R3, dn, c3⟩) rfl rfl (H3.out.2.2.2.1.far (p := ⟨w.heap.size, 3, none⟩) (by simp) (.slice R3 dn c3)) (by simp [evC]) infoEv (evC_one _) ?_; intro w4 hA hO; rw [over_whole (by simp [evC])] at hA))
  obtain ⟨d0, d1, d2, d3⟩ := four_ev hA
  have o1 : Only [w.heap.size, w.heap.size + 1] w3 w4 := ((Only.refl [w.heap.size, w.heap.size + 1] w3).setCell (p := ⟨w.heap.size, 3, none⟩) (.inl (by simp)) (.slice R3 dn c3)).trans (hO.mono (fun q hq _ => by simp at hq; simp [hq]))
  have hr2 := ownsRow_only H3.out.1 o1 (fun q hq hm => by
    simp at hm
    rcases hm with rfl | rfl
    · exact own_blk_ne H3.out.1 H3.out.2.2.1 (by decide) hq
    · exact own_blk_ne H3.out.1 H3.out.2.2.2.1 (by decide) hq)
  have hr3 := ownsRow_only H3.out.2.1 o1 (fun q hq hm => by
    simp at hm
    rcases hm with rfl | rfl
    · exact own_blk_ne H3.out.2.1 H3.out.2.2.1 (by decide) hq
    · exact own_blk_ne H3.out.2.1 H3.out.2.2.2.1 (by decide) hq)
  have hb4 : Below w.heap.size w w4 := H3.out.2.2.2.2.trans (o1.below H3.out.2.2.2.2.size (fun q hq => by simp at hq; omega))
  refine bodyPost_ret (v := evV ⟨R2, pn, c2, k, m, R3, dn, c3⟩) (by simp [results, Tryd.results32, go_sem, d0, d1, d2, d3]) rfl ?_
  exact ⟨⟨R2, pn, c2, k, m, R3, dn, c3⟩, rfl, ⟨by rw [H.out.path.len]; exact hr2, H.out.kind, H.out.mode, by rw [H.out.data.len]; exact hr3, H.out.small⟩, hb4⟩
end Go.Proofs.YtdnaiiagblcohaaDoor
end

/-
  The first entry of a path, as the program and as the document find it; how many files there are. Condition: the entries lie in memory.
-/

section
set_option linter.unusedSimpArgs false
set_option linter.unusedVariables false
set_option maxRecDepth 100000
namespace Go.Proofs.YtdnaiiagblcohaaDoor
open Go.RowKit

theorem zero_ev_build (W : World) : (Instr.build 41 #[]).run Tryd.prog W = .ok (evV ⟨none, 0, 0, 0, 0, none, 0, 0⟩) W := by kernel_rfl
/-- What Find answers. -/
def FindOut (N : Nat) (es : List En) (q : Pa) (y : Ev) (z : Int) (w' : World) : Prop := match atE es q with
  | none => z = 7
  | some i => z = 0 ∧ ∃ e, es[i]? = some e ∧ OwnE N w' y e
end Go.Proofs.YtdnaiiagblcohaaDoor
end
