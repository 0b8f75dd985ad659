/-
  Reading: one entry. Conditions: what is left lies in memory, and not in the reader; the entries that were read lie in memory of the call's own; the variables and constants that are read hold what they must.
-/
import Derived.Test.YtlpljedacohngaaGreatDoorM25
import Derived.Test.YtlpljedacohngaaGreatDoorM15
import Derived.Lib.Bytes
import Derived.Lib.Strings
section
set_option linter.unusedSimpArgs false
set_option linter.unusedVariables false
set_option maxRecDepth 100000
namespace Go.Proofs.YtlpljedacohngaaGreatDoor
open Go.RowKit

/-- Where reading stands: the reader's cells, the entries that were read, in rows of the call's own. -/
structure EntS (M : Nat) (wS w : World) (g : Nat) (s : Rs) (lv0 lv : Value) (xs : List Ev) (es : List En) : Prop where
  rd : RdAt M w g s lv0
  row : w.ownsRow M 40 4 lv xs.length (rowE xs)
  len : xs.length = es.length
  ok : ∀ (i : Nat) x e, xs[i]? = some x → es[i]? = some e → OwnE M w x e
  b : Below M wS w
section
variable {M : Nat} {wS w w' : World} {g : Nat} {s s' : Rs} {lv0 lv lv' : Value} {xs : List Ev} {es : List En}
theorem EntS.below (hM : M ≤ w.heap.size) (h : EntS M wS w g s lv0 lv xs es) (hb : Below w.heap.size w w') : EntS M wS w' g s lv0 lv xs es :=
  ⟨h.rd.below hb, ownsRow_only (S := []) h.row (Only.of_below hb) (by simp), h.len, fun i x e h1 h2 => (h.ok i x e h1 h2).below hb, h.b.trans (hb.mono hM)⟩
theorem rd_blk (h : RdAt M w g s lv) : ∃ cs, Blk w g 52 cs := by
  obtain ⟨L, n, c, h1, h2⟩ := h
  exact ⟨_, h1⟩
theorem OwnE.off {N : Nat} {x : Ev} {e : En} {k t : Nat} {cs : List Value} (h : OwnE N w x e) (hB : Blk w k t cs) (h1 : 9 ≠ t) (h2 : 5 ≠ t) (ho : Only [k] w w') : OwnE N w' x e :=
  h.only ho (fun q hq hm => by simp at hm; subst hm; exact own_blk_ne h.path hB h1 hq) (fun q hq hm => by simp at hm; subst hm; exact own_blk_ne h.data hB h2 hq)
/-- The reader's cells turn. -/
theorem EntS.turn (hS : M ≤ w.heap.size) (hg : M ≤ g) (h : EntS M wS w g s lv0 lv xs es) (ho : Only [g] w w') (hr : RdAt M w' g s' lv0) : EntS M wS w' g s' lv0 lv xs es := by
  obtain ⟨cs, hB⟩ := rd_blk h.rd
  refine ⟨hr, ownsRow_only h.row ho (fun q hq hm => ?_), h.len, fun i x e h1 h2 => (h.ok i x e h1 h2).off hB (by decide) (by decide) ho, h.b.trans (ho.below hS (by simpa using hg))⟩
  simp at hm
  subst hm
  exact own_blk_ne h.row hB (by decide) hq
end
/-- The rows behind an append, apart from the reader. -/
def rowW (M : Nat) (bad : List Nat) (xs : List Ev) (es : List En) : Value → World → Prop := fun u w => ∃ y, w.ownsRow M 40 4 u (xs.length + 1) (rowE (xs ++ [y])) ∧ (∀ k, u.ownBlock = some k → k ∉ bad) ∧
  ∀ (i : Nat) x e, (xs ++ [y])[i]? = some x → es[i]? = some e → OwnE M w x e ∧ (∀ k, (Value.slice x.PA x.pn x.pc).ownBlock = some k → k ∉ bad) ∧ (∀ k, (Value.slice x.DA x.dn x.dc).ownBlock = some k → k ∉ bad)
theorem rowW_st {M : Nat} {bad S : List Nat} {xs : List Ev} {es : List En} {u : Value} {w w' : World} (h : rowW M bad xs es u w) (hS : ∀ j ∈ S, j ∈ bad) (ho : Only S w w') : rowW M bad xs es u w' := by
  obtain ⟨y, h1, h2, h3⟩ := h
  refine ⟨y, ownsRow_only h1 ho (fun k hk hm => h2 k hk (hS k hm)), h2, fun i x e hx he => ?_⟩
  obtain ⟨a1, a2, a3⟩ := h3 i x e hx he
  exact ⟨a1.only ho (fun k hk hm => a2 k hk (hS k hm)) (fun k hk hm => a3 k hk (hS k hm)), a2, a3⟩
/-- How far the keeping of an entry is. -/
def entR3 (M : Nat) (wS wx : World) (g : Nat) (s : Rs) (lv : Value) (xs : List Ev) (es : List En) : Nat → World → Prop
  | 0, w => Below wx.heap.size wx w
  | 1, w => RdAt M w g s lv ∧ Below M wS w
  | _ + 2, w => ∃ lv' y, EntS M wS w g s lv' lv' (xs ++ [y]) es
theorem ent_app {M : Nat} {wS wx w w' : World} {g g' cap : Nat} {s : Rs} {lv : Value} {xs : List Ev} {es : List En} {y : Ev} {e : En} (hM : M ≤ wx.heap.size) (hR : Below wx.heap.size wx w) (h : EntS M wS w g s lv lv xs es)
    (g1 : w'.ownsRow M 40 4 (.slice (some ⟨g', 0, none⟩) (xs.length + 1) cap) (xs.length + 1) (rowE xs ++ evC y)) (g2 : Only lv.ownBlock.toList w w') (o : OwnE wx.heap.size w y e) :
    (RdAt M w' g s lv ∧ Below M wS w') ∧ rowW M [g] xs (es ++ [e]) (.slice (some ⟨g', 0, none⟩) (xs.length + 1) cap) w' := by
  obtain ⟨cs, hB⟩ := rd_blk h.rd
  have hgo : g ∉ lv.ownBlock.toList := fun hm => own_blk_ne h.row hB (by decide) (by simpa using hm)
  have hrd : RdAt M w' g s lv := h.rd.only g2 hgo (fun k hk => (h.row.lt k (by simpa using hk)).1)
  obtain ⟨cs', hB'⟩ := rd_blk hrd
  have hsz : M ≤ w.heap.size := Nat.le_trans hM hR.size
  refine ⟨⟨hrd, h.b.trans (g2.below hsz (fun k hk => (h.row.lt k (by simpa using hk)).1))⟩, y, by rw [rowE_snoc]; exact g1, fun k hk hm => ?_, fun i x f hx hf => ?_⟩
  · simp at hm
    subst hm
    exact own_blk_ne g1 hB' (by decide) hk
  · have ho : OwnE M w' x f := by
      rcases Nat.lt_or_ge i xs.length with hi | hi
      · rw [List.getElem?_append_left hi] at hx
        rw [List.getElem?_append_left (by rw [← h.len]; exact hi)] at hf
        exact (h.ok i x f hx hf).row h.row g2 (by decide) (by decide)
      · rw [List.getElem?_append_right hi] at hx
        rw [List.getElem?_append_right (by rw [← h.len]; exact hi)] at hf
        have h0 : i - xs.length = 0 := by
          have := (List.getElem?_eq_some_iff.1 hx).1
          simp at this
          omega
        rw [h0] at hx
        rw [← h.len, h0] at hf
        simp only [List.getElem?_cons_zero, Option.some.injEq] at hx hf
        subst hx hf
        exact (o.base hM).row h.row g2 (by decide) (by decide)
    refine ⟨ho, fun k hk hm => ?_, fun k hk hm => ?_⟩
    · simp at hm
      subst hm
      exact own_blk_ne ho.path hB' (by decide) hk
    · simp at hm
      subst hm
      exact own_blk_ne ho.data hB' (by decide) hk
theorem ent_store {M : Nat} {wS w : World} {g n c : Nat} {s : Rs} {lv : Value} {L : Option Addr} {xs : List Ev} {es : List En} {u : Value} (hM : M ≤ w.heap.size) (hg : M ≤ g) (hl : xs.length + 1 = es.length) (hB : Blk w g 52 [.slice L n c, .bool s.ms, lv]) (hL : LIn (fun b => b < M) w L n c s.left) (hb : Below M wS w) (h : rowW M [g] xs es u w) :
    ∃ lv' y, EntS M wS (w.setCells g 2 [u]) g s lv' lv' (xs ++ [y]) es := by
  obtain ⟨y, h1, h2, h3⟩ := h
  have ho := store_only w g 2 u
  refine ⟨u, y, ⟨L, n, c, (show Blk (w.setCells g 2 [u]) g 52 [.slice L n c, .bool s.ms, u] from by have h5 := hB.setCells [u] 2 (by simp); rw [over_one (by simp)] at h5; exact h5), hL.din.only ho (fun a ha hm => by have := hL.far a ha; simp at hm; omega), hL.far⟩, ?_, by rw [List.length_append]; exact hl, fun i x e hx he => ?_, hb.trans (ho.below hM (by simpa using hg))⟩
  · rw [List.length_append]
    exact ownsRow_only h1 ho h2
  · obtain ⟨a1, a2, a3⟩ := h3 i x e hx he
    exact a1.only ho a2 a3
theorem parts_ex (s : Rs) : ∃ k m tl dl tx dt sm s1 s2 s3 s4 s5 s6 s7, numR 1 s = (k, s1) ∧ numR 2 s1 = (m, s2) ∧ numR 1 s2 = (tl, s3) ∧ takeR tl s3 = (tx, s4) ∧ numR 2 s4 = (dl, s5) ∧ takeR dl s5 = (dt, s6) ∧ takeR 8 s6 = (sm, s7) := by
  obtain ⟨k, s1, E1⟩ : ∃ k s1, numR 1 s = (k, s1) := ⟨_, _, rfl⟩
  obtain ⟨m, s2, E2⟩ : ∃ k s', numR 2 s1 = (k, s') := ⟨_, _, rfl⟩
  obtain ⟨tl, s3, E3⟩ : ∃ k s', numR 1 s2 = (k, s') := ⟨_, _, rfl⟩
  obtain ⟨tx, s4, E4⟩ : ∃ k s', takeR tl s3 = (k, s') := ⟨_, _, rfl⟩
  obtain ⟨dl, s5, E5⟩ : ∃ k s', numR 2 s4 = (k, s') := ⟨_, _, rfl⟩
  obtain ⟨dt, s6, E6⟩ : ∃ k s', takeR dl s5 = (k, s') := ⟨_, _, rfl⟩
  obtain ⟨sm, s7, E7⟩ : ∃ k s', takeR 8 s6 = (k, s') := ⟨_, _, rfl⟩
  exact ⟨k, m, tl, dl, tx, dt, sm, s1, s2, s3, s4, s5, s6, s7, E1, E2, E3, E4, E5, E6, E7⟩
theorem bent_is {s : Rs} (hms : (rs7 s).ms = false) : (candS s).length = 8 := by
  obtain ⟨k, m, tl, dl, tx, dt, sm, s1, s2, s3, s4, s5, s6, s7, E1, E2, E3, E4, E5, E6, E7⟩ := parts_ex s
  obtain ⟨f7, fS, fE⟩ := cand_of E1 E2 E3 E4 E5 E6 E7
  rw [f7] at hms
  rw [fS]
  exact (takeR_is E7 hms).2.1
theorem candE_path (s : Rs) : (joinP (candE s).path).size ≤ 900 := by
  obtain ⟨k, m, tl, dl, tx, dt, sm, s1, s2, s3, s4, s5, s6, s7, E1, E2, E3, E4, E5, E6, E7⟩ := parts_ex s
  obtain ⟨f7, fS, fE⟩ := cand_of E1 E2 E3 E4 E5 E6 E7
  rw [fE]
  have := (parse_small (txtB tx)).2
  show (joinP (parseB (txtB tx)).1).size ≤ 900
  omega
theorem entR_by (s : Rs) (es : List En) : entR s es = if (rs7 s).ms then ⟨rs7 s, es, 4⟩ else if refE (candE s) es (bentE s) = 0 then ⟨rs7 s, es ++ [candE s], 0⟩ else ⟨rs7 s, es, refE (candE s) es (bentE s)⟩ := rfl
set_option maxHeartbeats 8000000 in
theorem entry12_any (M : Nat) (wS : World) (hS : wS.heap.size = M) (hV : PV wS) (hK : Roots Ks wS) (w : World) (g : Nat) (hg : M ≤ g) (s : Rs) (lv : Value) (xs : List Ev) (es : List En) (h : EntS M wS w g s lv lv xs es) (hel : es.length ≤ 100) :
    Calls Tryz.prog 27 #[.pointer (some ⟨g, 0, none⟩)] w fun e w' => e = .returned (.int .i64 (entR s es).err) ∧ ∃ lv' xs', EntS M wS w' g (entR s es).st lv' lv' xs' (entR s es).l := by
  have hMw : M ≤ w.heap.size := by rw [← hS]; exact h.b.size
  obtain ⟨AH, ac, rfl, _⟩ := ein_own h.row h.len h.ok
  have hc := cand12_any M wS hS hV w h.b g hg s AH es.length ac h.rd
  have hr := entR_by s es
  have hb8 := bent_is (s := s)
  have hpa := candE_path s
  have hbt : bentE s = !(decide (candS s = sumE (candE s))) := rfl
  obtain ⟨r, hr'⟩ : ∃ r, r = entR s es := ⟨_, rfl⟩
  obtain ⟨s7, h7⟩ : ∃ t, t = rs7 s := ⟨_, rfl⟩
  obtain ⟨sm, hsm⟩ : ∃ t, t = candS s := ⟨_, rfl⟩
  obtain ⟨ce, hce⟩ : ∃ t, t = candE s := ⟨_, rfl⟩
  obtain ⟨bt, hb⟩ : ∃ t, t = bentE s := ⟨_, rfl⟩
  rw [← hr'] at hr ⊢
  rw [← h7, ← hsm, ← hce] at hc
  rw [← h7, ← hce, ← hb] at hr
  rw [← h7, ← hsm] at hb8
  rw [← hce] at hpa
  rw [← hb, ← hsm, ← hce] at hbt
  have HC := Lib.hid hc
  have HR := Lib.hid (And.intro hr (And.intro hb8 (And.intro hpa hbt)))
  clear hc hr hb8 hpa hbt hr' h7 hsm hce hb
  have H := Lib.hid (And.intro h (And.intro hMw (And.intro hg (And.intro hS (And.intro hV hK)))))
  clear h hMw hg hS hV hK
  go_enter Tryz.func27, Tryz.ntmps27
  go_wp2_with fail
  refine HC.out.mono ?_
  rintro en w1 ⟨x, SA, sc, rfl, hx, hd, hr, hO⟩
  have hE1 := H.out.1.turn H.out.2.1 H.out.2.2.1 hO hr
  have hM1 : M ≤ w1.heap.size := Nat.le_trans H.out.2.1 hO.size
  have H1 := Lib.hid (And.intro hE1 (And.intro hx (And.intro hd hM1)))
  clear HC hx hd hr hO hE1 hM1
  obtain ⟨PA, pn, pc, k, m, DA, dn, dc⟩ := x
  cases hms : s7.ms with
  | true =>
    go_wp2_with (refine wpList_store_blk rfl 82 (.tmp 3) (.tmp 6) rfl w1.heap.size 0 (cdC ⟨PA, pn, pc, k, m, DA, dn, dc⟩ AH es.length ac SA sm.length sc) rfl rfl (Blk.new w1 _ [.slice none 0 0, .int .i64 0, .int .i64 0, .slice none 0 0, .slice none 0 0, .slice none 0 0]) (by simp) cd_info (cdC_one _ _ _ _ _ _ _) ?_; intro w2 hA hO; rw [over_whole (by simp)] at hA; have hb2 : Below w1.heap.size w1 w2 := (pnew w1 _).trans (hO.below (B := w1.heap.size) (by simp) (by simp)); have H2 := Lib.hid (And.intro hA (And.intro (H1.out.1.below H1.out.2.2.2 hb2) (And.intro (H1.out.2.1.below hb2) (And.intro (H1.out.2.2.1.below hb2) (Nat.le_trans H1.out.2.2.2 hb2.size))))); obtain ⟨L, n, c, hB, hL⟩ := H2.out.2.1.rd; have y1 : w2.cell? ⟨g, 1, none⟩ = some (.bool true) := (hB.cell 1).trans (by rw [hms]; rfl); clear hA hO hb2 hB hL)
    have HF : Hid (r = ⟨s7, es, 4⟩) := Lib.hid (by rw [HR.out.1, if_pos hms])
    go_ret
    rw [HF.out]
    exact ⟨rfl, _, _, H2.out.2.1⟩
  | false =>
    go_wp2_with (first
      | (refine wpList_store_blk rfl 82 (.tmp 3) (.tmp 6) rfl w1.heap.size 0 (cdC ⟨PA, pn, pc, k, m, DA, dn, dc⟩ AH es.length ac SA sm.length sc) rfl rfl (Blk.new w1 _ [.slice none 0 0, .int .i64 0, .int .i64 0, .slice none 0 0, .slice none 0 0, .slice none 0 0]) (by simp) cd_info (cdC_one _ _ _ _ _ _ _) ?_; intro w2 hA hO; rw [over_whole (by simp)] at hA; have hb2 : Below w1.heap.size w1 w2 := (pnew w1 _).trans (hO.below (B := w1.heap.size) (by simp) (by simp)); have H2 := Lib.hid (And.intro hA (And.intro (H1.out.1.below H1.out.2.2.2 hb2) (And.intro (H1.out.2.1.below hb2) (And.intro (H1.out.2.2.1.below hb2) (Nat.le_trans H1.out.2.2.2 hb2.size))))); obtain ⟨L, n, c, hB, hL⟩ := H2.out.2.1.rd; have y1 : w2.cell? ⟨g, 1, none⟩ = some (.bool false) := (hB.cell 1).trans (by rw [hms]; rfl); clear hA hO hb2 hB hL)
      | (refine wpList_load_mid rfl 82 (.tmp 3) rfl w1.heap.size 0 rfl _ _ H2.out.1.range Tryz.underlying82 rfl cd_info ?_))
    obtain ⟨b, hb⟩ : ∃ b, b = w1.heap.size := ⟨_, rfl⟩
    rw [← hb] at H2 ⊢
    clear hb
    have HF : Hid (r = if refE ce es bt = 0 then ⟨s7, es ++ [ce], 0⟩ else ⟨s7, es, refE ce es bt⟩) := Lib.hid (by rw [HR.out.1, if_neg (by rw [hms]; simp)])
    have h8 := HR.out.2.1 hms
    have HMS := Lib.hid (And.intro hms h8)
    clear hms h8
    obtain ⟨_, _, e1, hEI⟩ := ein_own H2.out.2.1.row H2.out.2.1.len H2.out.2.1.ok
    cases e1
    have hbent : ∀ W, Below w2.heap.size w2 W → (∀ j, j < 8 → failE ce es bt j = false) → Calls Tryz.prog 61 #[cdV ⟨PA, pn, pc, k, m, DA, dn, dc⟩ AH es.length ac SA sm.length sc] W fun en w' => en = .returned (.bool bt) ∧ Below W.heap.size W w' := by
      intro W hW hf
      have hd := H2.out.2.2.2.1.below hW
      obtain ⟨sg, so, rfl, _, _⟩ := hd.cells (by rw [HMS.out.2]; omega)
      have hlong := hf 4 (by omega)
      simp only [failE, longE, decide_eq_false_iff_not] at hlong
      have hW2 := H2.out.2.1.b.trans (hW.mono H2.out.2.2.2.2)
      rw [← H.out.2.2.2.1] at hW2
      rw [HR.out.2.2.2]
      exact bent_some W (H.out.2.2.2.2.2.below hW2 H.out.2.2.2.2.2.pos) ⟨PA, pn, pc, k, m, DA, dn, dc⟩ AH es.length ac sg so sm.length sc ce (H2.out.2.2.1.below hW) sm hd HR.out.2.2.1 (by omega)
    have hpv2 : PV w2 := by
      have := H2.out.2.1.b
      rw [← H.out.2.2.2.1] at this
      exact H.out.2.2.2.2.1.to this
    refine (refusal_arch w2 hpv2 ⟨PA, pn, pc, k, m, DA, dn, dc⟩ AH es.length ac SA sm.length sc ce H2.out.2.2.1 xs es hEI bt hbent).mono ?_
    rintro en wx ⟨rfl, h3⟩
    have H3 := Lib.hid (And.intro (H2.out.1.below h3 H2.out.1.lt) (And.intro (H2.out.2.1.below H2.out.2.2.2.2 h3) (And.intro (H2.out.2.2.1.below h3) (Nat.le_trans H2.out.2.2.2.2 h3.size))))
    clear hEI hbent hpv2 h3 y1
    by_cases hz : refE ce es bt = 0
    · have HG : Hid (r = ⟨s7, es ++ [ce], 0⟩) := Lib.hid (by rw [HF.out, if_pos hz])
      rw [hz]
      clear hz HF
      go_wp2_with fail
      have hMx := H3.out.2.2.2
      have HX := Lib.hid (And.intro H3.out.2.2.1 H3.out.2.1)
      obtain ⟨z0, z1, z2, z3, z4, z5⟩ := BoxAt.of H3.out.1
      have y2 : wx.cell? ⟨g, 2, none⟩ = some (.slice AH es.length ac) := by
        obtain ⟨L, n, c, hB, hL⟩ := H3.out.2.1.rd
        exact hB.cell 2
      have hXX : ∀ {k j : Nat}, j ∈ (if k = 9 then (Value.slice AH es.length ac).ownBlock.toList else if k = 12 then [g] else []) → j < wx.heap.size := by
        intro k j hj
        split at hj
        · exact (H3.out.2.1.row.lt j (by simpa using hj)).2
        · split at hj
          · simp at hj
            rw [hj]
            exact H3.out.2.1.rd.lt
          · cases hj
      have h9X : ∀ {k j : Nat}, k ≠ 9 → j ∈ (if k = 9 then (Value.slice AH es.length ac).ownBlock.toList else if k = 12 then [g] else []) → j = g := by
        intro k j hk hj
        rw [if_neg hk] at hj
        split at hj
        · simpa using hj
        · cases hj
      refine wp_hideQ ?_
      intro QQ hQQ
      refine wp_region_chainQ [9, 12] [some 16, some 17, some 18, some 19, some 20, some 21, some 22, some 23, some 24, some 25, some 26, some 27, none] [isV (.pointer (some ⟨g, 0, none⟩)), isV (.pointer (some ⟨g, 0, none⟩)), isV (.pointer (some ⟨g, 0, none⟩)), isV (.pointer (some ⟨g, 2, none⟩)), isV (.slice AH es.length ac), isV (.pointer (some ⟨b, 0, none⟩)), isV (evV ⟨PA, pn, pc, k, m, DA, dn, dc⟩), evNV wx.heap.size ce, rowNV 40 wx.heap.size ce, rowW M [g] xs (es ++ [ce]), isV (.pointer (some ⟨g, 0, none⟩)), isV (.pointer (some ⟨g, 2, none⟩)), isV undef] (fun k => if k = 9 then (Value.slice AH es.length ac).ownBlock.toList else if k = 12 then [g] else []) (entR3 M wS wx g s7 (.slice AH es.length ac) xs (es ++ [ce])) 13 (by kernel_rfl) rfl rfl rfl (by kernel_rfl) (by kernel_rfl) (pdrew wx) ?_ ?_ ?_
      · intro i k v wy wz hki hv ho
        match i, hv with
        | 0, hv => exact hv
        | 1, hv => exact hv
        | 2, hv => exact hv
        | 3, hv => exact hv
        | 4, hv => exact hv
        | 5, hv => exact hv
        | 6, hv => exact hv
        | 7, hv =>
          obtain ⟨y, h1, h2⟩ : evNV wx.heap.size ce _ wy := hv
          exact ⟨y, h1, h2.only ho (fun k0 hk hm => by have := hXX hm; have := (h2.path.lt k0 hk).1; omega) (fun k0 hk hm => by have := hXX hm; have := (h2.data.lt k0 hk).1; omega)⟩
        | 8, hv =>
          obtain ⟨p, y, h1, h2, h3, h4⟩ : rowNV 40 wx.heap.size ce _ wy := hv
          exact ⟨p, y, h1, h2, h3.only ho (fun hm => by have := hXX hm; omega), h4.only ho (fun k0 hk hm => by have := hXX hm; have := (h4.path.lt k0 hk).1; omega) (fun k0 hk hm => by have := hXX hm; have := (h4.data.lt k0 hk).1; omega)⟩
        | 9, hv =>
          exact rowW_st hv (fun j hj => by have := h9X hki hj; simp [this]) ho
        | 10, hv => exact hv
        | 11, hv => exact hv
        | 12, hv => exact hv
        | i + 13, hv => exact hv
      · intro hq rz hz
        match rz, hz with
        | 0, _ =>
          refine StepP.val rfl rfl [] (by decide +kernel) ?_
          intro p hhi hlo v wy hR hd
          exact ⟨wanted_plain rfl _, _, _, x_move rfl (fill_off rfl rfl), hR, Only.refl _ _, rfl⟩
        | 1, _ =>
          refine StepP.val rfl rfl [] (by decide +kernel) ?_
          intro p hhi hlo v wy hR hd
          exact ⟨wanted_plain rfl _, _, _, x_move rfl (fill_off rfl rfl), hR, Only.refl _ _, rfl⟩
        | 2, _ =>
          refine StepP.val rfl rfl [1] (by decide +kernel) ?_
          intro p hhi hlo v wy hR hd
          have h1 : v 1 = _ := hd 1 (by simp)
          exact ⟨wanted_plain rfl _, _, _, x_nil rfl (hq.at_ rfl h1), hR, Only.refl _ _, rfl⟩
        | 3, _ =>
          refine StepP.val rfl rfl [2] (by decide +kernel) ?_
          intro p hhi hlo v wy hR hd
          have h2 : v 2 = _ := hd 2 (by simp)
          exact ⟨wanted_plain rfl _, _, _, x_field rfl (hq.at_ rfl h2) (r_field (off := 2) (by kernel_rfl)), hR, Only.refl _ _, rfl⟩
        | 4, _ =>
          refine StepP.val rfl rfl [3] (by decide +kernel) ?_
          intro p hhi hlo v wy hR hd
          obtain rfl : p = 0 := by have := hhi 0 9 rfl (by decide +kernel); omega
          have hR : Below wx.heap.size wx wy := hR
          have h3 : v 3 = _ := hd 3 (by simp)
          exact ⟨wanted_plain rfl _, _, _, x_load rfl (hq.at_ rfl h3) (r_load (by kernel_rfl) (pcell_below y2 hR)), hR, Only.refl _ _, rfl⟩
        | 5, _ =>
          refine StepP.val rfl rfl [] (by decide +kernel) ?_
          intro p hhi hlo v wy hR hd
          exact ⟨wanted_plain rfl _, _, _, x_field rfl (fill_off rfl rfl) (r_field (off := 0) (by kernel_rfl)), hR, Only.refl _ _, rfl⟩
        | 6, _ =>
          refine StepP.val rfl rfl [5] (by decide +kernel) ?_
          intro p hhi hlo v wy hR hd
          obtain rfl : p = 0 := by have := hhi 0 9 rfl (by decide +kernel); omega
          have hR : Below wx.heap.size wx wy := hR
          have h5 : v 5 = _ := hd 5 (by simp)
          exact ⟨wanted_plain rfl _, _, _, x_load rfl (hq.at_ rfl h5) (r_loadR (cs := evC ⟨PA, pn, pc, k, m, DA, dn, dc⟩) (by kernel_rfl) (range_four (pcell_below z0 hR) (pcell_below z1 hR) (pcell_below z2 hR) (pcell_below z3 hR))), hR, Only.refl _ _, rfl⟩
        | 7, _ =>
          refine StepP.call rfl rfl [6] (by decide +kernel) ?_
          intro p hhi hlo v wy hR hd
          obtain rfl : p = 0 := by have := hhi 0 9 rfl (by decide +kernel); omega
          have hR : Below wx.heap.size wx wy := hR
          have h6 : v 6 = _ := hd 6 (by simp)
          refine ⟨wanted_plain rfl _, 43, _, _, x_call rfl rfl (args_1 (hq.at_ rfl h6)) (by kernel_rfl) rfl, ?_⟩
          refine (own12_any wy ⟨PA, pn, pc, k, m, DA, dn, dc⟩ ce (HX.out.1.below hR)).mono ?_
          rintro en w7 ⟨y, rfl, ho, hb⟩
          exact ⟨_, rfl, hR.trans (hb.mono hR.size), Only.of_below hb, y, rfl, ho.base hR.size⟩
        | 8, _ =>
          refine StepP.val rfl rfl [7] (by decide +kernel) ?_
          intro p hhi hlo v wy hR hd
          obtain rfl : p = 0 := by have := hhi 0 9 rfl (by decide +kernel); omega
          have hR : Below wx.heap.size wx wy := hR
          obtain ⟨y7, h7, o7⟩ : (evNV wx.heap.size ce) (v 7) wy := hd 7 (by simp)
          have hb := pnew wy (.cells (evC y7).toArray 40)
          exact ⟨wanted_plain rfl _, xe_ex (x_slice rfl (pairs_1 (hq.at_ rfl h7)) (slice_ev wy y7)) ⟨hR.trans (hb.mono hR.size), Only.of_below hb, wy.heap.size, y7, rfl, hR.size, Blk.new wy 40 (evC y7), o7.below hb⟩⟩
        | 9, _ =>
          refine StepP.cval 0 rfl rfl rfl [4, 8] (by decide +kernel) ?_
          intro v wy hR hd
          have hR : Below wx.heap.size wx wy := hR
          have h4 : v 4 = _ := hd 4 (by simp)
          obtain ⟨p8, y8, h8, hp8, hk8, o8⟩ : (rowNV 40 wx.heap.size ce) (v 8) wy := hd 8 (by simp)
          refine ⟨wanted_plain rfl _, xe_app_own rfl Tryz.underlying23 ev_info rfl (by omega) (hq.at_ rfl h4) (EntS.below hMx HX.out.2 hR).row (hq.at_ rfl h8) (evC y8) rfl (fun j u hu => by rw [Nat.zero_add, hk8.cell]; exact hu) (evC_one _) (by omega) (by have := HX.out.2.len; omega) (by omega) (by have := hR.size; omega) ?_⟩
          intro g' cap w' g1 g2 g3
          have hA := ent_app hMx hR (EntS.below hMx HX.out.2 hR) g1 g2 o8
          exact ⟨hA.1, g2, hA.2⟩
        | 10, _ =>
          refine StepP.val rfl rfl [0] (by decide +kernel) ?_
          intro p hhi hlo v wy hR hd
          have h0 : v 0 = _ := hd 0 (by simp)
          exact ⟨wanted_plain rfl _, _, _, x_nil rfl (hq.at_ rfl h0), hR, Only.refl _ _, rfl⟩
        | 11, _ =>
          refine StepP.val rfl rfl [10] (by decide +kernel) ?_
          intro p hhi hlo v wy hR hd
          have h10 : v 10 = _ := hd 10 (by simp)
          exact ⟨wanted_plain rfl _, _, _, x_field rfl (hq.at_ rfl h10) (r_field (off := 2) (by kernel_rfl)), hR, Only.refl _ _, rfl⟩
        | 12, _ =>
          refine StepP.cskip 1 rfl rfl rfl [11, 9] (by decide +kernel) ?_
          intro v wy hR hd
          have hR : RdAt M wy g s7 (.slice AH es.length ac) ∧ Below M wS wy := hR
          have h11 : v 11 = _ := hd 11 (by simp)
          have hv9 : rowW M [g] xs (es ++ [ce]) (v 9) wy := hd 9 (by simp)
          obtain ⟨P9, c9, h9⟩ : ∃ P c, v 9 = .slice P (xs.length + 1) c := by
            obtain ⟨y9, h9r, _⟩ := hv9
            exact own_slice h9r
          rw [h9] at hv9
          obtain ⟨⟨L, n, c, hB, hL⟩, hb⟩ := hR
          have hMy : M ≤ wy.heap.size := by rw [← H.out.2.2.2.1]; exact hb.size
          exact ⟨wanted_plain rfl _, _, x_store rfl (hq.at_ rfl h11) (hq.at_ rfl h9) (r_store1 (v := .slice P9 (xs.length + 1) c9) (by kernel_rfl) rfl rfl hB (by simp)), ent_store hMy H.out.2.2.1 (by rw [List.length_append, HX.out.2.len]; rfl) hB hL hb hv9, store_only _ _ _ _, rfl⟩
        | rz + 13, h => omega
      · intro v wz hR hV
        obtain ⟨lv', y, hE⟩ := hR
        have HE := Lib.hid hE
        clear hE hV
        simp only [fillR, Act.put, List.setIfInBounds_toArray, List.set_cons_zero, List.set_cons_succ]
        go_wp2_with fail
        go_ret
        rw [HG.out]
        exact ⟨rfl, _, _, HE.out⟩
    · have HG : Hid (r = ⟨s7, es, refE ce es bt⟩) := Lib.hid (by rw [HF.out, if_neg hz])
      go_wp2_with fail
      go_ret
      rw [HG.out]
      exact ⟨rfl, _, _, H3.out.2.1⟩
end Go.Proofs.YtlpljedacohngaaGreatDoor
end

/-
  Decode: the entries that bytes are, or why they are none. Conditions: the bytes lie in memory; the variables and constants that are read hold what they must.
-/

section
set_option linter.unusedSimpArgs false
set_option linter.unusedVariables false
set_option maxRecDepth 100000
namespace Go.Proofs.YtlpljedacohngaaGreatDoor
open Go.RowKit

theorem entsR_snoc (i : Nat) : ∀ (s : Rs) (l : List En), entsR (i + 1) s l = if (entsR i s l).err = 0 then entR (entsR i s l).st (entsR i s l).l else entsR i s l := by
  induction i with
  | zero =>
    intro s l
    rw [entsR_succ]
    show _ = if (0 : Int) = 0 then entR s l else _
    rw [if_pos rfl]
    obtain ⟨r, hr⟩ : ∃ r, entR s l = r := ⟨_, rfl⟩
    rw [hr]
    split
    · rename_i h
      obtain ⟨a, b, c⟩ := r
      dsimp only at h
      subst h
      rfl
    · rfl
  | succ i ih =>
    intro s l
    have e1 := entsR_succ (i + 1) s l
    have e2 := entsR_succ i s l
    rw [e1, e2]
    clear e1 e2
    obtain ⟨r, hr⟩ : ∃ r, entR s l = r := ⟨_, rfl⟩
    rw [hr]
    by_cases h : r.err = 0
    · rw [if_pos h, if_pos h]
      exact ih _ _
    · rw [if_neg h, if_neg h, if_neg h]
theorem entsR_stop {s : Rs} {l : List En} {i : Nat} (h : (entsR i s l).err ≠ 0) : ∀ k, entsR (i + k) s l = entsR i s l := by
  intro k
  induction k with
  | zero => rfl
  | succ k ih => rw [← Nat.add_assoc, entsR_snoc, ih, if_neg h]
theorem entR_len (s : Rs) (l : List En) : (entR s l).l.length ≤ l.length + 1 := by
  rw [entR_by]
  split
  · exact Nat.le_succ _
  · split
    · simp
    · exact Nat.le_succ _
theorem entsR_len (n : Nat) : ∀ (s : Rs) (l : List En), (entsR n s l).l.length ≤ l.length + n := by
  induction n with
  | zero => exact fun s l => Nat.le_refl _
  | succ n ih =>
    intro s l
    have h1 := entR_len s l
    have h2 := ih (entR s l).st (entR s l).l
    rw [entsR_succ]
    split <;> omega
theorem arcR_by (s : Rs) {k : Nat} {s1 : Rs} {r : Rd} (h1 : numR 1 s = (k, s1)) (h2 : entsR k s1 [] = r) : arcR s = if s1.ms then ([], 4) else if 40 < k then ([], 2) else if r.err = 0 then (if 0 < r.st.left.length then (r.l, 3) else (r.l, 0)) else (r.l, r.err) := by
  have f1 : rs1 s = s1 := congrArg Prod.snd h1
  unfold arcR
  rw [f1, h1, h2]
set_option maxHeartbeats 8000000 in
theorem arch12_any (M : Nat) (wS : World) (hS : wS.heap.size = M) (hV : PV wS) (hK : Roots Ks wS) (w : World) (g : Nat) (hg : M ≤ g) (s : Rs) (lv : Value) (h : EntS M wS w g s lv lv [] []) :
    Calls Tryz.prog 14 #[.pointer (some ⟨g, 0, none⟩)] w fun e w' => e = .returned (.int .i64 (arcR s).2) ∧ ∃ s' lv' xs', EntS M wS w' g s' lv' lv' xs' (arcR s).1 := by
  have hMw : M ≤ w.heap.size := by rw [← hS]; exact h.b.size
  obtain ⟨k, s1, E1⟩ : ∃ k s1, numR 1 s = (k, s1) := ⟨_, _, rfl⟩
  have hk : k < 65536 := numR_lt (by omega) E1
  have hr := arcR_by s E1 rfl
  obtain ⟨r, hr'⟩ : ∃ r, r = arcR s := ⟨_, rfl⟩
  rw [← hr'] at hr ⊢
  have HR := Lib.hid (And.intro hr E1)
  have H := Lib.hid (And.intro h (And.intro hMw (And.intro hg (And.intro hS (And.intro hV hK)))))
  clear hr hr' h hMw hg hS hV hK E1
  go_enter Tryz.func14, Tryz.ntmps14
  go_wp2_with fail
  refine (number12_is M w g 1 H.out.2.2.1 s lv H.out.1.rd (by omega) k s1 HR.out.2).mono ?_
  rintro en w1 ⟨hO, rfl, hrd⟩
  have hE1 := H.out.1.turn H.out.2.1 H.out.2.2.1 hO hrd
  have hM1 : M ≤ w1.heap.size := Nat.le_trans H.out.2.1 hO.size
  obtain ⟨L, n, c, hB, hL⟩ := hrd
  have y1 : w1.cell? ⟨g, 1, none⟩ = some (.bool s1.ms) := hB.cell 1
  have H1 := Lib.hid (And.intro hE1 hM1)
  clear hO hE1 hM1 hB hL
  cases hms : s1.ms with
  | true =>
    have HF : Hid (r = ([], 4)) := Lib.hid (by rw [HR.out.1, if_pos hms])
    rw [hms] at y1
    clear hms
    go_wp2_with fail
    go_ret
    rw [HF.out]
    exact ⟨rfl, _, _, _, H1.out.1⟩
  | false =>
    by_cases h40 : 40 < k
    · have HF : Hid (r = ([], 2)) := Lib.hid (by rw [HR.out.1, if_neg (by rw [hms]; simp), if_pos h40])
      rw [hms] at y1
      clear hms
      go_wp2_with fail
      go_ret
      rw [HF.out]
      exact ⟨rfl, _, _, _, H1.out.1⟩
    · have HF : Hid (r = if (entsR k s1 []).err = 0 then (if 0 < (entsR k s1 []).st.left.length then ((entsR k s1 []).l, 3) else ((entsR k s1 []).l, 0)) else ((entsR k s1 []).l, (entsR k s1 []).err)) := Lib.hid (by rw [HR.out.1, if_neg (by rw [hms]; simp), if_neg h40])
      rw [hms] at y1
      clear hms
      go_wp2_with fail
      clear y1
      go_loopw [19] (fun iv wr => ∃ i : Nat, i ≤ k ∧ iv = .int .i64 i ∧ Hid ((entsR i s1 []).err = 0 ∧ ∃ lv' xs', EntS M wS wr g (entsR i s1 []).st lv' lv' xs' (entsR i s1 []).l)) (fun iv _ => k - (intOf iv).toNat)
      case atStart => exact ⟨0, by omega, rfl, Lib.hid ⟨rfl, lv, [], H1.out.1⟩⟩
      case round =>
        obtain ⟨i, hi, rfl, HI⟩ := hrel
        obtain ⟨h0, lv', xs', hE⟩ := HI.out
        have hsn := entsR_snoc i s1 []
        rw [if_pos h0] at hsn
        have hst := fun (hne : (entsR (i + 1) s1 []).err ≠ 0) => entsR_stop (s := s1) (l := []) hne
        have hlen := entsR_len i s1 []
        obtain ⟨D, hD⟩ : ∃ D, D = entsR i s1 [] := ⟨_, rfl⟩
        obtain ⟨D', hD'⟩ : ∃ D', D' = entsR (i + 1) s1 [] := ⟨_, rfl⟩
        rw [← hD] at hE hsn hlen
        rw [← hD'] at hsn hst
        by_cases hlt : i < k
        · have HC := Lib.hid (entry12_any M wS H.out.2.2.2.1 H.out.2.2.2.2.1 H.out.2.2.2.2.2 wr g H.out.2.2.1 D.st lv' xs' D.l hE (by simp at hlen; omega))
          rw [← hsn] at HC
          have HD := Lib.hid (And.intro hD' hst)
          clear hE hsn hst hlen hD hD' h0
          go_wp2_with fail
          refine HC.out.mono ?_
          rintro en w2 ⟨rfl, lv2, xs2, hE2⟩
          have H2 := Lib.hid hE2
          clear hE2 HC
          by_cases hz : D'.err = 0
          · have HZ := Lib.hid hz
            rw [hz]
            clear hz
            go_wp2_with fail
            exact ⟨⟨i + 1, by omega, by go_num, Lib.hid (by rw [← HD.out.1]; exact ⟨HZ.out, lv2, xs2, H2.out⟩)⟩, by simp [intOf]; omega⟩
          · have HQ : Hid (r = (D'.l, D'.err)) := Lib.hid (by
              have h3 := HD.out.2 hz (k - (i + 1))
              rw [show i + 1 + (k - (i + 1)) = k by omega] at h3
              rw [HF.out, h3, if_neg hz])
            go_wp2_with fail
            (try rw [Exit.noGoto_ret])
            go_ret
            rw [HQ.out]
            exact ⟨rfl, _, _, _, H2.out⟩
        · obtain rfl : i = k := by omega
          rw [← hD] at HF
          obtain ⟨L, n, c, hB, hL⟩ := hE.rd
          have y0 : wr.cell? ⟨g, 0, none⟩ = some (.slice L n c) := hB.cell 0
          have hln := hL.din.len
          have HE := Lib.hid (And.intro hE (And.intro h0 (And.intro hD hln)))
          clear hE hB hL hsn hst hlen hD hD' h0 hln
          by_cases hn : 0 < n
          · have HQ : Hid (r = (D.l, 3)) := Lib.hid (by rw [HF.out, if_pos (by rw [HE.out.2.2.1]; exact HE.out.2.1), if_pos (by have := HE.out.2.2.2; omega)])
            go_wp2_with fail
            go_ret
            rw [HQ.out]
            exact ⟨rfl, _, _, _, HE.out.1⟩
          · have HQ : Hid (r = (D.l, 0)) := Lib.hid (by rw [HF.out, if_pos (by rw [HE.out.2.2.1]; exact HE.out.2.1), if_neg (by have := HE.out.2.2.2; omega)])
            go_wp2_with fail
            go_ret
            rw [HQ.out]
            exact ⟨rfl, _, _, _, HE.out.1⟩
/-- The bytes that bytes are. -/
theorem pre_crel (xs : List B8) : Lib.hasPrefix (Lib.bytesOf (xs.map nb)) (Lib.bytesOf (crelB.map nb)) = decide (xs.take 4 = crelB) := by
  have hinj : ∀ (l m : List B8), Lib.bytesOf (l.map nb) = Lib.bytesOf (m.map nb) → l = m := by
    intro l m h
    unfold Lib.bytesOf at h
    rw [List.map_map, List.map_map] at h
    refine (List.map_inj_right ?_).1 h
    intro a b hab
    have := congrArg UInt8.toNat hab
    simp [nb] at this
    exact BitVec.eq_of_toNat_eq this
  rw [← Lib.bytes_hasPrefix]
  have hl : (crelB.map nb).length = 4 := rfl
  rw [hl, ← List.map_take, List.length_map]
  by_cases h : xs.take 4 = crelB
  · rw [decide_eq_true h, h]
    have : 4 ≤ xs.length := by
      have := congrArg List.length h
      rw [List.length_take] at this
      have h4 : crelB.length = 4 := rfl
      omega
    simp [this]
  · rw [decide_eq_false h]
    have : (Lib.bytesOf ((xs.take 4).map nb) == Lib.bytesOf (crelB.map nb)) = false := by
      rw [beq_eq_false_iff_ne]
      exact fun he => h (hinj _ _ he)
    rw [this, Bool.and_false]
theorem din_crel (w : World) : DIn (w.alloc (.cells #[.int .u8 67, .int .u8 82, .int .u8 69, .int .u8 76] 5 (4, 5))) (some ⟨w.heap.size, 0, none⟩) 4 4 crelB := by
  refine ⟨rfl, Nat.le_refl _, by omega, (fun h => by cases h), fun _ => ⟨_, _, rfl, by simp, fun j u hu => ?_⟩⟩
  rw [Nat.zero_add]
  have := cell_of_row (w.alloc (.cells #[.int .u8 67, .int .u8 82, .int .u8 69, .int .u8 76] 5 (4, 5))) w.heap.size j #[.int .u8 67, .int .u8 82, .int .u8 69, .int .u8 76] 5 (4, 5) (heap_alloc_new w _)
  rw [this]
  rw [show Vb crelB = crel from crel_Vb.symm] at hu
  simpa [crel] using hu
theorem cut_crel (w : World) (A B : Option Addr) (n c d : Nat) (xs : List B8) (h : DIn w A n c xs) (k : DIn w B 4 d crelB) :
    Calls Tryz.prog 13 #[.slice A n c, .slice B 4 d] w fun e w' => w' = w ∧ ((xs.take 4 = crelB ∧ 4 ≤ n ∧ ∃ A', e = .returned (.tuple #[.slice A' (n - 4) (c - 4), .bool true]) ∧ DIn w A' (n - 4) (c - 4) (xs.drop 4) ∧ ∀ F : Nat → Prop, (∀ a, A = some a → F a.block) → ∀ a, A' = some a → F a.block) ∨ (xs.take 4 ≠ crelB ∧ ∃ A' n' c', e = .returned (.tuple #[.slice A' n' c', .bool false]))) := by
  refine (Tryz.bytes_CutPrefix_all A B n c 4 d (xs.map nb) (crelB.map nb) w (by rw [List.length_map, h.len]) rfl h.cap h.bytesIn k.bytesIn).mono ?_
  rintro e w' ⟨rfl, rfl⟩
  refine ⟨rfl, ?_⟩
  rw [pre_crel]
  by_cases hp : xs.take 4 = crelB
  · have h4 : 4 ≤ n := by
      have h1 := congrArg List.length hp
      rw [List.length_take, h.len] at h1
      have h2 : crelB.length = 4 := rfl
      omega
    obtain ⟨g, o, hA, hg, hc⟩ := h.cells (by omega)
    have hd := h.drop (k := 4) h4
    refine .inl ⟨hp, h4, _, ?_, hd, ?_⟩
    · rw [decide_eq_true hp]
      have e1 : Lib.trimPrefixV A n c (xs.map nb) (crelB.map nb) = .slice (if c = 4 then A else Option.map (fun x => x.add 4) A) (n - 4) (c - 4) := by
        subst hA
        show Lib.bytesTrimPrefix g o n c (xs.map nb) (crelB.map nb) = _
        unfold Lib.bytesTrimPrefix
        rw [pre_crel, decide_eq_true hp]
        simp only [if_true]
        unfold Lib.sliceFrom
        rw [show (crelB.map nb).length = 4 from rfl]
        split <;> simp [addr_add]
      rw [e1]
    · exact fun F hF => far_drop hF
  · refine .inr ⟨hp, ?_⟩
    rw [decide_eq_false hp]
    unfold Lib.trimPrefixV
    split
    · unfold Lib.bytesTrimPrefix
      rw [pre_crel, decide_eq_false hp]
      exact ⟨_, _, _, rfl⟩
    · exact ⟨_, _, _, rfl⟩
theorem build_place (W : World) (A : Option Addr) (n c : Nat) : (Instr.build 50 #[(0, .slice A n c)]).run Tryz.prog W = .ok (.agg #[.slice A n c, .bool false]) W := by kernel_rfl
theorem build_rd (W : World) (A : Option Addr) (n c : Nat) : (Instr.build 52 #[(0, .agg #[.slice A n c, .bool false])]).run Tryz.prog W = .ok (.agg #[.slice A n c, .bool false, .slice none 0 0]) W := by kernel_rfl
theorem rd_info : (Tryz.prog.info? 52).map (·.size) = some 3 := by kernel_rfl
theorem decB_by {b : List B8} {r : List En × Int} (hr : arcR ⟨b.drop 4, false⟩ = r) : decB b = if b.take 4 = crelB then (if r.2 = 0 then (r.1, r.1.length, 0) else ([], r.1.length, r.2)) else ([], 0, 3) := by
  unfold decB
  rw [hr]
set_option maxHeartbeats 8000000 in
theorem decode12_any (w : World) (hV : PV w) (hK : Roots Ks w) (A : Option Addr) (n c : Nat) (b : List B8) (h : DIn w A n c b) :
    Calls Tryz.prog 4 #[.slice A n c] w fun e w' => Below w.heap.size w w' ∧ (((decB b).2.2 = 0 ∧ ∃ A' c' xs, e = .returned (.tuple #[.slice A' (decB b).1.length c', .int .i64 ((decB b).2.1 : Nat), .int .i64 0]) ∧ EIn w' A' (decB b).1.length c' xs (decB b).1) ∨
      ((decB b).2.2 ≠ 0 ∧ e = .returned (.tuple #[.slice none 0 0, .int .i64 ((decB b).2.1 : Nat), .int .i64 (decB b).2.2]))) := by
  obtain ⟨r, hr⟩ : ∃ r, arcR ⟨b.drop 4, false⟩ = r := ⟨_, rfl⟩
  have hd := decB_by hr
  obtain ⟨D, hD⟩ : ∃ D, D = decB b := ⟨_, rfl⟩
  rw [← hD] at hd ⊢
  have hcs := conv_const
  have hb1 := pnew w (.cells #[.int .u8 67, .int .u8 82, .int .u8 69, .int .u8 76] 5 (4, 5))
  have HX := Lib.hid (And.intro hr (And.intro hd (And.intro hV hK)))
  have H1 := Lib.hid (And.intro (h.below hb1) (And.intro (din_crel w) (And.intro hb1 h)))
  clear hr hd hD hV hK h hb1
  obtain ⟨w1, hw1⟩ : ∃ w1, w1 = w.alloc (.cells #[.int .u8 67, .int .u8 82, .int .u8 69, .int .u8 76] 5 (4, 5)) := ⟨_, rfl⟩
  rw [← hw1] at H1
  have HW := Lib.hid hw1
  clear hw1
  go_enter Tryz.func4, Tryz.ntmps4
  go_wp2_with fail
  rw [← HW.out]
  refine (cut_crel w1 A (some ⟨w.heap.size, 0, none⟩) n c 4 b H1.out.1 H1.out.2.1).mono ?_
  rintro e w2 ⟨rfl, hc⟩
  rcases hc with ⟨h4, hn4, A', rfl, hd, hf⟩ | ⟨h4, A', n', c', rfl⟩
  · have HF : Hid (D = if r.2 = 0 then (r.1, r.1.length, 0) else ([], r.1.length, r.2)) := Lib.hid (by rw [HX.out.2.1, if_pos h4])
    have hlow : ∀ a, A' = some a → a.block < w.heap.size := hf (fun b => b < w.heap.size) (fun a ha => by
      obtain ⟨g, o, hA, hg, _⟩ := H1.out.2.2.2.cells (by omega)
      rw [hA] at ha
      cases ha
      exact hg)
    have hb3 := pnew w2 (.cells #[.slice A' (n - 4) (c - 4), .bool false, .slice none 0 0] 52)
    have HE : Hid (EntS w.heap.size w (w2.alloc (.cells #[.slice A' (n - 4) (c - 4), .bool false, .slice none 0 0] 52)) w2.heap.size ⟨b.drop 4, false⟩ (.slice none 0 0) (.slice none 0 0) [] []) := Lib.hid
      ⟨⟨A', n - 4, c - 4, Blk.new w2 52 [.slice A' (n - 4) (c - 4), .bool false, .slice none 0 0], hd.below hb3, hlow⟩, World.ownsRow_nil _ _ _ _, rfl, fun i x e hx => by simp at hx, H1.out.2.2.1.trans (hb3.mono H1.out.2.2.1.size)⟩
    have hg := H1.out.2.2.1.size
    clear hd hf h4 hb3 hlow
    go_wp2_with fail
    refine (arch12_any w.heap.size w rfl HX.out.2.2.1 HX.out.2.2.2 _ w2.heap.size hg ⟨b.drop 4, false⟩ _ HE.out).mono ?_
    rw [HX.out.1]
    rintro e w4 ⟨rfl, s', lv', xs', hE4⟩
    obtain ⟨A4, c4, rfl, hI⟩ := ein_own hE4.row hE4.len hE4.ok
    obtain ⟨L, n4, c5, hB, hL⟩ := hE4.rd
    have y2 : w4.cell? ⟨w2.heap.size, 2, none⟩ = some (.slice A4 r.1.length c4) := hB.cell 2
    have H4 := Lib.hid (And.intro hI hE4.b)
    clear hE4 hI hB hL HE
    by_cases hz : r.2 = 0
    · have HG : Hid (D = (r.1, r.1.length, 0)) := Lib.hid (by rw [HF.out, if_pos hz])
      rw [hz]
      clear hz
      go_wp2_with fail
      go_region_held3 (fun w' => w'.cell? ⟨w2.heap.size, 2, none⟩ = some (.slice A4 r.1.length c4)) (first | exact y2) (first | go_in)
      all_goals (go_wp2_with fail)
      go_ret3
      rw [HG.out]
      exact ⟨H4.out.2.trans ((pdrew w4).mono H4.out.2.size), .inl ⟨rfl, A4, c4, xs', rfl, H4.out.1.below (pdrew w4)⟩⟩
    · have HG : Hid (D = ([], r.1.length, r.2) ∧ r.2 ≠ 0) := Lib.hid ⟨by rw [HF.out, if_neg hz], hz⟩
      go_wp2_with fail
      go_region_held3 (fun w' => w'.cell? ⟨w2.heap.size, 2, none⟩ = some (.slice A4 r.1.length c4)) (first | exact y2) (first | go_in)
      all_goals (go_wp2_with fail)
      go_ret3
      rw [HG.out.1]
      exact ⟨H4.out.2.trans ((pdrew w4).mono H4.out.2.size), .inr ⟨HG.out.2, rfl⟩⟩
  · have HF : Hid (D = ([], 0, 3)) := Lib.hid (by rw [HX.out.2.1, if_neg h4])
    clear h4
    go_wp2_with fail
    go_ret3
    rw [HF.out]
    exact ⟨H1.out.2.2.1, .inr ⟨by decide, rfl⟩⟩
end Go.Proofs.YtlpljedacohngaaGreatDoor
end
