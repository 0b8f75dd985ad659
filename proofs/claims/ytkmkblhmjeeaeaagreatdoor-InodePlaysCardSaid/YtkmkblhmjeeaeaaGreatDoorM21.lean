/-
  The law's own: a node of its argument, and whether two nodes are the same. Conditions: the argument's bytes lie in memory.
-/
import Derived.Test.YtkmkblhmjeeaeaaGreatDoorM20
section
set_option linter.unusedSimpArgs false
set_option linter.unusedVariables false
set_option maxRecDepth 100000
namespace Go.Proofs.YtkmkblhmjeeaeaaGreatDoor
open Go.RowKit Go.Maps

/-- Bytes that can be read. -/
structure RdB (w : World) (P : Option Addr) (n : Nat) (data : List B8) : Prop where
  len : data.length = n
  cells : 0 < n → ∃ g off, P = some ⟨g, off, none⟩ ∧ ∀ j u, (Vb data)[j]? = some u → w.cell? ⟨g, off + j, none⟩ = some u
theorem RdB.below {w w' : World} {P : Option Addr} {n : Nat} {data : List B8} (h : RdB w P n data) (hb : Below w.heap.size w w') : RdB w' P n data := by
  refine ⟨h.len, fun hn => ?_⟩
  obtain ⟨g, off, hP, hc⟩ := h.cells hn
  refine ⟨g, off, hP, fun j u hu => ?_⟩
  have h1 := hc j u hu
  exact (hb.cell (p := ⟨g, off + j, none⟩) (World.block_lt_of_cell? w _ h1)).trans h1
theorem RdB.of_txt {w : World} {p : Nat} {P : Option Addr} {n c : Nat} {data : List B8} (h : TxtN w p P n c data) : RdB w P n data := by
  refine ⟨h.txt.len, fun hn => ?_⟩
  obtain ⟨g, o, hP, _, hc⟩ := h.txt.cells hn
  refine ⟨g, o, hP, fun j u hu => ?_⟩
  have hj : j < n := by
    have := (List.getElem?_eq_some_iff.1 hu).1
    rw [Vb_length, h.txt.len] at this
    exact this
  rw [hc j hj]
  unfold Vb at hu
  rw [List.getElem?_map, List.getElem?_eq_getElem (by rw [h.txt.len]; exact hj)] at hu
  rw [List.getD_eq_getElem?_getD, List.getElem?_eq_getElem (by rw [h.txt.len]; exact hj)]
  exact hu
theorem RdB.take {w : World} {P : Option Addr} {n : Nat} {data : List B8} (h : RdB w P n data) (r : Nat) (hr : r ≤ n) : RdB w P r (data.take r) := by
  refine ⟨by rw [List.length_take, h.len]; omega, fun hn => ?_⟩
  obtain ⟨g, off, hP, hc⟩ := h.cells (by omega)
  refine ⟨g, off, hP, fun j u hu => hc j u ?_⟩
  unfold Vb at hu ⊢
  rw [List.map_take, List.getElem?_take] at hu
  split at hu
  · exact hu
  · cases hu
section
variable {ops : Array Oper} {o : Oper} {a : Act} {K : Act → World → Prop} {Q : Exit → Act → World → Prop} {N : Nat} {w : World} {P : Option Addr} {n c : Nat} {data : List B8}
/-- 'append([]byte, x..)' into nothing of one's own. -/
theorem wpList_app_read {rest : List Oper} (hgd : o.guard = none) (s x : Operand) (ho : o.op = .call { callee := .builtin .append, args := #[s, x], argTypes := #[40, 40] }) (p : Nat)
    (hs : a.eval s = .slice (some ⟨p, 0, none⟩) 0 0) (hp : N ≤ p) (hpb : Blk w p 5 []) (hx : a.eval x = .slice P n c) (hb : RdB w P n data) (hn : n ≤ 1000000) (hN : N ≤ w.heap.size)
    (h : ∀ P' c' w', Bts (fun g => N ≤ g) w' (.slice P' n c') data → Kp N (· = 5) [] w w' → wpList Tryz.prog ops Q rest (a.put o.dst (.slice P' n c')) w') : wpList Tryz.prog ops Q (o :: rest) a w := by
  refine wpList_plain hgd fun K hK => ?_
  obtain ⟨i0, i1, i2, i3, i4⟩ := ibyte_info
  have hl := hb.len
  have hown : w.ownsRow N 5 1 (.slice (some ⟨p, 0, none⟩) 0 0) 0 [] := ⟨rfl, .inr ⟨p, 0, #[], rfl, hp, by simpa [Blk] using hpb, Nat.le_refl _, by decide, rfl, rfl⟩⟩
  by_cases h0 : 0 < n
  · obtain ⟨g, off, rfl, hcell⟩ := hb.cells h0
    refine wp_append_lies w s x 40 ho N 5 i0 (.int .u8 0) 1 1 Tryz.underlying40 i1 i2 i3 i4 rfl (by decide) (.slice (some ⟨p, 0, none⟩) 0 0) 0 [] hs hown ⟨g, off, none⟩ n c (Vb data) hx (by rw [Vb_length, hl, Nat.mul_one]) (fun j u hu => by rw [add_off]; exact hcell j u hu) (Vb_oneCell data) h0 (by unfold maxLen; omega) (by omega) hN _ rfl ?_
    intro g' cap w' g1 g2 _ _
    rw [Nat.zero_add] at g1
    rw [Nat.zero_add]
    rw [List.nil_append] at g1
    exact hK _ _ (h _ _ w' (by rw [← hl]; exact Bts.of_own (by rw [hl]; exact g1)) (Kp.of_grown hown g2 hN rfl))
  · obtain rfl : n = 0 := by omega
    have hd : data = [] := List.eq_nil_of_length_eq_zero hl
    have hrun := run_append_nothing (P := Tryz.prog) w 40 40 o.type 5 i0 Tryz.underlying40 i1 (some ⟨p, 0, none⟩) 0 0 (Nat.le_refl _) (.slice P 0 c)
      ⟨.inl ⟨_, Tryz.underlying40⟩, fun w' => by cases P <;> simp [Builtin.lenOf], by cases P <;> simp [Builtin.firstCells, loadCells, loadCellsFrom], by cases P <;> simp [Builtin.firstCells, loadCells, loadCellsFrom], by simp, by simp⟩
    unfold Oper.wp execOp
    simp only [ho, resolve, invoke, builtin, Sem.run_bind, Sem.run_pure, Result.andThen_ok, List.map_toArray, List.map_cons, List.map_nil, hs, hx, hrun]
    refine hK _ _ (h (some ⟨p, 0, none⟩) 0 w ?_ (Kp.refl _ _ _ _))
    subst hd
    exact .inr ⟨p, 0, 0, 5, [], rfl, hp, .inl rfl, hpb, by simp [Vb], Nat.zero_le _, by decide⟩
end

set_option maxHeartbeats 1000000 in
/-- The same stats and bytes. -/
theorem same_any (w : World) {A A' : Nat → Prop} (k m o g : Int) (P P' : Option Addr) (n c c' : Nat) (data : List B8) (h : Bts A w (.slice P n c) data) (h' : Bts A' w (.slice P' n c') data) :
    Calls Tryz.prog 20 #[nodeV k m o g P n c, nodeV k m o g P' n c'] w fun e w' => e = .returned (.bool true) ∧ Below w.heap.size w w' := by
  have hb := below_of (new_below w (.cells #[.int .i64 k, .int .i64 m, .int .i64 o, .int .i64 g, .slice P n c] 42)) (new_below _ (.cells #[.int .i64 k, .int .i64 m, .int .i64 o, .int .i64 g, .slice P' n c'] 42))
  have HE := Lib.hid (equal_bts (h.below hb) (h'.below hb) (b := true) (by simp))
  have HB := Lib.hid hb
  clear h h' hb
  go_enter Tryz.func20, Tryz.ntmps20
  go_wp2_with (go_at_call 45; refine HE.out.mono ?_; rintro e w3 ⟨rfl, rfl⟩)
  go_ret
  exact ⟨rfl, HB.out⟩

/-- An empty slice of bytes of one's own. -/
def emV (b0 : Nat) : Value → World → Prop := fun u w => ∃ p, u = .slice (some ⟨p, 0, none⟩) 0 0 ∧ b0 ≤ p ∧ Blk w p 5 []
theorem emV.st (b0 : Nat) : StV (emV b0) := fun _ _ _ ⟨p, h1, h2, h3⟩ hb => ⟨p, h1, h2, h3.below hb h3.lt⟩

set_option maxRecDepth 100000 in
set_option maxHeartbeats 4000000 in
theorem to7_some (w : World) (k m o g : Int) (ga oa n c : Nat) (data : List B8) (hrd : RdB w (some ⟨ga, oa, none⟩) n data) (hnc : n ≤ c) (hc : c ≤ 9223372036854775807) :
    Calls Tryz.prog 16 #[nodeV k m o g (some ⟨ga, oa, none⟩) n c] w fun e w' => ∃ P' r c', e = .returned (nodeV k m o g P' r c') ∧ Bts (fun q => w.heap.size ≤ q) w' (.slice P' r c') (data.take 600) ∧ Below w.heap.size w w' := by
  obtain ⟨r, hr⟩ : ∃ r, min n 600 = r := ⟨_, rfl⟩
  have hmin : min (n : Int) 600 = (r : Int) := by omega
  have hrn : r ≤ n := by omega
  have hrc : r ≤ c := by omega
  have hr6 : r ≤ 600 := by omega
  have htk : data.take r = data.take 600 := by
    rw [← hr]
    by_cases h : n ≤ 600
    · rw [Nat.min_eq_left h, List.take_of_length_le (by rw [hrd.len]; exact Nat.le_refl _), List.take_of_length_le (by rw [hrd.len]; exact h)]
    · rw [Nat.min_eq_right (by omega)]
  have HT := Lib.hid htk
  clear hr htk
  have hb := below_of (new_below w (.cells #[.int .i64 k, .int .i64 m, .int .i64 o, .int .i64 g, .slice (some ⟨ga, oa, none⟩) n c] 53)) (new_below _ (.cells #[.int .i64 0, .int .i64 0, .int .i64 0, .int .i64 0, .slice none 0 0] 42))
  have hk0 := (Blk.new w 53 [.int .i64 k, .int .i64 m, .int .i64 o, .int .i64 g, .slice (some ⟨ga, oa, none⟩) n c]).alloc (.cells #[.int .i64 0, .int .i64 0, .int .i64 0, .int .i64 0, .slice none 0 0] 42)
  have hk1 := Blk.new (w.alloc (.cells #[.int .i64 k, .int .i64 m, .int .i64 o, .int .i64 g, .slice (some ⟨ga, oa, none⟩) n c] 53)) 42 [.int .i64 0, .int .i64 0, .int .i64 0, .int .i64 0, .slice none 0 0]
  rw [World.size_alloc] at hk1
  have y4 : ((w.alloc (.cells #[.int .i64 k, .int .i64 m, .int .i64 o, .int .i64 g, .slice (some ⟨ga, oa, none⟩) n c] 53)).alloc (.cells #[.int .i64 0, .int .i64 0, .int .i64 0, .int .i64 0, .slice none 0 0] 42)).cell? ⟨w.heap.size, 4, none⟩ = some (.slice (some ⟨ga, oa, none⟩) n c) := hk0.cell 4
  have H0 := Lib.hid (And.intro hb (And.intro hk0 (And.intro hk1 ((hrd.below hb).take r (by omega)))))
  clear hb hk0 hk1 hrd
  go_enter Tryz.func16, Tryz.ntmps16
  go_wp2_with fail
  refine wp_hideQ ?_
  intro QQ hQQ
  refine wp_region_tail [some 3, some 4, some 5, some 6, some 7, some 8, some 9, some 10, some 11, some 12, some 13, some 14, some 15, none] (LV [isV (.pointer (some ⟨w.heap.size, 0, none⟩)), isV (stv k m o g), isV (stv k m o g), emV w.heap.size, isV (.pointer (some ⟨w.heap.size, 4, none⟩)), isV (.slice (some ⟨ga, oa, none⟩) n c), isV (.pointer (some ⟨w.heap.size, 4, none⟩)), isV (.slice (some ⟨ga, oa, none⟩) n c), isV (.int .i64 ((n : Nat) : Int)), isV (.int .i64 ((r : Nat) : Int)), isV (.slice (some ⟨ga, oa, none⟩) r c)]) (fun wx => Below ((w.alloc (.cells #[.int .i64 k, .int .i64 m, .int .i64 o, .int .i64 g, .slice (some ⟨ga, oa, none⟩) n c] 53)).alloc (.cells #[.int .i64 0, .int .i64 0, .int .i64 0, .int .i64 0, .slice none 0 0] 42)).heap.size ((w.alloc (.cells #[.int .i64 k, .int .i64 m, .int .i64 o, .int .i64 g, .slice (some ⟨ga, oa, none⟩) n c] 53)).alloc (.cells #[.int .i64 0, .int .i64 0, .int .i64 0, .int .i64 0, .slice none 0 0] 42)) wx) (fun _ a b => Below a.heap.size a b) 11 14 (by kernel_rfl) rfl (by omega) rfl (by kernel_rfl) (by kernel_rfl) (by kernel_rfl) (drew_below _) LV.loc (LV.st (by simp [isV.st, emV.st])) ?_ ?_
  · intro i' hi'
    match i', hi' with
    | 0, _ =>
      refine StepL.of rfl [] (by decide +kernel) ?_
      intro v wx hR hdp K hK
      clear hdp
      simp only [List.getElem_toArray, List.getElem_cons_zero, List.getElem_cons_succ, fillR, Act.put, List.setIfInBounds_toArray, List.set_cons_zero, List.set_cons_succ] at hK ⊢
      go_simp
      exact hK.out _ _ hR (Below.refl _ _) rfl
    | 1, _ =>
      refine StepL.of rfl [0] (by decide +kernel) ?_
      intro v wx hR hdp K hK
      have h0 : v 0 = _ := hdp 0 (by simp)
      have hbx := H0.out.2.1.below hR H0.out.2.1.lt
      clear hdp
      simp only [List.getElem_toArray, List.getElem_cons_zero, List.getElem_cons_succ, fillR, Act.put, List.setIfInBounds_toArray, List.set_cons_zero, List.set_cons_succ, h0] at hK ⊢
      rw [if_pos (by rfl)]
      refine wp_load_mid 51 (.tmp 3) rfl w.heap.size 0 rfl (sts k m o g) _ (fun j u hu => ?_) Tryz.underlying51 rfl (by kernel_rfl) ?_
      · rw [Nat.zero_add, Blk.cell hbx]
        match j, hu with
        | 0, hu => exact hu
        | 1, hu => exact hu
        | 2, hu => exact hu
        | 3, hu => exact hu
        | j + 4, hu => simp [sts] at hu
      · exact hK.out _ _ hR (Below.refl _ _) rfl
    | 2, _ =>
      refine StepL.of rfl [1] (by decide +kernel) ?_
      intro v wx hR hdp K hK
      have h1 : v 1 = _ := hdp 1 (by simp)
      clear hdp
      simp only [List.getElem_toArray, List.getElem_cons_zero, List.getElem_cons_succ, fillR, Act.put, List.setIfInBounds_toArray, List.set_cons_zero, List.set_cons_succ, h1] at hK ⊢
      go_simp
      refine (mto_any _ k m o g).mono ?_
      rintro e w' ⟨rfl, hW⟩
      have hq' := hK.out (stv k m o g) w' (hR.trans (hW.mono hR.size)) hW rfl
      clear hK hW
      go_wp2_with fail
      exact hq'
    | 3, _ =>
      refine StepL.of rfl [] (by decide +kernel) ?_
      intro v wx hR hdp K hK
      have hn := Blk.new wx 5 []
      have hnb := new_below wx (.cells #[] 5)
      have HV := Lib.hid (And.intro hn hnb)
      clear hn hnb
      clear hdp
      simp only [List.getElem_toArray, List.getElem_cons_zero, List.getElem_cons_succ, fillR, Act.put, List.setIfInBounds_toArray, List.set_cons_zero, List.set_cons_succ] at hK ⊢
      go_simp
      exact hK.out _ _ (hR.trans (HV.out.2.mono hR.size)) HV.out.2 ⟨_, rfl, by have := hR.size; simp at this; omega, HV.out.1⟩
    | 4, _ =>
      refine StepL.of rfl [] (by decide +kernel) ?_
      intro v wx hR hdp K hK
      clear hdp
      simp only [List.getElem_toArray, List.getElem_cons_zero, List.getElem_cons_succ, fillR, Act.put, List.setIfInBounds_toArray, List.set_cons_zero, List.set_cons_succ] at hK ⊢
      go_simp
      exact hK.out _ _ hR (Below.refl _ _) rfl
    | 5, _ =>
      refine StepL.of rfl [4] (by decide +kernel) ?_
      intro v wx hR hdp K hK
      have h4 : v 4 = _ := hdp 4 (by simp)
      have b0 := cell_below y4 hR
      clear hdp
      simp only [List.getElem_toArray, List.getElem_cons_zero, List.getElem_cons_succ, fillR, Act.put, List.setIfInBounds_toArray, List.set_cons_zero, List.set_cons_succ, h4] at hK ⊢
      go_simp
      exact hK.out _ _ hR (Below.refl _ _) rfl
    | 6, _ =>
      refine StepL.of rfl [] (by decide +kernel) ?_
      intro v wx hR hdp K hK
      clear hdp
      simp only [List.getElem_toArray, List.getElem_cons_zero, List.getElem_cons_succ, fillR, Act.put, List.setIfInBounds_toArray, List.set_cons_zero, List.set_cons_succ] at hK ⊢
      go_simp
      exact hK.out _ _ hR (Below.refl _ _) rfl
    | 7, _ =>
      refine StepL.of rfl [6] (by decide +kernel) ?_
      intro v wx hR hdp K hK
      have h6 : v 6 = _ := hdp 6 (by simp)
      have b0 := cell_below y4 hR
      clear hdp
      simp only [List.getElem_toArray, List.getElem_cons_zero, List.getElem_cons_succ, fillR, Act.put, List.setIfInBounds_toArray, List.set_cons_zero, List.set_cons_succ, h6] at hK ⊢
      go_simp
      exact hK.out _ _ hR (Below.refl _ _) rfl
    | 8, _ =>
      refine StepL.of rfl [7] (by decide +kernel) ?_
      intro v wx hR hdp K hK
      have h7 : v 7 = _ := hdp 7 (by simp)
      clear hdp
      simp only [List.getElem_toArray, List.getElem_cons_zero, List.getElem_cons_succ, fillR, Act.put, List.setIfInBounds_toArray, List.set_cons_zero, List.set_cons_succ, h7] at hK ⊢
      go_simp
      exact hK.out _ _ hR (Below.refl _ _) rfl
    | 9, _ =>
      refine StepL.of rfl [8] (by decide +kernel) ?_
      intro v wx hR hdp K hK
      have h8 : v 8 = _ := hdp 8 (by simp)
      clear hdp
      simp only [List.getElem_toArray, List.getElem_cons_zero, List.getElem_cons_succ, fillR, Act.put, List.setIfInBounds_toArray, List.set_cons_zero, List.set_cons_succ, h8] at hK ⊢
      go_simp
      exact hK.out _ _ hR (Below.refl _ _) rfl
    | 10, _ =>
      refine StepL.of rfl [5, 9] (by decide +kernel) ?_
      intro v wx hR hdp K hK
      have h5 : v 5 = _ := hdp 5 (by simp)
      have h9 : v 9 = _ := hdp 9 (by simp)
      clear hdp
      simp only [List.getElem_toArray, List.getElem_cons_zero, List.getElem_cons_succ, fillR, Act.put, List.setIfInBounds_toArray, List.set_cons_zero, List.set_cons_succ, h5, h9] at hK ⊢
      go_simp
      exact hK.out _ _ hR (Below.refl _ _) rfl
    | i' + 11, h => omega
  · intro v wx hR hV
    have h2 : v 2 = _ := hV 2 (by omega)
    have h10 : v 10 = _ := hV 10 (by omega)
    obtain ⟨p, h3, hp, hB⟩ : emV w.heap.size (v 3) wx := hV 3 (by omega)
    have hszx := hR.size
    simp at hszx
    have HV := Lib.hid (And.intro hB (And.intro (H0.out.2.2.2.below hR) (And.intro (H0.out.2.2.1.below hR H0.out.2.2.1.lt) (below_of H0.out.1 hR))))
    clear hV hR hB
    simp only [fillR, Act.put, List.setIfInBounds_toArray, List.set_cons_zero, List.set_cons_succ, h2, h3, h10, List.drop_succ_cons, List.drop_zero]
    have hszw : w.heap.size ≤ wx.heap.size := by omega
    go_wp2_with (first
      | (at_builtin; refine wpList_app_read (N := w.heap.size) rfl (.tmp 6) (.tmp 13) rfl p rfl hp HV.out.1 rfl HV.out.2.1 (by omega) hszw ?_; intro P' c' w8 hBt hk8; have hz8 := hk8.keep _ _ _ (by decide) (by simp) HV.out.2.2.1; have H8 := Lib.hid (And.intro hBt (And.intro hk8.below hz8)); clear hBt hk8 hz8)
      | (refine wpList_store_blk rfl 42 (.tmp 2) (.tmp 15) rfl (w.heap.size + 1) 0 [.int .i64 k, .int .i64 m, .int .i64 o, .int .i64 g, .slice P' r c'] rfl rfl H8.out.2.2 (by simp) node_size (node_cells _ _ _ _ _ _ _) ?_; intro w9 hA9 hO9)
      | go_in)
    rw [over_whole (by simp)] at hA9
    obtain ⟨d0, d1, d2, d3, d4⟩ := five_cells hA9
    have hb9 := hO9.below (B := w.heap.size) (by have := H8.out.2.1.size; omega) (by simp)
    have hbt := H8.out.1
    rw [HT.out] at hbt
    have hbt9 : Bts (fun q => w.heap.size ≤ q) w9 (.slice P' r c') (data.take 600) := by
      rcases hbt with h | ⟨g', o', cap, t, cs, e, hg', hn, hb, hx, h1, h2⟩
      · exact .inl h
      · refine .inr ⟨g', o', cap, t, cs, e, hg', hn, hb.only hO9 (fun hm => ?_), hx, h1, h2⟩
        simp only [List.mem_singleton] at hm
        subst hm
        have := (hb.same H8.out.2.2).1
        subst this
        exact hn.ne (by decide) (by decide) rfl
    have hbw := HV.out.2.2.2
    refine bodyPost_ret (v := nodeV k m o g P' r c') (by simp [results, Tryz.results16, go_sem, d0, d1, d2, d3, d4]) rfl ⟨P', r, c', rfl, hbt9, (hbw.trans H8.out.2.1).trans hb9⟩

set_option maxRecDepth 100000 in
set_option maxHeartbeats 4000000 in
theorem to7_none (w : World) (k m o g : Int) (data : List B8) (hrd : RdB w none 0 data) :
    Calls Tryz.prog 16 #[nodeV k m o g none 0 0] w fun e w' => ∃ P' r c', e = .returned (nodeV k m o g P' r c') ∧ Bts (fun q => w.heap.size ≤ q) w' (.slice P' r c') (data.take 600) ∧ Below w.heap.size w w' := by
  have hmin : min (0 : Int) 600 = 0 := by omega
  have htk : data.take 0 = data.take 600 := by
    have := List.eq_nil_of_length_eq_zero hrd.len
    subst this
    rfl
  have HT := Lib.hid htk
  clear htk
  have hb := below_of (new_below w (.cells #[.int .i64 k, .int .i64 m, .int .i64 o, .int .i64 g, .slice none 0 0] 53)) (new_below _ (.cells #[.int .i64 0, .int .i64 0, .int .i64 0, .int .i64 0, .slice none 0 0] 42))
  have hk0 := (Blk.new w 53 [.int .i64 k, .int .i64 m, .int .i64 o, .int .i64 g, .slice none 0 0]).alloc (.cells #[.int .i64 0, .int .i64 0, .int .i64 0, .int .i64 0, .slice none 0 0] 42)
  have hk1 := Blk.new (w.alloc (.cells #[.int .i64 k, .int .i64 m, .int .i64 o, .int .i64 g, .slice none 0 0] 53)) 42 [.int .i64 0, .int .i64 0, .int .i64 0, .int .i64 0, .slice none 0 0]
  rw [World.size_alloc] at hk1
  have y4 : ((w.alloc (.cells #[.int .i64 k, .int .i64 m, .int .i64 o, .int .i64 g, .slice none 0 0] 53)).alloc (.cells #[.int .i64 0, .int .i64 0, .int .i64 0, .int .i64 0, .slice none 0 0] 42)).cell? ⟨w.heap.size, 4, none⟩ = some (.slice none 0 0) := hk0.cell 4
  have H0 := Lib.hid (And.intro hb (And.intro hk0 (And.intro hk1 ((hrd.below hb).take 0 (by omega)))))
  clear hb hk0 hk1 hrd
  go_enter Tryz.func16, Tryz.ntmps16
  go_wp2_with fail
  refine wp_hideQ ?_
  intro QQ hQQ
  refine wp_region_tail [some 3, some 4, some 5, some 6, some 7, some 8, some 9, some 10, some 11, some 12, some 13, some 14, some 15, none] (LV [isV (.pointer (some ⟨w.heap.size, 0, none⟩)), isV (stv k m o g), isV (stv k m o g), emV w.heap.size, isV (.pointer (some ⟨w.heap.size, 4, none⟩)), isV (.slice none 0 0), isV (.pointer (some ⟨w.heap.size, 4, none⟩)), isV (.slice none 0 0), isV (.int .i64 ((0 : Nat) : Int)), isV (.int .i64 ((0 : Nat) : Int)), isV (.slice none 0 0)]) (fun wx => Below ((w.alloc (.cells #[.int .i64 k, .int .i64 m, .int .i64 o, .int .i64 g, .slice none 0 0] 53)).alloc (.cells #[.int .i64 0, .int .i64 0, .int .i64 0, .int .i64 0, .slice none 0 0] 42)).heap.size ((w.alloc (.cells #[.int .i64 k, .int .i64 m, .int .i64 o, .int .i64 g, .slice none 0 0] 53)).alloc (.cells #[.int .i64 0, .int .i64 0, .int .i64 0, .int .i64 0, .slice none 0 0] 42)) wx) (fun _ a b => Below a.heap.size a b) 11 14 (by kernel_rfl) rfl (by omega) rfl (by kernel_rfl) (by kernel_rfl) (by kernel_rfl) (drew_below _) LV.loc (LV.st (by simp [isV.st, emV.st])) ?_ ?_
  · intro i' hi'
    match i', hi' with
    | 0, _ =>
      refine StepL.of rfl [] (by decide +kernel) ?_
      intro v wx hR hdp K hK
      clear hdp
      simp only [List.getElem_toArray, List.getElem_cons_zero, List.getElem_cons_succ, fillR, Act.put, List.setIfInBounds_toArray, List.set_cons_zero, List.set_cons_succ] at hK ⊢
      go_simp
      exact hK.out _ _ hR (Below.refl _ _) rfl
    | 1, _ =>
      refine StepL.of rfl [0] (by decide +kernel) ?_
      intro v wx hR hdp K hK
      have h0 : v 0 = _ := hdp 0 (by simp)
      have hbx := H0.out.2.1.below hR H0.out.2.1.lt
      clear hdp
      simp only [List.getElem_toArray, List.getElem_cons_zero, List.getElem_cons_succ, fillR, Act.put, List.setIfInBounds_toArray, List.set_cons_zero, List.set_cons_succ, h0] at hK ⊢
      rw [if_pos (by rfl)]
      refine wp_load_mid 51 (.tmp 3) rfl w.heap.size 0 rfl (sts k m o g) _ (fun j u hu => ?_) Tryz.underlying51 rfl (by kernel_rfl) ?_
      · rw [Nat.zero_add, Blk.cell hbx]
        match j, hu with
        | 0, hu => exact hu
        | 1, hu => exact hu
        | 2, hu => exact hu
        | 3, hu => exact hu
        | j + 4, hu => simp [sts] at hu
      · exact hK.out _ _ hR (Below.refl _ _) rfl
    | 2, _ =>
      refine StepL.of rfl [1] (by decide +kernel) ?_
      intro v wx hR hdp K hK
      have h1 : v 1 = _ := hdp 1 (by simp)
      clear hdp
      simp only [List.getElem_toArray, List.getElem_cons_zero, List.getElem_cons_succ, fillR, Act.put, List.setIfInBounds_toArray, List.set_cons_zero, List.set_cons_succ, h1] at hK ⊢
      go_simp
      refine (mto_any _ k m o g).mono ?_
      rintro e w' ⟨rfl, hW⟩
      have hq' := hK.out (stv k m o g) w' (hR.trans (hW.mono hR.size)) hW rfl
      clear hK hW
      go_wp2_with fail
      exact hq'
    | 3, _ =>
      refine StepL.of rfl [] (by decide +kernel) ?_
      intro v wx hR hdp K hK
      have hn := Blk.new wx 5 []
      have hnb := new_below wx (.cells #[] 5)
      have HV := Lib.hid (And.intro hn hnb)
      clear hn hnb
      clear hdp
      simp only [List.getElem_toArray, List.getElem_cons_zero, List.getElem_cons_succ, fillR, Act.put, List.setIfInBounds_toArray, List.set_cons_zero, List.set_cons_succ] at hK ⊢
      go_simp
      exact hK.out _ _ (hR.trans (HV.out.2.mono hR.size)) HV.out.2 ⟨_, rfl, by have := hR.size; simp at this; omega, HV.out.1⟩
    | 4, _ =>
      refine StepL.of rfl [] (by decide +kernel) ?_
      intro v wx hR hdp K hK
      clear hdp
      simp only [List.getElem_toArray, List.getElem_cons_zero, List.getElem_cons_succ, fillR, Act.put, List.setIfInBounds_toArray, List.set_cons_zero, List.set_cons_succ] at hK ⊢
      go_simp
      exact hK.out _ _ hR (Below.refl _ _) rfl
    | 5, _ =>
      refine StepL.of rfl [4] (by decide +kernel) ?_
      intro v wx hR hdp K hK
      have h4 : v 4 = _ := hdp 4 (by simp)
      have b0 := cell_below y4 hR
      clear hdp
      simp only [List.getElem_toArray, List.getElem_cons_zero, List.getElem_cons_succ, fillR, Act.put, List.setIfInBounds_toArray, List.set_cons_zero, List.set_cons_succ, h4] at hK ⊢
      go_simp
      exact hK.out _ _ hR (Below.refl _ _) rfl
    | 6, _ =>
      refine StepL.of rfl [] (by decide +kernel) ?_
      intro v wx hR hdp K hK
      clear hdp
      simp only [List.getElem_toArray, List.getElem_cons_zero, List.getElem_cons_succ, fillR, Act.put, List.setIfInBounds_toArray, List.set_cons_zero, List.set_cons_succ] at hK ⊢
      go_simp
      exact hK.out _ _ hR (Below.refl _ _) rfl
    | 7, _ =>
      refine StepL.of rfl [6] (by decide +kernel) ?_
      intro v wx hR hdp K hK
      have h6 : v 6 = _ := hdp 6 (by simp)
      have b0 := cell_below y4 hR
      clear hdp
      simp only [List.getElem_toArray, List.getElem_cons_zero, List.getElem_cons_succ, fillR, Act.put, List.setIfInBounds_toArray, List.set_cons_zero, List.set_cons_succ, h6] at hK ⊢
      go_simp
      exact hK.out _ _ hR (Below.refl _ _) rfl
    | 8, _ =>
      refine StepL.of rfl [7] (by decide +kernel) ?_
      intro v wx hR hdp K hK
      have h7 : v 7 = _ := hdp 7 (by simp)
      clear hdp
      simp only [List.getElem_toArray, List.getElem_cons_zero, List.getElem_cons_succ, fillR, Act.put, List.setIfInBounds_toArray, List.set_cons_zero, List.set_cons_succ, h7] at hK ⊢
      go_simp
      exact hK.out _ _ hR (Below.refl _ _) rfl
    | 9, _ =>
      refine StepL.of rfl [8] (by decide +kernel) ?_
      intro v wx hR hdp K hK
      have h8 : v 8 = _ := hdp 8 (by simp)
      clear hdp
      simp only [List.getElem_toArray, List.getElem_cons_zero, List.getElem_cons_succ, fillR, Act.put, List.setIfInBounds_toArray, List.set_cons_zero, List.set_cons_succ, h8] at hK ⊢
      go_simp
      exact hK.out _ _ hR (Below.refl _ _) rfl
    | 10, _ =>
      refine StepL.of rfl [5, 9] (by decide +kernel) ?_
      intro v wx hR hdp K hK
      have h5 : v 5 = _ := hdp 5 (by simp)
      have h9 : v 9 = _ := hdp 9 (by simp)
      clear hdp
      simp only [List.getElem_toArray, List.getElem_cons_zero, List.getElem_cons_succ, fillR, Act.put, List.setIfInBounds_toArray, List.set_cons_zero, List.set_cons_succ, h5, h9] at hK ⊢
      go_simp
      exact hK.out _ _ hR (Below.refl _ _) rfl
    | i' + 11, h => omega
  · intro v wx hR hV
    have h2 : v 2 = _ := hV 2 (by omega)
    have h10 : v 10 = _ := hV 10 (by omega)
    obtain ⟨p, h3, hp, hB⟩ : emV w.heap.size (v 3) wx := hV 3 (by omega)
    have hszx := hR.size
    simp at hszx
    have HV := Lib.hid (And.intro hB (And.intro (H0.out.2.2.2.below hR) (And.intro (H0.out.2.2.1.below hR H0.out.2.2.1.lt) (below_of H0.out.1 hR))))
    clear hV hR hB
    simp only [fillR, Act.put, List.setIfInBounds_toArray, List.set_cons_zero, List.set_cons_succ, h2, h3, h10, List.drop_succ_cons, List.drop_zero]
    have hszw : w.heap.size ≤ wx.heap.size := by omega
    go_wp2_with (first
      | (at_builtin; refine wpList_app_read (N := w.heap.size) rfl (.tmp 6) (.tmp 13) rfl p rfl hp HV.out.1 rfl HV.out.2.1 (by omega) hszw ?_; intro P' c' w8 hBt hk8; have hz8 := hk8.keep _ _ _ (by decide) (by simp) HV.out.2.2.1; have H8 := Lib.hid (And.intro hBt (And.intro hk8.below hz8)); clear hBt hk8 hz8)
      | (refine wpList_store_blk rfl 42 (.tmp 2) (.tmp 15) rfl (w.heap.size + 1) 0 [.int .i64 k, .int .i64 m, .int .i64 o, .int .i64 g, .slice P' 0 c'] rfl rfl H8.out.2.2 (by simp) node_size (node_cells _ _ _ _ _ _ _) ?_; intro w9 hA9 hO9)
      | go_in)
    rw [over_whole (by simp)] at hA9
    obtain ⟨d0, d1, d2, d3, d4⟩ := five_cells hA9
    have hb9 := hO9.below (B := w.heap.size) (by have := H8.out.2.1.size; omega) (by simp)
    have hbt := H8.out.1
    rw [HT.out] at hbt
    have hbt9 : Bts (fun q => w.heap.size ≤ q) w9 (.slice P' 0 c') (data.take 600) := by
      rcases hbt with h | ⟨g', o', cap, t, cs, e, hg', hn, hb, hx, h1, h2⟩
      · exact .inl h
      · refine .inr ⟨g', o', cap, t, cs, e, hg', hn, hb.only hO9 (fun hm => ?_), hx, h1, h2⟩
        simp only [List.mem_singleton] at hm
        subst hm
        have := (hb.same H8.out.2.2).1
        subst this
        exact hn.ne (by decide) (by decide) rfl
    have hbw := HV.out.2.2.2
    refine bodyPost_ret (v := nodeV k m o g P' 0 c') (by simp [results, Tryz.results16, go_sem, d0, d1, d2, d3, d4]) rfl ⟨P', 0, c', rfl, hbt9, (hbw.trans H8.out.2.1).trans hb9⟩

set_option maxRecDepth 100000 in
set_option maxHeartbeats 4000000 in
theorem to7_zero (w : World) (k m o g : Int) (pa : Addr) (c : Nat) (data : List B8) (hrd : RdB w (some pa) 0 data) (hc : c ≤ 9223372036854775807) :
    Calls Tryz.prog 16 #[nodeV k m o g (some pa) 0 c] w fun e w' => ∃ P' r c', e = .returned (nodeV k m o g P' r c') ∧ Bts (fun q => w.heap.size ≤ q) w' (.slice P' r c') (data.take 600) ∧ Below w.heap.size w w' := by
  have hmin : min (0 : Int) 600 = 0 := by omega
  have htk : data.take 0 = data.take 600 := by
    have := List.eq_nil_of_length_eq_zero hrd.len
    subst this
    rfl
  have HT := Lib.hid htk
  clear htk
  have hb := below_of (new_below w (.cells #[.int .i64 k, .int .i64 m, .int .i64 o, .int .i64 g, .slice (some pa) 0 c] 53)) (new_below _ (.cells #[.int .i64 0, .int .i64 0, .int .i64 0, .int .i64 0, .slice none 0 0] 42))
  have hk0 := (Blk.new w 53 [.int .i64 k, .int .i64 m, .int .i64 o, .int .i64 g, .slice (some pa) 0 c]).alloc (.cells #[.int .i64 0, .int .i64 0, .int .i64 0, .int .i64 0, .slice none 0 0] 42)
  have hk1 := Blk.new (w.alloc (.cells #[.int .i64 k, .int .i64 m, .int .i64 o, .int .i64 g, .slice (some pa) 0 c] 53)) 42 [.int .i64 0, .int .i64 0, .int .i64 0, .int .i64 0, .slice none 0 0]
  rw [World.size_alloc] at hk1
  have y4 : ((w.alloc (.cells #[.int .i64 k, .int .i64 m, .int .i64 o, .int .i64 g, .slice (some pa) 0 c] 53)).alloc (.cells #[.int .i64 0, .int .i64 0, .int .i64 0, .int .i64 0, .slice none 0 0] 42)).cell? ⟨w.heap.size, 4, none⟩ = some (.slice (some pa) 0 c) := hk0.cell 4
  have H0 := Lib.hid (And.intro hb (And.intro hk0 (And.intro hk1 ((hrd.below hb).take 0 (by omega)))))
  clear hb hk0 hk1 hrd
  go_enter Tryz.func16, Tryz.ntmps16
  go_wp2_with fail
  refine wp_hideQ ?_
  intro QQ hQQ
  refine wp_region_tail [some 3, some 4, some 5, some 6, some 7, some 8, some 9, some 10, some 11, some 12, some 13, some 14, some 15, none] (LV [isV (.pointer (some ⟨w.heap.size, 0, none⟩)), isV (stv k m o g), isV (stv k m o g), emV w.heap.size, isV (.pointer (some ⟨w.heap.size, 4, none⟩)), isV (.slice (some pa) 0 c), isV (.pointer (some ⟨w.heap.size, 4, none⟩)), isV (.slice (some pa) 0 c), isV (.int .i64 ((0 : Nat) : Int)), isV (.int .i64 ((0 : Nat) : Int)), isV (.slice (some pa) 0 c)]) (fun wx => Below ((w.alloc (.cells #[.int .i64 k, .int .i64 m, .int .i64 o, .int .i64 g, .slice (some pa) 0 c] 53)).alloc (.cells #[.int .i64 0, .int .i64 0, .int .i64 0, .int .i64 0, .slice none 0 0] 42)).heap.size ((w.alloc (.cells #[.int .i64 k, .int .i64 m, .int .i64 o, .int .i64 g, .slice (some pa) 0 c] 53)).alloc (.cells #[.int .i64 0, .int .i64 0, .int .i64 0, .int .i64 0, .slice none 0 0] 42)) wx) (fun _ a b => Below a.heap.size a b) 11 14 (by kernel_rfl) rfl (by omega) rfl (by kernel_rfl) (by kernel_rfl) (by kernel_rfl) (drew_below _) LV.loc (LV.st (by simp [isV.st, emV.st])) ?_ ?_
  · intro i' hi'
    match i', hi' with
    | 0, _ =>
      refine StepL.of rfl [] (by decide +kernel) ?_
      intro v wx hR hdp K hK
      clear hdp
      simp only [List.getElem_toArray, List.getElem_cons_zero, List.getElem_cons_succ, fillR, Act.put, List.setIfInBounds_toArray, List.set_cons_zero, List.set_cons_succ] at hK ⊢
      go_simp
      exact hK.out _ _ hR (Below.refl _ _) rfl
    | 1, _ =>
      refine StepL.of rfl [0] (by decide +kernel) ?_
      intro v wx hR hdp K hK
      have h0 : v 0 = _ := hdp 0 (by simp)
      have hbx := H0.out.2.1.below hR H0.out.2.1.lt
      clear hdp
      simp only [List.getElem_toArray, List.getElem_cons_zero, List.getElem_cons_succ, fillR, Act.put, List.setIfInBounds_toArray, List.set_cons_zero, List.set_cons_succ, h0] at hK ⊢
      rw [if_pos (by rfl)]
      refine wp_load_mid 51 (.tmp 3) rfl w.heap.size 0 rfl (sts k m o g) _ (fun j u hu => ?_) Tryz.underlying51 rfl (by kernel_rfl) ?_
      · rw [Nat.zero_add, Blk.cell hbx]
        match j, hu with
        | 0, hu => exact hu
        | 1, hu => exact hu
        | 2, hu => exact hu
        | 3, hu => exact hu
        | j + 4, hu => simp [sts] at hu
      · exact hK.out _ _ hR (Below.refl _ _) rfl
    | 2, _ =>
      refine StepL.of rfl [1] (by decide +kernel) ?_
      intro v wx hR hdp K hK
      have h1 : v 1 = _ := hdp 1 (by simp)
      clear hdp
      simp only [List.getElem_toArray, List.getElem_cons_zero, List.getElem_cons_succ, fillR, Act.put, List.setIfInBounds_toArray, List.set_cons_zero, List.set_cons_succ, h1] at hK ⊢
      go_simp
      refine (mto_any _ k m o g).mono ?_
      rintro e w' ⟨rfl, hW⟩
      have hq' := hK.out (stv k m o g) w' (hR.trans (hW.mono hR.size)) hW rfl
      clear hK hW
      go_wp2_with fail
      exact hq'
    | 3, _ =>
      refine StepL.of rfl [] (by decide +kernel) ?_
      intro v wx hR hdp K hK
      have hn := Blk.new wx 5 []
      have hnb := new_below wx (.cells #[] 5)
      have HV := Lib.hid (And.intro hn hnb)
      clear hn hnb
      clear hdp
      simp only [List.getElem_toArray, List.getElem_cons_zero, List.getElem_cons_succ, fillR, Act.put, List.setIfInBounds_toArray, List.set_cons_zero, List.set_cons_succ] at hK ⊢
      go_simp
      exact hK.out _ _ (hR.trans (HV.out.2.mono hR.size)) HV.out.2 ⟨_, rfl, by have := hR.size; simp at this; omega, HV.out.1⟩
    | 4, _ =>
      refine StepL.of rfl [] (by decide +kernel) ?_
      intro v wx hR hdp K hK
      clear hdp
      simp only [List.getElem_toArray, List.getElem_cons_zero, List.getElem_cons_succ, fillR, Act.put, List.setIfInBounds_toArray, List.set_cons_zero, List.set_cons_succ] at hK ⊢
      go_simp
      exact hK.out _ _ hR (Below.refl _ _) rfl
    | 5, _ =>
      refine StepL.of rfl [4] (by decide +kernel) ?_
      intro v wx hR hdp K hK
      have h4 : v 4 = _ := hdp 4 (by simp)
      have b0 := cell_below y4 hR
      clear hdp
      simp only [List.getElem_toArray, List.getElem_cons_zero, List.getElem_cons_succ, fillR, Act.put, List.setIfInBounds_toArray, List.set_cons_zero, List.set_cons_succ, h4] at hK ⊢
      go_simp
      exact hK.out _ _ hR (Below.refl _ _) rfl
    | 6, _ =>
      refine StepL.of rfl [] (by decide +kernel) ?_
      intro v wx hR hdp K hK
      clear hdp
      simp only [List.getElem_toArray, List.getElem_cons_zero, List.getElem_cons_succ, fillR, Act.put, List.setIfInBounds_toArray, List.set_cons_zero, List.set_cons_succ] at hK ⊢
      go_simp
      exact hK.out _ _ hR (Below.refl _ _) rfl
    | 7, _ =>
      refine StepL.of rfl [6] (by decide +kernel) ?_
      intro v wx hR hdp K hK
      have h6 : v 6 = _ := hdp 6 (by simp)
      have b0 := cell_below y4 hR
      clear hdp
      simp only [List.getElem_toArray, List.getElem_cons_zero, List.getElem_cons_succ, fillR, Act.put, List.setIfInBounds_toArray, List.set_cons_zero, List.set_cons_succ, h6] at hK ⊢
      go_simp
      exact hK.out _ _ hR (Below.refl _ _) rfl
    | 8, _ =>
      refine StepL.of rfl [7] (by decide +kernel) ?_
      intro v wx hR hdp K hK
      have h7 : v 7 = _ := hdp 7 (by simp)
      clear hdp
      simp only [List.getElem_toArray, List.getElem_cons_zero, List.getElem_cons_succ, fillR, Act.put, List.setIfInBounds_toArray, List.set_cons_zero, List.set_cons_succ, h7] at hK ⊢
      go_simp
      exact hK.out _ _ hR (Below.refl _ _) rfl
    | 9, _ =>
      refine StepL.of rfl [8] (by decide +kernel) ?_
      intro v wx hR hdp K hK
      have h8 : v 8 = _ := hdp 8 (by simp)
      clear hdp
      simp only [List.getElem_toArray, List.getElem_cons_zero, List.getElem_cons_succ, fillR, Act.put, List.setIfInBounds_toArray, List.set_cons_zero, List.set_cons_succ, h8] at hK ⊢
      go_simp
      exact hK.out _ _ hR (Below.refl _ _) rfl
    | 10, _ =>
      refine StepL.of rfl [5, 9] (by decide +kernel) ?_
      intro v wx hR hdp K hK
      have h5 : v 5 = _ := hdp 5 (by simp)
      have h9 : v 9 = _ := hdp 9 (by simp)
      clear hdp
      simp only [List.getElem_toArray, List.getElem_cons_zero, List.getElem_cons_succ, fillR, Act.put, List.setIfInBounds_toArray, List.set_cons_zero, List.set_cons_succ, h5, h9] at hK ⊢
      go_simp
      exact hK.out _ _ hR (Below.refl _ _) rfl
    | i' + 11, h => omega
  · intro v wx hR hV
    have h2 : v 2 = _ := hV 2 (by omega)
    have h10 : v 10 = _ := hV 10 (by omega)
    obtain ⟨p, h3, hp, hB⟩ : emV w.heap.size (v 3) wx := hV 3 (by omega)
    have hszx := hR.size
    simp at hszx
    have HV := Lib.hid (And.intro hB (And.intro (H0.out.2.2.2.below hR) (And.intro (H0.out.2.2.1.below hR H0.out.2.2.1.lt) (below_of H0.out.1 hR))))
    clear hV hR hB
    simp only [fillR, Act.put, List.setIfInBounds_toArray, List.set_cons_zero, List.set_cons_succ, h2, h3, h10, List.drop_succ_cons, List.drop_zero]
    have hszw : w.heap.size ≤ wx.heap.size := by omega
    go_wp2_with (first
      | (at_builtin; refine wpList_app_read (N := w.heap.size) rfl (.tmp 6) (.tmp 13) rfl p rfl hp HV.out.1 rfl HV.out.2.1 (by omega) hszw ?_; intro P' c' w8 hBt hk8; have hz8 := hk8.keep _ _ _ (by decide) (by simp) HV.out.2.2.1; have H8 := Lib.hid (And.intro hBt (And.intro hk8.below hz8)); clear hBt hk8 hz8)
      | (refine wpList_store_blk rfl 42 (.tmp 2) (.tmp 15) rfl (w.heap.size + 1) 0 [.int .i64 k, .int .i64 m, .int .i64 o, .int .i64 g, .slice P' 0 c'] rfl rfl H8.out.2.2 (by simp) node_size (node_cells _ _ _ _ _ _ _) ?_; intro w9 hA9 hO9)
      | go_in)
    rw [over_whole (by simp)] at hA9
    obtain ⟨d0, d1, d2, d3, d4⟩ := five_cells hA9
    have hb9 := hO9.below (B := w.heap.size) (by have := H8.out.2.1.size; omega) (by simp)
    have hbt := H8.out.1
    rw [HT.out] at hbt
    have hbt9 : Bts (fun q => w.heap.size ≤ q) w9 (.slice P' 0 c') (data.take 600) := by
      rcases hbt with h | ⟨g', o', cap, t, cs, e, hg', hn, hb, hx, h1, h2⟩
      · exact .inl h
      · refine .inr ⟨g', o', cap, t, cs, e, hg', hn, hb.only hO9 (fun hm => ?_), hx, h1, h2⟩
        simp only [List.mem_singleton] at hm
        subst hm
        have := (hb.same H8.out.2.2).1
        subst this
        exact hn.ne (by decide) (by decide) rfl
    have hbw := HV.out.2.2.2
    refine bodyPost_ret (v := nodeV k m o g P' 0 c') (by simp [results, Tryz.results16, go_sem, d0, d1, d2, d3, d4]) rfl ⟨P', 0, c', rfl, hbt9, (hbw.trans H8.out.2.1).trans hb9⟩
/-- To, of any node that can be read. -/
theorem to7_any (w : World) (k m o g : Int) (P : Option Addr) (n c : Nat) (data : List B8) (hrd : RdB w P n data) (h1 : n ≤ c) (h2 : c ≤ 9223372036854775807) (hnil : P = none → n = 0 ∧ c = 0) :
    Calls Tryz.prog 16 #[nodeV k m o g P n c] w fun e w' => ∃ P' r c', e = .returned (nodeV k m o g P' r c') ∧ Bts (fun q => w.heap.size ≤ q) w' (.slice P' r c') (data.take 600) ∧ Below w.heap.size w w' := by
  by_cases hn : 0 < n
  · obtain ⟨ga, oa, rfl, _⟩ := hrd.cells hn
    exact to7_some w k m o g ga oa n c data hrd h1 h2
  · obtain rfl : n = 0 := by omega
    rcases P with _ | pa
    · obtain ⟨_, rfl⟩ := hnil rfl
      exact to7_none w k m o g data hrd
    · exact to7_zero w k m o g pa c data hrd h2
end Go.Proofs.YtkmkblhmjeeaeaaGreatDoor
end

/-
  The law's Of, and the document's Same. Conditions: the bytes lie in memory.
-/

section
set_option linter.unusedSimpArgs false
set_option linter.unusedVariables false
set_option maxRecDepth 100000
namespace Go.Proofs.YtkmkblhmjeeaeaaGreatDoor
open Go.RowKit Go.Maps

set_option maxHeartbeats 1000000 in
/-- The same stats and bytes, as the document has it. -/
theorem rsame7_any (w : World) {A A' : Nat → Prop} (k m o g : Int) (P P' : Option Addr) (n c c' : Nat) (data : List B8) (h : Bts A w (.slice P n c) data) (h' : Bts A' w (.slice P' n c') data) :
    Calls Tryz.prog 30 #[nodeV k m o g P n c, nodeV k m o g P' n c'] w fun e w' => e = .returned (.bool true) ∧ Below w.heap.size w w' := by
  have hb := below_of (new_below w (.cells #[.int .i64 k, .int .i64 m, .int .i64 o, .int .i64 g, .slice P n c] 53)) (new_below _ (.cells #[.int .i64 k, .int .i64 m, .int .i64 o, .int .i64 g, .slice P' n c'] 53))
  have HE := Lib.hid (same_bts (h.below hb) (h'.below hb) (b := true) (by simp))
  have HB := Lib.hid hb
  clear h h' hb
  go_enter Tryz.func30, Tryz.ntmps30
  go_wp2_with (go_at_call 63; refine HE.out.mono ?_; rintro e w3 ⟨rfl, hW⟩; have H3 := Lib.hid hW; clear hW)
  go_ret
  exact ⟨rfl, below_of HB.out H3.out⟩

theorem rnode_size : (Tryz.prog.info? 53).map (·.size) = some 5 := by kernel_rfl

set_option maxRecDepth 100000 in
set_option maxHeartbeats 4000000 in
theorem of7_any (w : World) (k m o g : Int) (P : Option Addr) (n c : Nat) :
    Calls Tryz.prog 31 #[nodeV k m o g P n c] w fun e w' => e = .returned (nodeV k m o g P n c) ∧ Below w.heap.size w w' := by
  have hb := below_of (new_below w (.cells #[.int .i64 k, .int .i64 m, .int .i64 o, .int .i64 g, .slice P n c] 42)) (new_below _ (.cells #[.int .i64 0, .int .i64 0, .int .i64 0, .int .i64 0, .slice none 0 0] 53))
  have hk0 := (Blk.new w 42 [.int .i64 k, .int .i64 m, .int .i64 o, .int .i64 g, .slice P n c]).alloc (.cells #[.int .i64 0, .int .i64 0, .int .i64 0, .int .i64 0, .slice none 0 0] 53)
  have hk1 := Blk.new (w.alloc (.cells #[.int .i64 k, .int .i64 m, .int .i64 o, .int .i64 g, .slice P n c] 42)) 53 [.int .i64 0, .int .i64 0, .int .i64 0, .int .i64 0, .slice none 0 0]
  rw [World.size_alloc] at hk1
  obtain ⟨y0, y1, y2, y3, y4⟩ := five_cells hk0
  have H0 := Lib.hid (And.intro hb (And.intro hk0 hk1))
  clear hb hk0 hk1
  go_enter Tryz.func31, Tryz.ntmps31
  go_wp2_with fail
  refine wp_hideQ ?_
  intro QQ hQQ
  refine wp_region_tail [some 3, some 4, some 5, some 6, some 7, some 8, none] (LV [isV (.pointer (some ⟨w.heap.size, 0, none⟩)), isV (stv k m o g), isV (stv k m o g), isV (.pointer (some ⟨w.heap.size, 4, none⟩)), isV (.slice P n c), isV (nodeV k m o g P n c)]) (fun wx => Below ((w.alloc (.cells #[.int .i64 k, .int .i64 m, .int .i64 o, .int .i64 g, .slice P n c] 42)).alloc (.cells #[.int .i64 0, .int .i64 0, .int .i64 0, .int .i64 0, .slice none 0 0] 53)).heap.size ((w.alloc (.cells #[.int .i64 k, .int .i64 m, .int .i64 o, .int .i64 g, .slice P n c] 42)).alloc (.cells #[.int .i64 0, .int .i64 0, .int .i64 0, .int .i64 0, .slice none 0 0] 53)) wx) (fun _ a b => Below a.heap.size a b) 6 7 (by kernel_rfl) rfl (by omega) rfl (by kernel_rfl) (by kernel_rfl) (by kernel_rfl) (drew_below _) LV.loc (LV.st (by simp [isV.st])) ?_ ?_
  · intro i hi
    match i, hi with
    | 0, _ =>
      refine StepL.of rfl [] (by decide +kernel) ?_
      intro v wx hR hd K hK
      clear hd
      simp only [List.getElem_toArray, List.getElem_cons_zero, List.getElem_cons_succ, fillR, Act.put, List.setIfInBounds_toArray, List.set_cons_zero, List.set_cons_succ] at hK ⊢
      go_simp
      exact hK.out _ _ hR (Below.refl _ _) rfl
    | 1, _ =>
      refine StepL.of rfl [0] (by decide +kernel) ?_
      intro v wx hR hd K hK
      have h0 : v 0 = _ := hd 0 (by simp)
      have d0 := cell_below y0 hR
      have d1 := cell_below y1 hR
      have d2 := cell_below y2 hR
      have d3 := cell_below y3 hR
      have d4 := cell_below y4 hR
      clear hd
      simp only [List.getElem_toArray, List.getElem_cons_zero, List.getElem_cons_succ, fillR, Act.put, List.setIfInBounds_toArray, List.set_cons_zero, List.set_cons_succ, h0] at hK ⊢
      go_simp
      exact hK.out _ _ hR (Below.refl _ _) rfl
    | 2, _ =>
      refine StepL.of rfl [1] (by decide +kernel) ?_
      intro v wx hR hd K hK
      have h1 : v 1 = _ := hd 1 (by simp)
      clear hd
      simp only [List.getElem_toArray, List.getElem_cons_zero, List.getElem_cons_succ, fillR, Act.put, List.setIfInBounds_toArray, List.set_cons_zero, List.set_cons_succ, h1] at hK ⊢
      go_simp
      refine (mof_any _ k m o g).mono ?_
      rintro e w' ⟨rfl, hW⟩
      have hq := hK.out (stv k m o g) w' (hR.trans (hW.mono hR.size)) hW rfl
      clear hK hW
      go_wp2_with fail
      exact hq
    | 3, _ =>
      refine StepL.of rfl [] (by decide +kernel) ?_
      intro v wx hR hd K hK
      clear hd
      simp only [List.getElem_toArray, List.getElem_cons_zero, List.getElem_cons_succ, fillR, Act.put, List.setIfInBounds_toArray, List.set_cons_zero, List.set_cons_succ] at hK ⊢
      go_simp
      exact hK.out _ _ hR (Below.refl _ _) rfl
    | 4, _ =>
      refine StepL.of rfl [3] (by decide +kernel) ?_
      intro v wx hR hd K hK
      have h3 : v 3 = _ := hd 3 (by simp)
      have d0 := cell_below y0 hR
      have d1 := cell_below y1 hR
      have d2 := cell_below y2 hR
      have d3 := cell_below y3 hR
      have d4 := cell_below y4 hR
      clear hd
      simp only [List.getElem_toArray, List.getElem_cons_zero, List.getElem_cons_succ, fillR, Act.put, List.setIfInBounds_toArray, List.set_cons_zero, List.set_cons_succ, h3] at hK ⊢
      go_simp
      exact hK.out _ _ hR (Below.refl _ _) rfl
    | 5, _ =>
      refine StepL.of rfl [2, 4] (by decide +kernel) ?_
      intro v wx hR hd K hK
      have h2 : v 2 = _ := hd 2 (by simp)
      have h4 : v 4 = _ := hd 4 (by simp)
      clear hd
      simp only [List.getElem_toArray, List.getElem_cons_zero, List.getElem_cons_succ, fillR, Act.put, List.setIfInBounds_toArray, List.set_cons_zero, List.set_cons_succ, h2, h4] at hK ⊢
      go_simp
      exact hK.out _ _ hR (Below.refl _ _) rfl
    | i + 6, h => omega
  · intro v wx hR hV
    have h5 : v 5 = _ := hV 5 (by omega)
    have HV := Lib.hid (And.intro (H0.out.2.2.below hR H0.out.2.2.lt) (below_of H0.out.1 hR))
    clear hV hR
    simp only [fillR, Act.put, List.setIfInBounds_toArray, List.set_cons_zero, List.set_cons_succ, h5, List.drop_succ_cons, List.drop_zero]
    go_wp2_with (first
      | (refine wpList_store_blk rfl 53 (.tmp 2) (.tmp 8) rfl (w.heap.size + 1) 0 [.int .i64 k, .int .i64 m, .int .i64 o, .int .i64 g, .slice P n c] rfl rfl HV.out.1 (by simp) rnode_size (node_cells _ _ _ _ _ _ _) ?_; intro w9 hA9 hO9)
      | go_in)
    rw [over_whole (by simp)] at hA9
    obtain ⟨d0, d1, d2, d3, d4⟩ := five_cells hA9
    have hb9 := hO9.below (B := w.heap.size) (by have := HV.out.2.size; omega) (by simp)
    refine bodyPost_ret (v := nodeV k m o g P n c) (by simp [results, Tryz.results31, go_sem, d0, d1, d2, d3, d4]) rfl ⟨rfl, HV.out.2.trans hb9⟩
end Go.Proofs.YtkmkblhmjeeaeaaGreatDoor
end

/-
  Apply: where it isn't done. Conditions: those of the theorems.
-/

section
set_option linter.unusedSimpArgs false
set_option linter.unusedVariables false
set_option maxRecDepth 100000
namespace Go.Proofs.YtkmkblhmjeeaeaaGreatDoor
open Go.RowKit Go.Maps

theorem apply_bad {ks : List B32} {B D L G n j N K : Nat} {S : Nat → List B8} {c : Nat} {A : Nat → Prop} {t M cm : Nat} {f : Tab} {w : World} (hT : Tb ks B D L G n j N K S c A t M cm f w) {P : Option Addr} {len cap : Nat} {l : List Cv} (hl : CvIn w P len l) (hb63 : ∀ x ∈ l, -9223372036854775808 ≤ x.no ∧ x.no ≤ 9223372036854775807) (hlen : len ≤ 500) {r : Int} (hchk : chkL l N = r) (hr : r ≠ 0) :
    Calls Tryz.prog 9 #[.pointer (some ⟨t, 0, none⟩), .slice P len cap] w fun e w' => e = .returned (.int .i64 r) ∧ Below w.heap.size w w' := by
  have y0 : w.cell? ⟨t, 0, none⟩ = some (.pointer (some ⟨G, 0, none⟩)) := hT.blk.cell 0
  have y1 : w.cell? ⟨t, 1, none⟩ = some (.int .i64 (N : Int)) := hT.blk.cell 1
  have htl := hT.blk.lt
  have HF := Lib.hid (refused_all w G N P len cap l hl hb63 (by omega))
  have hd : decide (r = 0) = false := by simp [hr]
  clear hT hl hb63
  go_enter Tryz.func9, Tryz.ntmps9
  go_wp2_with (first
    | (go_at_call 26; refine HF.out.mono ?_; rintro e w1 ⟨rfl, hW⟩; rw [hchk]; have H1 := Lib.hid hW; clear hW HF)
    | go_in)
  go_ret
  exact ⟨rfl, H1.out⟩

set_option maxRecDepth 100000 in
set_option maxHeartbeats 4000000 in
theorem apply_none {ks : List B32} {B D L G n j N K : Nat} {S : Nat → List B8} {c : Nat} {A : Nat → Prop} {A2 : Nat → Prop} {t M cm : Nat} {f : Tab} {w : World} (hT : Tb ks B D L G n j N K S c A t M cm f w) (hcm : cm ≤ 500) (hA : ∀ q, A q → q < w.heap.size) {P : Option Addr} {len cap : Nat} {l : List Cv} {lc : List Ch} (hl : CvIn w P len l) (hlc : ChsIn A2 w l lc) (hb63 : ∀ x ∈ l, -9223372036854775808 ≤ x.no ∧ x.no ≤ 9223372036854775807) (hlen : len ≤ 500) (hchk : chkL l N = 0) (hgood : Good7 N lc) (hbh : tabBehind f N K lc = none) :
    Calls Tryz.prog 9 #[.pointer (some ⟨t, 0, none⟩), .slice P len cap] w fun e w' => e = .returned (.int .i64 6) ∧ Below w.heap.size w w' := by
  have y0 : w.cell? ⟨t, 0, none⟩ = some (.pointer (some ⟨G, 0, none⟩)) := hT.blk.cell 0
  have y1 : w.cell? ⟨t, 1, none⟩ = some (.int .i64 (N : Int)) := hT.blk.cell 1
  have htl := hT.blk.lt
  have HL := Lib.hid (And.intro hT (And.intro hA (And.intro hl (And.intro hlc (And.intro hgood hbh)))))
  have HF := Lib.hid (refused_all w G N P len cap l hl hb63 (by omega))
  clear hT hA hl hlc hgood hbh hb63
  go_enter Tryz.func9, Tryz.ntmps9
  go_wp2_with (first
    | (go_at_call 26; refine HF.out.mono ?_; rintro e w1 ⟨rfl, hW⟩; rw [hchk]; have HB := Lib.hid (behind_any (HL.out.1.lg.below hW) HL.out.1.geo (HL.out.1.tab.below hW) HL.out.1.wf (fun q hq => Nat.lt_of_lt_of_le (HL.out.2.1 q hq) hW.size) (by omega) (HL.out.1.blk.below hW htl) (HL.out.2.2.1.below hW) (cap := cap) (HL.out.2.2.2.1.below hW) HL.out.2.2.2.2.1 (by omega)); have H1 := Lib.hid hW; clear hW HF)
    | (go_at_call 27; refine HB.out.mono ?_; rintro e w2 ⟨hW, hP⟩; rw [HL.out.2.2.2.2.2] at hP; obtain rfl := hP; have H2 := Lib.hid (below_of H1.out hW); clear hW HB)
    | go_in)
  go_ret
  exact ⟨rfl, H2.out⟩

set_option maxRecDepth 100000 in
set_option maxHeartbeats 8000000 in
theorem apply_full {ks : List B32} {B D L G n j N K : Nat} {S : Nat → List B8} {c : Nat} {A : Nat → Prop} {A2 : Nat → Prop} {t M cm : Nat} {f g : Tab} {w : World} (hT : Tb ks B D L G n j N K S c A t M cm f w) (hc : c < 400000) (hcm : cm ≤ 500) (hA : ∀ q, A q → q < w.heap.size ∧ q ∉ [D, L, G, t]) (htX : t ∉ [D, L, G])
    (htB : B ≤ t) {P : Option Addr} {len cap : Nat} {l : List Cv} {lc : List Ch} (hl : CvIn w P len l) (hlc : ChsIn A2 w l lc) (hb63 : ∀ x ∈ l, -9223372036854775808 ≤ x.no ∧ x.no ≤ 9223372036854775807) (hlen : len ≤ 500) (hchk : chkL l N = 0) (hgood : Good7 N lc) (hbh : tabBehind f N K lc = some g) (hn : j / 2 < nwr lc) :
    Calls Tryz.prog 9 #[.pointer (some ⟨t, 0, none⟩), .slice P len cap] w fun e w' => e = .returned (.int .i64 6) ∧ Below w.heap.size w w' := by
  have y0 : w.cell? ⟨t, 0, none⟩ = some (.pointer (some ⟨G, 0, none⟩)) := hT.blk.cell 0
  have y1 : w.cell? ⟨t, 1, none⟩ = some (.int .i64 (N : Int)) := hT.blk.cell 1
  have hN1 := hT.geo.N1
  have htl := hT.blk.lt
  have HL := Lib.hid (And.intro hT (And.intro hA (And.intro hl (And.intro hlc (And.intro hgood (And.intro hbh hn))))))
  have HF := Lib.hid (refused_all w G N P len cap l hl hb63 (by omega))
  have hK4 : K ≤ 4096 := by have := hT.geo.nn; have := hT.geo.n1; omega
  clear hT hA hl hlc hgood hbh hn hb63
  go_enter Tryz.func9, Tryz.ntmps9
  go_wp2_with (first
    | (go_at_call 26; refine HF.out.mono ?_; rintro e w1 ⟨rfl, hW⟩; rw [hchk]; have HB := Lib.hid (behind_any (HL.out.1.lg.below hW) HL.out.1.geo (HL.out.1.tab.below hW) HL.out.1.wf (fun q hq => Nat.lt_of_lt_of_le (HL.out.2.1 q hq).1 hW.size) (by omega) (HL.out.1.blk.below hW htl) (HL.out.2.2.1.below hW) (cap := cap) (HL.out.2.2.2.1.below hW) HL.out.2.2.2.2.1 (by omega)); have x0 := cell_below y0 hW; have x1 := cell_below y1 hW; have hs1 := hW.size; have H1 := Lib.hid hW; clear hW HF)
    | (go_at_call 27; refine HB.out.mono ?_; rintro e w2 ⟨hW, hP⟩; rw [HL.out.2.2.2.2.2.1] at hP; obtain ⟨M', rfl, hM', hT2⟩ := hP; have H2 := Lib.hid (And.intro (HL.out.2.2.1.below (below_of H1.out hW)) (And.intro hT2 (behind_wf HL.out.1.wf HL.out.2.2.2.2.1 HL.out.2.2.2.2.2.1))); have HB2 := Lib.hid (And.intro (below_of H1.out hW) hM'); have hs2 := hW.size; have z0 := cell_below x0 hW; have z1 := cell_below x1 hW; clear hW hM' hT2 x0 x1 HB)
    | go_in)
  clear y0 y1
  have y0 := z0
  have y1 := z1
  clear z0 z1
  have hno1 : ∀ (i : Nat) x c, l[i]? = some x → lc[i]? = some c → x.no = c.no := fun i x c h1 h2 => (HL.out.2.2.2.1.2 i x c h1 h2).no
  have hll1 := HL.out.2.2.2.1.1
  have hgd1 := HL.out.2.2.2.2.1.no
  refine wp_hideQ ?_
  intro QQ hQQ
  refine wp_region_tail [some 29, some 30, some 31, some 32, some 33, some 34, some 35, some 36, some 37, some 38, some 39, some 40, some 41, some 8] (LV [isV (.pointer (some ⟨t, 0, none⟩)), isV (.pointer (some ⟨t, 0, none⟩)), isV (.pointer (some ⟨t, 0, none⟩)), isV (.pointer (some ⟨t, 0, none⟩)), isV (.pointer (some ⟨G, 0, none⟩)), isV (.pointer (some ⟨t, 0, none⟩)), isV (.pointer (some ⟨t, 0, none⟩)), isV (.pointer (some ⟨t, 0, none⟩)), isV (lay G N), isV (.slice P len cap), isV (.map (some M')), owV w2.heap.size (writesL N g lc)]) (fun wx => Below w2.heap.size w2 wx) (fun _ a b => Below a.heap.size a b) 12 14 (by kernel_rfl) rfl (by omega) rfl (by kernel_rfl) (by kernel_rfl) (by kernel_rfl) (drew_below w2) LV.loc (LV.st (by simp [isV.st, owV.st])) ?_ ?_
  · intro i' hi'
    match i', hi' with
    | 0, _ =>
      refine StepL.of rfl [] (by decide +kernel) ?_
      intro v wx hR hdp K hK
      clear hdp
      simp only [List.getElem_toArray, List.getElem_cons_zero, List.getElem_cons_succ, fillR, Act.put, List.setIfInBounds_toArray, List.set_cons_zero, List.set_cons_succ] at hK ⊢
      go_simp
      exact hK.out _ _ hR (Below.refl _ _) rfl
    | 1, _ =>
      refine StepL.of rfl [0] (by decide +kernel) ?_
      intro v wx hR hdp K hK
      have h0 : v 0 = _ := hdp 0 (by simp)
      clear hdp
      simp only [List.getElem_toArray, List.getElem_cons_zero, List.getElem_cons_succ, fillR, Act.put, List.setIfInBounds_toArray, List.set_cons_zero, List.set_cons_succ, h0] at hK ⊢
      go_simp
      exact hK.out _ _ hR (Below.refl _ _) rfl
    | 2, _ =>
      refine StepL.of rfl [1] (by decide +kernel) ?_
      intro v wx hR hdp K hK
      have h1 : v 1 = _ := hdp 1 (by simp)
      clear hdp
      simp only [List.getElem_toArray, List.getElem_cons_zero, List.getElem_cons_succ, fillR, Act.put, List.setIfInBounds_toArray, List.set_cons_zero, List.set_cons_succ, h1] at hK ⊢
      go_simp
      exact hK.out _ _ hR (Below.refl _ _) rfl
    | 3, _ =>
      refine StepL.of rfl [2] (by decide +kernel) ?_
      intro v wx hR hdp K hK
      have h2 : v 2 = _ := hdp 2 (by simp)
      clear hdp
      simp only [List.getElem_toArray, List.getElem_cons_zero, List.getElem_cons_succ, fillR, Act.put, List.setIfInBounds_toArray, List.set_cons_zero, List.set_cons_succ, h2] at hK ⊢
      go_simp
      exact hK.out _ _ hR (Below.refl _ _) rfl
    | 4, _ =>
      refine StepL.of rfl [3] (by decide +kernel) ?_
      intro v wx hR hdp K hK
      have h3 : v 3 = _ := hdp 3 (by simp)
      have b0 := cell_below y0 hR
      clear hdp
      simp only [List.getElem_toArray, List.getElem_cons_zero, List.getElem_cons_succ, fillR, Act.put, List.setIfInBounds_toArray, List.set_cons_zero, List.set_cons_succ, h3] at hK ⊢
      go_simp
      exact hK.out _ _ hR (Below.refl _ _) rfl
    | 5, _ =>
      refine StepL.of rfl [] (by decide +kernel) ?_
      intro v wx hR hdp K hK
      clear hdp
      simp only [List.getElem_toArray, List.getElem_cons_zero, List.getElem_cons_succ, fillR, Act.put, List.setIfInBounds_toArray, List.set_cons_zero, List.set_cons_succ] at hK ⊢
      go_simp
      exact hK.out _ _ hR (Below.refl _ _) rfl
    | 6, _ =>
      refine StepL.of rfl [5] (by decide +kernel) ?_
      intro v wx hR hdp K hK
      have h5 : v 5 = _ := hdp 5 (by simp)
      clear hdp
      simp only [List.getElem_toArray, List.getElem_cons_zero, List.getElem_cons_succ, fillR, Act.put, List.setIfInBounds_toArray, List.set_cons_zero, List.set_cons_succ, h5] at hK ⊢
      go_simp
      exact hK.out _ _ hR (Below.refl _ _) rfl
    | 7, _ =>
      refine StepL.of rfl [6] (by decide +kernel) ?_
      intro v wx hR hdp K hK
      have h6 : v 6 = _ := hdp 6 (by simp)
      clear hdp
      simp only [List.getElem_toArray, List.getElem_cons_zero, List.getElem_cons_succ, fillR, Act.put, List.setIfInBounds_toArray, List.set_cons_zero, List.set_cons_succ, h6] at hK ⊢
      go_simp
      exact hK.out _ _ hR (Below.refl _ _) rfl
    | 8, _ =>
      refine StepL.of rfl [7] (by decide +kernel) ?_
      intro v wx hR hdp K hK
      have h7 : v 7 = _ := hdp 7 (by simp)
      have b0 := cell_below y0 hR
      have b1 := cell_below y1 hR
      clear hdp
      simp only [List.getElem_toArray, List.getElem_cons_zero, List.getElem_cons_succ, fillR, Act.put, List.setIfInBounds_toArray, List.set_cons_zero, List.set_cons_succ, h7] at hK ⊢
      go_simp
      exact hK.out _ _ hR (Below.refl _ _) rfl
    | 9, _ =>
      refine StepL.of rfl [] (by decide +kernel) ?_
      intro v wx hR hdp K hK
      clear hdp
      simp only [List.getElem_toArray, List.getElem_cons_zero, List.getElem_cons_succ, fillR, Act.put, List.setIfInBounds_toArray, List.set_cons_zero, List.set_cons_succ] at hK ⊢
      go_simp
      exact hK.out _ _ hR (Below.refl _ _) rfl
    | 10, _ =>
      refine StepL.of rfl [] (by decide +kernel) ?_
      intro v wx hR hdp K hK
      clear hdp
      simp only [List.getElem_toArray, List.getElem_cons_zero, List.getElem_cons_succ, fillR, Act.put, List.setIfInBounds_toArray, List.set_cons_zero, List.set_cons_succ] at hK ⊢
      go_simp
      exact hK.out _ _ hR (Below.refl _ _) rfl
    | 11, _ =>
      refine StepL.of rfl [8, 9, 10] (by decide +kernel) ?_
      intro v wx hR hdp K hK
      have h8 : v 8 = _ := hdp 8 (by simp)
      have h9 : v 9 = _ := hdp 9 (by simp)
      have h10 : v 10 = _ := hdp 10 (by simp)
      have HV := Lib.hid (inwrites_any (G := G) (cap := cap) (H2.out.2.1.below hR) H2.out.2.2 (by omega) hK4 (H2.out.1.below hR) hno1 hll1 hgd1 (by omega))
      clear hdp
      simp only [List.getElem_toArray, List.getElem_cons_zero, List.getElem_cons_succ, fillR, Act.put, List.setIfInBounds_toArray, List.set_cons_zero, List.set_cons_succ, h8, h9, h10] at hK ⊢
      go_simp
      refine HV.out.mono ?_
      rintro e w' ⟨u, rfl, hO, hW⟩
      have hq' := hK.out u w' (hR.trans (hW.mono hR.size)) hW ⟨_, hR.size, hO⟩
      clear hK hW hO
      go_wp2_with fail
      exact hq'
    | i' + 12, h => omega
  · intro v wx hR hV
    have h4 : v 4 = _ := hV 4 (by omega)
    have h10 : v 10 = _ := hV 10 (by omega)
    obtain ⟨b0, hb0, hO⟩ : owV w2.heap.size (writesL N g lc) (v 11) wx := hV 11 (by omega)
    obtain ⟨Pw, qw, h11⟩ := hO.form
    obtain ⟨m, hm⟩ : ∃ m, (writesL N g lc).length = m := ⟨_, rfl⟩
    rw [h11, hm] at hO
    rw [hm] at h11
    have hlt := HL.out.1.lg.lt
    have hfull := below_of HB2.out.1 hR
    have hlen9 := behind_length HL.out.2.2.2.2.1 HL.out.2.2.2.2.2.1
    have hj := HL.out.1.geo.j1
    have HC := Lib.hid (lg_full (HL.out.1.lg.below hfull) HL.out.1.geo (hO.wrs.mono (A' := fun q => w2.heap.size ≤ q) (fun g hg _ => by rcases hg with h | h <;> omega)) ⟨(writes_right (behind_wf HL.out.1.wf HL.out.2.2.2.2.1 HL.out.2.2.2.2.2.1) HL.out.2.2.2.2.1).1, (writes_right (behind_wf HL.out.1.wf HL.out.2.2.2.2.1 HL.out.2.2.2.2.2.1) HL.out.2.2.2.2.1).2⟩ (by have := HL.out.2.2.2.2.2.2; omega))
    have HV := Lib.hid (And.intro hfull hR)
    clear hV hR hO hfull hlt
    simp only [fillR, Act.put, List.setIfInBounds_toArray, List.set_cons_zero, List.set_cons_succ, h4, h11, List.drop_succ_cons, List.drop_zero]
    go_wp2_with (first
      | (go_at_call 28; refine HC.out.mono ?_; rintro e w4 ⟨rfl, hW4⟩; have H4 := Lib.hid (below_of HV.out.1 hW4); clear hW4)
      | go_in)
    go_ret
    exact ⟨rfl, H4.out⟩
end Go.Proofs.YtkmkblhmjeeaeaaGreatDoor
end

/-
  A region that draws its order, some of whose operations form a chain (each waits for the one ahead of it, at whatever remove) and turn memory that others look at: what holds of the world is told by how far the chain has come. Conditions: those of the theorems.
-/

section
set_option linter.unusedSimpArgs false
set_option linter.unusedVariables false
set_option maxRecDepth 100000
namespace Go.Proofs.YtkmkblhmjeeaeaaGreatDoor

/-- Each operation of the chain waits for all ahead of it. -/
def ordR (md : Region.Mode) (ops : Array Oper) (chain : List Nat) : Bool := (List.range chain.length).all fun k => match chain[k]? with
  | some c => decide (c < ops.size) && (List.range k).all fun j => match chain[j]? with
    | some d => (ancR md ops ops.size c).contains d
    | none => true
  | none => true
section
variable {P : Program} {ops : Array Oper} {Q : Exit → Act → World → Prop} {md : Region.Mode}
/-- One operation's step, where the chain has come so far. -/
def StepP (P : Program) (md : Region.Mode) (ops : Array Oper) (Q : Exit → Act → World → Prop) (chain : List Nat) (ds : List (Option Tmp)) (V : Nat → (Nat → Value) → World → Prop) (R : Nat → World → Prop) (Rel : Nat → World → World → Prop) (a0 : Act) (i : Nat) : Prop :=
  ∀ o, ops[i]? = some o → ∀ (p q : Nat), (chain[p]? = some i ∧ q = p + 1 ∨ i ∉ chain ∧ q = p) → (∀ k c, chain[k]? = some c → (ancR md ops ops.size c).contains i = true → p ≤ k) → (∀ k c, chain[k]? = some c → (ancR md ops ops.size i).contains c = true → k < p) →
    ∀ (v : Nat → Value) (w : World), R p w → (∀ e ∈ o.after, Region.binds md e = true → V e.on v w) →
    ∀ K : Act → World → Prop, Shut (∀ x w', R q w' → Rel i w w' → V i (setV v i x) w' → K ((fillR ds v 0 a0).put o.dst x) w') →
      if Region.wanted o (yielded ops (fillR ds v 0 a0).tmps) = true then Oper.wp P o (fillR ds v 0 a0) w K Q else K ((fillR ds v 0 a0).put o.dst undef) w
theorem closed_none : ClosedR md ops (Array.replicate ops.size false) := by
  intro i hi
  rcases Nat.lt_or_ge i ops.size with h' | h'
  · simp [h'] at hi
  · simp [Nat.not_lt.2 h'] at hi
theorem wpAny_chain (chain : List Nat) (ds : List (Option Tmp)) (hds : ops.toList.map (·.dst) = ds) (hap : apartR ds = true) (hl : lexA md ops = true) (ho : ordR md ops chain = true)
    (V : Nat → (Nat → Value) → World → Prop) (R : Nat → World → Prop) (Rel : Nat → World → World → Prop) (a0 : Act)
    (hloc : ∀ i v j x w, V i v w → j ≠ i → V i (setV v j x) w)
    (hst : ∀ i k v w w', k ≠ i → V i v w → Rel k w w' → V i v w')
    (hstep : ∀ i, i < ops.size → StepP P md ops Q chain ds V R Rel a0 i)
    (hfin : ∀ (v : Nat → Value) (w : World), R chain.length w → (∀ i, i < ops.size → V i v w) → Q .normal (fillR ds v 0 a0) w) :
    ∀ (fuel : Nat) (listed : Array Bool) (p : Nat) (v : Nat → Value) (w : World), listed.size = ops.size → leftR listed ≤ fuel → ClosedR md ops listed → p ≤ chain.length → (∀ k c, chain[k]? = some c → (listed.getD c false = true ↔ k < p)) → R p w → (∀ i, listed.getD i false = true → V i v w) →
      wpAny P md ops Q fuel listed (fillR ds v 0 a0) w := by
  have hcs : ∀ k c, chain[k]? = some c → c < ops.size := fun k c hk => by
    have h1 := List.all_eq_true.1 ho k (List.mem_range.2 (List.getElem?_eq_some_iff.1 hk).1)
    simp only [hk, Bool.and_eq_true, decide_eq_true_eq] at h1
    exact h1.1
  have hco : ∀ k c j d, chain[k]? = some c → j < k → chain[j]? = some d → (ancR md ops ops.size c).contains d = true := fun k c j d hk hj hd => by
    have h1 := List.all_eq_true.1 ho k (List.mem_range.2 (List.getElem?_eq_some_iff.1 hk).1)
    simp only [hk, Bool.and_eq_true, decide_eq_true_eq] at h1
    have h2 := List.all_eq_true.1 h1.2 j (List.mem_range.2 hj)
    rw [hd] at h2
    exact h2
  have hend : ∀ (listed : Array Bool) (p : Nat), p ≤ chain.length → (∀ k c, chain[k]? = some c → (listed.getD c false = true ↔ k < p)) → (∀ i, i < ops.size → listed.getD i false = true) → p = chain.length := by
    intro listed p hp hk hall
    rcases Nat.lt_or_ge p chain.length with h | h
    · obtain ⟨c, hc⟩ : ∃ c, chain[p]? = some c := ⟨_, List.getElem?_eq_getElem h⟩
      have := (hk p c hc).1 (hall c (hcs p c hc))
      omega
    · omega
  intro fuel
  induction fuel with
  | zero =>
    intro listed p v w hs hf hcl hp hk hR hV
    have hall : ∀ i, i < ops.size → listed.getD i false = true := by
      intro i hi
      cases hb : listed.getD i false with
      | true => rfl
      | false =>
        have h' : listed.getD i true = false := by simpa [hs, hi] using hb
        have := leftR_set h'
        omega
    have hpe := hend listed p hp hk hall
    subst hpe
    refine ⟨?_, hfin v w hR (fun i hi => hV i (hall i hi))⟩
    cases hr : Region.ready md ops listed with
    | nil => rfl
    | cons i rs =>
      have hm : i ∈ Region.ready md ops listed := by rw [hr]; simp
      obtain ⟨h0, o, ho, _⟩ := mem_ready.1 hm
      have hi := (Array.getElem?_eq_some_iff.1 ho).1
      have := hall i hi
      simp [hs, hi] at this h0
      rw [this] at h0
      cases h0
  | succ fuel ih =>
    intro listed p v w hs hf hcl hp hk hR hV
    refine ⟨fun hr => ?_, fun i hi => ?_⟩
    · have hall := all_listedA hl hs hr
      have hpe := hend listed p hp hk hall
      subst hpe
      exact hfin v w hR (fun i hi => hV i (hall i hi))
    obtain ⟨h0, o, hoo, hall⟩ := mem_ready.1 hi
    have hil := (Array.getElem?_eq_some_iff.1 hoo).1
    have h0' : listed.getD i false = false := by
      have : i < listed.size := by omega
      simpa [this] using h0
    have hall' : ∀ o', ops[i]? = some o' → ∀ e ∈ o'.after, Region.binds md e = true → listed.getD e.on false = true := fun o' ho' => by
      rw [hoo] at ho'
      cases ho'
      exact hall
    have hlo : ∀ k c, chain[k]? = some c → (ancR md ops ops.size i).contains c = true → k < p := fun k c hc ha => (hk k c hc).1 (anc_listed hcl ops.size i hall' c (by simpa using ha))
    have hhi : ∀ k c, chain[k]? = some c → (ancR md ops ops.size c).contains i = true → p ≤ k := fun k c hc ha => by
      rcases Nat.lt_or_ge k p with h | h
      · have hlc := (hk k c hc).2 h
        have := anc_listed hcl ops.size c (hcl c hlc) i (by simpa using ha)
        rw [h0'] at this
        cases this
      · exact h
    obtain ⟨q, hq, hq2, hq3⟩ : ∃ q, (chain[p]? = some i ∧ q = p + 1 ∨ i ∉ chain ∧ q = p) ∧ q ≤ chain.length ∧ ∀ k c, chain[k]? = some c → ((listed.setIfInBounds i true).getD c false = true ↔ k < q) := by
      by_cases hic : i ∈ chain
      · obtain ⟨k, hki⟩ := List.getElem?_of_mem hic
        have hkp : ¬ k < p := fun h => by
          have := (hk k i hki).2 h
          rw [h0'] at this
          cases this
        have hpk : p = k := by
          rcases Nat.lt_or_ge p k with h | h
          · obtain ⟨d, hd⟩ : ∃ d, chain[p]? = some d := ⟨_, List.getElem?_eq_getElem (by have := (List.getElem?_eq_some_iff.1 hki).1; omega)⟩
            have := hlo p d hd (hco k i p d hki h hd)
            omega
          · omega
        subst hpk
        refine ⟨p + 1, .inl ⟨hki, rfl⟩, (List.getElem?_eq_some_iff.1 hki).1, fun j c hc => ?_⟩
        by_cases hci : c = i
        · subst hci
          constructor
          · intro _
            rcases Nat.lt_or_ge p j with h | h
            · have := hlo p c hki (hco j c p c hc h hki)
              omega
            · omega
          · intro _
            exact getD_set_own h0
        · rw [getD_set_ne false (Ne.symm hci)]
          rw [hk j c hc]
          constructor
          · intro h; omega
          · intro h
            rcases Nat.lt_or_ge j p with h' | h'
            · exact h'
            · have : j = p := by omega
              subst this
              rw [hki] at hc
              cases hc
              exact absurd rfl hci
      · refine ⟨p, .inr ⟨hic, rfl⟩, hp, fun j c hc => ?_⟩
        have hci : c ≠ i := fun e => hic (e ▸ List.mem_of_getElem? hc)
        rw [getD_set_ne false (Ne.symm hci)]
        exact hk j c hc
    have hd : ds[i]? = some o.dst := by
      rw [← hds, List.getElem?_map]
      have : ops.toList[i]? = some o := by simpa using hoo
      rw [this]
      rfl
    refine wpOp_step hoo fun K hK => hstep i hil o hoo p q hq hhi hlo v w hR (fun e he hb => hV e.on (hall e he hb)) K ?_
    intro x w' hR' hrel hV'
    refine hK _ _ ?_
    rw [put_fill ds hap v 0 a0 i o.dst x hd, Nat.zero_add]
    refine ih _ q _ _ (by simpa using hs) (by have := leftR_set h0; omega) (closed_set hcl hoo hall) hq2 hq3 hR' fun j hj => ?_
    by_cases hji : j = i
    · subst hji
      exact hV'
    · have hlj : listed.getD j false = true := by rw [getD_set_ne false (Ne.symm hji)] at hj; exact hj
      exact hloc j v i x w' (hst j i _ _ _ (Ne.symm hji) (hV j hlj) hrel) (Ne.symm hji)
theorem wp_region_chain (chain : List Nat) (ds : List (Option Tmp)) (V : Nat → (Nat → Value) → World → Prop) (R : Nat → World → Prop) (Rel : Nat → World → World → Prop) (n : Nat) {id : Nat} {a0 : Act} {w : World} (hm : P.follows .mixedOrders = true)
    (hn : ops.size = n) (hds : ops.toList.map (·.dst) = ds) (hap : apartR ds = true) (hl : lexA .any ops = true) (ho : ordR .any ops chain = true) (hR : R 0 w.drew)
    (hloc : ∀ i v j x w, V i v w → j ≠ i → V i (setV v j x) w)
    (hst : ∀ i k v w w', k ≠ i → V i v w → Rel k w w' → V i v w')
    (hstep : ∀ i, i < n → StepP P .any ops Q chain ds V R Rel a0 i)
    (hfin : ∀ (v : Nat → Value) (w : World), R chain.length w → (∀ i, i < n → V i v w) → Q .normal (fillR ds v 0 a0) w) : (Code.region id ops true).wp P Q a0 w := by
  subst hn
  refine wp_region_any hm ?_
  have hfill : fillR ds (fun i => match ds[i]? with | some (some t) => a0.tmps.getD t undef | _ => undef) 0 a0 = a0 := by
    refine fill_start a0 ds 0 _ (fun i t ht => ?_)
    simp only [Nat.zero_add, ht]
  have hno : ∀ i, (Array.replicate ops.size false).getD i false = false := fun i => by
    rcases Nat.lt_or_ge i ops.size with h' | h'
    · simp [h']
    · simp [Nat.not_lt.2 h']
  have := wpAny_chain (P := P) (Q := Q) (md := .any) chain ds hds hap hl ho V R Rel a0 hloc hst hstep hfin ops.size (Array.replicate ops.size false) 0 (fun i => match ds[i]? with | some (some t) => a0.tmps.getD t undef | _ => undef) w.drew (by simp) ?_ closed_none (Nat.zero_le _) (fun k c _ => by rw [hno c]; simp) hR ?_
  · rw [hfill] at this
    exact this
  · unfold leftR
    refine Nat.le_trans List.countP_le_length ?_
    simp
  · intro i hi
    rw [hno i] at hi
    cases hi
section
variable {chain : List Nat} {ds : List (Option Tmp)} {V : Nat → (Nat → Value) → World → Prop} {R : Nat → World → Prop} {Rel : Nat → World → World → Prop} {a0 : Act} {i : Nat} {o : Oper}
theorem deps_of (ho : ops[i]? = some o) (deps : List Nat) (hd : waitsR md ops i deps = true) {v : Nat → Value} {w : World} (h : ∀ e ∈ o.after, Region.binds md e = true → V e.on v w) : ∀ j ∈ deps, V j v w := by
  intro j hj
  unfold waitsR at hd
  rw [ho] at hd
  have := List.all_eq_true.1 hd j hj
  obtain ⟨q, hq, he⟩ := Array.any_eq_true.1 this
  simp only [Bool.and_eq_true, beq_iff_eq] at he
  have := h o.after[q] (Array.getElem_mem _) he.1
  rwa [he.2] at this
/-- An operation that yields a value, not of the chain. -/
theorem StepP.val (ho : ops[i]? = some o) (hc : chain.contains i = false) (deps : List Nat) (hd : waitsR md ops i deps = true)
    (h : ∀ (p : Nat), (∀ k c, chain[k]? = some c → (ancR md ops ops.size c).contains i = true → p ≤ k) → (∀ k c, chain[k]? = some c → (ancR md ops ops.size i).contains c = true → k < p) → ∀ (v : Nat → Value) (w : World), R p w → (∀ j ∈ deps, V j v w) → Region.wanted o (yielded ops (fillR ds v 0 a0).tmps) = true ∧ ∃ x w', (execOp (fillR ds v 0 a0).eval o).run P w = .ok (.value x) w' ∧ R p w' ∧ Rel i w w' ∧ V i (setV v i x) w') : StepP P md ops Q chain ds V R Rel a0 i := by
  intro o' ho' p q hq hhi hlo v w hR hdep K hK
  rw [ho] at ho'
  cases ho'
  have hqp : q = p := by
    rcases hq with ⟨h1, _⟩ | ⟨_, h2⟩
    · have := List.mem_of_getElem? h1
      simp at hc
      exact absurd this hc
    · exact h2
  subst hqp
  obtain ⟨hw, x, w', hr, h1, h2, h3⟩ := h q hhi hlo v w hR (deps_of ho deps hd hdep)
  rw [if_pos hw]
  unfold Oper.wp
  rw [hr]
  exact hK.out x w' h1 h2 h3
theorem chain_at {p q k : Nat} (hc : chain[k]? = some i) (hn : chain.Nodup) (hq : chain[p]? = some i ∧ q = p + 1 ∨ i ∉ chain ∧ q = p) : p = k ∧ q = k + 1 := by
  rcases hq with ⟨h1, h2⟩ | ⟨h1, _⟩
  · have := (List.getElem?_inj (List.getElem?_eq_some_iff.1 h1).1 hn).1 (h1.trans hc.symm)
    omega
  · exact absurd (List.mem_of_getElem? hc) h1
/-- .. of the chain. -/
theorem StepP.cval (k : Nat) (ho : ops[i]? = some o) (hc : chain[k]? = some i) (hn : decide chain.Nodup = true) (deps : List Nat) (hd : waitsR md ops i deps = true)
    (h : ∀ (v : Nat → Value) (w : World), R k w → (∀ j ∈ deps, V j v w) → Region.wanted o (yielded ops (fillR ds v 0 a0).tmps) = true ∧ ∃ x w', (execOp (fillR ds v 0 a0).eval o).run P w = .ok (.value x) w' ∧ R (k + 1) w' ∧ Rel i w w' ∧ V i (setV v i x) w') : StepP P md ops Q chain ds V R Rel a0 i := by
  intro o' ho' p q hq hhi hlo v w hR hdep K hK
  rw [ho] at ho'
  cases ho'
  obtain ⟨rfl, rfl⟩ := chain_at hc (of_decide_eq_true hn) hq
  obtain ⟨hw, x, w', hr, h1, h2, h3⟩ := h v w hR (deps_of ho deps hd hdep)
  rw [if_pos hw]
  unfold Oper.wp
  rw [hr]
  exact hK.out x w' h1 h2 h3
/-- A store, of the chain. -/
theorem StepP.cskip (k : Nat) (ho : ops[i]? = some o) (hc : chain[k]? = some i) (hn : decide chain.Nodup = true) (deps : List Nat) (hd : waitsR md ops i deps = true)
    (h : ∀ (v : Nat → Value) (w : World), R k w → (∀ j ∈ deps, V j v w) → Region.wanted o (yielded ops (fillR ds v 0 a0).tmps) = true ∧ ∃ w', (execOp (fillR ds v 0 a0).eval o).run P w = .ok .skip w' ∧ R (k + 1) w' ∧ Rel i w w' ∧ V i (setV v i undef) w') : StepP P md ops Q chain ds V R Rel a0 i := by
  intro o' ho' p q hq hhi hlo v w hR hdep K hK
  rw [ho] at ho'
  cases ho'
  obtain ⟨rfl, rfl⟩ := chain_at hc (of_decide_eq_true hn) hq
  obtain ⟨hw, w', hr, h1, h2, h3⟩ := h v w hR (deps_of ho deps hd hdep)
  rw [if_pos hw]
  unfold Oper.wp
  rw [hr]
  exact hK.out undef w' h1 h2 h3
/-- A call of a Go function, of the chain. -/
theorem StepP.ccall (k : Nat) (ho : ops[i]? = some o) (hc : chain[k]? = some i) (hn : decide chain.Nodup = true) (deps : List Nat) (hd : waitsR md ops i deps = true)
    (h : ∀ (v : Nat → Value) (w : World), R k w → (∀ j ∈ deps, V j v w) → Region.wanted o (yielded ops (fillR ds v 0 a0).tmps) = true ∧ ∃ f args w1, (execOp (fillR ds v 0 a0).eval o).run P w = .ok (.enter f args) w1 ∧
      Calls P f args w1 fun e w' => ∃ x, e = .returned x ∧ R (k + 1) w' ∧ Rel i w w' ∧ V i (setV v i x) w') : StepP P md ops Q chain ds V R Rel a0 i := by
  intro o' ho' p q hq hhi hlo v w hR hdep K hK
  rw [ho] at ho'
  cases ho'
  obtain ⟨rfl, rfl⟩ := chain_at hc (of_decide_eq_true hn) hq
  obtain ⟨hw, f, args, w1, hr, hcl⟩ := h v w hR (deps_of ho deps hd hdep)
  rw [if_pos hw]
  unfold Oper.wp
  rw [hr]
  refine hcl.mono ?_
  rintro e w' ⟨x, rfl, h1, h2, h3⟩
  exact hK.out x w' h1 h2 h3
/-- A call of a Go function, not of the chain. -/
theorem StepP.call (ho : ops[i]? = some o) (hc : chain.contains i = false) (deps : List Nat) (hd : waitsR md ops i deps = true)
    (h : ∀ (p : Nat), (∀ k c, chain[k]? = some c → (ancR md ops ops.size c).contains i = true → p ≤ k) → (∀ k c, chain[k]? = some c → (ancR md ops ops.size i).contains c = true → k < p) → ∀ (v : Nat → Value) (w : World), R p w → (∀ j ∈ deps, V j v w) → Region.wanted o (yielded ops (fillR ds v 0 a0).tmps) = true ∧ ∃ f args w1, (execOp (fillR ds v 0 a0).eval o).run P w = .ok (.enter f args) w1 ∧
      Calls P f args w1 fun e w' => ∃ x, e = .returned x ∧ R p w' ∧ Rel i w w' ∧ V i (setV v i x) w') : StepP P md ops Q chain ds V R Rel a0 i := by
  intro o' ho' p q hq hhi hlo v w hR hdep K hK
  rw [ho] at ho'
  cases ho'
  have hqp : q = p := by
    rcases hq with ⟨h1, _⟩ | ⟨_, h2⟩
    · have := List.mem_of_getElem? h1
      simp at hc
      exact absurd this hc
    · exact h2
  subst hqp
  obtain ⟨hw, f, args, w1, hr, hcl⟩ := h q hhi hlo v w hR (deps_of ho deps hd hdep)
  rw [if_pos hw]
  unfold Oper.wp
  rw [hr]
  refine hcl.mono ?_
  rintro e w' ⟨x, rfl, h1, h2, h3⟩
  exact hK.out x w' h1 h2 h3
end
end
section
variable {P : Program} {ρ : Operand → Value} {o : Oper} {w w' : World}
theorem x_store {t : TypeId} {x y : Operand} {a b : Value} (ho : o.op = .store t x y) (hx : ρ x = a) (hy : ρ y = b) (hr : (Instr.storeAt t a b).run P w = .ok () w') : (execOp ρ o).run P w = .ok .skip w' := by
  unfold execOp
  rw [ho]
  simp only [hx, hy, Sem.run_bind, hr]
  rfl
end
end Go.Proofs.YtkmkblhmjeeaeaaGreatDoor
end
