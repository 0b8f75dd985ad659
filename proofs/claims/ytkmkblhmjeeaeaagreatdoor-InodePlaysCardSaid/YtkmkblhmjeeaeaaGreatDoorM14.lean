/-
  note: the sector of a node that isn't free. Conditions: its stat is right; it has at most eight blocks.
-/
import Derived.Test.YtkmkblhmjeeaeaaGreatDoorM12
import Derived.Test.YtkmkblhmjeeaeaaGreatDoorM13
import Derived.Test.YtkmkblhmjeeaeaaGreatDoorM4
section
set_option linter.unusedSimpArgs false
set_option linter.unusedVariables false
set_option maxRecDepth 100000
namespace Go.Proofs.YtkmkblhmjeeaeaaGreatDoor
open Go.RowKit

/-- What the first parts' operations leave. -/
def NtV (b : Nat) (x : Hv) (num : Nat) (i : Nat) (u : Value) (w : World) : Prop := match i with
  | 0 => ∃ g, u = .slice (some ⟨g, 0, none⟩) 1 1 ∧ b < g ∧ Blk w g 5 (Vb [1])
  | 1 => u = .pointer (some ⟨b, 0, none⟩)
  | 2 => u = .pointer (some ⟨b, 0, none⟩)
  | 3 => u = stv x.k x.m x.o x.g
  | 4 => u = .int .i64 num
  | 5 => ∃ g, u = .slice (some ⟨g, 0, none⟩) 8 8 ∧ b < g ∧ Blk w g 5 (Vb (big 8 num))
  | 6 => u = .pointer (some ⟨b, 0, none⟩)
  | 7 => u = .pointer (some ⟨b, 4, none⟩)
  | 8 => u = .slice x.A x.n x.c
  | 9 => u = .int .i64 (x.n : Int)
  | 10 => ∃ g, u = .slice (some ⟨g, 0, none⟩) 4 4 ∧ b < g ∧ Blk w g 5 (Vb (big 4 x.n))
  | 11 => ∃ p g0 g1 g2, u = .slice (some ⟨p, 0, none⟩) 3 3 ∧ b < p ∧ Blk w p 40 [.slice (some ⟨g0, 0, none⟩) 1 1, .slice (some ⟨g1, 0, none⟩) 8 8, .slice (some ⟨g2, 0, none⟩) 4 4] ∧ Blk w g0 5 (Vb [1]) ∧ Blk w g1 5 (Vb (big 8 num)) ∧ Blk w g2 5 (Vb (big 4 x.n))
  | 12 => ∃ p g0 g1 g2, u = .slice (some ⟨p, 0, none⟩) 3 3 ∧ b < p ∧ Blk w p 40 [.slice (some ⟨g0, 0, none⟩) 1 1, .slice (some ⟨g1, 0, none⟩) 8 8, .slice (some ⟨g2, 0, none⟩) 4 4] ∧ Blk w g0 5 (Vb [1]) ∧ Blk w g1 5 (Vb (big 8 num)) ∧ Blk w g2 5 (Vb (big 4 x.n))
  | _ => True
theorem NtV.st {b : Nat} {x : Hv} {num : Nat} : ∀ i u w w', NtV b x num i u w → Below w.heap.size w w' → NtV b x num i u w' := by
  intro i u w w' h hr
  match i, h with
  | 0, h => obtain ⟨g, h1, h2, h3⟩ := h; exact ⟨g, h1, h2, h3.below hr h3.lt⟩
  | 1, h => exact h
  | 2, h => exact h
  | 3, h => exact h
  | 4, h => exact h
  | 5, h => obtain ⟨g, h1, h2, h3⟩ := h; exact ⟨g, h1, h2, h3.below hr h3.lt⟩
  | 6, h => exact h
  | 7, h => exact h
  | 8, h => exact h
  | 9, h => exact h
  | 10, h => obtain ⟨g, h1, h2, h3⟩ := h; exact ⟨g, h1, h2, h3.below hr h3.lt⟩
  | 11, h => obtain ⟨p, g0, g1, g2, h1, h2, h3, h4, h5, h6⟩ := h; exact ⟨p, g0, g1, g2, h1, h2, h3.below hr h3.lt, h4.below hr h4.lt, h5.below hr h5.lt, h6.below hr h6.lt⟩
  | 12, h => obtain ⟨p, g0, g1, g2, h1, h2, h3, h4, h5, h6⟩ := h; exact ⟨p, g0, g1, g2, h1, h2, h3.below hr h3.lt, h4.below hr h4.lt, h5.below hr h5.lt, h6.below hr h6.lt⟩
  | i + 13, _ => trivial
theorem NtV.parts {b : Nat} {x : Hv} {num : Nat} {u : Value} {w : World} (h : NtV b x num 12 u w) : ∃ p g0 g1 g2, u = .slice (some ⟨p, 0, none⟩) 3 3 ∧ b < p ∧ Blk w p 40 [.slice (some ⟨g0, 0, none⟩) 1 1, .slice (some ⟨g1, 0, none⟩) 8 8, .slice (some ⟨g2, 0, none⟩) 4 4] ∧ Blk w g0 5 (Vb [1]) ∧ Blk w g1 5 (Vb (big 8 num)) ∧ Blk w g2 5 (Vb (big 4 x.n)) := h
theorem onebyte_cells : Vb [1] = [.int .u8 1] := by simp [Vb, nb]

set_option maxRecDepth 100000 in
set_option maxHeartbeats 8000000 in
theorem note_held (w : World) (A : Nat → Prop) (x : Hv) (h : Hd) (hx : HIn A w x h) (hok : chk h.k h.m h.o h.g = 0) (hdl : h.data.length ≤ 512) (hbl : h.bl.length ≤ 8) (hb8 : ∀ b ∈ h.bl, b ≤ 1000000) :
    Calls Tryz.prog 62 #[hval x] w fun e w' => ∃ g, e = .returned (.slice (some ⟨g, 0, none⟩) 64 64) ∧ w.heap.size ≤ g ∧ Blk w' g 5 (Vb (noteN h)) ∧ Below w.heap.size w w' := by
  have hxn : h.data.length = x.n := hx.data.cells.1
  have hxl : h.bl.length = x.l := hx.bl.len
  obtain ⟨num, hnum⟩ : ∃ num : Nat, mnumOf x.k x.m x.o x.g = num := ⟨(mnumOf x.k x.m x.o x.g).toNat, by
    rw [hx.k, hx.m, hx.o, hx.g]
    unfold mnumOf
    rw [if_pos hok]
    obtain ⟨⟨a0, a1⟩, ⟨b0, b1⟩, ⟨c0, c1⟩, d0, d1⟩ := chk_zero hok
    unfold numS
    omega⟩
  have hnum' : (num : Int) = numS h.k h.m h.o h.g := by
    rw [← hnum, hx.k, hx.m, hx.o, hx.g]
    unfold mnumOf
    rw [if_pos hok]
  have hn64 : num ≤ 9223372036854775807 := by
    obtain ⟨⟨a0, a1⟩, ⟨b0, b1⟩, ⟨c0, c1⟩, d0, d1⟩ := chk_zero hok
    unfold numS at hnum'
    omega
  have hxn2 : x.n ≤ 1000000 := by omega
  have hxl2 : x.l ≤ 8 := by omega
  have HT : Hid (noteN h = pad64 ([1] ++ (big 8 num ++ (big 4 x.n ++ (h.bl.map (big 4)).flatten)))) := Lib.hid (by
    unfold noteN
    rw [show (numS h.k h.m h.o h.g).toNat = num by omega, hxn]
    rfl)
  have hb1 := new_below w (.cells #[.int .i64 x.k, .int .i64 x.m, .int .i64 x.o, .int .i64 x.g, .slice x.A x.n x.c, .slice x.P x.l x.q] 98)
  have hk1 := Blk.new w 98 [.int .i64 x.k, .int .i64 x.m, .int .i64 x.o, .int .i64 x.g, .slice x.A x.n x.c, .slice x.P x.l x.q]
  obtain ⟨W, hW⟩ : ∃ W, w.alloc (.cells #[.int .i64 x.k, .int .i64 x.m, .int .i64 x.o, .int .i64 x.g, .slice x.A x.n x.c, .slice x.P x.l x.q] 98) = W := ⟨_, rfl⟩
  have hsz : W.heap.size = w.heap.size + 1 := by rw [← hW]; simp
  have HZ := Lib.hid hsz
  have HW := Lib.hid hW
  have H0 : Hid (Below w.heap.size w W ∧ Blk W w.heap.size 98 [.int .i64 x.k, .int .i64 x.m, .int .i64 x.o, .int .i64 x.g, .slice x.A x.n x.c, .slice x.P x.l x.q]) := Lib.hid (by rw [← hW]; exact ⟨hb1, hk1⟩)
  have HN := Lib.hid hnum
  have HH := Lib.hid (And.intro hx (And.intro hb8 (And.intro hxn hxl)))
  clear hb1 hk1 hx hb8 hnum hnum' hxn hxl hok hsz
  go_enter Tryz.func62, Tryz.ntmps62
  go_wp2_with fail
  clear hW
  refine wp_region_look [some 6, some 7, some 8, some 9, some 10, some 11, some 12, some 13, some 14, some 15, some 16, some 17, some 3] (fun i v wx => NtV w.heap.size x num i (v i) wx) (fun _ => []) (fun wx => Below W.heap.size W wx) (fun _ a b => Below a.heap.size a b) 13 (by kernel_rfl) rfl rfl rfl (by kernel_rfl) (drew_below W) (fun i v j u wx hV hj _ => by show NtV _ _ _ i (setV v j u i) wx; unfold setV; rw [if_neg (fun e => hj e.symm)]; exact hV) ?_ (fun i k v a b _ hV hr => NtV.st i (v i) a b hV hr) ?_ ?_
  · intro i hi
    match i, hi with
    | 0, _ => exact (by decide +kernel)
    | 1, _ => exact (by decide +kernel)
    | 2, _ => exact (by decide +kernel)
    | 3, _ => exact (by decide +kernel)
    | 4, _ => exact (by decide +kernel)
    | 5, _ => exact (by decide +kernel)
    | 6, _ => exact (by decide +kernel)
    | 7, _ => exact (by decide +kernel)
    | 8, _ => exact (by decide +kernel)
    | 9, _ => exact (by decide +kernel)
    | 10, _ => exact (by decide +kernel)
    | 11, _ => exact (by decide +kernel)
    | 12, _ => exact (by decide +kernel)
    | i + 13, h => omega
  · intro i hi
    match i, hi with
    | 0, _ =>
      refine StepL.of rfl [] (by decide +kernel) ?_
      intro v wx hR hd K hK
      have hb := new_below wx (.cells #[.int .u8 1] 5)
      have hk := Blk.new wx 5 [.int .u8 1]
      have hk2 : Blk (wx.alloc (.cells #[.int .u8 1] 5)) wx.heap.size 5 (Vb [1]) := by rw [onebyte_cells]; exact hk
      have HX := Lib.hid (And.intro (hR.trans (hb.mono hR.size)) (And.intro hb hk2))
      have hs := hR.size
      rw [HZ.out] at hs
      clear hb hk hk2 hd
      simp only [List.getElem_toArray, List.getElem_cons_zero, List.getElem_cons_succ, fillR, Act.put, List.setIfInBounds_toArray, List.set_cons_zero, List.set_cons_succ] at hK ⊢
      go_simp
      exact hK.out _ _ HX.out.1 HX.out.2.1 ⟨_, rfl, by omega, HX.out.2.2⟩
    | 1, _ =>
      refine StepL.of rfl [] (by decide +kernel) ?_
      intro v wx hR hd K hK
      clear hd
      simp only [List.getElem_toArray, List.getElem_cons_zero, List.getElem_cons_succ, fillR, Act.put, List.setIfInBounds_toArray, List.set_cons_zero, List.set_cons_succ] at hK ⊢
      go_simp
      exact hK.out _ _ hR (Below.refl _ _) rfl
    | 2, _ =>
      refine StepL.of rfl [1] (by decide +kernel) ?_
      intro v wx hR hd K hK
      have h1 : v 1 = _ := hd 1 (by simp)
      clear hd
      simp only [List.getElem_toArray, List.getElem_cons_zero, List.getElem_cons_succ, fillR, Act.put, List.setIfInBounds_toArray, List.set_cons_zero, List.set_cons_succ, h1] at hK ⊢
      go_simp
      exact hK.out _ _ hR (Below.refl _ _) rfl
    | 3, _ =>
      refine StepL.of rfl [2] (by decide +kernel) ?_
      intro v wx hR hd K hK
      have hk := H0.out.2.below hR H0.out.2.lt
      have c0 := hk.cell 0
      have c1 := hk.cell 1
      have c2 := hk.cell 2
      have c3 := hk.cell 3
      have c4 := hk.cell 4
      simp only [List.getElem?_cons_succ, List.getElem?_cons_zero] at c0 c1 c2 c3 c4
      clear hk
      have h2 : v 2 = _ := hd 2 (by simp)
      clear hd
      simp only [List.getElem_toArray, List.getElem_cons_zero, List.getElem_cons_succ, fillR, Act.put, List.setIfInBounds_toArray, List.set_cons_zero, List.set_cons_succ, h2] at hK ⊢
      go_simp
      exact hK.out _ _ hR (Below.refl _ _) rfl
    | 4, _ =>
      refine StepL.of rfl [3] (by decide +kernel) ?_
      intro v wx hR hd K hK
      have h3 : v 3 = _ := hd 3 (by simp)
      clear hd
      simp only [List.getElem_toArray, List.getElem_cons_zero, List.getElem_cons_succ, fillR, Act.put, List.setIfInBounds_toArray, List.set_cons_zero, List.set_cons_succ, h3] at hK ⊢
      go_simp
      refine (mnumber_any _ x.k x.m x.o x.g).mono ?_
      rw [HN.out]
      rintro e w' ⟨rfl, hW⟩
      have hq := hK.out (.int .i64 num) w' (hR.trans (hW.mono hR.size)) hW rfl
      clear hK hW
      go_wp2_with fail
      exact hq
    | 5, _ =>
      refine StepL.of rfl [4] (by decide +kernel) ?_
      intro v wx hR hd K hK
      have h4 : v 4 = _ := hd 4 (by simp)
      have hs := hR.size
      rw [HZ.out] at hs
      clear hd
      simp only [List.getElem_toArray, List.getElem_cons_zero, List.getElem_cons_succ, fillR, Act.put, List.setIfInBounds_toArray, List.set_cons_zero, List.set_cons_succ, h4] at hK ⊢
      go_simp
      refine (inBytes8 _ num hn64).mono ?_
      rintro e w' ⟨rfl, hB, hW⟩
      have hq := hK.out (.slice (some ⟨wx.heap.size, 0, none⟩) 8 8) w' (hR.trans (hW.mono hR.size)) hW ⟨_, rfl, by omega, hB⟩
      clear hK hW hB
      go_wp2_with fail
      exact hq
    | 6, _ =>
      refine StepL.of rfl [] (by decide +kernel) ?_
      intro v wx hR hd K hK
      clear hd
      simp only [List.getElem_toArray, List.getElem_cons_zero, List.getElem_cons_succ, fillR, Act.put, List.setIfInBounds_toArray, List.set_cons_zero, List.set_cons_succ] at hK ⊢
      go_simp
      exact hK.out _ _ hR (Below.refl _ _) rfl
    | 7, _ =>
      refine StepL.of rfl [6] (by decide +kernel) ?_
      intro v wx hR hd K hK
      have h6 : v 6 = _ := hd 6 (by simp)
      clear hd
      simp only [List.getElem_toArray, List.getElem_cons_zero, List.getElem_cons_succ, fillR, Act.put, List.setIfInBounds_toArray, List.set_cons_zero, List.set_cons_succ, h6] at hK ⊢
      go_simp
      exact hK.out _ _ hR (Below.refl _ _) rfl
    | 8, _ =>
      refine StepL.of rfl [7] (by decide +kernel) ?_
      intro v wx hR hd K hK
      have hk := H0.out.2.below hR H0.out.2.lt
      have c0 := hk.cell 0
      have c1 := hk.cell 1
      have c2 := hk.cell 2
      have c3 := hk.cell 3
      have c4 := hk.cell 4
      simp only [List.getElem?_cons_succ, List.getElem?_cons_zero] at c0 c1 c2 c3 c4
      clear hk
      have h7 : v 7 = _ := hd 7 (by simp)
      clear hd
      simp only [List.getElem_toArray, List.getElem_cons_zero, List.getElem_cons_succ, fillR, Act.put, List.setIfInBounds_toArray, List.set_cons_zero, List.set_cons_succ, h7] at hK ⊢
      go_simp
      exact hK.out _ _ hR (Below.refl _ _) rfl
    | 9, _ =>
      refine StepL.of rfl [8] (by decide +kernel) ?_
      intro v wx hR hd K hK
      have h8 : v 8 = _ := hd 8 (by simp)
      clear hd
      simp only [List.getElem_toArray, List.getElem_cons_zero, List.getElem_cons_succ, fillR, Act.put, List.setIfInBounds_toArray, List.set_cons_zero, List.set_cons_succ, h8] at hK ⊢
      go_simp
      exact hK.out _ _ hR (Below.refl _ _) rfl
    | 10, _ =>
      refine StepL.of rfl [9] (by decide +kernel) ?_
      intro v wx hR hd K hK
      have h9 : v 9 = _ := hd 9 (by simp)
      have hs := hR.size
      rw [HZ.out] at hs
      clear hd
      simp only [List.getElem_toArray, List.getElem_cons_zero, List.getElem_cons_succ, fillR, Act.put, List.setIfInBounds_toArray, List.set_cons_zero, List.set_cons_succ, h9] at hK ⊢
      go_simp
      refine (inBytes4 _ x.n (by omega)).mono ?_
      rintro e w' ⟨rfl, hB, hW⟩
      have hq := hK.out (.slice (some ⟨wx.heap.size, 0, none⟩) 4 4) w' (hR.trans (hW.mono hR.size)) hW ⟨_, rfl, by omega, hB⟩
      clear hK hW hB
      go_wp2_with fail
      exact hq
    | 11, _ =>
      refine StepL.of rfl [0, 5, 10] (by decide +kernel) ?_
      intro v wx hR hd K hK
      obtain ⟨g0, h0, hg0, k0⟩ : ∃ g, v 0 = .slice (some ⟨g, 0, none⟩) 1 1 ∧ w.heap.size < g ∧ Blk wx g 5 (Vb [1]) := hd 0 (by simp)
      obtain ⟨g1, h5, hg1, k1⟩ : ∃ g, v 5 = .slice (some ⟨g, 0, none⟩) 8 8 ∧ w.heap.size < g ∧ Blk wx g 5 (Vb (big 8 num)) := hd 5 (by simp)
      obtain ⟨g2, h10, hg2, k2⟩ : ∃ g, v 10 = .slice (some ⟨g, 0, none⟩) 4 4 ∧ w.heap.size < g ∧ Blk wx g 5 (Vb (big 4 x.n)) := hd 10 (by simp)
      have hb := new_below wx (.cells #[.slice (some ⟨g0, 0, none⟩) 1 1, .slice (some ⟨g1, 0, none⟩) 8 8, .slice (some ⟨g2, 0, none⟩) 4 4] 40)
      have hk := Blk.new wx 40 [.slice (some ⟨g0, 0, none⟩) 1 1, .slice (some ⟨g1, 0, none⟩) 8 8, .slice (some ⟨g2, 0, none⟩) 4 4]
      have hs := hR.size
      rw [HZ.out] at hs
      have HX := Lib.hid (And.intro (hR.trans (hb.mono hR.size)) (And.intro hb (And.intro hk (And.intro (k0.below hb k0.lt) (And.intro (k1.below hb k1.lt) (k2.below hb k2.lt))))))
      clear hb hk hd k0 k1 k2 hg0 hg1 hg2
      simp only [List.getElem_toArray, List.getElem_cons_zero, List.getElem_cons_succ, fillR, Act.put, List.setIfInBounds_toArray, List.set_cons_zero, List.set_cons_succ, h0, h5, h10] at hK ⊢
      go_simp
      exact hK.out _ _ HX.out.1 HX.out.2.1 ⟨_, g0, g1, g2, rfl, by omega, HX.out.2.2⟩
    | 12, _ =>
      refine StepL.of rfl [11] (by decide +kernel) ?_
      intro v wx hR hd K hK
      obtain ⟨p, g0, g1, g2, h11, hp⟩ : ∃ p g0 g1 g2, v 11 = .slice (some ⟨p, 0, none⟩) 3 3 ∧ w.heap.size < p ∧ Blk wx p 40 [.slice (some ⟨g0, 0, none⟩) 1 1, .slice (some ⟨g1, 0, none⟩) 8 8, .slice (some ⟨g2, 0, none⟩) 4 4] ∧ Blk wx g0 5 (Vb [1]) ∧ Blk wx g1 5 (Vb (big 8 num)) ∧ Blk wx g2 5 (Vb (big 4 x.n)) := hd 11 (by simp)
      have HX := Lib.hid hp
      clear hd hp
      simp only [List.getElem_toArray, List.getElem_cons_zero, List.getElem_cons_succ, fillR, Act.put, List.setIfInBounds_toArray, List.set_cons_zero, List.set_cons_succ, h11] at hK ⊢
      go_simp
      exact hK.out _ _ hR (Below.refl _ _) ⟨p, g0, g1, g2, rfl, HX.out⟩
    | i + 13, h => omega
  · intro v wx hR hV
    obtain ⟨p, g0, g1, g2, h12, hp, kp, k0, k1, k2⟩ := (hV 12 (by omega)).parts
    simp only [fillR, Act.put, List.setIfInBounds_toArray, List.set_cons_zero, List.set_cons_succ, h12]
    have hop : OParts w.heap.size wx (.slice (some ⟨p, 0, none⟩) 3 3) 3 [[1], big 8 num, big 4 x.n] := by
      refine ⟨_, ⟨rfl, .inr ⟨p, 3, _, rfl, by omega, kp, Nat.le_refl _, by unfold maxLen; decide, rfl, rfl⟩⟩, rfl, rfl, fun j y hy => ?_⟩
      match j, hy with
      | 0, hy => simp at hy; subst hy; exact ⟨_, rfl, Bts.whole k0 (.inl rfl) trivial rfl (by omega)⟩
      | 1, hy => simp at hy; subst hy; exact ⟨_, rfl, Bts.whole k1 (.inl rfl) trivial (big_length _ _) (by omega)⟩
      | 2, hy => simp at hy; subst hy; exact ⟨_, rfl, Bts.whole k2 (.inl rfl) trivial (big_length _ _) (by omega)⟩
      | k + 3, hy => simp at hy
    have hbel := H0.out.1.trans (hR.mono H0.out.1.size)
    have hbx := H0.out.2.below hR H0.out.2.lt
    have e5 := hbx.cell 5
    simp only [List.getElem?_cons_succ, List.getElem?_cons_zero] at e5
    have H1 := Lib.hid (And.intro hop hbel)
    clear hV hR kp k0 k1 k2 hop hbel hbx hp h12
    clear H0
    obtain ⟨xk, xm, xo, xg, xA, xn, xc, xP, xl, xq⟩ := x
    dsimp only at HT HH H1 hxn2 hxl2 e5 ⊢
    have hP : Hid (xP = none → xl = 0) := Lib.hid <| by
      rintro rfl
      rcases HH.out.1.bl with ⟨e, _⟩ | ⟨g, cap, cs, e, _⟩
      · cases e; rfl
      · cases e
    rcases xP with _ | ⟨gb, ob, sb⟩
    all_goals
      go_wp2_with fail
      go_loopw [21, 3] (fun iv tv wy => ∃ i : Nat, i ≤ xl ∧ iv = .int .i64 i ∧ OParts w.heap.size wy tv (3 + i) ([[1], big 8 num, big 4 xn] ++ (h.bl.take i).map (big 4)) ∧ Below w.heap.size w wy) (fun iv _ _ => xl - (intOf iv).toNat)
      case atStart => exact ⟨0, Nat.zero_le _, rfl, by simpa using H1.out.1, H1.out.2⟩
      case round =>
        obtain ⟨i, hi, rfl, h1, h2⟩ := hrel
        clear e5
        by_cases hlt : i < xl
        · first
            | (exfalso; have hz := hP.out (by trivial); rw [hz] at hlt; exact absurd hlt (Nat.not_lt_zero _))
            | (
              clear hP
              have hxy := HH.out.1.below h2
              obtain ⟨g, hP, _, _, hcs⟩ := hxy.bl.cells (by simpa using (show 0 < xl by omega))
              obtain ⟨rfl, rfl, rfl⟩ : g = gb ∧ ob = 0 ∧ sb = none := by
                have := hP
                simp only [Option.some.injEq, Addr.mk.injEq] at this
                exact ⟨this.1.symm, this.2.1, this.2.2⟩
              clear hP
              obtain ⟨b, hb⟩ : ∃ b, h.bl[i]? = some b := ⟨_, List.getElem?_eq_getElem (by rw [HH.out.2.2.2]; exact hlt)⟩
              have cb := hcs i b hb
              have hbb := HH.out.2.1 b (List.mem_of_getElem? hb)
              have HR := Lib.hid (And.intro h1 (And.intro h2 hb))
              have hs := h2.size
              clear hcs hxy h1 h2 hb
              go_wp2_with fail
              refine (inBytes4 _ b (by omega)).mono ?_
              rintro e w5 ⟨rfl, hB, hW⟩
              have hb5 := new_below w5 (.cells #[.slice (some ⟨wr.heap.size, 0, none⟩) 4 4] 40)
              have hk5 := Blk.new w5 40 [.slice (some ⟨wr.heap.size, 0, none⟩) 4 4]
              have hbel5 := below_of hW hb5
              have H5 := Lib.hid (And.intro (HR.out.1.below hbel5) (And.intro (HR.out.2.1.trans (hbel5.mono hs)) (And.intro hk5 ((Bts.whole (A := fun _ => True) hB (.inl rfl) trivial (big_length 4 b) (by omega)).below hb5))))
              have hs5 := hbel5.size
              clear hB hW hb5 hk5 hbel5
              go_wp2_with (at_builtin; refine wpList_app_text rfl (.tmp 25) (.tmp 28) rfl rfl H5.out.1 w5.heap.size (some ⟨wr.heap.size, 0, none⟩) 4 4 rfl H5.out.2.2.1 (big 4 b) H5.out.2.2.2 (by omega) (by omega) ?_; intro g6 cap6 w6 ho6 hk6; have H6 := Lib.hid (And.intro ho6 (H5.out.2.1.trans hk6.below)); clear ho6 hk6)
              go_roundw
              case rel =>
                refine ⟨i + 1, by omega, by go_num, ?_, H6.out.2⟩
                have := H6.out.1
                rw [take_snoc_ HR.out.2.2, List.map_append, ← List.append_assoc]
                exact this
              case measure => simp [intOf]; omega)
        · obtain rfl : i = xl := by omega
          rw [List.take_of_length_le (by have := HH.out.2.2.2; omega)] at h1
          have hfl : ([1] ++ (big 8 num ++ (big 4 xn ++ (h.bl.map (big 4)).flatten))) = ([[1], big 8 num, big 4 xn] ++ h.bl.map (big 4)).flatten := by simp
          have hln : (([[1], big 8 num, big 4 xn] ++ h.bl.map (big 4)).flatten).length ≤ 64 := by
            rw [← hfl]
            simp only [List.length_append, List.length_singleton, big_length, flat4_length, HH.out.2.2.2]
            omega
          obtain ⟨cells, ho, hcl, hxl3, hcs⟩ := h1
          rcases ho.2 with ⟨_, hz⟩ | ⟨gp, cap, cur, rfl, hgp, hkb, hc1, hc2, hc3, hct⟩
          · omega
          have HR := Lib.hid (And.intro hkb (And.intro hct (And.intro hcl (And.intro hcs (And.intro h2 (And.intro hfl (And.intro hln hxl3)))))))
          clear h2 hkb hct hcl hcs hfl hln ho hxl3 hP
          go_wp2_with fail
          refine (sector_joins wr gp (3 + i) cap cells ([[1], big 8 num, big 4 xn] ++ h.bl.map (big 4)) (by omega) (by omega) HR.out.2.2.2.2.2.2.2 HR.out.2.2.1 (fun w' hw j v hv => ?_) (fun j v y hv hy => ?_) (by omega) HR.out.2.2.2.2.2.2.1).mono ?_
          · have hkw : Blk w' gp 40 cur.toList := (show Blk wr gp 40 cur.toList by simpa [Blk] using HR.out.1).below hw (by exact (Array.getElem?_eq_some_iff.1 HR.out.1).1)
            rw [hkw.cell]
            have := HR.out.2.1
            rw [← this, List.getElem?_take] at hv
            split at hv
            · exact hv
            · cases hv
          · obtain ⟨u, hu, hbt⟩ := HR.out.2.2.2.1 j y hy
            rw [hu] at hv
            cases hv
            exact hbt.hb
          rintro e w7 ⟨rfl, hB, hW⟩
          have hs7 := HR.out.2.2.2.2.1.size
          have H7 := Lib.hid (And.intro hB (HR.out.2.2.2.2.1.trans (hW.mono hs7)))
          clear hB hW
          go_wp2_with fail
          go_ret
          refine ⟨_, rfl, hs7, ?_, H7.out.2⟩
          rw [HT.out, HR.out.2.2.2.2.2.1]
          exact H7.out.1
end Go.Proofs.YtkmkblhmjeeaeaaGreatDoor
end

/-
  Changes that nothing is wrong with are good ones. Plain lists; no condition.
-/

section
set_option linter.unusedSimpArgs false
set_option linter.unusedVariables false
set_option maxRecDepth 100000
namespace Go.Proofs.YtkmkblhmjeeaeaaGreatDoor
open Go.RowKit Go.Maps

theorem firstErr_ok : ∀ {l : List Cv}, firstErr l = 0 → ∀ x ∈ l, x.drop = false → chk x.k x.m x.o x.g = 0 ∧ x.n ≤ 512
  | [], _, x, hx, _ => by cases hx
  | y :: r, h, x, hx, hd => by
    unfold firstErr at h
    rcases List.mem_cons.1 hx with e | hx
    · subst e
      rw [if_neg (by rw [hd]; decide)] at h
      split at h
      · exact absurd h (by assumption)
      · rename_i hk
        split at h
        · cases h
        · exact ⟨Decidable.not_not.1 hk, by omega⟩
    · split at h
      · exact firstErr_ok h x hx hd
      · split at h
        · exact absurd h (by assumption)
        · split at h
          · cases h
          · exact firstErr_ok h x hx hd
theorem chkL_ok {l : List Cv} {N : Int} (h : chkL l N = 0) : badNo N l = false ∧ twiceTo l l.length = false ∧ firstErr l = 0 := by
  unfold chkL at h
  cases hb : badNo N l with
  | true => rw [hb] at h; cases h
  | false =>
    rw [hb] at h
    cases ht : twiceTo l l.length with
    | true => rw [ht] at h; cases h
    | false => rw [ht] at h; exact ⟨rfl, rfl, h⟩
theorem twice_no {l : List Cv} (h : twiceTo l l.length = false) {i k : Nat} {x y : Cv} (hx : l[i]? = some x) (hy : l[k]? = some y) (hki : k < i) : y.no ≠ x.no := by
  intro e
  have hy2 : (l.take i)[k]? = some y := by rw [List.getElem?_take_of_lt hki]; exact hy
  have : twiceAt l i x.no = true := by
    unfold twiceAt
    exact List.any_eq_true.2 ⟨y, List.mem_of_getElem? hy2, by simp [e]⟩
  rw [twiceTo_hit hx this] at h
  cases h
theorem good_of {A : Nat → Prop} {w : World} {l : List Cv} {lc : List Ch} {N : Nat} (h : ChsIn A w l lc) (hc : chkL l N = 0) : Good7 N lc := by
  obtain ⟨hb, ht, hf⟩ := chkL_ok hc
  have hat : ∀ (i : Nat) (c : Ch), lc[i]? = some c → ∃ x, l[i]? = some x ∧ ChIn A w x c := fun i c hi => by
    have h1 := (List.getElem?_eq_some_iff.1 hi).1
    have h2 : i < l.length := by have := h.1; omega
    exact ⟨l[i], List.getElem?_eq_getElem h2, h.2 i _ c (List.getElem?_eq_getElem h2) hi⟩
  refine ⟨fun c hcm => ?_, ?_, fun c hcm hd => ?_⟩
  · obtain ⟨i, hi⟩ := List.getElem?_of_mem hcm
    obtain ⟨x, hx, hin⟩ := hat i c hi
    unfold badNo at hb
    rw [List.any_eq_false] at hb
    have := hb x (List.mem_of_getElem? hx)
    have e := hin.no
    simp only [Bool.or_eq_true, decide_eq_true_eq, _root_.not_or, Int.not_lt, Int.not_le] at this
    omega
  · unfold List.Nodup
    rw [List.pairwise_iff_getElem]
    intro a b ha hb2 hab
    rw [List.length_map] at ha hb2
    obtain ⟨x, hx, hinx⟩ := hat a _ (List.getElem?_eq_getElem ha)
    obtain ⟨y, hy, hiny⟩ := hat b _ (List.getElem?_eq_getElem hb2)
    rw [List.getElem_map, List.getElem_map, ← hinx.no, ← hiny.no]
    exact twice_no ht hy hx hab
  · obtain ⟨i, hi⟩ := List.getElem?_of_mem hcm
    obtain ⟨x, hx, hin⟩ := hat i c hi
    have h3 := firstErr_ok hf x (List.mem_of_getElem? hx) (by rw [hin.drop]; exact hd)
    rw [hin.k, hin.m, hin.o, hin.g] at h3
    have h4 : c.data.length = x.n := hin.data.cells.1
    exact ⟨h3.1, by omega⟩
end Go.Proofs.YtkmkblhmjeeaeaaGreatDoor
end
