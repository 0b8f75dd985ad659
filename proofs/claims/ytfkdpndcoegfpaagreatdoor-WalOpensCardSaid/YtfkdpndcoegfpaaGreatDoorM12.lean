/-
  The document's Head. Condition: the number isn't below 0.
-/
import Derived.Test.YtfkdpndcoegfpaaGreatDoorM11
import Derived.Test.YtfkdpndcoegfpaaGreatDoorM5
import Derived.Test.YtfkdpndcoegfpaaGreatDoorM10
section
set_option maxRecDepth 100000
set_option linter.unusedSimpArgs false
set_option linter.unusedVariables false
namespace Go.Proofs.YtfkdpndcoegfpaaGreatDoor
open Go.RowKit
attribute [local go_sem ↓] exec_loadTbl

/-- What each operation of Head's region that draws its order is good for. -/
def HdV (N gn : Nat) (bs d : List B8) (i : Nat) (v : Nat → Value) (w : World) : Prop :=
  match i with
  | 0 => v 0 = .agg Tbl.toArray
  | 1 => v 1 = .slice (some ⟨gn, 0, none⟩) 8 8
  | 2 => ∃ g, v 2 = .slice (some ⟨g, 0, none⟩) 1 1 ∧ Blk w g 22 [.slice (some ⟨gn, 0, none⟩) 8 8]
  | 3 => w.ownsRow N 5 1 (v 3) (framesOf [bs]).length (Vb (framesOf [bs]))
  | 4 => v 4 = .agg (Vb d).toArray
  | 5 => ∃ g cs, v 5 = .pointer (some ⟨g, 0, none⟩) ∧ N ≤ g ∧ Blk w g 184 cs ∧ cs.length = 32
  | 6 => ∃ g, v 5 = .pointer (some ⟨g, 0, none⟩) ∧ N ≤ g ∧ Blk w g 184 (Vb d)
  | _ => True
def HdRel (d : List B8) (k : Nat) (w w' : World) : Prop :=
  if k = 6 then ∃ g cs, Blk w g 184 cs ∧ Blk w' g 184 (Vb d) ∧ Only [g] w w' else Below w.heap.size w w'
theorem HdV.five {N gn : Nat} {bs d : List B8} {v : Nat → Value} {w : World} (h : HdV N gn bs d 5 v w) : ∃ g cs, v 5 = .pointer (some ⟨g, 0, none⟩) ∧ N ≤ g ∧ Blk w g 184 cs ∧ cs.length = 32 := h
theorem HdV.six {N gn : Nat} {bs d : List B8} {v : Nat → Value} {w : World} (h : HdV N gn bs d 6 v w) : ∃ g, v 5 = .pointer (some ⟨g, 0, none⟩) ∧ N ≤ g ∧ Blk w g 184 (Vb d) := h
theorem HdV.two {N gn : Nat} {bs d : List B8} {v : Nat → Value} {w : World} (h : HdV N gn bs d 2 v w) : ∃ g, v 2 = .slice (some ⟨g, 0, none⟩) 1 1 ∧ Blk w g 22 [.slice (some ⟨gn, 0, none⟩) 8 8] := h
theorem HdV.loc {N gn : Nat} {bs d : List B8} : ∀ i v j x w, HdV N gn bs d i v w → j ≠ i → j ∉ (if i = 6 then [5] else ([] : List Nat)) → HdV N gn bs d i (setV v j x) w := by
  intro i v j x w h hj hl
  have e : ∀ k, k ≠ j → setV v j x k = v k := fun k hk => by unfold setV; rw [if_neg hk]
  match i, h, hj, hl with
  | 0, h, hj, _ => exact (e 0 hj.symm).trans h
  | 1, h, hj, _ => exact (e 1 hj.symm).trans h
  | 2, h, hj, _ => obtain ⟨g, h1, h2⟩ := h; exact ⟨g, (e 2 hj.symm).trans h1, h2⟩
  | 3, h, hj, _ => show w.ownsRow _ _ _ (setV v j x 3) _ _; rw [e 3 hj.symm]; exact h
  | 4, h, hj, _ => exact (e 4 hj.symm).trans h
  | 5, h, hj, _ => obtain ⟨g, cs, h1, h2⟩ := h; exact ⟨g, cs, (e 5 hj.symm).trans h1, h2⟩
  | 6, h, hj, hl => obtain ⟨g, h1, h2⟩ := h; exact ⟨g, (e 5 (fun h => hl (by subst h; simp))).trans h1, h2⟩
  | i + 7, _, _, _ => trivial
theorem HdV.st {N gn : Nat} {bs d : List B8} (hd : d.length = 32) : ∀ i k v w w', k ≠ i → HdV N gn bs d i v w → HdRel d k w w' → HdV N gn bs d i v w' := by
  intro i k v w w' hk h hr
  unfold HdRel at hr
  by_cases h6 : k = 6
  · rw [if_pos h6] at hr
    obtain ⟨g0, cs0, hb0, hb1, ho⟩ := hr
    match i, h, hk with
    | 0, h, _ => exact h
    | 1, h, _ => exact h
    | 2, h, _ => obtain ⟨g, h1, h2⟩ := h; exact ⟨g, h1, h2.only ho (by simp only [List.mem_singleton]; rintro rfl; exact absurd (h2.same hb0).1 (by decide))⟩
    | 3, h, _ => exact ownsRow_only h ho (fun q hq hm => own_blk_ne h hb0 (by decide) (by rw [List.mem_singleton] at hm; rw [← hm]; exact hq))
    | 4, h, _ => exact h
    | 5, h, _ =>
      obtain ⟨g, cs, h1, h2, h3, h4⟩ := h
      by_cases hg : g = g0
      · subst hg
        exact ⟨g, Vb d, h1, h2, hb1, by rw [Vb_length, hd]⟩
      · exact ⟨g, cs, h1, h2, h3.only ho (by simpa using hg), h4⟩
    | 6, _, hk => exact absurd h6 hk
    | i + 7, _, _ => trivial
  · rw [if_neg h6] at hr
    match i, h with
    | 0, h => exact h
    | 1, h => exact h
    | 2, h => obtain ⟨g, h1, h2⟩ := h; exact ⟨g, h1, h2.below hr h2.lt⟩
    | 3, h => exact own_below h hr
    | 4, h => exact h
    | 5, h => obtain ⟨g, cs, h1, h2, h3, h4⟩ := h; exact ⟨g, cs, h1, h2, h3.below hr h3.lt, h4⟩
    | 6, h => obtain ⟨g, h1, h2, h3⟩ := h; exact ⟨g, h1, h2, h3.below hr h3.lt⟩
    | i + 7, _ => trivial

/-- A store into a block that is known to be there: the block is named behind the step alone. -/
theorem wp_store_ex {P : Program} {op : Oper} {a : Act} {w : World} {K : Act → World → Prop} {Q : Exit → Act → World → Prop} (ty : TypeId) (x y : Operand) (ho : op.op = .store ty x y) {vs : List Value} {u : Value} {t N : Nat}
    (hx : a.eval x = u) (hu : ∃ g cs, u = .pointer (some ⟨g, 0, none⟩) ∧ N ≤ g ∧ Blk w g t cs ∧ cs.length = vs.length) (hy : a.eval y = .agg vs.toArray) (hi : (P.info? ty).map (·.size) = some vs.length) (h1 : ∀ v ∈ vs, v.oneCell' = true)
    (h : ∀ g cs, u = .pointer (some ⟨g, 0, none⟩) → N ≤ g → Blk w g t cs → Blk (w.setCells g 0 vs) g t vs → K (a.put op.dst undef) (w.setCells g 0 vs)) : op.wp P a w K Q := by
  obtain ⟨g, cs, rfl, hg, hk, hc⟩ := hu
  refine wp_store_mid ty x y ho g 0 vs.toArray hx hy (hk.there (by simp [hc])) (by simpa using hi) (all_oneCell_toArray h1) ?_
  exact h g cs rfl hg hk (there_set hk hc.symm)

set_option maxHeartbeats 2000000 in
theorem rhead_any (w : World) (num : Nat) (hnum : num ≤ 9223372036854775807) :
    Calls Tryz.prog 97 #[.agg Tbl.toArray, .int .i64 num] w fun e w' => ∃ g, e = .returned (.slice (some ⟨g, 0, none⟩) 64 64) ∧ w.heap.size ≤ g ∧ Blk w' g 5 (Vb (headB Ks num)) ∧ Below w.heap.size w w' := by
  obtain ⟨i0, hi, hz0, hz1, hz2⟩ := info_parts (show (Tryz.prog.info? 5).map (fun i => (i.zero, i.size, i.bytes)) = some (some (.int .u8 0), 1, 1) by kernel_rfl)
  have HI := Lib.hid (And.intro hi (And.intro hz0 (And.intro hz1 hz2)))
  have hs32 := slice32
  have hz32 := zero32
  have hb1 := new_below w (.cells Tbl.toArray 38)
  have ht1 := TblV.new w
  have H0 := Lib.hid (And.intro hb1 ht1)
  clear hi hz0 hz1 hz2 hb1 ht1
  go_enter Tryz.func97, Tryz.ntmps97
  have hszw : (w.alloc (.cells Tbl.toArray 38)).heap.size = w.heap.size + 1 := by simp
  go_wp2_with fail
  refine (rbig_any _ num 8 hnum (by omega)).mono ?_
  rintro e w1 ⟨rfl, hB, hW⟩
  rw [hszw] at hB hW
  have hs1 := hW.size
  have hw0 := H0.out.1.trans (hW.mono (by omega))
  rw [← hszw] at hW
  have H1 := Lib.hid (And.intro hB (And.intro (H0.out.2.below hW) hw0))
  clear hB hW hw0 H0
  go_wp2_with fail
  obtain ⟨d, hde⟩ : ∃ d, sha Ks (framesOf [big 8 num]) = d := ⟨_, rfl⟩
  have hd : d.length = 32 := by rw [← hde]; exact sha_length _ _
  have HD := Lib.hid (And.intro hde hd)
  clear hde hd
  refine wp_region_look [some 9, some 10, some 11, some 12, some 13, some 6, none] (HdV w1.heap.size (w.heap.size + 1) (big 8 num) d) (fun i => if i = 6 then [5] else []) (fun wx => Below w1.heap.size w1 wx) (HdRel d) 7 (by kernel_rfl) rfl rfl rfl (by kernel_rfl) (drew_below w1) HdV.loc ?_ (HdV.st HD.out.2) ?_ ?_
  · intro i hi
    match i, hi with
    | 0, _ => exact (by decide +kernel)
    | 1, _ => exact (by decide +kernel)
    | 2, _ => exact (by decide +kernel)
    | 3, _ => exact (by decide +kernel)
    | 4, _ => exact (by decide +kernel)
    | 5, _ => exact (by decide +kernel)
    | 6, _ => exact (by decide +kernel)
    | i + 7, h => omega
  · intro i hi
    match i, hi with
    | 0, _ =>
      refine StepL.of rfl [] (by decide +kernel) ?_
      intro v wx hR hd K hK
      have ht := H1.out.2.1.below hR
      simp only [List.getElem_toArray, List.getElem_cons_zero, List.getElem_cons_succ, fillR, Act.put, List.setIfInBounds_toArray, List.set_cons_zero, List.set_cons_succ] at hK ⊢
      go_simp
      exact hK.out _ _ hR (Below.refl _ _) rfl
    | 1, _ =>
      refine StepL.of rfl [] (by decide +kernel) ?_
      intro v wx hR hd K hK
      simp only [List.getElem_toArray, List.getElem_cons_zero, List.getElem_cons_succ, fillR, Act.put, List.setIfInBounds_toArray, List.set_cons_zero, List.set_cons_succ] at hK ⊢
      go_simp
      exact hK.out _ _ hR (Below.refl _ _) rfl
    | 2, _ =>
      refine StepL.of rfl [1] (by decide +kernel) ?_
      intro v wx hR hd K hK
      have h1 : v 1 = _ := hd 1 (by simp)
      have hb := new_below wx (.cells #[.slice (some ⟨w.heap.size + 1, 0, none⟩) 8 8] 22)
      have hk := Blk.new wx 22 [.slice (some ⟨w.heap.size + 1, 0, none⟩) 8 8]
      have HX := Lib.hid (And.intro (below_of hR hb) (And.intro hb hk))
      clear hb hk hd
      simp only [List.getElem_toArray, List.getElem_cons_zero, List.getElem_cons_succ, fillR, Act.put, List.setIfInBounds_toArray, List.set_cons_zero, List.set_cons_succ, h1] at hK ⊢
      go_simp
      exact hK.out _ _ HX.out.1 HX.out.2.1 ⟨_, rfl, HX.out.2.2⟩
    | 3, _ =>
      refine StepL.of rfl [2] (by decide +kernel) ?_
      intro v wx hR hd K hK
      obtain ⟨g, h2, hk⟩ := (hd 2 (by simp)).two
      have hs := hR.size
      have hp : Parts (fun _ => True) wx (.slice (some ⟨g, 0, none⟩) 1 1) [big 8 num] :=
        ⟨g, 1, _, rfl, trivial, hk, Nat.le_refl _, Nat.le_refl _, by unfold maxLen; decide, fun i x hx => by
          match i, hx with
          | 0, hx =>
            simp only [List.getElem?_cons_zero, Option.some.injEq] at hx
            subst hx
            exact ⟨_, rfl, Bts.whole (H1.out.1.below hR H1.out.1.lt) (.inl rfl) trivial (big_length _ _) (by omega)⟩⟩
      have HX := Lib.hid (And.intro hR hp.txts.1)
      clear hd hk hp
      simp only [List.getElem_toArray, List.getElem_cons_zero, List.getElem_cons_succ, fillR, Act.put, List.setIfInBounds_toArray, List.set_cons_zero, List.set_cons_succ, h2] at hK ⊢
      go_simp
      refine (frame_ref _ _ _ 1 [big 8 num] HX.out.2 (by omega) (by intro x hx; simp only [List.mem_singleton] at hx; subst hx; rw [big_length]; omega)).mono ?_
      rintro e w' ⟨x, rfl, ho, hW⟩
      have hq := hK.out x w' (below_of HX.out.1 hW) hW (show w'.ownsRow w1.heap.size 5 1 x _ _ from (by
        refine ⟨ho.1, ?_⟩
        rcases ho.2 with h | ⟨g', cap, cur, e', hN, rest⟩
        · exact .inl h
        · exact .inr ⟨g', cap, cur, e', Nat.le_trans hs hN, rest⟩))
      clear hK ho hW
      go_wp2_with fail
      exact hq
    | 4, _ =>
      refine StepL.of rfl [0, 3] (by decide +kernel) ?_
      intro v wx hR hd K hK
      have h0 : v 0 = _ := hd 0 (by simp)
      have h3 : wx.ownsRow _ _ _ (v 3) _ _ := hd 3 (by simp)
      have hb3 := Bts.of_own h3
      have hfl : (framesOf [big 8 num]).length = 12 := by simp [framesOf, fr_big, big_length]
      obtain ⟨P3, c3, e3, _, _⟩ := hb3.form
      rw [e3] at hb3
      have HX := Lib.hid (And.intro hR (And.intro hb3.txtNew hfl))
      clear hd h3 hb3 hfl
      simp only [List.getElem_toArray, List.getElem_cons_zero, List.getElem_cons_succ, fillR, Act.put, List.setIfInBounds_toArray, List.set_cons_zero, List.set_cons_succ, h0, e3] at hK ⊢
      go_simp
      refine (sum_tbl _ _ _ _ _ HX.out.2.1 (by rw [HX.out.2.2]; omega)).mono ?_
      rw [HD.out.1]
      rintro e w' ⟨rfl, hW⟩
      have hq := hK.out (.agg (Vb d).toArray) w' (below_of HX.out.1 hW) hW rfl
      clear hK hW
      go_wp2_with fail
      exact hq
    | 5, _ =>
      refine StepL.of rfl [] (by decide +kernel) ?_
      intro v wx hR hd K hK
      have hb := new_below wx (.cells (List.replicate 32 (Value.int .u8 0)).toArray 184)
      have hk := Blk.new wx 184 (List.replicate 32 (Value.int .u8 0))
      have HX := Lib.hid (And.intro (below_of hR hb) (And.intro hb hk))
      have hs := hR.size
      clear hb hk hd
      simp only [List.getElem_toArray, List.getElem_cons_zero, List.getElem_cons_succ, fillR, Act.put, List.setIfInBounds_toArray, List.set_cons_zero, List.set_cons_succ] at hK ⊢
      go_simp
      exact hK.out _ _ HX.out.1 HX.out.2.1 ⟨_, _, rfl, hs, HX.out.2.2, by simp⟩
    | 6, _ =>
      refine StepL.of rfl [5, 4] (by decide +kernel) ?_
      intro v wx hR hd K hK
      have h5 := (hd 5 (by simp)).five
      have h4 : v 4 = _ := hd 4 (by simp)
      have hv32 : (Vb d).length = 32 := by rw [Vb_length, HD.out.2]
      have hs := hR.size
      clear hd
      simp only [List.getElem_toArray, List.getElem_cons_zero, List.getElem_cons_succ, fillR, Act.put, List.setIfInBounds_toArray, List.set_cons_zero, List.set_cons_succ, h4] at hK ⊢
      rw [if_pos (by rfl)]
      refine wp_store_ex 184 (.tmp 6) (.tmp 13) rfl (vs := Vb d) (u := v 5) (t := 184) (N := w1.heap.size) rfl (by rw [hv32]; exact h5) rfl (info31.trans (by rw [hv32])) (Vb_oneCell d) ?_
      intro g cs h5 hg hk hnew
      refine hK.out undef _ (hR.trans (set_below hg hs)) ?_ ⟨g, h5, hg, hnew⟩
      unfold HdRel
      rw [if_pos rfl]
      exact ⟨g, cs, hk, hnew, Only.setCells _ _ _ (Only.refl _ _) (.inl (by simp))⟩
    | i + 7, h => omega
  · intro v wx hR hV
    obtain ⟨g, h5, hg, hk⟩ := (hV 6 (by omega)).six
    simp only [fillR, Act.put, List.setIfInBounds_toArray, List.set_cons_zero, List.set_cons_succ, h5]
    have H2 := Lib.hid (And.intro hk (And.intro (H1.out.1.below hR H1.out.1.lt) (below_of H1.out.2.2 hR)))
    have hs2 := hR.size
    clear hV hR hk
    go_wp2_with (at_builtin; refine wpList_append_own _ rfl (.tmp 14) (.tmp 15) 22 rfl (w.heap.size + 1) 5 i0 (.int .u8 0) 1 1 Tryz.underlying22 HI.out.1 HI.out.2.1 HI.out.2.2.1 HI.out.2.2.2 rfl (by decide) _ 8 _ rfl (own_bts (N := w.heap.size + 1) H2.out.2.1 (Nat.le_refl _) (big_length _ _) (by omega)) ⟨g, 0, none⟩ 32 32 (Vb d) rfl (by rw [Vb_length]; exact HD.out.2) (Bts.whole (A := fun _ => True) H2.out.1 (.inr rfl) trivial HD.out.2 (by omega)).row (Vb_oneCell _) (by unfold maxLen; omega) (by omega) (by omega) ?_; intro v3 w3 ho hg2 _; obtain ⟨g3, c3, rfl, hc3, hd3, he3⟩ := own_some ho (by omega); have hb := (H2.out.2.2).grown hg2 (by omega) (fun q hq => Nat.le_trans (Nat.le_succ _) (own_ge (own_bts (N := w.heap.size + 1) H2.out.2.1 (Nat.le_refl _) (big_length _ _) (by omega)) q hq)); have H3 := Lib.hid (And.intro ho hb); have hs3 := hb.size; clear ho hg2 hb)
    have ho : w3.ownsRow (w.heap.size + 1) 5 1 (.slice (some ⟨g3, 0, none⟩) 40 c3) 40 (Vb (big 8 num ++ d)) := by
      have h := H3.out.1
      simp only [← Vb_append] at h
      exact h
    have hl : (big 8 num ++ d).length = 40 := by simp [big_length, HD.out.2]
    refine (rfull_pad _ _ _ _ _ _ (bts_len hl ho) (by omega)).mono ?_
    rintro e w4 ⟨rfl, hB, hW⟩
    have H4 := Lib.hid (And.intro hB (below_of H3.out.2 hW))
    clear hB hW ho hl
    go_wp2_with fail
    go_ret
    refine ⟨w3.heap.size, rfl, hs3, ?_, H4.out.2⟩
    have h := H4.out.1
    unfold headB
    rw [HD.out.1]
    exact h
end Go.Proofs.YtfkdpndcoegfpaaGreatDoor
end

/-
  The document's Number: that of a head. Condition: the bytes are a sector's.
-/

section
set_option maxRecDepth 100000
set_option linter.unusedSimpArgs false
set_option linter.unusedVariables false
namespace Go.Proofs.YtfkdpndcoegfpaaGreatDoor
open Go.RowKit
attribute [local go_sem ↓] exec_loadTbl

theorem fromB_cons (x : B8) (xs : List B8) : fromB (x :: xs) = x.toNat * 256 ^ xs.length + fromB xs := by
  have h : ∀ (l : List B8), fromB (x :: l.reverse) = x.toNat * 256 ^ l.length + fromB l.reverse := by
    intro l
    induction l with
    | nil => simp [fromB]
    | cons y l ih =>
      rw [List.reverse_cons, ← List.cons_append, fromB_snoc, fromB_snoc, ih, List.length_cons, Nat.pow_succ, Nat.add_mul, Nat.mul_assoc, Nat.add_assoc]
  have := h xs.reverse
  rwa [List.reverse_reverse, List.length_reverse] at this
theorem first_small {x : B8} {xs : List B8} {k : Nat} (h : x.toNat ≤ 16) (hk : k ≤ xs.length) : fromB ((x :: xs).take (k + 1)) < 17 * 256 ^ k := by
  rw [List.take_succ_cons, fromB_cons]
  have h1 := fromB_lt (xs.take k)
  have h2 : (xs.take k).length = k := by rw [List.length_take]; omega
  rw [h2] at h1 ⊢
  have : x.toNat * 256 ^ k ≤ 16 * 256 ^ k := Nat.mul_le_mul_right _ h
  omega
theorem first_big {x : B8} {xs : List B8} (h : 16 < x.toNat) (hl : xs.length = 63) : top60 < fromB (sub (x :: xs) 0 8) := by
  unfold sub
  rw [List.drop_zero, List.take_succ_cons, fromB_cons]
  have h2 : (xs.take 7).length = 7 := by rw [List.length_take]; omega
  rw [h2]
  have : 17 * 256 ^ 7 ≤ x.toNat * 256 ^ 7 := Nat.mul_le_mul_right _ h
  unfold top60
  omega
/-- What Number answers. -/
def numOf : Option Nat → Int
  | some k => k
  | none => -1
def rnumPost (r : Option Nat) (w : World) (e : Ending) (w' : World) : Prop := e = .returned (.int .i64 (numOf r)) ∧ Below w.heap.size w w'
theorem doneB_zero (ks : List B32) {b : List B8} (h : b = zeros64) : doneB ks b = some 0 := by unfold doneB; rw [if_pos h]
theorem doneB_big (ks : List B32) {b : List B8} (h : b ≠ zeros64) (hn : top60 < fromB (sub b 0 8)) : doneB ks b = none := by
  unfold doneB
  rw [if_neg h, if_neg (fun h => by have := h.1; omega)]
theorem doneB_right (ks : List B32) {b : List B8} (h : b ≠ zeros64) (hn : fromB (sub b 0 8) ≤ top60) (hb : b = headB ks (fromB (sub b 0 8))) : doneB ks b = some (fromB (sub b 0 8)) := by
  unfold doneB
  rw [if_neg h, if_pos ⟨hn, hb⟩]
theorem doneB_wrong (ks : List B32) {b : List B8} (h : b ≠ zeros64) (hb : b ≠ headB ks (fromB (sub b 0 8))) : doneB ks b = none := by
  unfold doneB
  rw [if_neg h, if_neg (fun h => hb h.2)]

set_option maxHeartbeats 2000000 in
theorem rnumber_any (w : World) (A : Nat → Prop) (g o c : Nat) (xs : List B8) (hx : Bts A w (.slice (some ⟨g, o, none⟩) 64 c) xs) (hc : 64 ≤ c) (hcm : c ≤ 9223372036854775807) :
    Calls Tryz.prog 51 #[.agg Tbl.toArray, .slice (some ⟨g, o, none⟩) 64 c] w (rnumPost (doneB Ks xs) w) := by
  have hmk := make64
  have hxl := hx.cells.1
  obtain ⟨x0, xr, rfl⟩ : ∃ x r, xs = x :: r := by
    match xs, hxl with
    | x :: r, _ => exact ⟨x, r, rfl⟩
    | [], h => simp at h
  have hrl : xr.length = 63 := by simpa using hxl
  have hb1 := new_below w (.cells Tbl.toArray 38)
  have hb2 := new_below (w.alloc (.cells Tbl.toArray 38)) (.cells (Vb zeros64).toArray 5)
  have hk2 := Blk.new (w.alloc (.cells Tbl.toArray 38)) 5 (Vb zeros64)
  rw [World.size_alloc] at hk2
  have H0 := Lib.hid (And.intro ((TblV.new w).below hb2) (And.intro (hx.below (below_of hb1 hb2)) (And.intro hk2 (And.intro (below_of hb1 hb2) (And.intro hrl hxl)))))
  clear hb1 hb2 hk2 hx hxl hrl
  obtain ⟨bz, hbz⟩ : ∃ b, decide (x0 :: xr = zeros64) = b := ⟨_, rfl⟩
  go_enter Tryz.func51, Tryz.ntmps51
  go_wp2_with fail
  refine (same_bts (b := bz) H0.out.2.1 (Bts.whole (A := fun _ => True) H0.out.2.2.1 (.inl rfl) trivial (by simp [zeros64]) (by omega)) hbz).mono ?_
  rintro e w1 ⟨rfl, hW⟩
  have H1 := Lib.hid (And.intro (H0.out.1.below hW) (And.intro (H0.out.2.1.below hW) (below_of H0.out.2.2.2.1 hW)))
  clear hW
  cases bz with
  | true =>
    have HZ := Lib.hid (doneB_zero Ks (of_decide_eq_true hbz))
    clear hbz
    go_wp2_with fail
    go_ret
    exact ⟨by rw [HZ.out]; rfl, H1.out.2.2⟩
  | false =>
    have HZ := Lib.hid (of_decide_eq_false hbz)
    clear hbz
    go_wp2_with fail
    go_loop [6, 5] (fun iv nv => ∃ k : Nat, k ≤ 8 ∧ iv = .int .i64 k ∧ nv = .int .i64 (fromB ((x0 :: xr).take k)) ∧ (0 < k → x0.toNat ≤ 16)) (fun iv _ => 8 - (intOf iv).toNat)
    case atStart => exact ⟨0, by omega, rfl, by simp [fromB], fun h => absurd h (by omega)⟩
    case round =>
      obtain ⟨k, hk, rfl, rfl, h16⟩ := hrel
      by_cases hlt : k < 8
      · have hxk : k < (x0 :: xr).length := by have := H0.out.2.2.2.2.2; omega
        obtain ⟨xk, hxk⟩ : ∃ x, (x0 :: xr)[k]? = some x := ⟨_, List.getElem?_eq_getElem hxk⟩
        obtain ⟨g', o', e, _, _, hcell⟩ := H1.out.2.1.cells.2 (by omega)
        cases e
        have hck := hcell k (.int .u8 (nb xk)) (by rw [Vb_get, hxk]; rfl)
        clear hcell
        by_cases h0 : k = 0
        · subst h0
          obtain rfl : x0 = xk := by simpa using hxk
          rw [Nat.add_zero] at hck
          have hbn := nb_bound x0
          by_cases hbig : 16 < x0.toNat
          · have e1 : decide (16 < nb x0) = true := by unfold nb; simp; omega
            have HR := Lib.hid (doneB_big Ks HZ.out (first_big hbig H0.out.2.2.2.2.1))
            clear hbig h16 hxk
            go_wp2_with fail
            go_ret
            exact ⟨by rw [HR.out]; rfl, H1.out.2.2⟩
          · have e1 : decide (16 < nb x0) = false := by unfold nb; simp; omega
            have HB := Lib.hid hbig
            clear hbig h16 hxk
            go_wp2_with fail
            go_round
            case rel => exact ⟨1, by omega, rfl, by have := x0.isLt; simp [fromB, nb]; unfold wrap64; omega, fun _ => by have := HB.out; omega⟩
            case measure => simp [intOf]
        · have e0 : ((k : Int) == 0) = false := beq_eq_false_iff_ne.2 (by omega)
          have hs := first_small (x := x0) (xs := xr) (k := k - 1) (h16 (by omega)) (by have := H0.out.2.2.2.2.1; omega)
          rw [show k - 1 + 1 = k by omega] at hs
          have hp : 256 ^ (k - 1) ≤ 256 ^ 6 := Nat.pow_le_pow_right (by omega) (by omega)
          have hstep : fromB ((x0 :: xr).take (k + 1)) = fromB ((x0 :: xr).take k) * 256 + xk.toNat := by rw [take_snoc_ hxk, fromB_snoc]
          have HS := Lib.hid hstep
          have H16 := Lib.hid (h16 (by omega))
          have hbn := nb_bound xk
          obtain ⟨m, hm⟩ : ∃ m, fromB ((x0 :: xr).take k) = m := ⟨_, rfl⟩
          rw [hm] at hs ⊢
          have hmb : m ≤ 17 * 256 ^ 6 := by omega
          have HM := Lib.hid hm
          clear hs hp hstep h16 hm hxk
          go_wp2_with fail
          go_round
          case rel => exact ⟨k + 1, by omega, by go_num, by rw [HS.out, HM.out]; congr 1; unfold nb; omega, fun _ => H16.out⟩
          case measure => simp [intOf]; omega
      · obtain rfl : k = 8 := by omega
        have hs := first_small (x := x0) (xs := xr) (k := 7) (h16 (by omega)) (by have := H0.out.2.2.2.2.1; omega)
        have he : (x0 :: xr).take 8 = sub (x0 :: xr) 0 8 := by unfold sub; rw [List.drop_zero]
        rw [show 7 + 1 = 8 from rfl, he] at hs
        rw [he]
        obtain ⟨m, hm⟩ : ∃ m, fromB (sub (x0 :: xr) 0 8) = m := ⟨_, rfl⟩
        rw [hm] at hs ⊢
        have hmb : m ≤ 9223372036854775807 := by omega
        have HM := Lib.hid hm
        clear hs h16 he hm
        by_cases htop : 1152921504606846976 < m
        · have e0 : decide ((1152921504606846976 : Int) < (m : Int)) = true := by simp; omega
          have HR := Lib.hid (doneB_big Ks HZ.out (by rw [HM.out]; exact htop))
          clear htop
          go_wp2_with fail
          go_ret
          exact ⟨by rw [HR.out]; rfl, H1.out.2.2⟩
        · have e0 : decide ((1152921504606846976 : Int) < (m : Int)) = false := by simp; omega
          have HT := Lib.hid (show m ≤ top60 by unfold top60; omega)
          have ht1 := H1.out.1
          clear htop
          go_wp2_with fail
          refine (rhead_any _ m hmb).mono ?_
          rintro e w2 ⟨g2, rfl, _, hB, hW⟩
          have H2 := Lib.hid (And.intro hB (And.intro (H1.out.2.1.below hW) (below_of H1.out.2.2 hW)))
          clear hB hW ht1
          obtain ⟨be, hbe⟩ : ∃ b, decide (x0 :: xr = headB Ks m) = b := ⟨_, rfl⟩
          go_wp2_with fail
          refine (same_bts (b := be) H2.out.2.1 (Bts.whole (A := fun _ => True) H2.out.1 (.inl rfl) trivial (headB_length _ _) (by omega)) hbe).mono ?_
          rintro e w3 ⟨rfl, hW⟩
          have H3 := Lib.hid (below_of H2.out.2.2 hW)
          clear hW
          cases be with
          | true =>
            have HR := Lib.hid (doneB_right Ks HZ.out (by rw [HM.out]; exact HT.out) (by rw [HM.out]; exact of_decide_eq_true hbe))
            clear hbe
            go_wp2_with fail
            go_ret
            exact ⟨by rw [HR.out, HM.out]; rfl, H3.out⟩
          | false =>
            have HR := Lib.hid (doneB_wrong Ks HZ.out (by rw [HM.out]; exact of_decide_eq_false hbe))
            clear hbe
            go_wp2_with fail
            go_ret
            exact ⟨by rw [HR.out]; rfl, H3.out⟩
end Go.Proofs.YtfkdpndcoegfpaaGreatDoor
end

/-
  The document's Sum: a transaction's digest. Conditions: the writes are known, of sectors that aren't below 0, bytes of a sector.
-/

section
set_option maxRecDepth 100000
set_option linter.unusedSimpArgs false
set_option linter.unusedVariables false
namespace Go.Proofs.YtfkdpndcoegfpaaGreatDoor
open Go.RowKit
attribute [local go_sem ↓] exec_loadTbl

set_option maxHeartbeats 2000000 in
theorem rsum_any (w : World) (A : Nat → Prop) (num m : Nat) (P : Option Addr) (c : Nat) (ws : List (Int × List B8)) (hw : Rfs A w (.slice P m c) ws) (hnum : num ≤ 9223372036854775807) (hm : m ≤ 15)
    (hok : ∀ p ∈ ws, 0 ≤ p.1 ∧ p.1 ≤ 4294967296 ∧ p.2.length = 64) :
    Calls Tryz.prog 100 #[.agg Tbl.toArray, .int .i64 num, .slice P m c] w fun e w' => e = .returned (.agg (Vb (digOf Ks num ws)).toArray) ∧ Below w.heap.size w w' := by
  have hz := zero32
  have hlen := hw.len
  obtain ⟨i1, hj, hy0, hy1, hy2⟩ := info_parts (show (Tryz.prog.info? 22).map (fun i => (i.zero, i.size, i.bytes)) = some (some (.slice none 0 0), 1, 24) by kernel_rfl)
  have HJ := Lib.hid (And.intro hj (And.intro hy0 (And.intro hy1 hy2)))
  have hb1 := new_below w (.cells Tbl.toArray 38)
  have hb2 := new_below (w.alloc (.cells Tbl.toArray 38)) (.cells (List.replicate 32 (Value.int .u8 0)).toArray 184)
  have hk2 := Blk.new (w.alloc (.cells Tbl.toArray 38)) 184 (List.replicate 32 (Value.int .u8 0))
  rw [World.size_alloc] at hk2
  have ht2 := (TblV.new w).below hb2
  have H0 := Lib.hid (And.intro ht2 (And.intro hk2 (And.intro (below_of hb1 hb2) (And.intro hw (And.intro hok hlen)))))
  clear hb1 hb2 hk2 hw hok hlen ht2 hj hy0 hy1 hy2
  go_enter Tryz.func100, Tryz.ntmps100
  go_wp2_with fail
  refine (rbig_any _ num 8 hnum (by omega)).mono ?_
  rintro e w1 ⟨rfl, hB, hW⟩
  have hs1 := (below_of H0.out.2.2.1 hW).size
  have H1 := Lib.hid (And.intro hB (And.intro (H0.out.1.below hW) (And.intro (H0.out.2.1.below hW H0.out.2.1.lt) (below_of H0.out.2.2.1 hW))))
  clear hB hW
  go_wp2_with fail
  refine (rbig_any _ m 4 (by omega) (by omega)).mono ?_
  rintro e w2 ⟨rfl, hB, hW⟩
  have H2 := Lib.hid (And.intro hB (And.intro (H1.out.1.below hW H1.out.1.lt) (And.intro (H1.out.2.1.below hW) (And.intro (H1.out.2.2.1.below hW H1.out.2.2.1.lt) (below_of H1.out.2.2.2 hW)))))
  clear hB hW
  have hs2 := H2.out.2.2.2.2.size
  have hl1 := H2.out.2.1.lt
  have hl2 := H2.out.1.lt
  simp only [World.size_alloc] at *
  have hq := Blk.new w2 22 [.slice (some ⟨w.heap.size + 1 + 1, 0, none⟩) 8 8, .slice (some ⟨w1.heap.size, 0, none⟩) 4 4]
  have hb := new_below w2 (.cells #[.slice (some ⟨w.heap.size + 1 + 1, 0, none⟩) 8 8, .slice (some ⟨w1.heap.size, 0, none⟩) 4 4] 22)
  have hop : OParts w.heap.size (w2.alloc (.cells #[.slice (some ⟨w.heap.size + 1 + 1, 0, none⟩) 8 8, .slice (some ⟨w1.heap.size, 0, none⟩) 4 4] 22)) (.slice (some ⟨w2.heap.size, 0, none⟩) 2 2) 2 [big 8 num, big 4 m] := by
    refine OParts.two (by omega) hq ((Bts.whole H2.out.2.1 (.inl rfl) trivial (big_length _ _) (by omega)).below hb) ((Bts.whole H2.out.1 (.inl rfl) trivial (big_length _ _) (by omega)).below hb)
  have H3 := Lib.hid (And.intro (below_of H2.out.2.2.2.2 hb) (And.intro (H2.out.2.2.2.1.below hb H2.out.2.2.2.1.lt) (And.intro (H2.out.2.2.1.below hb) hop)))
  clear hq hb hop
  go_wp2_with fail
  generalize w2.alloc (.cells #[.slice (some ⟨w.heap.size + 1 + 1, 0, none⟩) 8 8, .slice (some ⟨w1.heap.size, 0, none⟩) 4 4] 22) = w3 at *
  go_loopw [8, 7] (fun iv tv wx => ∃ i : Nat, i ≤ m ∧ iv = .int .i64 i ∧ OParts w.heap.size wx tv (2 + 2 * i) (big 8 num :: big 4 m :: (ws.take i).flatMap fun p => [big 4 p.1.toNat, p.2]) ∧ Blk wx (w.heap.size + 1) 184 (List.replicate 32 (.int .u8 0)) ∧ TblV wx (.pointer (some ⟨w.heap.size, 0, none⟩)) ∧ Below w.heap.size w wx) (fun iv _ _ => m - (intOf iv).toNat)
  case atStart => exact ⟨0, Nat.zero_le _, rfl, H3.out.2.2.2, H3.out.2.1, H3.out.2.2.1, H3.out.1⟩
  case round =>
    obtain ⟨i, hi, rfl, h1, h2, h4, h3⟩ := hrel
    by_cases hlt : i < m
    · obtain ⟨p, hp⟩ : ∃ p, ws[i]? = some p := ⟨_, List.getElem?_eq_getElem (by have := H0.out.2.2.2.2.2; omega)⟩
      obtain ⟨g, Q, m2, k2, rfl, hg, hAg, k0, k1, hl2, hbt, hmk, hk⟩ := (H0.out.2.2.2.1.below h3).at_ hp
      obtain ⟨q0, q1, q2⟩ := H0.out.2.2.2.2.1 p (List.mem_of_getElem? hp)
      obtain ⟨q, hq⟩ : ∃ q : Nat, p.1 = q := ⟨p.1.toNat, by omega⟩
      rw [hq] at k0
      have hqb : q ≤ 4294967296 := by omega
      obtain ⟨cells, ho, hcl, hxl, hcs⟩ := h1
      have hsz := h3.size
      have HR := Lib.hid (And.intro h2 (And.intro h3 (And.intro hp (And.intro hbt (And.intro ho (And.intro hcl (And.intro hxl (And.intro hcs h4))))))))
      have HQ := Lib.hid hq
      clear h2 h3 h4 hp hbt ho hcl hxl hcs q0 q1 q2 hq hl2
      go_wp2_with fail
      go_region_held3 (fun w' => w'.cell? ⟨g, i * 2, none⟩ = some (.int .i64 q) ∧ w'.cell? ⟨g, i * 2 + 1, none⟩ = some (.slice Q m2 k2)) (first | exact ⟨f0, f1⟩ | exact ⟨cell_below e0 (new_below _ _), cell_below e1 (new_below _ _)⟩ | exact ⟨e0, e1⟩ | exact ⟨k0, k1⟩)
        (first
          | (go_at_call 137; refine (rbig_any _ q 4 (by omega) (by omega)).mono ?_; rintro e w5 ⟨rfl, hB, hW⟩; have e0 := cell_drew k0 hW; have e1 := cell_drew k1 hW; have H5 := Lib.hid (And.intro (show Blk w5 wr.heap.size 5 (Vb (big 4 q)) from hB) (below_drew (Below.refl _ _) hW)); clear hB hW)
          | (refine step_append_lies _ rfl (.tmp 21) (.tmp 33) 221 rfl w.heap.size 22 i1 (.slice none 0 0) 1 24 Tryz.underlying221 HJ.out.1 HJ.out.2.1 HJ.out.2.2.1 HJ.out.2.2.2 rfl (by decide) u7 (2 + 2 * i) cells rfl ((own_below HR.out.2.2.2.2.1 H5.out.2).alloc _) ⟨w5.heap.size, 0, none⟩ 2 2 [.slice (some ⟨wr.heap.size, 0, none⟩) 4 4, .slice Q m2 k2] rfl rfl (new_row w5 [_, _] 22) (slices_one _ _ _ _ _ _) (by decide) (by unfold maxLen; omega) (by omega) (by have := H5.out.2.size; simp; omega) (w5.heap.size + 1) (by simp) ?_; intro g3 cap3 w6 ho6 hg6 hw6 hl6; have hown5 := (own_below HR.out.2.2.2.2.1 H5.out.2).alloc (.cells #[.slice (some ⟨wr.heap.size, 0, none⟩) 4 4, .slice Q m2 k2] 22); obtain ⟨gcs, hgc⟩ := (H0.out.2.2.2.1.below (HR.out.2.1.trans (H5.out.2.mono hsz))).blk; have hg5 := hgc.alloc (.cells #[.slice (some ⟨wr.heap.size, 0, none⟩) 4 4, .slice Q m2 k2] 22); have hg7 := hg5.grown hg6 (fun e => own_blk_ne hown5 hg5 (by decide) e.symm); have f0 := (hg7.cell _).trans ((hg5.cell _).symm.trans (cell_below e0 (new_below _ _))); have f1 := (hg7.cell _).trans ((hg5.cell _).symm.trans (cell_below e1 (new_below _ _))); have H6 := Lib.hid (And.intro ho6 (And.intro hg6 hown5)); clear ho6 hg6 hw6 hl6 hown5 hgc hg5 hg7))
      go_wp2_with fail
      have hb5 := new_below w5 (.cells #[.slice (some ⟨wr.heap.size, 0, none⟩) 4 4, .slice Q m2 k2] 22)
      have hbel5 := below_of H5.out.2 hb5
      have hbel6 : Below w.heap.size w w6 := (HR.out.2.1.trans (hbel5.mono hsz)).grown H6.out.2.1 (by have := hbel5.size; omega) (fun q hq => own_ge H6.out.2.2 q hq)
      have hres6 : Blk w6 (w.heap.size + 1) 184 (List.replicate 32 (.int .u8 0)) := (HR.out.1.below hbel5 HR.out.1.lt).grown H6.out.2.1 (fun e => own_blk_ne H6.out.2.2 (HR.out.1.below hbel5 HR.out.1.lt) (by decide) e.symm)
      have htb6 : TblV w6 (.pointer (some ⟨w.heap.size, 0, none⟩)) := by
        obtain ⟨b, e, hk⟩ := HR.out.2.2.2.2.2.2.2.2.below hbel5
        exact ⟨b, e, hk.grown H6.out.2.1 (fun e => own_blk_ne H6.out.2.2 hk (by decide) e.symm)⟩
      have hop6 : OParts w.heap.size w6 (.slice (some ⟨g3, 0, none⟩) (2 + 2 * i + 2) cap3) (2 + 2 * i + 2) ((big 8 num :: big 4 m :: (ws.take i).flatMap fun p => [big 4 p.1.toNat, p.2]) ++ [big 4 q, p.2]) := by
        refine OParts.snoc2 HR.out.2.2.2.2.2.2.1 HR.out.2.2.2.2.2.1 (fun j x hx => ?_) H6.out.1 ?_ ?_
        · obtain ⟨u, hu, hbu⟩ := HR.out.2.2.2.2.2.2.2.1 j x hx
          exact ⟨u, hu, (hbu.below hbel5).grown H6.out.2.2 H6.out.2.1 (by decide) (by decide)⟩
        · exact ((Bts.whole H5.out.1 (.inl rfl) trivial (big_length _ _) (by omega)).below hb5).grown H6.out.2.2 H6.out.2.1 (by decide) (by decide)
        · exact ((HR.out.2.2.2.1.mono (fun _ _ _ => trivial)).below hbel5).grown H6.out.2.2 H6.out.2.1 (by decide) (by decide)
      have HE := Lib.hid (And.intro hop6 (And.intro hres6 (And.intro htb6 hbel6)))
      clear hb5 hbel5 hbel6 hres6 hop6 htb6
      go_wp2_with fail
      go_roundw
      case rel =>
        refine ⟨i + 1, by omega, by go_num, ?_, HE.out.2.1, HE.out.2.2.1, HE.out.2.2.2⟩
        rw [take_snoc_ HR.out.2.2.1, txtsOf_snoc, show p.1.toNat = q by have := HQ.out; omega, show 2 + 2 * (i + 1) = 2 + 2 * i + 2 by omega]
        exact HE.out.1
      case measure => simp [intOf]; omega
    · obtain rfl : i = m := by omega
      rw [List.take_of_length_le (by have := H0.out.2.2.2.2.2; omega)] at h1
      have hpt := (h1.parts (by omega))
      obtain ⟨g1, cap1, vs1, e1, _, _, _, _, _, _⟩ := id hpt
      have hl1 : (txtsOf num ws).length = 2 + 2 * i := by obtain ⟨_, _, _, h, _⟩ := h1; unfold txtsOf; rw [H0.out.2.2.2.2.2]; exact h
      have hpt' : Parts (fun _ => True) wr u7 (txtsOf num ws) := by unfold txtsOf; rw [H0.out.2.2.2.2.2]; exact hpt
      have e1' : u7 = .slice (some ⟨g1, 0, none⟩) (2 + 2 * i) cap1 := by obtain ⟨_, _, _, h, _⟩ := h1; rw [← h]; exact e1
      rw [e1'] at hpt' ⊢
      have hall : ∀ x ∈ txtsOf num ws, x.length ≤ 300 := txts_small _ _ (fun p hp => by have := H0.out.2.2.2.2.1 p hp; omega)
      have hfl := frames_len num ws (fun p hp => (H0.out.2.2.2.2.1 p hp).2.2)
      rw [H0.out.2.2.2.2.2] at hfl
      have HX := Lib.hid (And.intro hpt' (And.intro h2 (And.intro h3 (And.intro h4 (And.intro hall hfl)))))
      have hd := sha_length Ks (framesOf (txtsOf num ws))
      have HT := Lib.hid (show digOf Ks num ws = sha Ks (framesOf (txtsOf num ws)) from rfl)
      have hs := h3.size
      have hth := (h2.below (drew_below _) h2.lt).there (o := 0) (n := 32) (by simp)
      have x0 := h4.drew
      clear h1 h2 h3 hpt e1 hpt' hl1 e1' hall hfl
      obtain ⟨d, hde⟩ : ∃ d, sha Ks (framesOf (txtsOf num ws)) = d := ⟨_, rfl⟩
      rw [hde] at hd HT
      have HDE := Lib.hid hde
      have hv32 : (Vb d).length = 32 := by rw [Vb_length, hd]
      have hi32 : (Tryz.prog.info? 184).map (·.size) = some (Vb d).length := info31.trans (by rw [hv32])
      have hc32 := Vb_oneCell d
      clear hde hd
      go_wp2_with fail
      go_region_held3 (fun w' => TblV w' (.pointer (some ⟨w.heap.size, 0, none⟩)) ∧ w'.there (w.heap.size + 1) 0 32)
        (first | exact ⟨x0, hth⟩ | exact ⟨x4, x5⟩ | exact ⟨y4, y5⟩ | exact ⟨z4, z5⟩)
        (first
          | (go_at_call 139; refine (frame_ref _ _ _ cap1 (txtsOf num ws) (HX.out.1.below (drew_below _)).txts.1 (by omega) HX.out.2.2.2.2.1).mono ?_; rintro e w7 ⟨v7, rfl, ho7, hW⟩; have hk7 := blk_drew HX.out.2.1 hW; have x4 := h4.of_drew hW; have x5 := hk7.there (o := 0) (n := 32) (by simp); have hb7 := Bts.of_own ho7; obtain ⟨P7, c7, rfl, _, _⟩ := hb7.form; have H7 := Lib.hid (And.intro hb7 (And.intro hk7 (below_drew (Below.refl _ _) hW))); clear hW ho7 hk7 hb7)
          | (go_at_call 138; refine (sum_tbl _ _ _ _ _ H7.out.1.txtNew (by have := HX.out.2.2.2.2.2; omega)).mono ?_; rw [HDE.out]; rintro e w8 ⟨rfl, hW⟩; have hk8 := H7.out.2.1.below hW H7.out.2.1.lt; have y4 := x4.below hW; have y5 := hk8.there (o := 0) (n := 32) (by simp); have z4 := y4.set (g := w.heap.size + 1) (vs := Vb d) (by omega); have z5 := (there_set (vs := Vb d) hk8 (by rw [hv32]; rfl)).there (o := 0) (n := 32) (by rw [hv32]; exact Nat.le_refl _); have H8 := Lib.hid (And.intro hk8 (below_of H7.out.2.2 hW)); clear hW hk8))
      have hfin := there_set (vs := Vb d) H8.out.1 (by simp [hv32])
      have hbf := H8.out.2.size
      have HF := Lib.hid (And.intro hfin ((HX.out.2.2.1.trans (H8.out.2.mono hs)).trans (set_below (B := w.heap.size) (w := w8) (g := w.heap.size + 1) (o := 0) (vs := Vb d) (by omega) (by omega))))
      clear hfin hbf
      go_wp2_with fail
      refine bodyPost_ret (v := .agg (Vb d).toArray) ?_ rfl ⟨by rw [HT.out], HF.out.2⟩
      exact ret_cell rfl rfl (run_loadVar_mid _ _ 0 184 _ _ HF.out.1.range Tryz.underlying184 rfl hi32)
end Go.Proofs.YtfkdpndcoegfpaaGreatDoor
end

/-
  begun, where the journal begins with the next number: the transaction, if it is whole; else that it isn't. Conditions: the disk has power that never goes; the journal has room for at most 15 writes.
-/

section
set_option maxRecDepth 100000
set_option linter.unusedSimpArgs false
set_option linter.unusedVariables false
namespace Go.Proofs.YtfkdpndcoegfpaaGreatDoor
open Go.RowKit

/-- How many writes the journal's first note tells. -/
def cntOf (S : Nat → List B8) : Nat := fromB (sub (S 1) 12 4)
/-- The journal has the transaction of a number whole. -/
def Full (ks : List B32) (S : Nat → List B8) (data j num : Nat) : Prop :=
  num ≤ top60 ∧ 1 ≤ cntOf S ∧ cntOf S ≤ j / 2 ∧ (∀ i, i < cntOf S → okAt S data num (cntOf S) i) ∧ isB ks num (wrsTo S (cntOf S)) (notesTo S (cntOf S))
def begunPost (ks : List B32) (S : Nat → List B8) (data j num : Nat) (w : World) (e : Ending) (w' : World) : Prop :=
  ((e = .returned (.tuple #[.agg #[.int .i64 0, .slice none 0 0], .int .i64 4]) ∧ ¬ Full ks S data j num) ∨
    (∃ vw, e = .returned (.tuple #[.agg #[.int .i64 num, vw], .int .i64 0]) ∧ Full ks S data j num ∧ OWrs w.heap.size (fun g => w.heap.size ≤ g) w' vw (cntOf S) (wrsTo S (cntOf S)))) ∧ Below w.heap.size w w'

theorem OWrs.lower {N N' n : Nat} {A A' : Nat → Prop} {w : World} {v : Value} {X : List (Int × List B8)} (h : OWrs N' A w v n X) (hN : N ≤ N') (hA : ∀ g, A g → A' g) : OWrs N A' w v n X := by
  obtain ⟨cells, c1, c2, c3⟩ := h
  refine ⟨cells, ⟨c1.1, ?_⟩, c2, fun jj p hp => ?_⟩
  · rcases c1.2 with h | ⟨g, cap, cur, e, hb, rest⟩
    · exact .inl h
    · exact .inr ⟨g, cap, cur, e, Nat.le_trans hN hb, rest⟩
  · obtain ⟨d0, u, d1, hu⟩ := c3 jj p hp
    exact ⟨d0, u, d1, hu.mono fun g hg _ => hA g hg⟩

set_option maxHeartbeats 4000000 in
theorem begun_any (ks : List B32) (B : Nat) (w : World) (D L n j : Nat) (S : Nat → List B8) (cw cf num : Nat) (hd : Idle B D L n S cw cf w) (hK : Roots ks w) (hj : j + 1 < n) (hj1 : 1 ≤ j) (hj30 : j ≤ 30) (hnum : num ≤ 9223372036854775807) (hno : fromB (sub (S 1) 0 8) = num) :
    Calls Tryz.prog 136 #[lay_ D j, .int .i64 num] w (begunPost ks S (n - j - 1) j num w) := by
  have hnb := hd.bound
  have hpos := hK.pos
  have hz := zeroTrans
  have b1 := new_below w (.cells #[.pointer (some ⟨D, 0, none⟩), .int .i64 (j : Int)] 114)
  have k1 := Blk.new w 114 [.pointer (some ⟨D, 0, none⟩), .int .i64 (j : Int)]
  have b2 := new_below (w.alloc (.cells #[.pointer (some ⟨D, 0, none⟩), .int .i64 (j : Int)] 114)) (.cells #[.int .i64 0, .slice none 0 0] 138)
  have k2 := Blk.new (w.alloc (.cells #[.pointer (some ⟨D, 0, none⟩), .int .i64 (j : Int)] 114)) 138 [.int .i64 0, .slice none 0 0]
  simp only [World.size_alloc] at k2
  have ⟨l0, l1⟩ := blk_pair (k1.below b2 k1.lt)
  have H := Lib.hid (And.intro (hd.below (below_of b1 b2)) (And.intro (k1.below b2 k1.lt) (And.intro k2 (below_of b1 b2))))
  have HK := Lib.hid hK
  obtain ⟨cnt, hcnt⟩ : ∃ c, fromB (sub (S 1) 12 4) = c := ⟨_, rfl⟩
  have hcb : cnt < 4294967296 := by
    have := fromB_lt (sub (S 1) 12 4)
    rw [sub_length (by rw [hd.sec (by omega)]; omega)] at this
    rw [← hcnt]
    exact this
  have HF := Lib.hid (And.intro hno (And.intro hcnt (show cntOf S = cnt from hcnt)))
  clear hd b1 k1 b2 k2 hno hcnt hK
  go_enter Tryz.func136, Tryz.ntmps136
  go_wp2_with fail
  go_region_held3 (fun w' => w'.cell? ⟨w.heap.size, 0, none⟩ = some (.pointer (some ⟨D, 0, none⟩)) ∧ w'.cell? ⟨w.heap.size, 1, none⟩ = some (.int .i64 (j : Int)))
    (first | exact ⟨c0, c1⟩ | exact ⟨e0, e1⟩ | exact ⟨l0, l1⟩)
    (first
      | (go_at_call 108; refine (noteAt_any (D := D) (j := j) 0 (by omega)).mono ?_; rintro e w2 ⟨rfl, hW⟩; have e0 := cell_drew l0 hW; have e1 := cell_drew l1 hW; have H2 := Lib.hid (And.intro (idle_drew H.out.1 hW) (And.intro (blk_drew H.out.2.1 hW) (And.intro (blk_drew H.out.2.2.1 hW) (below_drew H.out.2.2.2 hW)))); clear hW)
      | (go_at_call 64; refine (read_calm H2.out.1.calm (k := 1) (by omega)).mono ?_; rintro e w3 ⟨v, rfl, hv, hW⟩; have c0 := cell_below e0 hW; have c1 := cell_below e1 hW; have hs64 := H2.out.1.sec (k := 1) (by omega); obtain ⟨Q, k3, rfl, hk64, hk3⟩ := hv.form; rw [hs64] at hk64 hv ⊢; obtain ⟨g, o, rfl, _, _, _⟩ := hv.cells.2 (by omega); have H3 := Lib.hid (And.intro hv (And.intro (H2.out.1.below hW) (And.intro (H2.out.2.1.below hW H2.out.2.1.lt) (And.intro (H2.out.2.2.1.below hW H2.out.2.2.1.lt) (below_of H2.out.2.2.2 hW))))); clear hW hv))
  go_wp2_with fail
  refine (noted_any _ _ g o k3 (S 1) H3.out.1 hk64 hk3).mono ?_
  rintro e w4 ⟨rfl, hW⟩
  have hr := H3.out.2.2.2.1.below hW H3.out.2.2.2.1.lt
  have hl := H3.out.2.2.1.below hW H3.out.2.2.1.lt
  have ⟨r0, r1⟩ := blk_pair hr
  have ⟨l0, l1⟩ := blk_pair hl
  have rf0 := hr.frozen 0
  have rf1 := hr.frozen 1
  have H4 := Lib.hid (And.intro hr (And.intro hl (And.intro (H3.out.2.1.below hW) (below_of H3.out.2.2.2.2 hW))))
  clear hW hr hl e0 e1 c0 c1
  rw [HF.out.1, HF.out.2.1]
  by_cases ht : 1152921504606846976 < num
  · have e0 : decide ((1152921504606846976 : Int) < (num : Int)) = true := by simp; omega
    have HN := Lib.hid (show ¬ Full ks S (n - j - 1) j num from fun h => by have := h.1; unfold top60 at this; omega)
    clear ht
    go_wp2_with fail
    have HC := two_read H4.out.1 (.int .i64 0) (.slice none 0 0)
    refine bodyPost_ret (v := .tuple #[.agg #[.int .i64 0, .slice none 0 0], .int .i64 4]) ?_ rfl ⟨.inl ⟨rfl, HN.out⟩, two_below H4.out.2.2.2 (Nat.le_succ _)⟩
    have hc0 := HC.1
    have hc1 := HC.2
    simp [results, Tryz.results136, go_sem, hc0, hc1]
  · have e0 : decide ((1152921504606846976 : Int) < (num : Int)) = false := by simp; omega
    have HT := Lib.hid ht
    clear ht
    by_cases hc1' : cnt < 1
    · have e1 : decide ((cnt : Int) < 1) = true := by simp; omega
      have HN := Lib.hid (show ¬ Full ks S (n - j - 1) j num from fun h => by have := h.2.1; rw [HF.out.2.2] at this; omega)
      clear hc1'
      go_wp2_with fail
      have HC := two_read H4.out.1 (.int .i64 0) (.slice none 0 0)
      refine bodyPost_ret (v := .tuple #[.agg #[.int .i64 0, .slice none 0 0], .int .i64 4]) ?_ rfl ⟨.inl ⟨rfl, HN.out⟩, two_below H4.out.2.2.2 (Nat.le_succ _)⟩
      have hc0 := HC.1
      have hc1 := HC.2
      simp [results, Tryz.results136, go_sem, hc0, hc1]
    · have e1 : decide ((cnt : Int) < 1) = false := by simp; omega
      have HC1 := Lib.hid hc1'
      clear hc1'
      have MOST := fun (w : World) => jmost_any (D := D) (j := j) (w := w) (by omega)
      have HM := Lib.hid MOST
      clear MOST
      by_cases hc2 : j / 2 < cnt
      · have h1 : ((j / 2 : Nat) : Int) < (cnt : Int) := by omega
        have h1' : decide (j / 2 < cnt) = true := by simpa using hc2
        have HN := Lib.hid (show ¬ Full ks S (n - j - 1) j num from fun h => by have := h.2.2.1; rw [HF.out.2.2] at this; omega)
        clear hc2
        go_wp2_with (go_at_call 106; refine (HM.out _).mono ?_; rintro e w5 ⟨rfl, hb⟩; have hr5 := H4.out.1.below hb H4.out.1.lt; have ⟨r0, r1⟩ := blk_pair hr5; have rf0 := hr5.frozen 0; have rf1 := hr5.frozen 1; have H5 := Lib.hid (And.intro hr5 (below_of H4.out.2.2.2 hb)); clear hb hr5)
        have HC := two_read H5.out.1 (.int .i64 0) (.slice none 0 0)
        refine bodyPost_ret (v := .tuple #[.agg #[.int .i64 0, .slice none 0 0], .int .i64 4]) ?_ rfl ⟨.inl ⟨rfl, HN.out⟩, two_below H5.out.2 (Nat.le_succ _)⟩
        have hc0 := HC.1
        have hc1 := HC.2
        simp [results, Tryz.results136, go_sem, hc0, hc1]
      · have h1 : ¬ ((j / 2 : Nat) : Int) < (cnt : Int) := by omega
        have h1' : decide (j / 2 < cnt) = false := by simpa using hc2
        have hcj : 2 * cnt ≤ j := by omega
        go_wp2_with (go_at_call 106; refine (HM.out _).mono ?_; rintro e w5 ⟨rfl, hb⟩; have hl5 := H4.out.2.1.below hb H4.out.2.1.lt; have ⟨l0, l1⟩ := blk_pair hl5; have H5 := Lib.hid (And.intro (H4.out.1.below hb H4.out.1.lt) (And.intro hl5 (And.intro (H4.out.2.2.1.below hb) (below_of H4.out.2.2.2 hb)))); clear hb hl5)
        refine (gathered_any B _ D L n j S cw cf num cnt H5.out.2.2.1 hj hnum hcj).mono ?_
        rintro e w6 ⟨k, vw, vn, hk, hall, hnot, rfl, how, hnt, hW⟩
        obtain ⟨Pw, cw1, rfl⟩ := how.form
        obtain ⟨Pn, cn1, rfl⟩ : ∃ P c, vn = .slice P k c := by obtain ⟨cells, h, _⟩ := hnt; exact own_sl h
        have hb7 := new_below w6 (.cells #[.int .i64 num, .slice Pw k cw1] 138)
        have ht7 := Blk.new w6 138 [.int .i64 num, .slice Pw k cw1]
        have ⟨t0, t1⟩ := blk_pair ht7
        have hr7 := (H5.out.1.below hW H5.out.1.lt).below hb7 (H5.out.1.below hW H5.out.1.lt).lt
        have ⟨r0, r1⟩ := blk_pair hr7
        have rf0 := hr7.frozen 0
        have rf1 := hr7.frozen 1
        have hsz5 := H5.out.2.2.2.size
        have hsz6 := hW.size
        have H7 := Lib.hid (And.intro hr7 (And.intro (below_of H5.out.2.2.2 (below_of hW hb7)) (And.intro (how.below hb7) (And.intro (hnt.below hb7) (And.intro ht7 (And.intro hall hnot))))))
        clear hr7 hW hb7 ht7 how hnt hall hnot
        by_cases hkc : k < cnt
        · have e2 : decide ((k : Int) < (cnt : Int)) = true := by simp; omega
          have e3 : decide (k < cnt) = true := by simpa using hkc
          have HN := Lib.hid (show ¬ Full ks S (n - j - 1) j num from fun h => H7.out.2.2.2.2.2.2 hkc (by have := h.2.2.2.1; rw [HF.out.2.2] at this; exact this k hkc))
          clear hkc hc2
          go_wp2_with fail
          have HC := two_read H7.out.1 (.int .i64 0) (.slice none 0 0)
          refine bodyPost_ret (v := .tuple #[.agg #[.int .i64 0, .slice none 0 0], .int .i64 4]) ?_ rfl ⟨.inl ⟨rfl, HN.out⟩, two_below H7.out.2.1 (Nat.le_succ _)⟩
          have hc0 := HC.1
          have hc1 := HC.2
          simp [results, Tryz.results136, go_sem, hc0, hc1]
        · obtain rfl : k = cnt := by omega
          have e2 : decide ((k : Int) < (k : Int)) = false := by simp
          have e3 : decide (k < k) = false := by simp
          clear hkc
          go_wp2_with fail
          have hall := H7.out.2.2.2.2.2.1
          have HP := Lib.hid (H7.out.2.2.2.1.parts (by have := HC1.out; omega))
          refine (is_any ks _ (fun g => w5.heap.size ≤ g) (fun _ => True) num k Pw Pn cw1 cn1 (wrsTo S k) (notesTo S k) (HK.out.below H7.out.2.1 hpos) (H7.out.2.2.1.wrs (fun g hg => hg)) HP.out hnum (by omega) ?_).mono ?_
          · intro p hp
            obtain ⟨i, hi, rfl⟩ := List.mem_map.1 hp
            have hik := List.mem_range.1 hi
            have h3 := (hall i hik).2.2
            refine ⟨by unfold wAt; omega, by unfold wAt; show ((fromB (sub (S (1 + 2 * i)) 16 4) : Nat) : Int) ≤ _; omega, ?_⟩
            exact H5.out.2.2.1.sec (by omega)
          rintro e w8 ⟨hres, hW⟩
          have hr8 := H7.out.1.below hW H7.out.1.lt
          have ht8 := H7.out.2.2.2.2.1.below hW H7.out.2.2.2.2.1.lt
          have ⟨r0, r1⟩ := blk_pair hr8
          have rf0 := hr8.frozen 0
          have rf1 := hr8.frozen 1
          have ⟨t0, t1⟩ := blk_pair ht8
          have H8 := Lib.hid (And.intro hr8 (And.intro (below_of H7.out.2.1 hW) (And.intro (H7.out.2.2.1.below hW) ht8)))
          clear hW hr8 ht8 hall
          rcases hres with ⟨rfl, hfull⟩ | ⟨rfl, hno⟩
          · have HFU := Lib.hid (show Full ks S (n - j - 1) j num from ⟨by have := HT.out; unfold top60; omega, by rw [HF.out.2.2]; have := HC1.out; omega, by rw [HF.out.2.2]; omega, by rw [HF.out.2.2]; exact H7.out.2.2.2.2.2.1, by rw [HF.out.2.2]; exact hfull⟩)
            clear hfull
            go_wp2_with fail
            have HC := two_read H8.out.1 (.int .i64 num) (.slice Pw k cw1)
            refine bodyPost_ret (v := .tuple #[.agg #[.int .i64 num, .slice Pw k cw1], .int .i64 0]) ?_ rfl ⟨.inr ⟨_, rfl, HFU.out, ?_⟩, two_below H8.out.2.1 (Nat.le_succ _)⟩
            · have hc0 := HC.1
              have hc1 := HC.2
              simp [results, Tryz.results136, go_sem, hc0, hc1]
            · rw [HF.out.2.2]
              exact (H8.out.2.2.1.lower H5.out.2.2.2.size (fun g hg => Nat.le_trans H5.out.2.2.2.size hg)).only1 (two_only _ _ _ _) H8.out.1
          · have HN := Lib.hid (show ¬ Full ks S (n - j - 1) j num from fun h => hno (by have := h.2.2.2.2; rw [HF.out.2.2] at this; exact this))
            clear hno
            go_wp2_with fail
            have HC := two_read H8.out.1 (.int .i64 0) (.slice none 0 0)
            refine bodyPost_ret (v := .tuple #[.agg #[.int .i64 0, .slice none 0 0], .int .i64 4]) ?_ rfl ⟨.inl ⟨rfl, HN.out⟩, two_below H8.out.2.1 (Nat.le_succ _)⟩
            have hc0 := HC.1
            have hc1 := HC.2
            simp [results, Tryz.results136, go_sem, hc0, hc1]
end Go.Proofs.YtfkdpndcoegfpaaGreatDoor
end

/-
  The document's Found: the transaction of a number that a disk's journal has whole. Conditions: the bytes are a disk's; the journal has room for at most 15 writes.
-/

section
set_option maxRecDepth 100000
set_option linter.unusedSimpArgs false
set_option linter.unusedVariables false
namespace Go.Proofs.YtfkdpndcoegfpaaGreatDoor
open Go.RowKit
attribute [local go_sem ↓] exec_loadTbl exec_load32

theorem sub_sub {xs : List B8} {a m b n : Nat} (h : b + n ≤ m) : sub (sub xs a m) b n = sub xs (a + b) n := by
  unfold sub
  rw [List.drop_take, List.drop_drop, List.take_take, Nat.min_eq_left (by omega)]
/-- Place i of the journal is the document's note of transaction num, of so many writes, with this digest. -/
def okN (S : Nat → List B8) (data num cnt : Nat) (d : List B8) (i : Nat) : Prop := fromB (sub (S (1 + 2 * i)) 16 4) < data ∧ S (1 + 2 * i) = noteB num i cnt (fromB (sub (S (1 + 2 * i)) 16 4)) d
def FoundB (ks : List B32) (S : Nat → List B8) (data j num : Nat) : Prop :=
  1 ≤ cntOf S ∧ cntOf S ≤ j / 2 ∧ (∀ i, i < cntOf S → okN S data num (cntOf S) (sub (S 1) 20 32) i) ∧ (secs (wrsTo S (cntOf S))).Nodup ∧ digOf ks num (wrsTo S (cntOf S)) = sub (S 1) 20 32
def rfoundPost (ks : List B32) (S : Nat → List B8) (data j num : Nat) (w : World) (e : Ending) (w' : World) : Prop :=
  (((∃ v, e = .returned (.tuple #[v, .bool false])) ∧ ¬ FoundB ks S data j num) ∨
    (∃ v, e = .returned (.tuple #[v, .bool true]) ∧ FoundB ks S data j num ∧ ORfs w.heap.size (fun _ => True) w' v (cntOf S) (wrsTo S (cntOf S)))) ∧ Below w.heap.size w w'
theorem rsec_at (w : World) (g o N c no q c1 : Nat) (h1 : q + 64 ≤ N) (h2 : N ≤ c) (h3 : c ≤ 9223372036854775807) (hq : 64 * no = q) (hc : c - q = c1) :
    Calls Tryz.prog 52 #[.slice (some ⟨g, o, none⟩) N c, .int .i64 no] w fun e w' => e = .returned (.slice (some ⟨g, o + q, none⟩) 64 c1) ∧ w = w' := by
  subst hq hc
  exact rsector_any w g o N c no h1 h2 h3
theorem rsmall_at (w : World) (A : Nat → Prop) (g o c k m c1 : Nat) (xs : List B8) (hx : Bts A w (.slice (some ⟨g, o, none⟩) 64 c) xs) (hm : 64 - k = m) (hk : k + 4 ≤ 64) (hc : 64 ≤ c) (hcm : c ≤ 9223372036854775807) (hc1 : c - k = c1) :
    Calls Tryz.prog 98 #[.slice (some ⟨g, o + k, none⟩) m c1] w fun e w' => e = .returned (.int .i64 (fromB (sub xs k 4))) ∧ Below w.heap.size w w' := by
  subst hm hc1
  have h := rsmall_any w A g (o + k) (64 - k) (c - k) (sub xs k (64 - k)) (hx.sub_ (by omega) (by omega) (by omega)) (by omega) (by omega) (by omega)
  rw [sub_sub (by omega), Nat.add_zero] at h
  exact h
/-- The first i bytes of a digest, and bytes 0. -/
def cpy (d : List B8) (i : Nat) : List B8 := d.take i ++ List.replicate (32 - i) 0
theorem cpy_length {d : List B8} {i : Nat} (hd : d.length = 32) (hi : i ≤ 32) : (cpy d i).length = 32 := by unfold cpy; simp [hd]; omega
theorem cpy_zero (d : List B8) : Vb (cpy d 0) = List.replicate 32 (.int .u8 0) := by simp [cpy, Vb, nb]
theorem cpy_all {d : List B8} (hd : d.length = 32) : cpy d 32 = d := by unfold cpy; rw [List.take_of_length_le (by omega)]; simp
theorem cpy_set {d : List B8} {i : Nat} {x : B8} (hd : d.length = 32) (hx : d[i]? = some x) : (Vb (cpy d i)).set i (.int .u8 (nb x)) = Vb (cpy d (i + 1)) := by
  have hi := (List.getElem?_eq_some_iff.1 hx).1
  unfold Vb
  apply List.ext_getElem?
  intro k
  rw [List.getElem?_set]
  unfold cpy
  by_cases h : i = k
  · subst h
    rw [if_pos rfl, if_pos (by simp; omega), List.getElem?_map, List.getElem?_append_left (by simp; omega), List.getElem?_take, if_pos (by omega), hx]
    rfl
  · rw [if_neg h, List.getElem?_map, List.getElem?_map]
    congr 1
    by_cases hk : k < i
    · rw [List.getElem?_append_left (by simp; omega), List.getElem?_append_left (by simp; omega), List.getElem?_take, List.getElem?_take, if_pos hk, if_pos (by omega)]
    · rw [List.getElem?_append_right (by simp; omega), List.getElem?_append_right (by simp; omega), List.getElem?_replicate, List.getElem?_replicate]
      simp only [List.length_take]
      by_cases h2 : k < 32
      · rw [if_pos (by omega), if_pos (by omega)]
      · rw [if_neg (by omega), if_neg (by omega)]

theorem ORfs.lower {N N' n : Nat} {A : Nat → Prop} {w : World} {v : Value} {X : List (Int × List B8)} (h : ORfs N' A w v n X) (hN : N ≤ N') : ORfs N A w v n X := by
  obtain ⟨cells, c1, c2, c3⟩ := h
  refine ⟨cells, ⟨c1.1, ?_⟩, c2, c3⟩
  rcases c1.2 with h | ⟨g, cap, cur, e, hb, rest⟩
  · exact .inl h
  · exact .inr ⟨g, cap, cur, e, Nat.le_trans hN hb, rest⟩
theorem wrsTo_get {S : Nat → List B8} {k i : Nat} (h : i < k) : (wrsTo S k)[i]? = some (wAt S i) := by simp [wrsTo, h]
theorem wrsTo_snoc (S : Nat → List B8) (k : Nat) : wrsTo S (k + 1) = wrsTo S k ++ [wAt S k] := by simp [wrsTo, List.range_succ]
theorem wrsTo_len (S : Nat → List B8) (k : Nat) : (wrsTo S k).length = k := by simp [wrsTo]
theorem nodup_ne {S : Nat → List B8} {cnt k i : Nat} (hn : (secs (wrsTo S cnt)).Nodup) (hk : k < i) (hi : i < cnt) : (wAt S k).1 ≠ (wAt S i).1 := by
  unfold secs at hn
  have h := (List.pairwise_iff_getElem.1 hn) k i (by rw [List.length_map, wrsTo_len]; omega) (by rw [List.length_map, wrsTo_len]; exact hi) hk
  have e1 := wrsTo_get (S := S) (k := cnt) (i := k) (by omega)
  have e2 := wrsTo_get (S := S) (k := cnt) (i := i) hi
  rw [List.getElem?_eq_some_iff] at e1 e2
  obtain ⟨_, e1⟩ := e1
  obtain ⟨_, e2⟩ := e2
  rw [List.getElem_map, List.getElem_map, e1, e2] at h
  exact h
theorem nodup_wsnoc {S : Nat → List B8} {i : Nat} (hn : (secs (wrsTo S i)).Nodup) (h : ∀ k, k < i → (wAt S k).1 ≠ (wAt S i).1) : (secs (wrsTo S (i + 1))).Nodup := by
  rw [wrsTo_snoc]
  unfold secs at *
  rw [List.map_append, List.nodup_append]
  refine ⟨hn, by simp, ?_⟩
  intro x hx y hy
  simp only [List.map_cons, List.map_nil, List.mem_singleton] at hy
  subst hy
  obtain ⟨q, hq1, rfl⟩ := List.mem_map.1 hx
  obtain ⟨k, hk⟩ := List.mem_iff_getElem?.1 hq1
  have hki : k < i := by have := (List.getElem?_eq_some_iff.1 hk).1; rwa [wrsTo_len] at this
  rw [wrsTo_get hki] at hk
  cases hk
  exact h k hki

set_option maxHeartbeats 4000000 in
theorem rfound_any (w : World) (A : Nat → Prop) (g o N c n j num : Nat) (xs : List B8) (hx : Bts A w (.slice (some ⟨g, o, none⟩) N c) xs) (hN : N = 64 * n) (hc : N ≤ c) (hcm : c ≤ 9223372036854775807) (hn : n ≤ 4096) (hj : j + 1 < n) (hj2 : 2 ≤ j) (hj30 : j ≤ 30) (hje : j % 2 = 0) (hnum : num ≤ 9223372036854775807) :
    Calls Tryz.prog 53 #[.agg Tbl.toArray, .slice (some ⟨g, o, none⟩) N c, .int .i64 j, .int .i64 num] w (rfoundPost Ks (fun k => sub xs (64 * k) 64) (n - j - 1) j num w) := by
  have hz := zero32
  obtain ⟨dat, hdat⟩ : ∃ dat, n - j - 1 = dat := ⟨_, rfl⟩
  rw [hdat]
  obtain ⟨jh, hjh⟩ : ∃ jh, j / 2 = jh := ⟨_, rfl⟩
  have hq1 : ((N : Int) / 64) - 1 - (j : Int) = (dat : Int) := by omega
  have hq2 : (j : Int) / 2 = (jh : Int) := by omega
  obtain ⟨S, hS⟩ : ∃ S : Nat → List B8, (fun k => sub xs (64 * k) 64) = S := ⟨_, rfl⟩
  rw [hS]
  have hSk : ∀ k, S k = sub xs (64 * k) 64 := fun k => by rw [← hS]
  have hxl := hx.cells.1
  have h128 : 128 ≤ N := by omega
  obtain ⟨c1, hc1⟩ : ∃ c1, c - 64 = c1 := ⟨_, rfl⟩
  have hc64 : 64 ≤ c1 := by omega
  have hc1m : c1 ≤ 9223372036854775807 := by omega
  obtain ⟨cnt, hcnt⟩ : ∃ cnt, cntOf S = cnt := ⟨_, rfl⟩
  have hS1 : sub xs 64 64 = S 1 := by rw [hSk]
  have hSl : ∀ k, k < n → (S k).length = 64 := fun k hk => by rw [hSk]; exact sub_length (by omega)
  have hcb : cnt < 4294967296 := by
    rw [← hcnt]
    have := fromB_lt (sub (S 1) 12 4)
    rw [sub_length (by rw [hSl 1 (by omega)]; omega)] at this
    exact this
  have hb1 := new_below w (.cells Tbl.toArray 38)
  have H0 := Lib.hid (And.intro (TblV.new w) (And.intro (hx.below hb1) (And.intro hb1 (And.intro hSl (And.intro hSk (And.intro hc1 hcnt))))))
  have HN := Lib.hid (And.intro hN (And.intro hdat (And.intro hjh hje)))
  have HS1 := Lib.hid hS1
  clear hb1 hx hSl hSk hN hdat hjh hS hc1 hcnt hxl hS1 hje
  go_enter Tryz.func53, Tryz.ntmps53
  go_wp2_with fail
  refine (rsec_at _ g o N c 1 64 c1 (by omega) hc hcm rfl H0.out.2.2.2.2.2.1).mono ?_
  rintro e w1 ⟨rfl, rfl⟩
  have hb1 := H0.out.2.1.sub_ (k := 64) (n := 64) (c' := c1) (by omega) hc64 hc1m
  rw [HS1.out] at hb1
  have HB1 := Lib.hid hb1
  clear hb1
  go_wp2_with fail
  refine (rsmall_at _ A g (o + 64) c1 12 52 (c1 - 12) (S 1) HB1.out rfl (by omega) hc64 hc1m rfl).mono ?_
  rw [show fromB (sub (S 1) 12 4) = cnt from H0.out.2.2.2.2.2.2]
  rintro e w2 ⟨rfl, hW⟩
  have H2 := Lib.hid (And.intro (H0.out.1.below hW) (And.intro (HB1.out.below hW) (And.intro (H0.out.2.1.below hW) (below_of H0.out.2.2.1 hW))))
  clear hW
  by_cases hc1' : cnt < 1
  · have e1 : decide ((cnt : Int) < 1) = true := by simp; omega
    have HX := Lib.hid (show ¬ FoundB Ks S dat j num from fun h => by have := h.1; rw [H0.out.2.2.2.2.2.2] at this; omega)
    clear hc1'
    go_wp2_with fail
    go_ret2
    exact ⟨.inl ⟨⟨_, rfl⟩, HX.out⟩, H2.out.2.2.2⟩
  · have e1 : decide ((cnt : Int) < 1) = false := by simp; omega
    by_cases hcj' : jh < cnt
    · have e2 : decide (jh < cnt) = true := by simp; omega
      have HX := Lib.hid (show ¬ FoundB Ks S dat j num from fun h => by have := h.2.1; rw [H0.out.2.2.2.2.2.2, HN.out.2.2.1] at this; omega)
      clear hcj' hc1'
      go_wp2_with fail
      go_ret2
      exact ⟨.inl ⟨⟨_, rfl⟩, HX.out⟩, H2.out.2.2.2⟩
    · have e2 : decide (jh < cnt) = false := by simp; omega
      have hcnt15 : cnt ≤ 15 := by have := HN.out.2.2.1; omega
      have HC := Lib.hid (show 1 ≤ cnt ∧ cnt ≤ jh by omega)
      clear hcj' hc1'
      have hbd := new_below w2 (.cells (List.replicate 32 (Value.int .u8 0)).toArray 184)
      obtain ⟨d, hd⟩ : ∃ d, sub (S 1) 20 32 = d := ⟨_, rfl⟩
      have hdl : d.length = 32 := by rw [← hd]; exact sub_length (by rw [H0.out.2.2.2.1 1 (by omega)]; omega)
      have hkd : Blk (w2.alloc (.cells (List.replicate 32 (Value.int .u8 0)).toArray 184)) w2.heap.size 184 (Vb (cpy d 0)) := by rw [cpy_zero]; exact Blk.new w2 184 (List.replicate 32 (Value.int .u8 0))
      have H3 := Lib.hid (And.intro hkd hbd)
      have HD := Lib.hid (And.intro hd hdl)
      clear hbd hkd hd hdl
      go_wp2_with fail
      go_loopw [14] (fun iv wx => ∃ i : Nat, i ≤ 32 ∧ iv = .int .i64 i ∧ Blk wx w2.heap.size 184 (Vb (cpy d i)) ∧ Below w2.heap.size w2 wx) (fun iv _ => 32 - (intOf iv).toNat)
      case atStart => exact ⟨0, Nat.zero_le _, rfl, H3.out.1, H3.out.2⟩
      case round =>
        obtain ⟨i, hi, rfl, hk, hb⟩ := hrel
        by_cases hlt : i < 32
        · have hdi : i < d.length := by rw [HD.out.2]; exact hlt
          obtain ⟨x, hx⟩ : ∃ x, d[i]? = some x := ⟨_, List.getElem?_eq_getElem hdi⟩
          have hsx : (Vb (S 1))[20 + i]? = some (.int .u8 (nb x)) := by
            have h := hx
            rw [← HD.out.1] at h
            unfold sub at h
            rw [List.getElem?_take, if_pos hlt, List.getElem?_drop] at h
            rw [Vb_get, h]
            rfl
          obtain ⟨g', o', e, _, hgl, hcell⟩ := H2.out.2.1.cells.2 (by omega)
          cases e
          have e0 := hcell (20 + i) _ hsx
          have e1' := (hb.cell (p := ⟨g, o + 64 + (20 + i), none⟩) hgl).trans e0
          obtain ⟨u, e2'⟩ : ∃ u, wr.cell? ⟨w2.heap.size, i, none⟩ = some u := ⟨_, by rw [hk.cell, List.getElem?_eq_getElem (by rw [Vb_length, cpy_length HD.out.2 (by omega)]; exact hlt)]⟩
          have f2 := hk.frozen i
          have HK := Lib.hid (And.intro hk (And.intro hb hx))
          clear hdi hx hsx hcell e0 hk hb
          go_wp2_with fail
          go_roundw
          case rel => exact ⟨i + 1, by omega, by go_num, by rw [← cpy_set HD.out.2 HK.out.2.2]; exact HK.out.1.set_ i _, HK.out.2.1.setCell (Nat.le_refl _) _⟩
          case measure => simp [intOf]; omega
        · obtain rfl : i = 32 := by omega
          rw [cpy_all HD.out.2] at hk
          have hsz2 := hb.size
          have hszw := (below_of H2.out.2.2.2 hb).size
          have H4 := Lib.hid (And.intro hk (And.intro (H2.out.1.below hb) (And.intro (H2.out.2.2.1.below hb) (below_of H2.out.2.2.2 hb))))
          clear hk hb
          go_wp2_with fail
          obtain ⟨i1, hi1, hy0, hy1, hy2⟩ := info_parts (show (Tryz.prog.info? 52).map (fun i => (i.zero, i.size, i.bytes)) = some (some (.agg #[.int .i64 0, .slice none 0 0]), 2, 32) by kernel_rfl)
          have HJ := Lib.hid (And.intro hi1 (And.intro hy0 (And.intro hy1 hy2)))
          clear hi1 hy0 hy1 hy2
          have hi32 : (Tryz.prog.info? 184).map (·.size) = some (Vb d).length := info31.trans (by rw [Vb_length, HD.out.2])
          have HI32 := Lib.hid hi32
          clear hi32
          generalize wr = w3 at *
          go_loopw [16, 15] (fun iv tv wx => ∃ i : Nat, i ≤ cnt ∧ iv = .int .i64 i ∧ ORfs w3.heap.size (fun _ => True) wx tv i (wrsTo S i) ∧ (∀ i', i' < i → okN S dat num cnt d i') ∧ (secs (wrsTo S i)).Nodup ∧ Blk wx w2.heap.size 184 (Vb d) ∧ Below w3.heap.size w3 wx) (fun iv _ _ => cnt - (intOf iv).toNat)
          case atStart => exact ⟨0, Nat.zero_le _, rfl, ORfs.empty _ _ _, fun i' h => absurd h (by omega), by simp [wrsTo, secs], H4.out.1, Below.refl _ _⟩
          case round =>
            obtain ⟨i, hi, rfl, hor, hall, hnd, hk, hb⟩ := hrel
            have hszr := hb.size
            by_cases hlt : i < cnt
            · have hje := HN.out.2.2.2
              have hjh := HN.out.2.2.1
              have hjc := HC.out.2
              have hN' := HN.out.1
              obtain ⟨a, ha⟩ : ∃ a, 1 + 2 * i = a := ⟨_, rfl⟩
              obtain ⟨q, hq⟩ : ∃ q, 64 * a = q := ⟨_, rfl⟩
              obtain ⟨ca, hca⟩ : ∃ ca, c - q = ca := ⟨_, rfl⟩
              obtain ⟨a2, ha2⟩ : ∃ a, 2 + 2 * i = a := ⟨_, rfl⟩
              obtain ⟨q2, hq2⟩ : ∃ q, 64 * a2 = q := ⟨_, rfl⟩
              obtain ⟨cb, hcb'⟩ : ∃ ca, c - q2 = ca := ⟨_, rfl⟩
              have hai : (1 : Int) + 2 * (i : Int) = (a : Int) := by omega
              have hai2 : (2 : Int) + 2 * (i : Int) = (a2 : Int) := by omega
              have hqN : q + 64 ≤ N := by omega
              have hqN2 : q2 + 64 ≤ N := by omega
              have hca64 : 64 ≤ ca ∧ ca ≤ 9223372036854775807 := by omega
              have hcb64 : 64 ≤ cb ∧ cb ≤ 9223372036854775807 := by omega
              have han : a < n ∧ a2 < n := by omega
              have hx := H4.out.2.2.1.below hb
              have hba := hx.sub_ (k := q) (n := 64) (c' := ca) (by omega) hca64.1 hca64.2
              have hbb := hx.sub_ (k := q2) (n := 64) (c' := cb) (by omega) hcb64.1 hcb64.2
              rw [← hq, ← H0.out.2.2.2.2.1 a] at hba
              rw [← hq2, ← H0.out.2.2.2.2.1 a2] at hbb
              rw [hq] at hba
              rw [hq2] at hbb
              have HQ := Lib.hid (And.intro hq (And.intro hca (And.intro hq2 (And.intro hcb' (And.intro ha ha2)))))
              have HR := Lib.hid (And.intro hor (And.intro hall (And.intro hnd (And.intro hk (And.intro hb (And.intro hba hbb))))))
              clear hq hca hq2 hcb' ha ha2 hor hall hnd hk hb hba hbb hx hje hjh hjc hN'
              go_wp2_with fail
              refine (rsec_at _ g o N c a q ca hqN hc hcm HQ.out.1 HQ.out.2.1).mono ?_
              rintro e w5 ⟨rfl, rfl⟩
              go_wp2_with fail
              refine (rsmall_at _ A g (o + q) ca 16 48 (ca - 16) (S a) HR.out.2.2.2.2.2.1 rfl (by omega) hca64.1 hca64.2 rfl).mono ?_
              obtain ⟨no, hno⟩ : ∃ no, fromB (sub (S a) 16 4) = no := ⟨_, rfl⟩
              have hnob : no < 4294967296 := by
                rw [← hno]
                have := fromB_lt (sub (S a) 16 4)
                rw [sub_length (by rw [H0.out.2.2.2.1 a han.1]; omega)] at this
                exact this
              rw [hno]
              rintro e w6 ⟨rfl, hW⟩
              have H6 := Lib.hid (And.intro (HR.out.1.below hW) (And.intro (HR.out.2.2.2.1.below hW HR.out.2.2.2.1.lt) (And.intro (below_of HR.out.2.2.2.2.1 hW) (And.intro (HR.out.2.2.2.2.2.1.below hW) (And.intro (HR.out.2.2.2.2.2.2.below hW) hno)))))
              clear hW hno
              by_cases hnd2 : no < dat
              · have e2 : decide (dat ≤ no) = false := by simp; omega
                have HND := Lib.hid hnd2
                clear hnd2
                obtain ⟨bn, hbn⟩ : ∃ b, decide (S a = noteB num i cnt no d) = b := ⟨_, rfl⟩
                have HBN := Lib.hid hbn
                clear hbn
                have ⟨hr1, hr2⟩ := rd32_blk H6.out.2.1 (by rw [Vb_length, HD.out.2])
                go_wp2_with (first
                  | (go_at_call 99; refine (rnote_any _ num i cnt no d HD.out.2 hnum (by omega) (by omega) (by omega)).mono ?_; rintro e w7 ⟨g7, rfl, _, hB7, hW⟩; have H7 := Lib.hid (And.intro hB7 hW); clear hB7 hW))
                refine (same_bts (b := bn) (H6.out.2.2.2.1.below H7.out.2) (Bts.whole (A := fun _ => True) H7.out.1 (.inl rfl) trivial (noteB_length _ _ _ _ HD.out.2) (by omega)) HBN.out).mono ?_
                rintro e w8 ⟨rfl, hW⟩
                have H8 := Lib.hid (below_of H7.out.2 hW)
                clear hW hr1 hr2
                cases bn with
                | false =>
                  have HX := Lib.hid (show ¬ FoundB Ks S dat j num from fun h => by
                    have h1 := (h.2.2.1 i (by rw [H0.out.2.2.2.2.2.2]; exact hlt)).2
                    rw [H0.out.2.2.2.2.2.2, HD.out.1, HQ.out.2.2.2.2.1, H6.out.2.2.2.2.2] at h1
                    exact of_decide_eq_false HBN.out h1)
                  have hbf := below_of H4.out.2.2.2 (below_of H6.out.2.2.1 H8.out)
                  have HF := Lib.hid hbf
                  clear hbf
                  go_wp2_with fail
                  go_ret2
                  exact ⟨.inl ⟨⟨_, rfl⟩, HX.out⟩, HF.out⟩
                | true =>
                  have HOK := Lib.hid (show okN S dat num cnt d i from by
                    unfold okN
                    rw [HQ.out.2.2.2.2.1, H6.out.2.2.2.2.2]
                    exact ⟨HND.out, of_decide_eq_true HBN.out⟩)
                  obtain ⟨Pl, cl, hform⟩ := H6.out.1.form
                  subst hform
                  have H9 := Lib.hid (And.intro (H6.out.1.below H8.out) (And.intro (H6.out.2.1.below H8.out H6.out.2.1.lt) (And.intro (below_of H6.out.2.2.1 H8.out) (H6.out.2.2.2.2.1.below H8.out))))
                  go_wp2_with fail
                  go_loop [19] (fun kv => ∃ k : Nat, k ≤ i ∧ kv = .int .i64 k ∧ ∀ k', k' < k → (wAt S k').1 ≠ (no : Int)) (fun kv => i - (intOf kv).toNat)
                  case atStart => exact ⟨0, Nat.zero_le _, rfl, fun k' h => absurd h (by omega)⟩
                  case round =>
                    obtain ⟨k, hk, rfl, hne⟩ := hrel
                    by_cases hki : k < i
                    · have hp := wrsTo_get (S := S) (k := i) (i := k) hki
                      obtain ⟨gl, Q, m2, k2, rfl, hgl, hAg, k0, k1, _, _, _, _⟩ := H9.out.1.toRfs.at_ hp
                      have HK := Lib.hid hne
                      clear hne hp
                      by_cases heq : (wAt S k).1 = (no : Int)
                      · have e3 : ((wAt S k).1 == (no : Int)) = true := by simpa using heq
                        have HX := Lib.hid (show ¬ FoundB Ks S dat j num from fun h => by
                          have h1 := nodup_ne h.2.2.2.1 hki (by rw [H0.out.2.2.2.2.2.2]; exact hlt)
                          rw [heq] at h1
                          unfold wAt at h1
                          rw [HQ.out.2.2.2.2.1, H6.out.2.2.2.2.2] at h1
                          exact h1 rfl)
                        have HF := Lib.hid (below_of H4.out.2.2.2 H9.out.2.2.1)
                        clear heq
                        go_wp2_with fail
                        go_ret2
                        exact ⟨.inl ⟨⟨_, rfl⟩, HX.out⟩, HF.out⟩
                      · have e3 : ((wAt S k).1 == (no : Int)) = false := by simpa using heq
                        have HE := Lib.hid heq
                        clear heq
                        go_wp2_with fail
                        go_round
                        case rel =>
                          refine ⟨k + 1, by omega, by go_num, fun k' hk' => ?_⟩
                          by_cases h : k' = k
                          · rw [h]; exact HE.out
                          · exact HK.out k' (by omega)
                        case measure => simp [intOf]; omega
                    · obtain rfl : k = i := by omega
                      have HNE := Lib.hid hne
                      obtain ⟨cells, ho, hxl, hcs⟩ := H9.out.1
                      have hs8 := H9.out.2.2.1.size
                      have hb8 := new_below w8 (.cells #[.int .i64 (no : Int), .slice (some ⟨g, o + q2, none⟩) 64 cb] 52)
                      have HO := Lib.hid (And.intro ho (And.intro hxl (And.intro hcs hb8)))
                      clear hne ho hxl hcs hb8
                      go_wp2_with fail
                      refine (rsec_at _ g o N c a2 q2 cb hqN2 hc hcm HQ.out.2.2.1 HQ.out.2.2.2.1).mono ?_
                      rintro e w9 ⟨rfl, rfl⟩
                      go_wp2_with (at_builtin; refine wpList_append_lies _ rfl (.tmp 90) (.tmp 98) 45 rfl w3.heap.size 52 i1 (.agg #[.int .i64 0, .slice none 0 0]) 2 32 Tryz.underlying45 HJ.out.1 HJ.out.2.1 HJ.out.2.2.1 HJ.out.2.2.2 rfl (by decide) (.slice Pl k cl) k cells rfl (HO.out.1.alloc _) ⟨w8.heap.size, 0, none⟩ 1 1 [.int .i64 (no : Int), .slice (some ⟨g, o + q2, none⟩) 64 cb] rfl rfl (new_row w8 [_, _] 52) (pair_one _ _ _ _) (by decide) (by unfold maxLen; omega) (by omega) (by simp; omega) (w8.heap.size + 1) (by simp) ?_; intro g9 cap9 w9 ho9 hg9 hat9 hl9; have H10 := Lib.hid (And.intro ho9 hg9); clear ho9 hg9 hat9 hl9)
                      have hown8 := HO.out.1.alloc (.cells #[.int .i64 (no : Int), .slice (some ⟨g, o + q2, none⟩) 64 cb] 52)
                      have hkb := H9.out.2.1.below HO.out.2.2.2 H9.out.2.1.lt
                      have hk9 := hkb.grown H10.out.2 (fun e => own_blk_ne hown8 hkb (by decide) e.symm)
                      have hb9 : Below w3.heap.size w3 w9 := (below_of H9.out.2.2.1 HO.out.2.2.2).grown H10.out.2 (by simp; omega) (fun q hq => own_ge hown8 q hq)
                      have ho9 : ORfs w3.heap.size (fun _ => True) w9 (.slice (some ⟨g9, 0, none⟩) (k + 1) cap9) (k + 1) (wrsTo S k ++ [((no : Int), S a2)]) := by
                        refine ORfs.add hown8 HO.out.2.1 H10.out.2 (fun jj pp hpp => ?_) rfl H10.out.1 (fun jj pp hpp => ?_)
                        · obtain ⟨c0, u, c1, hu⟩ := HO.out.2.2.1 jj pp hpp
                          exact ⟨c0, u, c1, hu.below HO.out.2.2.2⟩
                        · match jj, hpp with
                          | 0, hpp =>
                            simp only [List.getElem?_cons_zero, Option.some.injEq] at hpp
                            subst hpp
                            exact ⟨rfl, _, rfl, (H9.out.2.2.2.mono (fun _ _ _ => trivial)).below HO.out.2.2.2⟩
                      have hwa : wAt S k = ((no : Int), S a2) := by
                        unfold wAt
                        rw [HQ.out.2.2.2.2.1, H6.out.2.2.2.2.2, show a + 1 = a2 by have := HQ.out.2.2.2.2.1; have := HQ.out.2.2.2.2.2; omega]
                      have hnd9 := nodup_wsnoc (S := S) (i := k) HR.out.2.2.1 (fun k' hk' => by rw [hwa]; exact HNE.out k' hk')
                      rw [← hwa, ← wrsTo_snoc] at ho9
                      have HE := Lib.hid (And.intro ho9 (And.intro hnd9 (And.intro hk9 hb9)))
                      clear hown8 hkb hk9 hb9 ho9 hwa hnd9
                      go_roundw
                      case rel =>
                        have hall9 : ∀ i', i' < k + 1 → okN S dat num cnt d i' := fun i' hi' => by
                          by_cases h : i' = k
                          · rw [h]; exact HOK.out
                          · exact HR.out.2.1 i' (by omega)
                        (repeat apply Exists.intro)
                        exact ⟨⟨k + 1, by omega, by go_num, HE.out.1, hall9, HE.out.2.1, HE.out.2.2.1, HE.out.2.2.2⟩, rfl⟩
                      case measure => simp [intOf]; omega
              · have e2 : decide (dat ≤ no) = true := by simp; omega
                have HX := Lib.hid (show ¬ FoundB Ks S dat j num from fun h => by
                  have h1 := (h.2.2.1 i (by rw [H0.out.2.2.2.2.2.2]; exact hlt)).1
                  rw [HQ.out.2.2.2.2.1, H6.out.2.2.2.2.2] at h1
                  omega)
                have HF := Lib.hid (below_of H4.out.2.2.2 H6.out.2.2.1)
                clear hnd2
                go_wp2_with fail
                go_ret2
                exact ⟨.inl ⟨⟨_, rfl⟩, HX.out⟩, HF.out⟩
            · obtain rfl : i = cnt := by omega
              obtain ⟨Pl, cl, hform⟩ := hor.form
              subst hform
              obtain ⟨X, hX⟩ : ∃ X, digOf Ks num (wrsTo S i) = X := ⟨_, rfl⟩
              have hXl : X.length = 32 := by rw [← hX]; exact digOf_length _ _ _
              obtain ⟨bx, hbx⟩ : ∃ b, decide (X = d) = b := ⟨_, rfl⟩
              have heq : ∀ W, (Op.equalIn 10000 184 (.agg (Vb X).toArray) (.agg (Vb d).toArray)).run Tryz.prog W = .ok bx W := fun W => by rw [← hbx]; exact eql32 X d hXl HD.out.2 W
              have hok : ∀ p ∈ wrsTo S i, 0 ≤ p.1 ∧ p.1 ≤ 4294967296 ∧ p.2.length = 64 := by
                intro p hp
                obtain ⟨k, hk, rfl⟩ := List.mem_map.1 hp
                have hik := List.mem_range.1 hk
                have h3 := HN.out.2.2.1
                have h4 := HC.out.2
                have h5 := HN.out.2.2.2
                have hfl := fromB_lt (sub (S (1 + 2 * k)) 16 4)
                have hl := H0.out.2.2.2.1 (1 + 2 * k) (by omega)
                rw [sub_length (by rw [hl]; omega)] at hfl
                refine ⟨by unfold wAt; omega, ?_, H0.out.2.2.2.1 _ (by omega)⟩
                unfold wAt
                show ((fromB (sub (S (1 + 2 * k)) 16 4) : Nat) : Int) ≤ _
                omega
              have hu := Tryz.underlying184
              have hi32 := HI32.out
              have ht0 := (H4.out.2.1.below hb).drew
              have hr0 := (hk.below (drew_below _) hk.lt).range
              have HR := Lib.hid (And.intro hor (And.intro hall (And.intro hnd (And.intro hk (And.intro hb (And.intro hX (And.intro hbx hok)))))))
              clear hor hall hnd hk hX hbx hok
              go_wp2_with fail
              go_region_held3 (fun w' => TblV w' (.pointer (some ⟨w.heap.size, 0, none⟩)) ∧ w'.rangeAt w2.heap.size 0 (Vb d))
                (first | exact ⟨ht0, hr0⟩ | exact ⟨ht5, hr5⟩)
                (first
                  | (go_at_call 100; refine (rsum_any _ (fun g => True ∨ w3.heap.size ≤ g) num i Pl cl (wrsTo S i) (HR.out.1.toRfs.below (drew_below _)) hnum hcnt15 HR.out.2.2.2.2.2.2.2).mono ?_; rw [HR.out.2.2.2.2.2.1]; rintro e w5 ⟨rfl, hW⟩; have ht5 := (H4.out.2.1.below hb).of_drew hW; have hr5 := (blk_drew HR.out.2.2.2.1 hW).range; have H5 := Lib.hid (below_drew (Below.refl _ _) hW); clear hW))
              clear heq
              go_wp2_with fail
              go_ret2
              refine ⟨?_, below_of H4.out.2.2.2 (below_of HR.out.2.2.2.2.1 H5.out)⟩
              have hF : FoundB Ks S dat j num ↔ X = d := by
                unfold FoundB
                rw [H0.out.2.2.2.2.2.2, HD.out.1, HR.out.2.2.2.2.2.1]
                exact ⟨fun h => h.2.2.2.2, fun h => ⟨HC.out.1, by have := HN.out.2.2.1; have := HC.out.2; omega, HR.out.2.1, HR.out.2.2.1, h⟩⟩
              have hbx := HR.out.2.2.2.2.2.2.1
              cases bx with
              | true =>
                refine .inr ⟨_, rfl, hF.2 (of_decide_eq_true hbx), ?_⟩
                rw [H0.out.2.2.2.2.2.2]
                exact (HR.out.1.below H5.out).lower hszw
              | false => exact .inl ⟨⟨_, rfl⟩, fun h => of_decide_eq_false hbx (hF.1 h)⟩
end Go.Proofs.YtfkdpndcoegfpaaGreatDoor
end

/-
  The document's Found, and what the log finds: the same. Plain theorems; no condition but the bounds of the numbers.
-/

section
set_option maxRecDepth 100000
set_option linter.unusedSimpArgs false
set_option linter.unusedVariables false
namespace Go.Proofs.YtfkdpndcoegfpaaGreatDoor
open Go.RowKit

theorem big_snoc (size n : Nat) : big (size + 1) n = big size (n / 256) ++ [BitVec.ofNat 8 n] := by
  unfold big
  rw [List.range_succ, List.map_append]
  congr 1
  · apply List.map_congr_left
    intro j hj
    have hj := List.mem_range.1 hj
    unfold bigAt
    congr 1
    rw [show 8 * (size + 1 - 1 - j) = 8 + 8 * (size - 1 - j) by omega, Nat.pow_add, ← Nat.div_div_eq_div_mul]
  · unfold bigAt
    simp
theorem fromB_big : ∀ (size n : Nat), n < 256 ^ size → fromB (big size n) = n
  | 0, n, h => by
    have : n = 0 := by simpa using h
    subst this
    rfl
  | size + 1, n, h => by
    rw [big_snoc, fromB_snoc, fromB_big size (n / 256) (by rw [Nat.pow_succ] at h; omega)]
    simp
    omega
theorem sub_at {xs ys : List B8} {o n : Nat} (h1 : (xs.take (o + n)).drop o = ys) : sub xs o n = ys := by
  unfold sub
  rw [← h1, List.take_drop]
theorem sub_mid (a b c : List B8) {o n : Nat} (ha : a.length = o) (hb : b.length = n) : sub (a ++ (b ++ c)) o n = b := by
  subst ha hb
  unfold sub
  rw [List.drop_left, List.take_left]
theorem sub_first (b c : List B8) {n : Nat} (hb : b.length = n) : sub (b ++ c) 0 n = b := by
  have := sub_mid [] b c rfl hb
  rwa [List.nil_append] at this
section
variable {num place count no : Nat} {d : List B8}
theorem noteB_parts : noteB num place count no d = big 8 num ++ (big 4 place ++ (big 4 count ++ (big 4 no ++ (d ++ List.replicate (64 - (big 8 num ++ (big 4 place ++ (big 4 count ++ (big 4 no ++ d)))).length) 0)))) := by
  unfold noteB pad64
  simp only [List.append_assoc]
theorem noteB_num (h : num < 256 ^ 8) : fromB (sub (noteB num place count no d) 0 8) = num := by
  rw [noteB_parts, sub_first _ _ (big_length _ _), fromB_big _ _ h]
theorem noteB_count (h : count < 256 ^ 4) : fromB (sub (noteB num place count no d) 12 4) = count := by
  rw [noteB_parts, ← List.append_assoc (big 8 num), sub_mid _ _ _ (by simp [big_length]) (big_length _ _), fromB_big _ _ h]
theorem noteB_no (h : no < 256 ^ 4) : fromB (sub (noteB num place count no d) 16 4) = no := by
  rw [noteB_parts, ← List.append_assoc (big 8 num), ← List.append_assoc (big 8 num ++ big 4 place), sub_mid _ _ _ (by simp [big_length]) (big_length _ _), fromB_big _ _ h]
theorem noteB_dig (hd : d.length = 32) : sub (noteB num place count no d) 20 32 = d := by
  rw [noteB_parts, ← List.append_assoc (big 8 num), ← List.append_assoc (big 8 num ++ big 4 place), ← List.append_assoc (big 8 num ++ big 4 place ++ big 4 count), sub_mid _ _ _ (by simp [big_length]) hd]
end
theorem headB_num (ks : List B32) {num : Nat} (h : num < 256 ^ 8) : fromB (sub (headB ks num) 0 8) = num := by
  unfold headB pad64
  rw [List.append_assoc, sub_first _ _ (big_length _ _), fromB_big _ _ h]
theorem sub_zeros (o n : Nat) : fromB (sub zeros64 o n) = 0 := zeros_from o n
theorem doneB_head (ks : List B32) {num : Nat} (h0 : 0 < num) (h : num ≤ top60) : doneB ks (headB ks num) = some num := by
  have hb : num < 256 ^ 8 := by unfold top60 at h; omega
  have hn := headB_num ks hb
  have hz : headB ks num ≠ zeros64 := fun e => by
    rw [e, sub_zeros] at hn
    omega
  have := doneB_right ks hz (by rw [hn]; exact h) (by rw [hn])
  rw [hn] at this
  exact this

theorem notes_get {S : Nat → List B8} {cnt num : Nat} {d : List B8} (h : notesTo S cnt = notesOf num (wrsTo S cnt).length d (wrsTo S cnt)) {i : Nat} (hi : i < cnt) : S (1 + 2 * i) = noteB num i cnt (fromB (sub (S (1 + 2 * i)) 16 4)) d := by
  have h1 : (notesTo S cnt)[i]? = some (S (1 + 2 * i)) := by simp [notesTo, hi]
  rw [h, notesOf_get (wrsTo_get hi), wrsTo_len] at h1
  exact (Option.some.inj h1).symm
theorem found_full {ks : List B32} {S : Nat → List B8} {dat j num : Nat} (hnum : num ≤ top60) (hl : ∀ k, k ≤ j → (S k).length = 64) (hj : j ≤ 1024) : FoundB ks S dat j num ↔ Full ks S dat j num := by
  have hb : num < 256 ^ 8 := by unfold top60 at hnum; omega
  constructor
  · intro ⟨h1, h2, h3, h4, h5⟩
    rw [← h5] at h3
    have hc : cntOf S < 256 ^ 4 := by omega
    refine ⟨hnum, h1, h2, fun i hi => ?_, h4, ?_⟩
    · have h := h3 i hi
      refine ⟨?_, ?_, h.1⟩
      · rw [h.2, noteB_num hb]
      · have e := noteB_count (num := num) (place := i) (no := fromB (sub (S (1 + 2 * i)) 16 4)) (d := digOf ks num (wrsTo S (cntOf S))) hc
        rw [← h.2] at e
        exact e
    · apply List.ext_getElem?
      intro i
      by_cases hi : i < cntOf S
      · rw [notesOf_get (wrsTo_get hi), wrsTo_len]
        have e := (h3 i hi).2
        have e2 : (notesTo S (cntOf S))[i]? = some (S (1 + 2 * i)) := by simp [notesTo, hi]
        rw [e2]
        congr 1
      · rw [List.getElem?_eq_none (by simp [notesTo]; omega), List.getElem?_eq_none (by rw [notesOf_length, wrsTo_len]; omega)]
  · intro ⟨_, h1, h2, h3, h4, h5⟩
    have hd : sub (S 1) 20 32 = digOf ks num (wrsTo S (cntOf S)) := by
      have e := notes_get h5 (i := 0) (by omega)
      simp only [Nat.mul_zero, Nat.add_zero] at e
      have e2 := noteB_dig (num := num) (place := 0) (count := cntOf S) (no := fromB (sub (S 1) 16 4)) (digOf_length ks num (wrsTo S (cntOf S)))
      rw [← e] at e2
      exact e2
    refine ⟨h1, h2, fun i hi => ?_, h4, hd.symm⟩
    rw [hd]
    exact ⟨(h3 i hi).2.2, notes_get h5 hi⟩
theorem found_num {ks : List B32} {S : Nat → List B8} {dat j num : Nat} (h : FoundB ks S dat j num) (hb : num < 256 ^ 8) : fromB (sub (S 1) 0 8) = num := by
  have e := (h.2.2.1 0 (by have := h.1; omega)).2
  simp only [Nat.mul_zero, Nat.add_zero] at e
  have e2 := noteB_num (num := num) (place := 0) (count := cntOf S) (no := fromB (sub (S 1) 16 4)) (d := sub (S 1) 20 32) hb
  rw [← e] at e2
  exact e2
/-- The data of a disk's bytes. -/
theorem data_drop {xs : List B8} {j d : Nat} (hl : xs.length = 64 * (1 + j + d)) : dataS (fun k => sub xs (64 * k) 64) j d = xs.drop (64 * (1 + j)) := by
  have hs : ∀ k, k < d → (sub xs (64 * (1 + j + k)) 64).length = 64 := fun k hk => sub_length (by omega)
  apply List.ext_getElem?
  intro i
  rw [List.getElem?_drop]
  by_cases hi : i < 64 * d
  · rw [dataS_get hs i hi]
    unfold sub
    rw [List.getElem?_take, if_pos (by omega), List.getElem?_drop]
    congr 1
    omega
  · rw [List.getElem?_eq_none (by rw [dataS_length hs]; omega), List.getElem?_eq_none (by omega)]
end Go.Proofs.YtfkdpndcoegfpaaGreatDoor
end
