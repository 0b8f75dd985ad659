/-
  To: a package of the document's, there. Condition: the revisions lie in memory.
-/
import Derived.Test.YtmdiajmjmkmnoaaGreatDoorSCut
set_option linter.unusedSimpArgs false
set_option linter.unusedVariables false
set_option maxRecDepth 100000
namespace Go.Proofs.YtmdiajmjmkmnoaaGreatDoor
open Go.RowKit

/-- A new block. -/
def newV (t : TypeId) (b0 : Nat) (cs : List Value) : Value → World → Prop := fun u w => ∃ g, u = .pointer (some ⟨g, 0, none⟩) ∧ b0 ≤ g ∧ Blk w g t cs
theorem newV.st (t : TypeId) (b0 : Nat) (cs : List Value) : StV (newV t b0 cs) := fun _ _ _ ⟨g, h1, h2, h3⟩ hb => ⟨g, h1, h2, h3.below hb h3.lt⟩
/-- A new row of one. -/
def rowOneV (t : TypeId) (b0 : Nat) (cs : List Value) : Value → World → Prop := fun u w => ∃ p, u = .slice (some ⟨p, 0, none⟩) 1 1 ∧ b0 ≤ p ∧ Blk w p t cs
theorem rowOneV.st (t : TypeId) (b0 : Nat) (cs : List Value) : StV (rowOneV t b0 cs) := fun _ _ _ ⟨p, h1, h2, h3⟩ hb => ⟨p, h1, h2, h3.below hb h3.lt⟩
theorem range_below {w w' : World} {g o : Nat} {cs : List Value} (h : w.rangeAt g o cs) (hb : Below w.heap.size w w') : w'.rangeAt g o cs := fun j v hj => pcell_below (h j v hj) hb
theorem build_pk (W : World) (a b : ByteArray) (x : Int) : (Instr.build 34 #[(0, .string a), (1, .string b), (2, .int .i64 x)]).run Tryz.prog W = .ok (pkV a b x none 0 0) W := by kernel_rfl
theorem alloc_pk (W : World) : (Instr.alloc 34 true (.tuple #[])).run Tryz.prog W = .ok (.pointer (some ⟨W.heap.size, 0, none⟩)) (W.alloc (.cells #[.string ⟨#[]⟩, .string ⟨#[]⟩, .int .i64 0, .slice none 0 0] 34)) := by kernel_rfl
theorem build_rev0 (W : World) (no sz : Int) : ∀ (sl : List Int), sl.length = 32 → (Instr.build 76 #[(0, .int .i64 no), (1, .agg (U sl).toArray), (2, .int .i64 sz)]).run Tryz.prog W = .ok (.agg (rvC ⟨no, sl, sz⟩).toArray) W
  | [x0, x1, x2, x3, x4, x5, x6, x7, x8, x9, x10, x11, x12, x13, x14, x15, x16, x17, x18, x19, x20, x21, x22, x23, x24, x25, x26, x27, x28, x29, x30, x31], _ => by kernel_rfl
theorem build_rev (W : World) (r : RevR) (h : r.sl.length = 32) : (Instr.build 76 #[(0, .int .i64 r.no), (1, .agg (U r.sl).toArray), (2, .int .i64 r.size)]).run Tryz.prog W = .ok (.agg (rvC r).toArray) W := build_rev0 W r.no r.size r.sl h
theorem slice_rev0 (W : World) (no sz : Int) : ∀ (sl : List Int), sl.length = 32 → (Instr.buildSlice 32 1 #[(0, .agg (rvC ⟨no, sl, sz⟩).toArray)]).run Tryz.prog W = .ok (.slice (some ⟨W.heap.size, 0, none⟩) 1 1) (W.alloc (.cells (rvC ⟨no, sl, sz⟩).toArray 76))
  | [x0, x1, x2, x3, x4, x5, x6, x7, x8, x9, x10, x11, x12, x13, x14, x15, x16, x17, x18, x19, x20, x21, x22, x23, x24, x25, x26, x27, x28, x29, x30, x31], _ => by kernel_rfl
theorem slice_rev (W : World) (r : RevR) (h : r.sl.length = 32) : (Instr.buildSlice 32 1 #[(0, .agg (rvC r).toArray)]).run Tryz.prog W = .ok (.slice (some ⟨W.heap.size, 0, none⟩) 1 1) (W.alloc (.cells (rvC r).toArray 76)) := slice_rev0 W r.no r.size r.sl h

/-- The cells of revisions, one behind the other. -/
def rowR (rs : List RevR) : List Value := rs.flatMap rvC
theorem rowR_length : ∀ (rs : List RevR), (∀ r ∈ rs, r.sl.length = 32) → (rowR rs).length = rs.length * 34
  | [], _ => rfl
  | r :: rs, h => by
    have h1 := rowR_length rs (fun q hq => h q (List.mem_cons_of_mem _ hq))
    have h2 := rvC_length (h r List.mem_cons_self)
    unfold rowR at h1 ⊢
    rw [List.flatMap_cons, List.length_append, h1, h2, List.length_cons]
    omega
theorem rowR_get : ∀ (rs : List RevR), (∀ r ∈ rs, r.sl.length = 32) → ∀ (i : Nat) (r : RevR), rs[i]? = some r → ∀ (j : Nat) (v : Value), (rvC r)[j]? = some v → (rowR rs)[i * 34 + j]? = some v
  | [], _, i, r, h, _, _, _ => by simp at h
  | q :: rs, hs, 0, r, h, j, v, hv => by
    simp only [List.getElem?_cons_zero, Option.some.injEq] at h
    subst h
    have := (List.getElem?_eq_some_iff.1 hv).1
    unfold rowR
    rw [List.flatMap_cons, Nat.zero_mul, Nat.zero_add, List.getElem?_append_left this]
    exact hv
  | q :: rs, hs, i + 1, r, h, j, v, hv => by
    have h1 := rowR_get rs (fun x hx => hs x (List.mem_cons_of_mem _ hx)) i r (by simpa using h) j v hv
    have h2 := rvC_length (hs q List.mem_cons_self)
    unfold rowR at h1 ⊢
    rw [List.flatMap_cons, List.getElem?_append_right (by omega), h2, show (i + 1) * 34 + j - 34 = i * 34 + j by omega]
    exact h1
theorem rowR_snoc (rs : List RevR) (r : RevR) : rowR (rs ++ [r]) = rowR rs ++ rvC r := by unfold rowR; simp
theorem rin_own {w : World} {N n : Nat} {v : Value} {rs : List RevR} (h : w.ownsRow N 76 34 v n (rowR rs)) (hl : rs.length = n) (hs : ∀ r ∈ rs, r.sl.length = 32) (hn : n ≤ 1000) :
    ∃ A c, v = .slice A n c ∧ RIn w A n c rs ∧ ∀ a, A = some a → N ≤ a.block := by
  rcases h.2 with ⟨rfl, h0⟩ | ⟨g, cap, cur, rfl, hg, hb, h1, h2, h3, h4⟩
  · exact ⟨none, 0, by rw [h0], ⟨hl, by omega, by omega, hs, fun hp => absurd hp (by omega)⟩, fun a ha => by cases ha⟩
  · refine ⟨_, _, rfl, ⟨hl, h1, by omega, hs, fun hp => ⟨g, 0, rfl, (Array.getElem?_eq_some_iff.1 hb).1, fun i r hr j u hu => ?_⟩⟩, fun a ha => by cases ha; exact hg⟩
    have hk : Blk w g 76 cur.toList := by simpa [Blk] using hb
    rw [hk.cell, Nat.zero_add]
    have := rowR_get rs hs i r hr j u hu
    rw [← h4, List.getElem?_take] at this
    split at this
    · exact this
    · cases this
theorem rev_info : ∃ i : TypeInfo, Tryz.prog.info? 76 = some i ∧ i.zero = some (.agg zeroRev.toArray) ∧ i.size = 34 ∧ i.bytes = 48 := by
  have h : (Tryz.prog.info? 76).map (fun i => (i.zero, i.size, i.bytes)) = some (some (.agg zeroRev.toArray), 34, 48) := by kernel_rfl
  cases hq : Tryz.prog.info? 76 with
  | none => rw [hq] at h; cases h
  | some i =>
    rw [hq] at h
    simp only [Option.map_some, Option.some.injEq, Prod.mk.injEq] at h
    exact ⟨i, rfl, h.1, h.2.1, h.2.2⟩

/-- Where a package on its way there stands: so many revisions are there. -/
structure ToB (w : World) (nm pb : ByteArray) (act : Int) (A : Option Addr) (n c g9 : Nat) (u3 : Value) (wr : World) : Prop where
  bel : Below w.heap.size w wr
  inp : Blk wr w.heap.size 24 [.string nm, .string pb, .int .i64 act, .slice A n c]
  res : Blk wr (w.heap.size + 1) 34 [.string ⟨#[]⟩, .string ⟨#[]⟩, .int .i64 0, .slice none 0 0]
  out : Blk wr g9 34 [.string (cutS nm), .string (cutS pb), .int .i64 act, u3]
  ge : w.heap.size + 2 ≤ g9
structure ToSt (w : World) (nm pb : ByteArray) (act : Int) (A : Option Addr) (n c g9 : Nat) (rs : List RevR) (i : Nat) (u3 : Value) (wr : World) : Prop extends ToB w nm pb act A n c g9 u3 wr where
  own : wr.ownsRow w.heap.size 76 34 u3 i (rowR (rs.take i))
section
variable {w wr wx : World} {nm pb : ByteArray} {act : Int} {A : Option Addr} {n c g9 i : Nat} {rs : List RevR} {u3 : Value}
theorem ToSt.below (h : ToSt w nm pb act A n c g9 rs i u3 wr) (hb : Below wr.heap.size wr wx) : ToSt w nm pb act A n c g9 rs i u3 wx :=
  ⟨⟨h.bel.trans (hb.mono h.bel.size), h.inp.below hb h.inp.lt, h.res.below hb h.res.lt, h.out.below hb h.out.lt, h.ge⟩, ownsRow_only (S := []) h.own (Only.of_below hb) (by simp)⟩
theorem ToSt.grown (h : ToSt w nm pb act A n c g9 rs i u3 wr) (hg : wr.grownBy wx u3.ownBlock) : ToB w nm pb act A n c g9 u3 wx :=
  ⟨h.bel.grown hg h.bel.size (fun q hq => (h.own.lt q hq).1), h.inp.grown hg (own_blk_ne h.own h.inp (by decide)).symm, h.res.grown hg (own_blk_ne h.own h.res (by decide)).symm, h.out.grown hg (own_blk_ne h.own h.out (by decide)).symm, h.ge⟩
theorem ToB.put {r : RevR} {ga cap : Nat} (h : ToB w nm pb act A n c g9 u3 wx) (hr : rs[i]? = some r) (ho : wx.ownsRow w.heap.size 76 34 (.slice (some ⟨ga, 0, none⟩) (i + 1) cap) (i + 1) (rowR (rs.take i) ++ rvC r)) :
    ToSt w nm pb act A n c g9 rs (i + 1) (.slice (some ⟨ga, 0, none⟩) (i + 1) cap) (wx.setCell ⟨g9, 3, none⟩ (.slice (some ⟨ga, 0, none⟩) (i + 1) cap)) := by
  have hge := h.ge
  obtain ⟨hi, rfl⟩ := List.getElem?_eq_some_iff.1 hr
  refine ⟨⟨h.bel.setCell (p := ⟨g9, 3, none⟩) (by show w.heap.size ≤ g9; omega) _, h.inp.far (p := ⟨g9, 3, none⟩) (by show w.heap.size ≠ g9; omega) _, h.res.far (p := ⟨g9, 3, none⟩) (by show w.heap.size + 1 ≠ g9; omega) _, ?_, h.ge⟩, ?_⟩
  · have := h.out.set_ 3 (.slice (some ⟨ga, 0, none⟩) (i + 1) cap)
    simpa using this
  · rw [List.take_add_one, List.getElem?_eq_getElem hi, Option.toList_some, rowR_snoc]
    refine ownsRow_only (S := [g9]) ho ((Only.refl _ _).setCell (.inl (by simp)) _) (fun k hk hm => ?_)
    simp at hm
    subst hm
    exact own_blk_ne ho h.out (by decide) hk
/-- Storing into another block leaves a list that is the call's own. -/
theorem RIn.set9 {w w9 : World} {N k q : Nat} {t : TypeId} {A : Option Addr} {c i : Nat} {rs ss : List RevR} {zs : List Value} (h : RIn w A i c rs) (ho : Only [q] w w9) (hown : w.ownsRow N 76 34 (.slice A i c) k (rowR ss)) (hz : Blk w q t zs) (ht : 76 ≠ t := by decide) : RIn w9 A i c rs := by
  refine ⟨h.len, h.cap, h.big, h.seals, fun hn => ?_⟩
  obtain ⟨g, o, rfl, hg, hc⟩ := h.cells hn
  have hne : g ≠ q := by
    rintro rfl
    exact own_blk_ne hown hz ht rfl
  refine ⟨g, o, rfl, Nat.lt_of_lt_of_le hg ho.size, fun j r hr x v hv => ?_⟩
  have h1 := hc j r hr x v hv
  have h2 := ho.block g hg (by simpa using hne)
  unfold World.cell? at h1 ⊢
  simp only at h1 ⊢
  rw [h2]
  exact h1
theorem prow {w : World} {p : Nat} {t : TypeId} {cs : List Value} (h : Blk w p t cs) : ∀ j u, cs[j]? = some u → w.cell? ((⟨p, 0, none⟩ : Addr).add j) = some u := fun j u hu => by rw [padd, Nat.zero_add, h.cell]; exact hu
end
set_option maxHeartbeats 4000000 in
set_option maxRecDepth 100000 in
theorem to10_any (w : World) (nm pb : ByteArray) (act : Int) (A : Option Addr) (n c : Nat) (rs : List RevR) (h : RIn w A n c rs) :
    Calls Tryz.prog 11 #[pkV nm pb act A n c] w fun e w' => ∃ A' n' c', e = .returned (pkV (cutS nm) (cutS pb) act A' n' c') ∧ RIn w' A' n' c' (rs.take 4) ∧ (∀ a, A' = some a → w.heap.size ≤ a.block) ∧ Below w.heap.size w w' := by
  have hbig := h.big
  have hcap := h.cap
  have hB := pthen (pnew w (.cells #[.string nm, .string pb, .int .i64 act, .slice A n c] 24)) (pnew _ (.cells #[.string ⟨#[]⟩, .string ⟨#[]⟩, .int .i64 0, .slice none 0 0] 34))
  have hk := (Blk.new w 24 [.string nm, .string pb, .int .i64 act, .slice A n c]).alloc (.cells #[.string ⟨#[]⟩, .string ⟨#[]⟩, .int .i64 0, .slice none 0 0] 34)
  have hz := Blk.new (w.alloc (.cells #[.string nm, .string pb, .int .i64 act, .slice A n c] 24)) 34 [.string ⟨#[]⟩, .string ⟨#[]⟩, .int .i64 0, .slice none 0 0]
  obtain ⟨w1, hw1⟩ : ∃ w1, w1 = (w.alloc (.cells #[.string nm, .string pb, .int .i64 act, .slice A n c] 24)).alloc (.cells #[.string ⟨#[]⟩, .string ⟨#[]⟩, .int .i64 0, .slice none 0 0] 34) := ⟨_, rfl⟩
  have hsz : (w.alloc (.cells #[.string nm, .string pb, .int .i64 act, .slice A n c] 24)).heap.size = w.heap.size + 1 := by simp
  rw [hsz] at hz
  have H := Lib.hid h
  rw [← hw1] at hB hk hz
  have e0 := hk.cell 0
  have e1 := hk.cell 1
  have e2 := hk.cell 2
  have b3 := hk.cell 3
  simp only [List.getElem?_cons_succ, List.getElem?_cons_zero] at e0 e1 e2 b3
  have H1 := Lib.hid (And.intro hB (And.intro hk hz))
  have HW1 := Lib.hid hw1
  clear h hB hk hz hw1 hsz
  go_enter Tryz.func11, Tryz.ntmps11
  go_wp2_with fail
  rw [← HW1.out]
  refine wp_hideQ ?_
  intro QQ hQQ
  refine wp_region_quickT [some 5, some 6, some 7, some 8, some 9, some 10, some 11, some 12, some 13, some 3] [isV (.pointer (some ⟨w.heap.size, 0, none⟩)), isV (.string nm), isV (.string (cutS nm)), isV (.pointer (some ⟨w.heap.size, 1, none⟩)), isV (.string pb), isV (.string (cutS pb)), isV (.pointer (some ⟨w.heap.size, 2, none⟩)), isV (.int .i64 act), isV (pkV (cutS nm) (cutS pb) act none 0 0), newV 34 w1.heap.size [.string ⟨#[]⟩, .string ⟨#[]⟩, .int .i64 0, .slice none 0 0]] 10 11 (by kernel_rfl) rfl rfl rfl rfl (by kernel_rfl) (by kernel_rfl) (by simp [isV.st, newV.st]) ?_ ?_
  · intro hq rz hz
    match rz, hz with
    | 0, _ =>
      refine StepL.val rfl [] (by decide +kernel) ?_
      intro v wx hR hd
      exact ⟨wanted_plain rfl _, _, _, x_field rfl (fill_off rfl rfl) (r_field (off := 0) (by kernel_rfl)), hR, Below.refl _ _, rfl⟩
    | 1, _ =>
      refine StepL.val rfl [0] (by decide +kernel) ?_
      intro v wx hR hd
      have h0 : v 0 = _ := hd 0 (by simp)
      exact ⟨wanted_plain rfl _, _, _, x_load rfl (hq.at_ rfl h0) (r_load (by kernel_rfl) (pcell_below e0 hR)), hR, Below.refl _ _, rfl⟩
    | 2, _ =>
      refine StepL.call rfl [1] (by decide +kernel) ?_
      intro v wx hR hd
      have h1 : v 1 = _ := hd 1 (by simp)
      refine ⟨wanted_plain rfl _, 28, _, _, x_call rfl rfl (args_1 (hq.at_ rfl h1)) (by kernel_rfl) rfl, ?_⟩
      refine (cut10_any _ _).mono ?_
      rintro e w' ⟨rfl, rfl⟩
      exact ⟨_, rfl, hR, Below.refl _ _, rfl⟩
    | 3, _ =>
      refine StepL.val rfl [] (by decide +kernel) ?_
      intro v wx hR hd
      exact ⟨wanted_plain rfl _, _, _, x_field rfl (fill_off rfl rfl) (r_field (off := 1) (by kernel_rfl)), hR, Below.refl _ _, rfl⟩
    | 4, _ =>
      refine StepL.val rfl [3] (by decide +kernel) ?_
      intro v wx hR hd
      have h3 : v 3 = _ := hd 3 (by simp)
      exact ⟨wanted_plain rfl _, _, _, x_load rfl (hq.at_ rfl h3) (r_load (by kernel_rfl) (pcell_below e1 hR)), hR, Below.refl _ _, rfl⟩
    | 5, _ =>
      refine StepL.call rfl [4] (by decide +kernel) ?_
      intro v wx hR hd
      have h4 : v 4 = _ := hd 4 (by simp)
      refine ⟨wanted_plain rfl _, 28, _, _, x_call rfl rfl (args_1 (hq.at_ rfl h4)) (by kernel_rfl) rfl, ?_⟩
      refine (cut10_any _ _).mono ?_
      rintro e w' ⟨rfl, rfl⟩
      exact ⟨_, rfl, hR, Below.refl _ _, rfl⟩
    | 6, _ =>
      refine StepL.val rfl [] (by decide +kernel) ?_
      intro v wx hR hd
      exact ⟨wanted_plain rfl _, _, _, x_field rfl (fill_off rfl rfl) (r_field (off := 2) (by kernel_rfl)), hR, Below.refl _ _, rfl⟩
    | 7, _ =>
      refine StepL.val rfl [6] (by decide +kernel) ?_
      intro v wx hR hd
      have h6 : v 6 = _ := hd 6 (by simp)
      exact ⟨wanted_plain rfl _, _, _, x_load rfl (hq.at_ rfl h6) (r_load (by kernel_rfl) (pcell_below e2 hR)), hR, Below.refl _ _, rfl⟩
    | 8, _ =>
      refine StepL.val rfl [2, 5, 7] (by decide +kernel) ?_
      intro v wx hR hd
      have h2 : v 2 = _ := hd 2 (by simp)
      have h5 : v 5 = _ := hd 5 (by simp)
      have h7 : v 7 = _ := hd 7 (by simp)
      exact ⟨wanted_plain rfl _, xe_ex (x_build rfl (pairs_3 (hq.at_ rfl h2) (hq.at_ rfl h5) (hq.at_ rfl h7)) (build_pk wx _ _ _)) ⟨hR, Below.refl _ _, rfl⟩⟩
    | 9, _ =>
      refine StepL.val rfl [] (by decide +kernel) ?_
      intro v wx hR hd
      have hb := pnew wx (.cells #[.string ⟨#[]⟩, .string ⟨#[]⟩, .int .i64 0, .slice none 0 0] 34)
      exact ⟨wanted_plain rfl _, xe_ex (x_alloc rfl (alloc_pk wx)) ⟨hR.trans (hb.mono hR.size), hb, _, rfl, hR.size, Blk.new wx 34 [.string ⟨#[]⟩, .string ⟨#[]⟩, .int .i64 0, .slice none 0 0]⟩⟩
    | rz + 10, h => omega
  · intro v wx hR hV
    have h8 : v 8 = _ := hV 8 (by omega)
    obtain ⟨g9, h9, hg9, hk9⟩ : newV 34 w1.heap.size [.string ⟨#[]⟩, .string ⟨#[]⟩, .int .i64 0, .slice none 0 0] (v 9) wx := hV 9 (by omega)
    simp only [fillR, Act.put, List.setIfInBounds_toArray, List.set_cons_zero, List.set_cons_succ, List.drop_succ_cons, List.drop_zero, h8, h9]
    refine wpList_store_blk rfl 34 (.tmp 3) (.tmp 13) rfl g9 0 [.string (cutS nm), .string (cutS pb), .int .i64 act, .slice none 0 0] rfl rfl hk9 (by simp) (by kernel_rfl) (by intro u hu; simp at hu; rcases hu with rfl | rfl | rfl | rfl <;> rfl) ?_
    intro w2 hA hO
    rw [over_whole (by simp)] at hA
    have hb12 : Below w1.heap.size w1 w2 := hR.trans (hO.below (by have := hR.size; omega) (by simpa using hg9))
    have hst : ToSt w nm pb act A n c g9 rs 0 (.slice none 0 0) w2 := by
      have hs1 := hb12.size
      have hk1 := H1.out.2.1.lt
      have hz1 := H1.out.2.2.lt
      exact ⟨⟨H1.out.1.trans (hb12.mono H1.out.1.size), H1.out.2.1.below hb12 hk1, H1.out.2.2.below hb12 hz1, hA, by omega⟩, World.ownsRow_nil _ _ _ _⟩
    have HST := Lib.hid hst
    clear hst hb12 hA hO hk9 hR hV h8 h9 e0 e1 e2 b3
    go_wp2_with fail
    go_loopw [4] (fun iv wr => ∃ (i : Nat) (u3 : Value), i ≤ n ∧ i ≤ 4 ∧ iv = .int .i64 i ∧ Hid (ToSt w nm pb act A n c g9 rs i u3 wr)) (fun iv _ => 4 - (intOf iv).toNat)
    case atStart => exact ⟨0, _, by omega, by omega, rfl, HST⟩
    case round =>
      obtain ⟨i, u3, hin, hi4, rfl, HT⟩ := hrel
      have b3 := HT.out.inp.cell 3
      simp only [List.getElem?_cons_succ, List.getElem?_cons_zero] at b3
      by_cases hlt : i < n
      · by_cases hlt4 : i < 4
        · obtain ⟨r, hr⟩ : ∃ r, rs[i]? = some r := ⟨_, List.getElem?_eq_getElem (by have := H.out.len; omega)⟩
          have HS := Lib.hid (H.out.seals r (List.mem_of_getElem? hr))
          obtain ⟨g, o, rfl, hg, hcl⟩ := (H.out.below HT.out.bel).cells (by omega)
          have hd := hcl i r hr
          have d0 : wr.cell? ⟨g, o + i * 34, none⟩ = some (.int .i64 r.no) := hd 0 _ (rvC_no r)
          have d33 : wr.cell? ⟨g, o + i * 34 + 33, none⟩ = some (.int .i64 r.size) := hd 33 _ (rvC_size HS.out)
          have HDS : Hid (wr.rangeAt g (o + i * 34 + 1) (U r.sl)) := Lib.hid (by
            intro j v hj
            have hl : j < (U r.sl).length := (List.getElem?_eq_some_iff.1 hj).1
            have := hd (1 + j) v (by
              unfold rvC
              rw [show 1 + j = j + 1 by omega, List.getElem?_cons_succ, List.getElem?_append_left hl]
              exact hj)
            rw [show o + i * 34 + 1 + j = o + i * 34 + (1 + j) by omega]
            exact this)
          have c3 := HT.out.out.cell 3
          simp only [List.getElem?_cons_succ, List.getElem?_cons_zero] at c3
          have HRK := Lib.hid hr
          clear hcl hd hr
          go_wp2_with fail
          refine wp_hideQ ?_
          intro QR hQR
          refine wp_region_quickT [some 25, some 26, some 27, some 28, some 29, some 30, some 31, some 32, some 33, some 34, some 35, some 36, some 37, some 38, some 39, some 40, some 41, some 42, some 43, some 44, some 45, some 46] [isV (.pointer (some ⟨g9, 3, none⟩)), isV (u3), isV (.pointer (some ⟨w.heap.size, 3, none⟩)), isV (.slice (some ⟨g, o, none⟩) n c), isV (.int .i64 (i : Int)), isV (.pointer (some ⟨g, o + i * 34, none⟩)), isV (.pointer (some ⟨g, o + i * 34, none⟩)), isV (.int .i64 r.no), isV (.pointer (some ⟨w.heap.size, 3, none⟩)), isV (.slice (some ⟨g, o, none⟩) n c), isV (.int .i64 (i : Int)), isV (.pointer (some ⟨g, o + i * 34, none⟩)), isV (.pointer (some ⟨g, o + i * 34 + 1, none⟩)), isV (.agg (U r.sl).toArray), isV (.pointer (some ⟨w.heap.size, 3, none⟩)), isV (.slice (some ⟨g, o, none⟩) n c), isV (.int .i64 (i : Int)), isV (.pointer (some ⟨g, o + i * 34, none⟩)), isV (.pointer (some ⟨g, o + i * 34 + 33, none⟩)), isV (.int .i64 r.size), isV (.agg (rvC r).toArray), rowOneV 76 wr.heap.size (rvC r)] 22 25 (by kernel_rfl) rfl rfl rfl rfl (by kernel_rfl) (by kernel_rfl) (by simp [isV.st, rowOneV.st]) ?_ ?_
          · intro hq rz hz
            match rz, hz with
            | 0, _ =>
              refine StepL.val rfl [] (by decide +kernel) ?_
              intro v wx hR hd
              exact ⟨wanted_plain rfl _, _, _, x_field rfl (fill_off rfl rfl) (r_field (off := 3) (by kernel_rfl)), hR, Below.refl _ _, rfl⟩
            | 1, _ =>
              refine StepL.val rfl [0] (by decide +kernel) ?_
              intro v wx hR hd
              have h0 : v 0 = _ := hd 0 (by simp)
              exact ⟨wanted_plain rfl _, _, _, x_load rfl (hq.at_ rfl h0) (r_load (by kernel_rfl) (pcell_below c3 hR)), hR, Below.refl _ _, rfl⟩
            | 2, _ =>
              refine StepL.val rfl [] (by decide +kernel) ?_
              intro v wx hR hd
              exact ⟨wanted_plain rfl _, _, _, x_field rfl (fill_off rfl rfl) (r_field (off := 3) (by kernel_rfl)), hR, Below.refl _ _, rfl⟩
            | 3, _ =>
              refine StepL.val rfl [2] (by decide +kernel) ?_
              intro v wx hR hd
              have h2 : v 2 = _ := hd 2 (by simp)
              exact ⟨wanted_plain rfl _, _, _, x_load rfl (hq.at_ rfl h2) (r_load (by kernel_rfl) (pcell_below b3 hR)), hR, Below.refl _ _, rfl⟩
            | 4, _ =>
              refine StepL.val rfl [] (by decide +kernel) ?_
              intro v wx hR hd
              exact ⟨wanted_plain rfl _, _, _, x_move rfl (fill_off rfl rfl), hR, Below.refl _ _, rfl⟩
            | 5, _ =>
              refine StepL.val rfl [3, 4] (by decide +kernel) ?_
              intro v wx hR hd
              have h3 : v 3 = _ := hd 3 (by simp)
              have h4 : v 4 = _ := hd 4 (by simp)
              exact ⟨wanted_plain rfl _, _, _, x_index rfl (hq.at_ rfl h3) (hq.at_ rfl h4) (r_index (e := 80) (size := 34) (by kernel_rfl) (by kernel_rfl) (by omega) (by omega) (by first | omega | simp)), hR, Below.refl _ _, rfl⟩
            | 6, _ =>
              refine StepL.val rfl [5] (by decide +kernel) ?_
              intro v wx hR hd
              have h5 : v 5 = _ := hd 5 (by simp)
              exact ⟨wanted_plain rfl _, _, _, x_field rfl (hq.at_ rfl h5) (r_field (off := 0) (by kernel_rfl)), hR, Below.refl _ _, rfl⟩
            | 7, _ =>
              refine StepL.val rfl [6] (by decide +kernel) ?_
              intro v wx hR hd
              have h6 : v 6 = _ := hd 6 (by simp)
              exact ⟨wanted_plain rfl _, _, _, x_load rfl (hq.at_ rfl h6) (r_load (by kernel_rfl) (pcell_below d0 hR)), hR, Below.refl _ _, rfl⟩
            | 8, _ =>
              refine StepL.val rfl [] (by decide +kernel) ?_
              intro v wx hR hd
              exact ⟨wanted_plain rfl _, _, _, x_field rfl (fill_off rfl rfl) (r_field (off := 3) (by kernel_rfl)), hR, Below.refl _ _, rfl⟩
            | 9, _ =>
              refine StepL.val rfl [8] (by decide +kernel) ?_
              intro v wx hR hd
              have h8 : v 8 = _ := hd 8 (by simp)
              exact ⟨wanted_plain rfl _, _, _, x_load rfl (hq.at_ rfl h8) (r_load (by kernel_rfl) (pcell_below b3 hR)), hR, Below.refl _ _, rfl⟩
            | 10, _ =>
              refine StepL.val rfl [] (by decide +kernel) ?_
              intro v wx hR hd
              exact ⟨wanted_plain rfl _, _, _, x_move rfl (fill_off rfl rfl), hR, Below.refl _ _, rfl⟩
            | 11, _ =>
              refine StepL.val rfl [9, 10] (by decide +kernel) ?_
              intro v wx hR hd
              have h9 : v 9 = _ := hd 9 (by simp)
              have h10 : v 10 = _ := hd 10 (by simp)
              exact ⟨wanted_plain rfl _, _, _, x_index rfl (hq.at_ rfl h9) (hq.at_ rfl h10) (r_index (e := 80) (size := 34) (by kernel_rfl) (by kernel_rfl) (by omega) (by omega) (by first | omega | simp)), hR, Below.refl _ _, rfl⟩
            | 12, _ =>
              refine StepL.val rfl [11] (by decide +kernel) ?_
              intro v wx hR hd
              have h11 : v 11 = _ := hd 11 (by simp)
              exact ⟨wanted_plain rfl _, _, _, x_field rfl (hq.at_ rfl h11) (r_field (off := 1) (by kernel_rfl)), hR, Below.refl _ _, rfl⟩
            | 13, _ =>
              refine StepL.val rfl [12] (by decide +kernel) ?_
              intro v wx hR hd
              have h12 : v 12 = _ := hd 12 (by simp)
              exact ⟨wanted_plain rfl _, xe_ex (x_load rfl (hq.at_ rfl h12) (r_loadR (cs := U r.sl) (by rw [U_length, HS.out]; kernel_rfl) (range_below HDS.out hR))) ⟨hR, Below.refl _ _, rfl⟩⟩
            | 14, _ =>
              refine StepL.val rfl [] (by decide +kernel) ?_
              intro v wx hR hd
              exact ⟨wanted_plain rfl _, _, _, x_field rfl (fill_off rfl rfl) (r_field (off := 3) (by kernel_rfl)), hR, Below.refl _ _, rfl⟩
            | 15, _ =>
              refine StepL.val rfl [14] (by decide +kernel) ?_
              intro v wx hR hd
              have h14 : v 14 = _ := hd 14 (by simp)
              exact ⟨wanted_plain rfl _, _, _, x_load rfl (hq.at_ rfl h14) (r_load (by kernel_rfl) (pcell_below b3 hR)), hR, Below.refl _ _, rfl⟩
            | 16, _ =>
              refine StepL.val rfl [] (by decide +kernel) ?_
              intro v wx hR hd
              exact ⟨wanted_plain rfl _, _, _, x_move rfl (fill_off rfl rfl), hR, Below.refl _ _, rfl⟩
            | 17, _ =>
              refine StepL.val rfl [15, 16] (by decide +kernel) ?_
              intro v wx hR hd
              have h15 : v 15 = _ := hd 15 (by simp)
              have h16 : v 16 = _ := hd 16 (by simp)
              exact ⟨wanted_plain rfl _, _, _, x_index rfl (hq.at_ rfl h15) (hq.at_ rfl h16) (r_index (e := 80) (size := 34) (by kernel_rfl) (by kernel_rfl) (by omega) (by omega) (by first | omega | simp)), hR, Below.refl _ _, rfl⟩
            | 18, _ =>
              refine StepL.val rfl [17] (by decide +kernel) ?_
              intro v wx hR hd
              have h17 : v 17 = _ := hd 17 (by simp)
              exact ⟨wanted_plain rfl _, _, _, x_field rfl (hq.at_ rfl h17) (r_field (off := 33) (by kernel_rfl)), hR, Below.refl _ _, rfl⟩
            | 19, _ =>
              refine StepL.val rfl [18] (by decide +kernel) ?_
              intro v wx hR hd
              have h18 : v 18 = _ := hd 18 (by simp)
              exact ⟨wanted_plain rfl _, _, _, x_load rfl (hq.at_ rfl h18) (r_load (by kernel_rfl) (pcell_below d33 hR)), hR, Below.refl _ _, rfl⟩
            | 20, _ =>
              refine StepL.val rfl [7, 13, 19] (by decide +kernel) ?_
              intro v wx hR hd
              have h7 : v 7 = _ := hd 7 (by simp)
              have h13 : v 13 = _ := hd 13 (by simp)
              have h19 : v 19 = _ := hd 19 (by simp)
              exact ⟨wanted_plain rfl _, xe_ex (x_build rfl (pairs_3 (hq.at_ rfl h7) (hq.at_ rfl h13) (hq.at_ rfl h19)) (build_rev wx r HS.out)) ⟨hR, Below.refl _ _, rfl⟩⟩
            | 21, _ =>
              refine StepL.val rfl [20] (by decide +kernel) ?_
              intro v wx hR hd
              have h20 : v 20 = _ := hd 20 (by simp)
              have hb := pnew wx (.cells (rvC r).toArray 76)
              exact ⟨wanted_plain rfl _, xe_ex (x_slice rfl (pairs_1 (hq.at_ rfl h20)) (slice_rev wx r HS.out)) ⟨hR.trans (hb.mono hR.size), hb, _, rfl, hR.size, Blk.new wx 76 (rvC r)⟩⟩
            | rz + 22, h => omega
          · intro v wx hR hV
            have h1 : v 1 = _ := hV 1 (by omega)
            obtain ⟨p21, h21, hp21, hk21⟩ : rowOneV 76 wr.heap.size (rvC r) (v 21) wx := hV 21 (by omega)
            have hT := HT.out.below hR
            have hbx := hT.bel
            clear hV d0 d33 c3 b3
            simp only [fillR, Act.put, List.setIfInBounds_toArray, List.set_cons_zero, List.set_cons_succ, List.drop_succ_cons, List.drop_zero, h1, h21]
            obtain ⟨i0, i1, i2, i3, i4⟩ := rev_info
            refine wpList_append_lies wx rfl (.tmp 26) (.tmp 46) 32 rfl w.heap.size 76 i0 _ 34 48 Tryz.underlying32 i1 i2 i3 i4 rfl (by decide) u3 i (rowR (rs.take i)) rfl hT.own ⟨p21, 0, none⟩ 1 1 (rvC r) rfl (rvC_length HS.out) (prow hk21) (rvC_one r) (by decide) (by unfold maxLen; omega) (by omega) hbx.size wx.heap.size rfl ?_
            intro ga cap w7 g1 g2 _ _
            have hT7 := hT.grown g2
            have c3 := hT7.out.cell 3
            have f3 := hT7.out.frozen 3
            simp only [List.getElem?_cons_succ, List.getElem?_cons_zero] at c3
            have HN := Lib.hid (hT7.put (r := r) HRK.out g1)
            clear hT hbx hk21 g1 g2 hT7 hR h1 h21
            go_wp2_with fail
            case roundEnd => exact ⟨⟨i + 1, _, by omega, by omega, by go_num, HN⟩, by simp [intOf]; omega⟩
        · obtain rfl : i = 4 := by omega
          obtain ⟨A', c', rfl, hrn, hge⟩ := rin_own HT.out.own (by rw [List.length_take]; have := H.out.len; omega) (fun q hq => H.out.seals q (List.mem_of_mem_take hq)) (by omega)
          have HE := Lib.hid (And.intro hrn hge)
          clear hrn hge
          go_wp2_with (first
            | (refine wpList_load_mid rfl 34 (.tmp 3) rfl g9 0 rfl _ _ HT.out.out.range Tryz.underlying34 rfl (by kernel_rfl) ?_)
            | (refine wpList_store_blk rfl 34 (.tmp 2) (.tmp 49) rfl (w.heap.size + 1) 0 [.string (cutS nm), .string (cutS pb), .int .i64 act, .slice A' 4 c'] rfl rfl HT.out.res (by simp) (by kernel_rfl) (by intro u hu; simp at hu; rcases hu with rfl | rfl | rfl | rfl <;> rfl) ?_; intro w9 hA9 hO9))
          rw [over_whole (by simp)] at hA9
          have d0 := hA9.cell 0
          have d1 := hA9.cell 1
          have d2 := hA9.cell 2
          have d3 := hA9.cell 3
          simp only [List.getElem?_cons_succ, List.getElem?_cons_zero] at d0 d1 d2 d3
          refine bodyPost_ret (v := pkV (cutS nm) (cutS pb) act A' 4 c') (by simp [results, Tryz.results11, go_sem, d0, d1, d2, d3]) rfl ⟨A', 4, c', rfl, ?_, HE.out.2, HT.out.bel.trans (hO9.below HT.out.bel.size (by simp))⟩
          exact HE.out.1.set9 hO9 HT.out.own HT.out.res
      · obtain rfl : i = n := by omega
        obtain ⟨A', c', rfl, hrn, hge⟩ := rin_own HT.out.own (by rw [List.length_take]; have := H.out.len; omega) (fun q hq => H.out.seals q (List.mem_of_mem_take hq)) (by omega)
        have HE := Lib.hid (And.intro hrn hge)
        clear hrn hge
        go_wp2_with (first
          | (refine wpList_load_mid rfl 34 (.tmp 3) rfl g9 0 rfl _ _ HT.out.out.range Tryz.underlying34 rfl (by kernel_rfl) ?_)
          | (refine wpList_store_blk rfl 34 (.tmp 2) (.tmp 49) rfl (w.heap.size + 1) 0 [.string (cutS nm), .string (cutS pb), .int .i64 act, .slice A' i c'] rfl rfl HT.out.res (by simp) (by kernel_rfl) (by intro u hu; simp at hu; rcases hu with rfl | rfl | rfl | rfl <;> rfl) ?_; intro w9 hA9 hO9))
        rw [over_whole (by simp)] at hA9
        have d0 := hA9.cell 0
        have d1 := hA9.cell 1
        have d2 := hA9.cell 2
        have d3 := hA9.cell 3
        simp only [List.getElem?_cons_succ, List.getElem?_cons_zero] at d0 d1 d2 d3
        refine bodyPost_ret (v := pkV (cutS nm) (cutS pb) act A' i c') (by simp [results, Tryz.results11, go_sem, d0, d1, d2, d3]) rfl ⟨A', i, c', rfl, ?_, HE.out.2, HT.out.bel.trans (hO9.below HT.out.bel.size (by simp))⟩
        rw [List.take_of_length_le (by have := H.out.len; omega)] at HE ⊢
        exact HE.out.1.set9 hO9 HT.out.own HT.out.res
end Go.Proofs.YtmdiajmjmkmnoaaGreatDoor
