/-
  What InodePlays keeps: the table and the document's, both with the same nodes, and what each call makes of them. Conditions: those of each theorem.
-/
import Derived.Test.YtkmkblhmjeeaeaaGreatDoorM24
import Derived.Test.YtkmkblhmjeeaeaaGreatDoorM22
import Derived.Test.YtkmkblhmjeeaeaaGreatDoorM21
import Derived.Test.YtkmkblhmjeeaeaaGreatDoorM25
import Derived.Test.YtkmkblhmjeeaeaaGreatDoorM20
import Derived.Test.YtkmkblhmjeeaeaaGreatDoorM17
section
set_option linter.unusedSimpArgs false
set_option linter.unusedVariables false
set_option maxRecDepth 100000
namespace Go.Proofs.YtkmkblhmjeeaeaaGreatDoor
open Go.RowKit Go.Maps

/-- The program's table. -/
def TbSt (ks : List B32) (b a t : Nat) (f : Tab) (cc cm : Nat) (XL : List Nat) (w : World) : Prop := ∃ S A M, (∀ q, A q → b ≤ q ∧ q < w.heap.size ∧ q ∉ [b + 1, b, a, t] ∧ q ∉ XL) ∧ Tb ks b (b + 1) b a 51 24 5 20 S cc A t M cm f w ∧ OnDisk 5 (dvj 24 S) f ∧ dvj 24 S 0 = frontN ks 5
/-- The document's. -/
def DcSt (b a t p : Nat) (f : Tab) (XL : List Nat) (w : World) : Prop := ∃ A gN gI cN cI eN eI ts, (∀ q, A q → b ≤ q ∧ q < w.heap.size ∧ q ∉ [b + 1, b, a, t] ∧ q ∉ XL) ∧ TbO A w p gN gI cN cI eN eI ts ((20 : Nat) : Int) ∧ ts.length = 5 ∧ (∀ x ∈ ts, x.1.n ≤ 512) ∧ DocIs A w ts f
/-- What changes come to. -/
def resF (f : Tab) (lc : List Ch) : Int × Tab := match tabBehind f 5 20 lc with
  | none => (6, f)
  | some g => if 12 < nwr lc then (6, f) else (0, g)
section
variable {ks : List B32} {b a t p : Nat} {f : Tab} {cc cm : Nat} {XL : List Nat} {w w' : World}
theorem TbSt.below (h : TbSt ks b a t f cc cm XL w) (hb : Below w.heap.size w w') : TbSt ks b a t f cc cm XL w' := by
  obtain ⟨S, A, M, h1, h2, h3, h4⟩ := h
  exact ⟨S, A, M, fun q hq => ⟨(h1 q hq).1, Nat.lt_of_lt_of_le (h1 q hq).2.1 hb.size, (h1 q hq).2.2⟩, h2.below hb, h3, h4⟩
theorem DcSt.below (h : DcSt b a t p f XL w) (hb : Below w.heap.size w w') : DcSt b a t p f XL w' := by
  obtain ⟨A, gN, gI, cN, cI, eN, eI, ts, h1, h2, h3, h4, h5⟩ := h
  exact ⟨A, gN, gI, cN, cI, eN, eI, ts, fun q hq => ⟨(h1 q hq).1, Nat.lt_of_lt_of_le (h1 q hq).2.1 hb.size, (h1 q hq).2.2⟩, h2.below hb, h3, h4, h5.below hb⟩
theorem TbSt.fresh (h : TbSt ks b a t f cc cm [] w) (hX : ∀ q ∈ XL, w.heap.size ≤ q) : TbSt ks b a t f cc cm XL w := by
  obtain ⟨S, A, M, h1, h2⟩ := h
  exact ⟨S, A, M, fun q hq => ⟨(h1 q hq).1, (h1 q hq).2.1, (h1 q hq).2.2.1, fun hm => by have := hX q hm; have := (h1 q hq).2.1; omega⟩, h2⟩
theorem DcSt.fresh (h : DcSt b a t p f [] w) (hX : ∀ q ∈ XL, w.heap.size ≤ q) : DcSt b a t p f XL w := by
  obtain ⟨A, gN, gI, cN, cI, eN, eI, ts, h1, h2⟩ := h
  exact ⟨A, gN, gI, cN, cI, eN, eI, ts, fun q hq => ⟨(h1 q hq).1, (h1 q hq).2.1, (h1 q hq).2.2.1, fun hm => by have := hX q hm; have := (h1 q hq).2.1; omega⟩, h2⟩
theorem TbSt.drop (h : TbSt ks b a t f cc cm XL w) : TbSt ks b a t f cc cm [] w := by
  obtain ⟨S, A, M, h1, h2⟩ := h
  exact ⟨S, A, M, fun q hq => ⟨(h1 q hq).1, (h1 q hq).2.1, (h1 q hq).2.2.1, by simp⟩, h2⟩
theorem DcSt.drop (h : DcSt b a t p f XL w) : DcSt b a t p f [] w := by
  obtain ⟨A, gN, gI, cN, cI, eN, eI, ts, h1, h2⟩ := h
  exact ⟨A, gN, gI, cN, cI, eN, eI, ts, fun q hq => ⟨(h1 q hq).1, (h1 q hq).2.1, (h1 q hq).2.2.1, by simp⟩, h2⟩
theorem TbSt.mono {cc' cm' : Nat} (h : TbSt ks b a t f cc cm XL w) (h1 : cc ≤ cc') (h2 : cm ≤ cm') : TbSt ks b a t f cc' cm' XL w := by
  obtain ⟨S, A, M, g1, g2, g3⟩ := h
  exact ⟨S, A, M, g1, ⟨g2.lg.mono h1, g2.geo, g2.tab.mono (fun _ h _ => h) h2, g2.wf, g2.blk⟩, g3⟩
/-- A byte of another block is turned. -/
theorem TbSt.set_ {q o : Nat} {tt : TypeId} {cs : List Value} {u : Value} (h : TbSt ks b a t f cc cm XL w) (hq : q ∈ XL) (hb : b ≤ q) (hn : q ∉ [b + 1, b, a, t]) (hk : Blk w q tt cs) : TbSt ks b a t f cc cm XL (w.setCell ⟨q, o, none⟩ u) := by
  obtain ⟨S, A, M, h1, h2, h3, h4⟩ := h
  have hs : (w.setCell ⟨q, o, none⟩ u).heap.size = w.heap.size := by simp [World.setCell]
  have hM : M ∉ [q] := by
    intro hm
    have e : M = q := by simpa using hm
    subst e
    obtain ⟨F, ⟨n0, D0, ⟨es, clock, g4, _⟩, _⟩, _⟩ := h2.tab
    unfold Blk at hk
    rw [hk] at g4
    cases g4
  simp only [List.mem_cons, List.not_mem_nil, or_false, not_or] at hn
  refine ⟨S, A, M, fun x hx => by rw [hs]; exact h1 x hx, ⟨h2.lg.set_ (p := ⟨q, o, none⟩) hb hn.1 hn.2.1 hn.2.2.1, h2.geo, ?_, h2.wf, h2.blk.far (p := ⟨q, o, none⟩) (Ne.symm hn.2.2.2) u⟩, h3, h4⟩
  exact h2.tab.only ((Only.refl [q] w).setCell (p := ⟨q, o, none⟩) (.inl (by simp)) u) hM (fun g hg hm => (h1 g hg).2.2.2 (by have e : g = q := (by simpa using hm); rw [e]; exact hq))
theorem DcSt.set_ {q o : Nat} {u : Value} (h : DcSt b a t p f XL w) (hq : q ∈ XL) : DcSt b a t p f XL (w.setCell ⟨q, o, none⟩ u) := by
  obtain ⟨A, gN, gI, cN, cI, eN, eI, ts, h1, h2, h3, h4, h5⟩ := h
  have hs : (w.setCell ⟨q, o, none⟩ u).heap.size = w.heap.size := by simp [World.setCell]
  have hA : ¬ A q := fun hm => (h1 q hm).2.2.2 hq
  exact ⟨A, gN, gI, cN, cI, eN, eI, ts, fun x hx => by rw [hs]; exact h1 x hx, h2.far (q := ⟨q, o, none⟩) hA u, h3, h4, h5.far (q := ⟨q, o, none⟩) hA u⟩
theorem DcSt.stp (h : DcSt b a t p f XL w) (hs : Stp b [b + 1, b, a, t] w w') : DcSt b a t p f XL w' := by
  obtain ⟨A, gN, gI, cN, cI, eN, eI, ts, h1, h2, h3, h4, h5⟩ := h
  exact ⟨A, gN, gI, cN, cI, eN, eI, ts, fun q hq => ⟨(h1 q hq).1, Nat.lt_of_lt_of_le (h1 q hq).2.1 hs.size, (h1 q hq).2.2⟩, h2.stp hs (fun g hg => (h1 g hg).2.2.1), h3, h4, h5.stp hs (fun g hg => (h1 g hg).2.2.1)⟩
/-- The law's tells. -/
theorem pl_tells (h : TbSt ks b a t f cc cm XL w) (hd : DcSt b a t p f XL w) (hcm : cm ≤ 100000) : Calls Tryz.prog 10 #[.pointer (some ⟨t, 0, none⟩), .pointer (some ⟨p, 0, none⟩)] w fun e w' => e = .returned (.bool true) ∧ Below w.heap.size w w' := by
  obtain ⟨S, A, M, h1, h2, h3, h4⟩ := h
  obtain ⟨A', gN, gI, cN, cI, eN, eI, ts, g1, g2, g3, g4, g5⟩ := hd
  exact tells_walk (A := fun q => A q ∨ A' q) ⟨h2.lg, h2.geo, h2.tab.mono (fun g hg _ => .inl hg) (Nat.le_refl _), h2.wf, h2.blk⟩ hcm (g2.to_in (by omega) (fun x hx => by have := g4 x hx; omega) (by omega)) g3 (g5.mono (fun q hq _ => .inr hq))
theorem TbSt.wf (h : TbSt ks b a t f cc cm XL w) : Wf f 5 20 := by
  obtain ⟨S, A, M, h1, h2, h3, h4⟩ := h
  exact h2.wf
theorem TbSt.lt (h : TbSt ks b a t f cc cm XL w) : b ≤ w.heap.size ∧ (∀ q ∈ [b + 1, b, a, t], q < w.heap.size) := by
  obtain ⟨S, A, M, h1, h2, h3, h4⟩ := h
  have h5 := h2.lg.lt
  have h6 := h2.blk.lt
  refine ⟨h2.lg.size, fun q hq => ?_⟩
  simp only [List.mem_cons, List.not_mem_nil, or_false] at hq
  omega
/-- The document's Apply of right changes. -/
theorem pl_ref {Ax : Nat → Prop} {P : Option Addr} {len cap : Nat} {l : List Cv} {lc : List Ch} (hd : DcSt b a t p f XL w) (hw : Wf f 5 20) (hlt : ∀ q ∈ [b + 1, b, a, t], q < w.heap.size) (hbs : b ≤ w.heap.size) (hXL : ∀ q ∈ XL, q < w.heap.size) (hl : CvIn w P len l) (hlc : ChsIn Ax w l lc) (hgood : Good7 5 lc) (hlen : len ≤ 500) :
    Calls Tryz.prog 8 #[.pointer (some ⟨p, 0, none⟩), .slice P len cap, .int .i64 12] w fun e w' => ∃ p', e = .returned (.tuple #[.pointer (some ⟨p', 0, none⟩), .int .i64 (resF f lc).1]) ∧ DcSt b a t p' (resF f lc).2 XL w' ∧ Below w.heap.size w w' := by
  obtain ⟨A', gN, gI, cN, cI, eN, eI, ts, g1, g2, g3, g4, g5⟩ := id hd
  refine (rapply_any (N := 5) (K := 20) (m := 12) (g2.mono (fun _ _ _ => trivial)) g3 (by omega) (by omega) (by omega) g4 g5 hw hl hlc hgood hlen (by omega)).mono fun e w' ⟨hb, hp⟩ => ?_
  unfold resF
  cases ht : tabBehind f 5 20 lc with
  | none =>
    rw [ht] at hp
    exact ⟨p, hp, hd.below hb, hb⟩
  | some g =>
    rw [ht] at hp
    replace hp : if 12 < nwr lc then _ else _ := hp
    by_cases hn : 12 < nwr lc
    · rw [if_pos hn] at hp
      simp only [if_pos hn]
      exact ⟨p, hp, hd.below hb, hb⟩
    · rw [if_neg hn] at hp
      simp only [if_neg hn]
      obtain ⟨p', gN', gI', cN', cI', eN', eI', ts', rfl, k1, k2, k3, k4⟩ := hp
      have hs := hb.size
      have hA : ∀ q, (A' q ∨ w.heap.size ≤ q) → q < w'.heap.size → (A' q ∨ w.heap.size ≤ q) ∧ q < w'.heap.size := fun q h1 h2 => ⟨h1, h2⟩
      refine ⟨p', rfl, ⟨fun q => (A' q ∨ w.heap.size ≤ q) ∧ q < w'.heap.size, gN', gI', cN', cI', eN', eI', ts', ?_, k1.mono (fun q h1 h2 => ⟨.inr h1, h2⟩), k2, k3, k4.mono (fun q h1 h2 => ⟨h1, h2⟩)⟩, hb⟩
      rintro q ⟨hq | hq, hq2⟩
      · exact ⟨(g1 q hq).1, hq2, (g1 q hq).2.2⟩
      · exact ⟨by omega, hq2, fun hm => by have := hlt q hm; omega, fun hm => by have := hXL q hm; omega⟩
/-- The program's Apply of right changes. -/
theorem pl_apply {Ax : Nat → Prop} {P : Option Addr} {len cap : Nat} {l : List Cv} {lc : List Ch} (h : TbSt ks b a t f cc cm XL w) (hbt : b ≤ t) (htX : t ∉ [b + 1, b, a]) (hXL : ∀ q ∈ XL, q < w.heap.size) (hcc : cc < 400000) (hcm : cm ≤ 500) (hl : CvIn w P len l) (hlc : ChsIn Ax w l lc) (hb63 : ∀ x ∈ l, -9223372036854775808 ≤ x.no ∧ x.no ≤ 9223372036854775807) (hlen : len ≤ 6) (hchk : chkL l ((5 : Nat) : Int) = 0) :
    Calls Tryz.prog 9 #[.pointer (some ⟨t, 0, none⟩), .slice P len cap] w fun e w' => e = .returned (.int .i64 (resF f lc).1) ∧ TbSt ks b a t (resF f lc).2 (cc + 50) (cm + 6) XL w' ∧ Stp b [b + 1, b, a, t] w w' := by
  have hgood := good_of hlc hchk
  have hlcl : lc.length = len := by rw [← hlc.1, hl.len]
  have hlt := h.lt
  obtain ⟨S, A, M, h1, h2, h3, h4⟩ := id h
  have hA' : ∀ q, A q → q < w.heap.size ∧ q ∉ [b + 1, b, a, t] := fun q hq => ⟨(h1 q hq).2.1, (h1 q hq).2.2.1⟩
  unfold resF
  cases ht : tabBehind f 5 20 lc with
  | none =>
    refine (apply_none h2 hcm (fun q hq => (h1 q hq).2.1) hl hlc hb63 (by omega) hchk hgood ht).mono fun e w' ⟨he, hb⟩ => ?_
    exact ⟨he, (h.below hb).mono (by omega) (by omega), Stp.of_below hlt.1 hb⟩
  | some g =>
    by_cases hn : 12 < nwr lc
    · simp only [if_pos hn]
      refine (apply_full h2 hcc hcm hA' htX hbt hl hlc hb63 (by omega) hchk hgood ht (by omega)).mono fun e w' ⟨he, hb⟩ => ?_
      exact ⟨he, (h.below hb).mono (by omega) (by omega), Stp.of_below hlt.1 hb⟩
    · simp only [if_neg hn]
      refine (apply_ok h2 hcc hcm hA' htX hbt hl hlc hb63 (by omega) hchk hgood ht (by omega)).mono fun e w' ⟨he, ⟨S', M', hT, hdv⟩, hs⟩ => ?_
      obtain ⟨k1, k2⟩ := disk_behind h3 h2.wf hgood ht
      have hz := hs.size
      refine ⟨he, ⟨S', fun q => (A q ∨ w.heap.size ≤ q) ∧ q < w'.heap.size, M', ?_, ⟨hT.lg, hT.geo, hT.tab.mono (fun q h1 h2 => ⟨h1, h2⟩) (by omega), hT.wf, hT.blk⟩, by rw [hdv]; exact k1, by rw [hdv, k2]; exact h4⟩, hs⟩
      rintro q ⟨hq | hq, hq2⟩
      · exact ⟨(h1 q hq).1, hq2, (h1 q hq).2.2⟩
      · exact ⟨by omega, hq2, fun hm => by have := hlt.2 q hm; omega, fun hm => by have := hXL q hm; omega⟩
end
end Go.Proofs.YtkmkblhmjeeaeaaGreatDoor
end

/-
  InodePlays: what is handed in, the bytes that the law turns, and the calls around its loops. Conditions: those of each theorem.
-/

section
set_option linter.unusedSimpArgs false
set_option linter.unusedVariables false
set_option maxRecDepth 100000
namespace Go.Proofs.YtkmkblhmjeeaeaaGreatDoor
open Go.RowKit Go.Maps

/-- Lists of changes that are handed in. -/
def ArgsIn (w : World) (P : Option Addr) (len : Nat) : Prop := len ≤ 9223372036854775807 ∧ (0 < len → ∃ g o, P = some ⟨g, o, none⟩ ∧ ∀ k, k < len → ∃ Q n c l lc, w.cell? ⟨g, o + k, none⟩ = some (.slice Q n c) ∧ CvIn w Q n l ∧ ArgIn w l lc ∧ (∀ x ∈ lc, -9223372036854775808 ≤ x.no ∧ x.no ≤ 9223372036854775807))
theorem ArgsIn.below {w w' : World} {P : Option Addr} {len : Nat} (h : ArgsIn w P len) (hb : Below w.heap.size w w') : ArgsIn w' P len := by
  refine ⟨h.1, fun hn => ?_⟩
  obtain ⟨g, o, rfl, h2⟩ := h.2 hn
  refine ⟨g, o, rfl, fun k hk => ?_⟩
  obtain ⟨Q, n, c, l, lc, k1, k2, k3, k4⟩ := h2 k hk
  exact ⟨Q, n, c, l, lc, cell_below k1 hb, k2.below hb, k3.below hb, k4⟩
/-- A change without where its bytes lie. -/
def cvS (x : Cv) : Cv := { x with A := none, c := 0 }
theorem firstErr_strip : ∀ (l : List Cv), firstErr (l.map cvS) = firstErr l
  | [] => rfl
  | x :: l => by
    have ih := firstErr_strip l
    unfold firstErr
    rw [List.map_cons]
    show (if x.drop = true then firstErr (l.map cvS) else if chk x.k x.m x.o x.g ≠ 0 then chk x.k x.m x.o x.g else if 512 < x.n then 2 else firstErr (l.map cvS)) = _
    rw [ih]
theorem twiceAt_strip (l : List Cv) (i : Nat) (no : Int) : twiceAt (l.map cvS) i no = twiceAt l i no := by
  unfold twiceAt
  rw [← List.map_take, List.any_map]
  rfl
theorem chkL_strip (l : List Cv) (N : Int) : chkL (l.map cvS) N = chkL l N := by
  have h1 : badNo N (l.map cvS) = badNo N l := by
    unfold badNo
    rw [List.any_map]
    rfl
  have h2 : ∀ n, twiceTo (l.map cvS) n = twiceTo l n := by
    intro n
    unfold twiceTo
    congr 1
    funext i
    rw [List.getElem?_map]
    cases l[i]? with
    | none => rfl
    | some x => exact twiceAt_strip l i x.no
  unfold chkL
  rw [h1, List.length_map, h2, firstErr_strip]
theorem chkL_same {A A' : Nat → Prop} {w w' : World} {lo ld : List Cv} {lc : List Ch} (h : ChsIn A w lo lc) (h' : ChsIn A' w' ld lc) (N : Int) : chkL lo N = chkL ld N := by
  rw [← chkL_strip lo, ← chkL_strip ld]
  congr 1
  apply List.ext_getElem?
  intro i
  rw [List.getElem?_map, List.getElem?_map]
  cases hx : lo[i]? with
  | none =>
    have h1 : lo.length ≤ i := List.getElem?_eq_none_iff.1 hx
    rw [List.getElem?_eq_none (by have := h.1; have := h'.1; omega)]
  | some x =>
    have h1 := (List.getElem?_eq_some_iff.1 hx).1
    obtain ⟨y, hy⟩ : ∃ y, ld[i]? = some y := ⟨_, List.getElem?_eq_getElem (by have := h.1; have := h'.1; omega)⟩
    obtain ⟨c, hc, hi⟩ := h.at_ hx
    have hj := h'.2 i y c hy hc
    rw [hy]
    obtain ⟨no, k, m, o, g, A1, n, c1, d⟩ := x
    obtain ⟨no', k', m', o', g', A2, n', c2, d'⟩ := y
    have e1 := hi.no.trans hj.no.symm
    have e2 := hi.k.trans hj.k.symm
    have e3 := hi.m.trans hj.m.symm
    have e4 := hi.o.trans hj.o.symm
    have e5 := hi.g.trans hj.g.symm
    have e6 := hi.drop.trans hj.drop.symm
    have e7 := hi.data.cells.1.symm.trans hj.data.cells.1
    simp only at e1 e2 e3 e4 e5 e6 e7
    simp only [Option.map_some, cvS, e1, e2, e3, e4, e5, e6, e7]
theorem no_bounds {A : Nat → Prop} {w : World} {lo : List Cv} {lc : List Ch} (h : ChsIn A w lo ((lc.map cut6).take 6)) (hb : ∀ x ∈ lc, -9223372036854775808 ≤ x.no ∧ x.no ≤ 9223372036854775807) : ∀ x ∈ lo, -9223372036854775808 ≤ x.no ∧ x.no ≤ 9223372036854775807 := by
  intro x hx
  obtain ⟨i, hi⟩ := List.getElem?_of_mem hx
  obtain ⟨c, hc, hin⟩ := h.at_ hi
  have h1 := List.mem_of_mem_take (List.mem_of_getElem? hc)
  obtain ⟨c0, h2, rfl⟩ := List.mem_map.1 h1
  rw [hin.no]
  exact hb c0 h2
/-- The bytes of changes, whatever they are. -/
def BySt (XL : List Nat) (lo : List Cv) (w : World) : Prop := ∀ (i : Nat) x, lo[i]? = some x → 0 < x.n → ∃ g o t cs, x.A = some ⟨g, o, none⟩ ∧ g ∈ XL ∧ BK t ∧ Blk w g t cs ∧ x.n ≤ 9223372036854775807 ∧ ∀ j, j < x.n → ∃ u, cs[o + j]? = some (.int .u8 u)
theorem Bts.bySt {XL : List Nat} {lo : List Cv} {lc : List Ch} {w : World} (h : ChsIn (fun q => q ∈ XL) w lo lc) : BySt XL lo w := by
  intro i x hx hn
  obtain ⟨c, hc, hin⟩ := h.at_ hx
  obtain ⟨no, k, m, o, g, A1, n1, c1, d⟩ := x
  have hda := hin.data
  simp only at hn hda
  rcases hda with ⟨e, _⟩ | ⟨g, o, cap, t, cs, e, hA, hk, hb, ht, h1, h2⟩
  · injection e with e1 e2 e3
    omega
  · obtain ⟨e1, e2, e3⟩ : A1 = some ⟨g, o, none⟩ ∧ n1 = c.data.length ∧ c1 = cap := by
      injection e with e1 e2 e3
      exact ⟨e1, e2, e3⟩
    refine ⟨g, o, t, cs, e1, hA, hk, hb, (by show n1 ≤ _; unfold maxLen at h2; omega), fun j hj => ?_⟩
    replace hj : j < n1 := hj
    have h3 : ((cs.drop o).take c.data.length)[j]? = (Vb c.data)[j]? := by rw [ht]
    rw [List.getElem?_take_of_lt (by omega), List.getElem?_drop] at h3
    rw [h3]
    obtain ⟨b, hb⟩ : ∃ b, c.data[j]? = some b := ⟨_, List.getElem?_eq_getElem (by omega)⟩
    unfold Vb
    rw [List.getElem?_map, hb]
    exact ⟨_, rfl⟩
theorem BySt.below {XL : List Nat} {lo : List Cv} {w w' : World} (h : BySt XL lo w) (hb : Below w.heap.size w w') : BySt XL lo w' := by
  intro i x hx hn
  obtain ⟨g, o, t, cs, h1, h2, h3, h4, h5⟩ := h i x hx hn
  exact ⟨g, o, t, cs, h1, h2, h3, h4.below hb h4.lt, h5⟩
theorem BySt.stp {B : Nat} {X XL : List Nat} {lo : List Cv} {w w' : World} (h : BySt XL lo w) (hs : Stp B X w w') (hX : ∀ g ∈ XL, g ∉ X) : BySt XL lo w' := by
  intro i x hx hn
  obtain ⟨g, o, t, cs, h1, h2, h3, h4, h5⟩ := h i x hx hn
  exact ⟨g, o, t, cs, h1, h2, h3, hs.keep g t cs (h3.ne (by decide) (by decide)) (hX g h2) h4, h5⟩
theorem BySt.set_ {XL : List Nat} {lo : List Cv} {w : World} (h : BySt XL lo w) (q o : Nat) (u : Int) : BySt XL lo (w.setCell ⟨q, o, none⟩ (.int .u8 u)) := by
  intro i x hx hn
  obtain ⟨g, o', t, cs, h1, h2, h3, h4, h5⟩ := h i x hx hn
  by_cases hg : g = q
  · subst hg
    refine ⟨g, o', t, cs.set o (.int .u8 u), h1, h2, h3, h4.set_ o _, h5.1, fun j hj => ?_⟩
    obtain ⟨v, hv⟩ := h5.2 j hj
    rw [List.getElem?_set]
    by_cases ho : o = o' + j
    · rw [if_pos ho, if_pos (by rw [ho]; exact (List.getElem?_eq_some_iff.1 hv).1)]
      exact ⟨u, rfl⟩
    · rw [if_neg ho]
      exact ⟨v, hv⟩
  · exact ⟨g, o', t, cs, h1, h2, h3, h4.far hg _, h5⟩
/-- What lies while the law turns bytes. -/
structure TurnSt (ks : List B32) (b a t p : Nat) (f f' : Tab) (cc cm : Nat) (XL : List Nat) (Po : Option Addr) (lo : List Cv) (b0 : Nat) (w0 w : World) : Prop where
  tb : TbSt ks b a t f cc cm XL w
  dc : DcSt b a t p f' XL w
  row : RowIs (fun g => b ≤ g) 44 w Po lo
  by_ : BySt XL lo w
  xl : ∀ q ∈ XL, b ≤ q ∧ q ∉ [b + 1, b, a, t] ∧ b0 ≤ q
  bel : Below b0 w0 w
theorem TurnSt.set_ {ks : List B32} {b a t p : Nat} {f f' : Tab} {cc cm : Nat} {XL : List Nat} {Po : Option Addr} {lo : List Cv} {b0 : Nat} {w0 w : World} (h : TurnSt ks b a t p f f' cc cm XL Po lo b0 w0 w) {q : Nat} (hq : q ∈ XL) {tt : TypeId} {cs : List Value} (hk : Blk w q tt cs) (hbk : BK tt) (o : Nat) (u : Int) : TurnSt ks b a t p f f' cc cm XL Po lo b0 w0 (w.setCell ⟨q, o, none⟩ (.int .u8 u)) :=
  ⟨h.tb.set_ hq (h.xl q hq).1 (h.xl q hq).2.1 hk, h.dc.set_ hq, h.row.far hk (hbk.ne (by decide) (by decide)).symm _, h.by_.set_ q o u, h.xl, h.bel.setCell (p := ⟨q, o, none⟩) (h.xl q hq).2.2 _⟩
/-- Of the law's fresh. -/
theorem pl_fresh {ks : List B32} {w w' : World} {e : Ending} (h : FreshPost ks w e w') : ∃ a t p, e = .returned (.tuple #[.pointer (some ⟨w.heap.size + 1, 0, none⟩), .pointer (some ⟨a, 0, none⟩), .pointer (some ⟨t, 0, none⟩), .pointer (some ⟨p, 0, none⟩)]) ∧ w.heap.size ≤ t ∧ t ∉ [w.heap.size + 1, w.heap.size, a] ∧ TbSt ks w.heap.size a t (fun _ => none) 50 0 [] w' ∧ DcSt w.heap.size a t p (fun _ => none) [] w' ∧ Below w.heap.size w w' := by
  obtain ⟨a, m, p, S, rfl, h1, h2, hT, hD, hb, h3, h4⟩ := h
  obtain ⟨gN, gI, hO⟩ := hD.tbo
  refine ⟨a, m + 1, p, rfl, by omega, by simp; omega, ⟨S, fun _ => False, m, (fun q hq => False.elim hq), hT, h3, h4⟩, ⟨fun q => m + 2 ≤ q ∧ q < w'.heap.size, gN, gI, 5, 5, [], [], ts0, fun q hq => ⟨by omega, hq.2, by simp; omega, by simp⟩, hO.mono (fun g h1 h2 => ⟨h1, h2⟩), rfl, ?_, ?_, ?_⟩, hb⟩
  · intro x hx
    simp [ts0] at hx
    rcases hx with rfl <;> exact (by decide : (nv0.n ≤ 512))
  · intro i x c hx
    match i, hx with
    | 0, hx => simp [ts0] at hx; simp [hx.2.symm]
    | 1, hx => simp [ts0] at hx; simp [hx.2.symm]
    | 2, hx => simp [ts0] at hx; simp [hx.2.symm]
    | 3, hx => simp [ts0] at hx; simp [hx.2.symm]
    | 4, hx => simp [ts0] at hx; simp [hx.2.symm]
    | i + 5, hx => simp [ts0] at hx
  · intro i x c h hx hf
    cases hf
section
variable {ks : List B32} {b a t p : Nat} {f : Tab} {cc cm : Nat} {XL : List Nat} {w w' : World}
/-- Apply of changes that are wrong. -/
theorem pl_bad {P : Option Addr} {len cap : Nat} {l : List Cv} {r : Int} (h : TbSt ks b a t f cc cm XL w) (hl : CvIn w P len l) (hb63 : ∀ x ∈ l, -9223372036854775808 ≤ x.no ∧ x.no ≤ 9223372036854775807) (hlen : len ≤ 6) (hchk : chkL l ((5 : Nat) : Int) = r) (hr : r ≠ 0) :
    Calls Tryz.prog 9 #[.pointer (some ⟨t, 0, none⟩), .slice P len cap] w fun e w' => e = .returned (.int .i64 r) ∧ Below w.heap.size w w' := by
  obtain ⟨S, A, M, h1, h2, h3, h4⟩ := h
  exact apply_bad h2 hl hb63 (by omega) hchk hr
/-- Open of the disk as it lies. -/
theorem pl_open (h : TbSt ks b a t f cc cm XL w) : Calls Tryz.prog 11 #[.pointer (some ⟨a, 0, none⟩)] w fun e w' => ∃ t', e = .returned (.tuple #[.pointer (some ⟨t', 0, none⟩), .int .i64 0]) ∧ Below w.heap.size w w' ∧
    ∀ w2, Below w'.heap.size w' w2 → ∀ p, DcSt b a t p f XL w2 → Calls Tryz.prog 10 #[.pointer (some ⟨t', 0, none⟩), .pointer (some ⟨p, 0, none⟩)] w2 fun e w3 => e = .returned (.bool true) ∧ Below w2.heap.size w2 w3 := by
  obtain ⟨S, A, M, h1, h2, h3, h4⟩ := h
  refine (iopen_yes h2.lg h2.geo h3 h2.wf h4).mono fun e w' ⟨t', M', he, hT, ht, hb⟩ => ?_
  refine ⟨t', he, hb, fun w2 hb2 p hd => ?_⟩
  obtain ⟨A', gN, gI, cN, cI, eN, eI, ts, g1, g2, g3, g4, g5⟩ := hd
  have hT2 := hT.below hb2
  exact tells_walk (A := fun q => w.heap.size ≤ q ∨ A' q) ⟨hT2.lg, hT2.geo, hT2.tab.mono (fun g hg _ => .inl hg) (Nat.le_refl _), hT2.wf, hT2.blk⟩ (by omega) (g2.to_in (by omega) (fun x hx => by have := g4 x hx; omega) (by omega)) g3 (g5.mono (fun q hq _ => .inr hq))
theorem front_some (ks : List B32) : frontN ks 5 ≠ zeros64 := by
  intro h
  have h1 := frontN_num ks (N := 5) (by omega)
  rw [h] at h1
  exact absurd h1 (by decide)
/-- Format of a disk that has nodes. -/
theorem pl_format (h : TbSt ks b a t f cc cm XL w) : Calls Tryz.prog 12 #[.pointer (some ⟨a, 0, none⟩), .int .i64 ((5 : Nat) : Int)] w fun e w' => e = .returned (.tuple #[.pointer none, .int .i64 8]) ∧ Below w.heap.size w w' := by
  obtain ⟨S, A, M, h1, h2, h3, h4⟩ := h
  exact format_used h2.lg h2.geo (by rw [h4]; exact front_some ks)
end
end Go.Proofs.YtkmkblhmjeeaeaaGreatDoor
end

/-
  InodePlays walked. Condition: the constants lie in their variable.
-/

section
set_option linter.unusedSimpArgs false
set_option linter.unusedVariables false
set_option maxRecDepth 100000
namespace Go.Proofs.YtkmkblhmjeeaeaaGreatDoor
open Go.RowKit Go.Maps

/-- What lies behind Changes. -/
structure RdSt (ks : List B32) (b a t p : Nat) (f : Tab) (cc cm : Nat) (XL DL : List Nat) (Po Pd : Option Addr) (lo ld : List Cv) (lc : List Ch) (w0 w : World) : Prop where
  tb : TbSt ks b a t f cc cm XL w
  dc : DcSt b a t p f XL w
  ro : RowIs (fun g => b ≤ g ∧ g ∉ [b + 1, b, a, t]) 44 w Po lo
  rd : RowIs (fun g => b ≤ g ∧ g ∉ [b + 1, b, a, t]) 73 w Pd ld
  co : ChsIn (fun q => q ∈ XL) w lo lc
  cd : ChsIn (fun q => q ∈ DL) w ld lc
  xl : ∀ q ∈ XL, b ≤ q ∧ q ∉ [b + 1, b, a, t] ∧ q < w.heap.size
  bel : Below b w0 w
  lo6 : lo.length ≤ 6
  ld6 : ld.length ≤ 6
  b63 : ∀ x ∈ lo, -9223372036854775808 ≤ x.no ∧ x.no ≤ 9223372036854775807
section
variable {ks : List B32} {b a t p : Nat} {f : Tab} {cc cm : Nat} {XL DL : List Nat} {Po Pd : Option Addr} {lo ld : List Cv} {lc : List Ch} {w0 w w' : World}
theorem RdSt.below (h : RdSt ks b a t p f cc cm XL DL Po Pd lo ld lc w0 w) (hb : Below w.heap.size w w') : RdSt ks b a t p f cc cm XL DL Po Pd lo ld lc w0 w' :=
  ⟨h.tb.below hb, h.dc.below hb, h.ro.below hb, h.rd.below hb, h.co.below hb, h.cd.below hb, fun q hq => ⟨(h.xl q hq).1, (h.xl q hq).2.1, Nat.lt_of_lt_of_le (h.xl q hq).2.2 hb.size⟩, h.bel.trans (hb.mono h.tb.lt.1), h.lo6, h.ld6, h.b63⟩
theorem RowIs.mono {A A' : Nat → Prop} {tt : TypeId} {P : Option Addr} {l : List Cv} (h : RowIs A tt w P l) (hA : ∀ g, A g → A' g) : RowIs A' tt w P l := by
  rcases h with h | ⟨g, es, h1, h2, h3⟩
  · exact .inl h
  · exact .inr ⟨g, es, h1, hA g h2, h3⟩
/-- Behind Changes. -/
theorem pl_changes {w1 : World} {Q : Option Addr} {n c : Nat} {l : List Cv} {l0 : List Ch} (hT : TbSt ks b a t f cc cm [] w1) (hD : DcSt b a t p f [] w1) (hb : Below b w0 w1) (hl : CvIn w1 Q n l) (ha : ArgIn w1 l l0) (h63 : ∀ x ∈ l0, -9223372036854775808 ≤ x.no ∧ x.no ≤ 9223372036854775807) :
    Calls Tryz.prog 6 #[.slice Q n c] w1 fun e w' => ∃ XL DL Po qo Pd qd lo ld lc, e = .returned (.tuple #[.slice Po lo.length qo, .slice Pd ld.length qd]) ∧ lo.length ≤ qo ∧ ld.length ≤ qd ∧ qo ≤ 9223372036854775807 ∧ qd ≤ 9223372036854775807 ∧ RdSt ks b a t p f cc cm XL DL Po Pd lo ld lc w0 w' := by
  refine (changes_any hl ha).mono fun e w' hP => ?_
  obtain ⟨hW, lo, ld, XL, DL, Po, qo, Pd, qd, rfl, e1, e2, r1, r2, c1, c2, x1, x2, b1, b2, b3, b4⟩ := hP
  have hlt := hT.lt
  have hs := hW.size
  have hA : ∀ g, w1.heap.size ≤ g → b ≤ g ∧ g ∉ [b + 1, b, a, t] := fun g hg => ⟨by omega, fun hm => by have := hlt.2 g hm; omega⟩
  unfold maxLen at b2 b4
  exact ⟨XL, DL, Po, qo, Pd, qd, lo, ld, _, rfl, b1, b3, by omega, by omega, (hT.fresh (fun q hq => (x1 q hq).1)).below hW, (hD.fresh (fun q hq => (x1 q hq).1)).below hW, r1.mono hA, r2.mono hA, c1, c2, fun q hq => ⟨(hA q (x1 q hq).1).1, (hA q (x1 q hq).1).2, (x1 q hq).2.1⟩, hb.trans (hW.mono hlt.1), by omega, by omega, no_bounds c1 h63⟩
/-- Behind Apply. -/
theorem RdSt.turn {p' : Nat} {f' : Tab} {cc' cm' : Nat} (h : RdSt ks b a t p f cc cm XL DL Po Pd lo ld lc w0 w) (hD : DcSt b a t p' f' XL w) (hT : TbSt ks b a t f' cc' cm' XL w') (hs : Stp b [b + 1, b, a, t] w w') : TurnSt ks b a t p' f' f' cc' cm' XL Po lo b w0 w' :=
  ⟨hT, hD.stp hs, (h.ro.stp (by decide) hs (fun g hg => hg.2)).mono (fun g hg => hg.1), (Bts.bySt h.co).stp hs (fun g hg => (h.xl g hg).2.1), fun q hq => ⟨(h.xl q hq).1, (h.xl q hq).2.1, (h.xl q hq).1⟩, h.bel.trans hs.below⟩
theorem RdSt.pl_ref (h : RdSt ks b a t p f cc cm XL DL Po Pd lo ld lc w0 w) (hz : chkL ld 5 = 0) (c : Nat) :
    Calls Tryz.prog 8 #[.pointer (some ⟨p, 0, none⟩), .slice Pd ld.length c, .int .i64 12] w fun e w' => ∃ p', e = .returned (.tuple #[.pointer (some ⟨p', 0, none⟩), .int .i64 (resF f lc).1]) ∧ DcSt b a t p' (resF f lc).2 XL w' ∧ Below w.heap.size w w' :=
  Go.Proofs.YtkmkblhmjeeaeaaGreatDoor.pl_ref h.dc h.tb.wf h.tb.lt.2 h.tb.lt.1 (fun q hq => (h.xl q hq).2.2) (h.rd.cv (by have := h.ld6; omega)) h.cd (good_of (N := 5) h.cd hz) (by have := h.ld6; omega)
theorem RdSt.pl_apply (h : RdSt ks b a t p f cc cm XL DL Po Pd lo ld lc w0 w) (hz : chkL ld 5 = 0) (hbt : b ≤ t) (htX : t ∉ [b + 1, b, a]) (hcc : cc < 400000) (hcm : cm ≤ 500) (c : Nat) :
    Calls Tryz.prog 9 #[.pointer (some ⟨t, 0, none⟩), .slice Po lo.length c] w fun e w' => e = .returned (.int .i64 (resF f lc).1) ∧ TbSt ks b a t (resF f lc).2 (cc + 50) (cm + 6) XL w' ∧ Stp b [b + 1, b, a, t] w w' :=
  Go.Proofs.YtkmkblhmjeeaeaaGreatDoor.pl_apply h.tb hbt htX (fun q hq => (h.xl q hq).2.2) hcc hcm (h.ro.cv (by have := h.lo6; omega)) h.co h.b63 h.lo6 ((chkL_same h.co h.cd 5).trans hz)
theorem RdSt.pl_bad (h : RdSt ks b a t p f cc cm XL DL Po Pd lo ld lc w0 w) (hz : chkL ld 5 ≠ 0) (c : Nat) :
    Calls Tryz.prog 9 #[.pointer (some ⟨t, 0, none⟩), .slice Po lo.length c] w fun e w' => e = .returned (.int .i64 (chkL ld 5)) ∧ TbSt ks b a t f (cc + 50) (cm + 6) XL w' ∧ Stp b [b + 1, b, a, t] w w' :=
  (Go.Proofs.YtkmkblhmjeeaeaaGreatDoor.pl_bad h.tb (h.ro.cv (by have := h.lo6; omega)) h.b63 h.lo6 (chkL_same h.co h.cd 5) hz).mono fun e w' ⟨he, hb⟩ => ⟨he, (h.tb.below hb).mono (by omega) (by omega), Stp.of_below h.tb.lt.1 hb⟩
end

set_option maxRecDepth 100000 in
set_option maxHeartbeats 16000000 in
theorem iplays_walk (ks : List B32) (w : World) (hK : Roots ks w) (P : Option Addr) (len cap : Nat) (hA : ArgsIn w P len) : Calls Tryz.prog 3 #[.slice P len cap] w fun e w' => e = .returned (.bool true) ∧ Below w.heap.size w w' := by
  have hpos := hK.pos
  have hlen := hA.1
  have HA := Lib.hid (And.intro hK hA)
  clear hK hA
  go_enter Tryz.func3, Tryz.ntmps3
  go_wp2_with (first
    | (go_at_call 5; refine (fresh_walk ks w HA.out.1).mono ?_; rintro e w1 hF; obtain ⟨a, t, p0, rfl, hbt, htX, hT, hD, hW⟩ := pl_fresh hF; have H1 := Lib.hid (And.intro hT (And.intro hD hW)); have HT := Lib.hid (And.intro hbt htX); clear hF hT hD hW hbt htX)
    | go_in)
  go_loopw [6, 7] (fun dv iv wr => ∃ (i p : Nat) (f : Tab), i ≤ len ∧ i ≤ 20 ∧ iv = .int .i64 (i : Int) ∧ dv = .pointer (some ⟨p, 0, none⟩) ∧ TbSt ks w.heap.size a t f (50 + 50 * i) (6 * i) [] wr ∧ DcSt w.heap.size a t p f [] wr ∧ Below w.heap.size w wr) (fun _ iv _ => 20 - (intOf iv).toNat)
  case atStart => exact ⟨0, p0, _, Nat.zero_le _, Nat.zero_le _, rfl, rfl, H1.out.1, H1.out.2.1, H1.out.2.2⟩
  case round =>
    obtain ⟨i, p, f, hi, hi20, rfl, rfl, hT, hD, hbel⟩ := hrel
    have HS := Lib.hid (And.intro hT (And.intro hD hbel))
    clear H1
    by_cases hlt : i < len
    · by_cases h20 : i < 20
      · obtain ⟨gl, ol, rfl, hgl⟩ := HA.out.2.2 (by omega)
        obtain ⟨Q, n, c, l, l0, k1, k2, k3, k4⟩ := hgl i hlt
        have y0 := cell_below k1 hbel
        have HC := Lib.hid (And.intro (k2.below hbel) (And.intro (k3.below hbel) k4))
        clear hgl k1 k2 k3 k4 hT hD hbel
        go_wp2_with (first
          | (go_at_call 6; refine (pl_changes HS.out.1 HS.out.2.1 HS.out.2.2 HC.out.1 HC.out.2.1 HC.out.2.2).mono ?_; rintro e w5 ⟨XL, DL, Po, qo, Pd, qd, lo, ld, lc, rfl, hqo, hqd, hqo2, hqd2, hR⟩; have h6 := hR.lo6; have H5 := Lib.hid hR; clear hR)
          )
        clear y0
        by_cases hz0 : chkL ld 5 = 0
        · have hz : Hid (chkL ld 5 = 0) := Lib.hid hz0
          go_wp2_with (first
            | (go_at_call 7; refine (rchkL_any w5 Pd ld.length qd ld 5 (H5.out.rd.cv (by have := H5.out.ld6; omega))).mono ?_; rintro e w6 ⟨rfl, hW⟩; rw [hz.out]; have H6 := Lib.hid (H5.out.below hW); clear hW H5)
            | (go_at_call 8; refine (H6.out.pl_ref hz.out qd).mono ?_; rintro e w7 ⟨p7, rfl, hD, hW⟩; obtain ⟨r7, f7, hr7⟩ : ∃ r7 f7, resF f lc = (r7, f7) := ⟨_, _, rfl⟩; rw [hr7] at hD ⊢; have H7 := Lib.hid (And.intro (H6.out.below hW) (And.intro hD hr7)); clear hD hW hr7)
            | (go_at_call 9; refine (H7.out.1.pl_apply hz.out HT.out.1 HT.out.2 (by omega) (by omega) qo).mono ?_; rintro e w8 ⟨rfl, hT, hS⟩; rw [H7.out.2.2] at hT ⊢; have H8 := Lib.hid (H7.out.1.turn H7.out.2.1 hT hS); clear hT hS)
            )
          go_loopw [13] (fun kv wr => ∃ k : Nat, k ≤ lo.length ∧ kv = .int .i64 (k : Int) ∧ TurnSt ks w.heap.size a t p7 f7 f7 (50 + 50 * i + 50) (6 * i + 6) XL Po lo w.heap.size w wr) (fun kv _ => lo.length - (intOf kv).toNat)
          case atStart => exact ⟨0, Nat.zero_le _, rfl, H8.out⟩
          case round =>
            obtain ⟨k, hk, rfl, hSt⟩ := hrel
            have HK := Lib.hid hSt
            clear hSt H8
            by_cases hkl : k < lo.length
            · obtain ⟨x, hx⟩ : ∃ x, lo[k]? = some x := ⟨_, List.getElem?_eq_getElem hkl⟩
              have HX := Lib.hid hx
              clear hx
              go_wp2_with fail
              go_loopw [14] (fun jv wx => ∃ j : Nat, j ≤ x.n ∧ jv = .int .i64 (j : Int) ∧ TurnSt ks w.heap.size a t p7 f7 f7 (50 + 50 * i + 50) (6 * i + 6) XL Po lo w.heap.size w wx) (fun jv _ => x.n - (intOf jv).toNat)
              case atStart => exact ⟨0, Nat.zero_le _, rfl, HK.out⟩
              case round =>
                obtain ⟨j, hj, rfl, hSt⟩ := hrel
                obtain ⟨g2, o2, hPo, hg2, hcc⟩ := (hSt.row.cv (by omega)).cells (by omega)
                subst hPo
                obtain ⟨c0, c1, c2, c3, c4, c5, c6⟩ := hcc k x HX.out
                clear c0 c1 c2 c3 c4 c6 hcc
                have HJ := Lib.hid hSt
                clear hSt
                by_cases hjn : j < x.n
                · obtain ⟨gx, ox, tt, cs, hA1, hgX, hbk, hBk, hxc, hby⟩ := HJ.out.by_ k x HX.out (by omega)
                  obtain ⟨u, hu⟩ := hby j hjn
                  have cb := (hBk.cell (ox + j)).trans hu
                  have cf := hBk.frozen (ox + j)
                  have HG := Lib.hid (And.intro hgX (And.intro hBk hbk))
                  clear hgX hBk hbk hby hu
                  rw [hA1] at c5
                  go_wp2_with fail
                  go_roundw
                  case rel => exact ⟨j + 1, by omega, by go_num, HJ.out.set_ HG.out.1 HG.out.2.1 HG.out.2.2 _ _⟩
                  case measure => simp [intOf]; omega
                · go_wp2_with fail
                  go_roundw
                  case rel =>
                    exact ⟨k + 1, by omega, by go_num, HJ.out⟩
                  case measure => simp [intOf]; omega
            · go_wp2_with (first
                | (go_at_call 10; refine (pl_tells HK.out.tb HK.out.dc (by omega)).mono ?_; rintro e w9 ⟨rfl, hW⟩; have H9 := Lib.hid hW; clear hW)
                | go_in)
              go_roundw
              case rel =>
                exact ⟨i + 1, p7, f7, by omega, by omega, by go_num, rfl, (HK.out.tb.drop.below H9.out).mono (by omega) (by omega), HK.out.dc.drop.below H9.out, HK.out.bel.trans (H9.out.mono HK.out.bel.size)⟩
              case measure => simp [intOf]; omega
        · have hz : Hid (chkL ld 5 ≠ 0) := Lib.hid hz0
          obtain ⟨q1, q2, q3⟩ := eqB_false hz0
          go_wp2_with (first
            | (go_at_call 7; refine (rchkL_any w5 Pd ld.length qd ld 5 (H5.out.rd.cv (by have := H5.out.ld6; omega))).mono ?_; rintro e w6 ⟨rfl, hW⟩; have H6 := Lib.hid (H5.out.below hW); clear hW H5)
            | (go_at_call 9; refine (H6.out.pl_bad hz.out qo).mono ?_; rintro e w8 ⟨rfl, hT, hS⟩; have H8 := Lib.hid (H6.out.turn H6.out.dc hT hS); clear hT hS)
            )
          go_loopw [13] (fun kv wr => ∃ k : Nat, k ≤ lo.length ∧ kv = .int .i64 (k : Int) ∧ TurnSt ks w.heap.size a t p f f (50 + 50 * i + 50) (6 * i + 6) XL Po lo w.heap.size w wr) (fun kv _ => lo.length - (intOf kv).toNat)
          case atStart => exact ⟨0, Nat.zero_le _, rfl, H8.out⟩
          case round =>
            obtain ⟨k, hk, rfl, hSt⟩ := hrel
            have HK := Lib.hid hSt
            clear hSt H8
            by_cases hkl : k < lo.length
            · obtain ⟨x, hx⟩ : ∃ x, lo[k]? = some x := ⟨_, List.getElem?_eq_getElem hkl⟩
              have HX := Lib.hid hx
              clear hx
              go_wp2_with fail
              go_loopw [14] (fun jv wx => ∃ j : Nat, j ≤ x.n ∧ jv = .int .i64 (j : Int) ∧ TurnSt ks w.heap.size a t p f f (50 + 50 * i + 50) (6 * i + 6) XL Po lo w.heap.size w wx) (fun jv _ => x.n - (intOf jv).toNat)
              case atStart => exact ⟨0, Nat.zero_le _, rfl, HK.out⟩
              case round =>
                obtain ⟨j, hj, rfl, hSt⟩ := hrel
                obtain ⟨g2, o2, hPo, hg2, hcc⟩ := (hSt.row.cv (by omega)).cells (by omega)
                subst hPo
                obtain ⟨c0, c1, c2, c3, c4, c5, c6⟩ := hcc k x HX.out
                clear c0 c1 c2 c3 c4 c6 hcc
                have HJ := Lib.hid hSt
                clear hSt
                by_cases hjn : j < x.n
                · obtain ⟨gx, ox, tt, cs, hA1, hgX, hbk, hBk, hxc, hby⟩ := HJ.out.by_ k x HX.out (by omega)
                  obtain ⟨u, hu⟩ := hby j hjn
                  have cb := (hBk.cell (ox + j)).trans hu
                  have cf := hBk.frozen (ox + j)
                  have HG := Lib.hid (And.intro hgX (And.intro hBk hbk))
                  clear hgX hBk hbk hby hu
                  rw [hA1] at c5
                  go_wp2_with fail
                  go_roundw
                  case rel => exact ⟨j + 1, by omega, by go_num, HJ.out.set_ HG.out.1 HG.out.2.1 HG.out.2.2 _ _⟩
                  case measure => simp [intOf]; omega
                · go_wp2_with fail
                  go_roundw
                  case rel =>
                    exact ⟨k + 1, by omega, by go_num, HJ.out⟩
                  case measure => simp [intOf]; omega
            · go_wp2_with (first
                | (go_at_call 10; refine (pl_tells HK.out.tb HK.out.dc (by omega)).mono ?_; rintro e w9 ⟨rfl, hW⟩; have H9 := Lib.hid hW; clear hW)
                | go_in)
              go_roundw
              case rel =>
                exact ⟨i + 1, p, f, by omega, by omega, by go_num, rfl, (HK.out.tb.drop.below H9.out).mono (by omega) (by omega), HK.out.dc.drop.below H9.out, HK.out.bel.trans (H9.out.mono HK.out.bel.size)⟩
              case measure => simp [intOf]; omega
      · have h20e : i = 20 := by omega
        clear hT hD hbel
        go_wp2_with (first
          | (go_at_call 11; refine (pl_open HS.out.1).mono ?_; rintro e w5 ⟨t5, rfl, hW, hTl⟩; have H5 := Lib.hid (And.intro hW hTl); clear hW hTl)
          | (go_at_call 12; refine (pl_format (HS.out.1.below H5.out.1)).mono ?_; rintro e w6 ⟨rfl, hW⟩; have H6 := Lib.hid hW; clear hW)
          | (go_at_call 13; refine (iknown_walk ks w6 (HA.out.1.below (HS.out.2.2.trans ((below_of H5.out.1 H6.out).mono HS.out.2.2.size)) hpos)).mono ?_; rintro e w7 ⟨rfl, hW⟩; have H7 := Lib.hid (below_of H6.out hW); clear hW)
          | (go_at_call 10; refine (H5.out.2 w7 H7.out p (HS.out.2.1.below (below_of H5.out.1 H7.out))).mono ?_; rintro e w8 ⟨rfl, hW⟩; have H8 := Lib.hid (below_of (below_of H5.out.1 H7.out) hW); clear hW)
          | go_in)
        go_ret
        exact ⟨rfl, HS.out.2.2.trans (H8.out.mono HS.out.2.2.size)⟩
    · have hle : i = len := by omega
      clear hT hD hbel
      go_wp2_with (first
        | (go_at_call 11; refine (pl_open HS.out.1).mono ?_; rintro e w5 ⟨t5, rfl, hW, hTl⟩; have H5 := Lib.hid (And.intro hW hTl); clear hW hTl)
        | (go_at_call 12; refine (pl_format (HS.out.1.below H5.out.1)).mono ?_; rintro e w6 ⟨rfl, hW⟩; have H6 := Lib.hid hW; clear hW)
        | (go_at_call 13; refine (iknown_walk ks w6 (HA.out.1.below (HS.out.2.2.trans ((below_of H5.out.1 H6.out).mono HS.out.2.2.size)) hpos)).mono ?_; rintro e w7 ⟨rfl, hW⟩; have H7 := Lib.hid (below_of H6.out hW); clear hW)
        | (go_at_call 10; refine (H5.out.2 w7 H7.out p (HS.out.2.1.below (below_of H5.out.1 H7.out))).mono ?_; rintro e w8 ⟨rfl, hW⟩; have H8 := Lib.hid (below_of (below_of H5.out.1 H7.out) hW); clear hW)
        | go_in)
      go_ret
      exact ⟨rfl, HS.out.2.2.trans (H8.out.mono HS.out.2.2.size)⟩
end Go.Proofs.YtkmkblhmjeeaeaaGreatDoor
end
