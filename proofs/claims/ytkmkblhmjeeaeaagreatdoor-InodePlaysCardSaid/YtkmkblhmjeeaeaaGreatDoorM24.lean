/-
  The law's Changes: at most six of the changes that were handed in, for the program and for the document. Conditions: they lie in memory.
-/
import Derived.Test.YtkmkblhmjeeaeaaGreatDoorM23
import Derived.Test.YtkmkblhmjeeaeaaGreatDoorM21
section
set_option linter.unusedSimpArgs false
set_option linter.unusedVariables false
set_option maxRecDepth 100000
namespace Go.Proofs.YtkmkblhmjeeaeaaGreatDoor
open Go.RowKit Go.Maps

/-- A change's cells. -/
def cvC (x : Cv) : List Value := [.int .i64 x.no, .int .i64 x.k, .int .i64 x.m, .int .i64 x.o, .int .i64 x.g, .slice x.A x.n x.c, .bool x.drop]
def rowC : List Cv → List Value
  | [] => []
  | x :: r => cvC x ++ rowC r
theorem rowC_length : ∀ l : List Cv, (rowC l).length = l.length * 7
  | [] => rfl
  | x :: r => by
    have := rowC_length r
    show (cvC x ++ rowC r).length = _
    rw [List.length_append, this, List.length_cons]
    show 7 + _ = _
    omega
theorem rowC_append : ∀ (a b : List Cv), rowC (a ++ b) = rowC a ++ rowC b
  | [], b => rfl
  | x :: a, b => by
    show cvC x ++ rowC (a ++ b) = cvC x ++ rowC a ++ rowC b
    rw [rowC_append a b, List.append_assoc]
theorem rowC_at : ∀ {l : List Cv} {i : Nat} {x : Cv} {k : Nat}, l[i]? = some x → k < 7 → (rowC l)[i * 7 + k]? = (cvC x)[k]?
  | [], i, x, k, h, _ => by simp at h
  | y :: r, 0, x, k, h, hk => by
    simp only [List.getElem?_cons_zero, Option.some.injEq] at h
    subst h
    show (cvC y ++ rowC r)[0 * 7 + k]? = _
    rw [List.getElem?_append_left (by show _ < 7; omega)]
    congr 1
    omega
  | y :: r, i + 1, x, k, h, hk => by
    rw [List.getElem?_cons_succ] at h
    show (cvC y ++ rowC r)[(i + 1) * 7 + k]? = _
    rw [List.getElem?_append_right (by show 7 ≤ _; omega)]
    rw [show (i + 1) * 7 + k - (cvC y).length = i * 7 + k by show _ - 7 = _; omega]
    exact rowC_at h hk
theorem cvC_cells (x : Cv) : ∀ u ∈ cvC x, u.oneCell' = true := by
  intro u hu
  simp only [cvC, List.mem_cons, List.not_mem_nil, or_false] at hu
  rcases hu with rfl | rfl | rfl | rfl | rfl | rfl | rfl <;> rfl
/-- A slice of changes in a block that A allows. -/
def RowIs (A : Nat → Prop) (t : TypeId) (w : World) (P : Option Addr) (l : List Cv) : Prop := (P = none ∧ l = []) ∨ ∃ g es, P = some ⟨g, 0, none⟩ ∧ A g ∧ Blk w g t (rowC l ++ es)
section
variable {A : Nat → Prop} {t : TypeId} {w w' : World} {P : Option Addr} {l : List Cv}
theorem RowIs.below (h : RowIs A t w P l) (hb : Below w.heap.size w w') : RowIs A t w' P l := by
  rcases h with h | ⟨g, es, h1, h2, h3⟩
  · exact .inl h
  · exact .inr ⟨g, es, h1, h2, h3.below hb h3.lt⟩
theorem RowIs.stp {B : Nat} {X : List Nat} (h : RowIs A t w P l) (ht : t ≠ 179) (hs : Stp B X w w') (hX : ∀ g, A g → g ∉ X) : RowIs A t w' P l := by
  rcases h with h | ⟨g, es, h1, h2, h3⟩
  · exact .inl h
  · exact .inr ⟨g, es, h1, h2, hs.keep g _ _ ht (hX g h2) h3⟩
theorem RowIs.far {g0 o0 t0 : Nat} {cs0 : List Value} (h : RowIs A t w P l) (hb : Blk w g0 t0 cs0) (ht : t ≠ t0) (u : Value) : RowIs A t (w.setCell ⟨g0, o0, none⟩ u) P l := by
  rcases h with h | ⟨g, es, h1, h2, h3⟩
  · exact .inl h
  · exact .inr ⟨g, es, h1, h2, h3.far (h3.ne_ hb ht) u⟩
theorem RowIs.cv (h : RowIs A t w P l) (hl : l.length ≤ 1000000) : CvIn w P l.length l := by
  refine ⟨rfl, by omega, fun hn => ?_⟩
  rcases h with ⟨_, rfl⟩ | ⟨g, es, rfl, h2, h3⟩
  · cases hn
  · refine ⟨g, 0, rfl, h3.lt, fun i x hx => ?_⟩
    have hi := (List.getElem?_eq_some_iff.1 hx).1
    have hc : ∀ k, k < 7 → w.cell? ⟨g, 0 + i * 7 + k, none⟩ = (cvC x)[k]? := fun k hk => by
      rw [h3.cell, List.getElem?_append_left (by rw [rowC_length]; omega), Nat.zero_add, rowC_at hx hk]
    exact ⟨hc 0 (by omega), hc 1 (by omega), hc 2 (by omega), hc 3 (by omega), hc 4 (by omega), hc 5 (by omega), hc 6 (by omega)⟩
end
theorem row_own {w : World} {N n : Nat} {t : TypeId} {v : Value} {l : List Cv} (h : w.ownsRow N t 7 v n (rowC l)) (hn : l.length = n) : ∃ P q, v = .slice P n q ∧ RowIs (fun g => N ≤ g) t w P l ∧ n ≤ q ∧ q ≤ maxLen := by
  rcases h.2 with ⟨rfl, rfl⟩ | ⟨g, cap, cur, rfl, h1, h2, h3, h4, h5, h6⟩
  · exact ⟨none, 0, rfl, .inl ⟨rfl, List.eq_nil_of_length_eq_zero hn⟩, Nat.le_refl _, by decide⟩
  · refine ⟨_, cap, rfl, .inr ⟨g, cur.toList.drop (n * 7), rfl, h1, ?_⟩, h3, h4⟩
    rw [← h6, List.take_append_drop]
    simpa [Blk] using h2
/-- The changes that were handed in. -/
structure ArgIn (w : World) (l : List Cv) (lc : List Ch) : Prop where
  len : l.length = lc.length
  at_ : ∀ (i : Nat) x c, l[i]? = some x → lc[i]? = some c → c.no = x.no ∧ c.k = x.k ∧ c.m = x.m ∧ c.o = x.o ∧ c.g = x.g ∧ c.drop = x.drop ∧ RdB w x.A x.n c.data ∧ x.n ≤ x.c ∧ x.c ≤ 9223372036854775807 ∧ (x.A = none → x.n = 0 ∧ x.c = 0)
theorem ArgIn.below {w w' : World} {l : List Cv} {lc : List Ch} (h : ArgIn w l lc) (hb : Below w.heap.size w w') : ArgIn w' l lc :=
  ⟨h.len, fun i x c hx hc => by
    obtain ⟨h1, h2, h3, h4, h5, h6, h7, h8⟩ := h.at_ i x c hx hc
    exact ⟨h1, h2, h3, h4, h5, h6, h7.below hb, h8⟩⟩
/-- A change with at most 600 bytes. -/
def cut6 (c : Ch) : Ch := { c with data := c.data.take 600 }
def chgV (no k m o g : Int) (P : Option Addr) (n c : Nat) (d : Bool) : Value := .agg #[.int .i64 no, .int .i64 k, .int .i64 m, .int .i64 o, .int .i64 g, .slice P n c, .bool d]
theorem build_chg (w : World) (no k m o g : Int) (P : Option Addr) (n c : Nat) (d : Bool) : (Instr.build 44 #[(0, .int .i64 no), (1, nodeV k m o g P n c), (2, .bool d)]).run Tryz.prog w = .ok (chgV no k m o g P n c d) w := by kernel_rfl
theorem build_dchg (w : World) (no k m o g : Int) (P : Option Addr) (n c : Nat) (d : Bool) : (Instr.build 73 #[(0, .int .i64 no), (1, nodeV k m o g P n c), (2, .bool d)]).run Tryz.prog w = .ok (chgV no k m o g P n c d) w := by kernel_rfl
theorem slice_chg (w : World) (no k m o g : Int) (P : Option Addr) (n c : Nat) (d : Bool) : (Instr.buildSlice 29 1 #[(0, chgV no k m o g P n c d)]).run Tryz.prog w = .ok (.slice (some ⟨w.heap.size, 0, none⟩) 1 1) (w.alloc (.cells #[.int .i64 no, .int .i64 k, .int .i64 m, .int .i64 o, .int .i64 g, .slice P n c, .bool d] 44)) := by kernel_rfl
theorem slice_dchg (w : World) (no k m o g : Int) (P : Option Addr) (n c : Nat) (d : Bool) : (Instr.buildSlice 30 1 #[(0, chgV no k m o g P n c d)]).run Tryz.prog w = .ok (.slice (some ⟨w.heap.size, 0, none⟩) 1 1) (w.alloc (.cells #[.int .i64 no, .int .i64 k, .int .i64 m, .int .i64 o, .int .i64 g, .slice P n c, .bool d] 73)) := by kernel_rfl
def oneRow (t : TypeId) (b0 : Nat) (cs : List Value) : Value → World → Prop := fun u w => ∃ p, u = .slice (some ⟨p, 0, none⟩) 1 1 ∧ b0 ≤ p ∧ Blk w p t cs
theorem oneRow.st (t : TypeId) (b0 : Nat) (cs : List Value) : StV (oneRow t b0 cs) := fun _ _ _ ⟨p, h1, h2, h3⟩ hb => ⟨p, h1, h2, h3.below hb h3.lt⟩
def chgW (b0 : Nat) (no k m o g : Int) (n : Nat) (d : Bool) (data : List B8) : Value → World → Prop := fun u w => ∃ Q c, u = chgV no k m o g Q n c d ∧ Bts (fun q => b0 ≤ q) w (.slice Q n c) data
theorem chgW.st (b0 : Nat) (no k m o g : Int) (n : Nat) (d : Bool) (data : List B8) : StV (chgW b0 no k m o g n d data) := fun _ _ _ ⟨Q, c, h1, h2⟩ hb => ⟨Q, c, h1, h2.below hb⟩
def chgRow (b0 : Nat) (no k m o g : Int) (n : Nat) (d : Bool) (data : List B8) : Value → World → Prop := fun u w => ∃ p Q c, u = .slice (some ⟨p, 0, none⟩) 1 1 ∧ b0 ≤ p ∧ Blk w p 73 (cvC ⟨no, k, m, o, g, Q, n, c, d⟩) ∧ Bts (fun q => b0 ≤ q) w (.slice Q n c) data
theorem chgRow.st (b0 : Nat) (no k m o g : Int) (n : Nat) (d : Bool) (data : List B8) : StV (chgRow b0 no k m o g n d data) := fun _ _ _ ⟨p, Q, c, h1, h2, h3, h4⟩ hb => ⟨p, Q, c, h1, h2, h3.below hb h3.lt, h4.below hb⟩
/-- Bytes lie in some block. -/
theorem Bts.one {A : Nat → Prop} {w : World} {v : Value} {xs : List B8} (h : Bts A w v xs) (b : Nat) (hb : A b) : ∃ g, A g ∧ (g < w.heap.size ∨ g = b) ∧ Bts (fun q => q = g) w v xs := by
  rcases h with h | ⟨g, o, cap, t, cs, e, hg, hn, hb', hx, h1, h2⟩
  · exact ⟨b, hb, .inr rfl, .inl h⟩
  · exact ⟨g, hg, .inl hb'.lt, .inr ⟨g, o, cap, t, cs, e, rfl, hn, hb', hx, h1, h2⟩⟩
/-- One change more. -/
theorem ChsIn.snoc {XL : List Nat} {w' : World} {l : List Cv} {lc : List Ch} {i : Nat} {c : Ch} {x : Cv} {g : Nat} (h : ChsIn (fun q => q ∈ XL) w' l (lc.take i)) (hc : lc[i]? = some c) (hx : ChIn (fun q => q = g) w' x c) : ChsIn (fun q => q ∈ XL ++ [g]) w' (l ++ [x]) (lc.take (i + 1)) := by
  have hi := (List.getElem?_eq_some_iff.1 hc).1
  have hlen : l.length = i := by rw [h.1, List.length_take]; omega
  have e : lc.take (i + 1) = lc.take i ++ [c] := by rw [List.take_add_one, hc]; rfl
  have ht : (lc.take i).length = i := by rw [List.length_take]; omega
  rw [e]
  refine ⟨by simp [h.1], fun j y d hy hd => ?_⟩
  by_cases hj : j < i
  · rw [List.getElem?_append_left (by omega)] at hy
    rw [List.getElem?_append_left (by omega)] at hd
    exact (h.2 j y d hy hd).mono (fun q hq _ => by simp [hq])
  · have hj' : j = i := by
      have := (List.getElem?_eq_some_iff.1 hy).1
      simp at this
      omega
    subst hj'
    rw [List.getElem?_append_right (by omega), hlen] at hy
    rw [List.getElem?_append_right (by omega), ht] at hd
    simp at hy hd
    subst hy hd
    exact hx.mono (fun q hq _ => by simp [hq])
theorem ChIn.kp {A : Nat → Prop} {N : Nat} {T : TypeId → Prop} {X : List Nat} {w w' : World} {x : Cv} {c : Ch} (h : ChIn A w x c) (hk : Kp N T X w w') (h1 : ¬ T 5) (h2 : ¬ T 168) (hX : ∀ g, A g → g ∉ X) : ChIn A w' x c := ⟨h.no, h.k, h.m, h.o, h.g, h.drop, h.data.kp hk h1 h2 hX⟩
theorem ChsIn.kp {A : Nat → Prop} {N : Nat} {T : TypeId → Prop} {X : List Nat} {w w' : World} {l : List Cv} {lc : List Ch} (h : ChsIn A w l lc) (hk : Kp N T X w w') (h1 : ¬ T 5) (h2 : ¬ T 168) (hX : ∀ g, A g → g ∉ X) : ChsIn A w' l lc := ⟨h.1, fun i x c hx hc => (h.2 i x c hx hc).kp hk h1 h2 hX⟩
theorem own_kp {N M e s n : Nat} {T : TypeId → Prop} {w w' : World} {v : Value} {xs : List Value} (h : w.ownsRow N e s v n xs) (hk : Kp M T [] w w') (ht : ¬ T e) : w'.ownsRow N e s v n xs := by
  refine ⟨h.1, ?_⟩
  rcases h.2 with h | ⟨g, cap, cur, rfl, h1, h2, h3⟩
  · exact .inl h
  · refine .inr ⟨g, cap, cur, rfl, h1, ?_, h3⟩
    have : Blk w g e cur.toList := by simpa [Blk] using h2
    have := hk.keep g e _ ht (by simp) this
    simpa [Blk] using this
theorem ichg_info : ∃ i : TypeInfo, Tryz.prog.info? 44 = some i ∧ i.zero = some (.agg #[.int .i64 0, .int .i64 0, .int .i64 0, .int .i64 0, .int .i64 0, .slice none 0 0, .bool false]) ∧ i.size = 7 ∧ i.bytes = 72 := by
  obtain ⟨i, h⟩ := info_parts (show (Tryz.prog.info? 44).map (fun i => (i.zero, i.size, i.bytes)) = some (some (.agg #[.int .i64 0, .int .i64 0, .int .i64 0, .int .i64 0, .int .i64 0, .slice none 0 0, .bool false]), 7, 72) by kernel_rfl)
  exact ⟨i, h⟩
theorem dchg_info : ∃ i : TypeInfo, Tryz.prog.info? 73 = some i ∧ i.zero = some (.agg #[.int .i64 0, .int .i64 0, .int .i64 0, .int .i64 0, .int .i64 0, .slice none 0 0, .bool false]) ∧ i.size = 7 ∧ i.bytes = 72 := by
  obtain ⟨i, h⟩ := info_parts (show (Tryz.prog.info? 73).map (fun i => (i.zero, i.size, i.bytes)) = some (some (.agg #[.int .i64 0, .int .i64 0, .int .i64 0, .int .i64 0, .int .i64 0, .slice none 0 0, .bool false]), 7, 72) by kernel_rfl)
  exact ⟨i, h⟩
/-- Where Changes stands. -/
def ChgAt (N : Nat) (lc : List Ch) (i : Nat) (vo vd : Value) (w : World) : Prop := ∃ (lo ld : List Cv) (XL DL : List Nat), w.ownsRow N 44 7 vo lo.length (rowC lo) ∧ w.ownsRow N 73 7 vd ld.length (rowC ld) ∧ ChsIn (fun q => q ∈ XL) w lo ((lc.map cut6).take i) ∧ ChsIn (fun q => q ∈ DL) w ld ((lc.map cut6).take i) ∧ (∀ q ∈ XL, N ≤ q ∧ q < w.heap.size ∧ q ∉ DL) ∧ ∀ q ∈ DL, N ≤ q ∧ q < w.heap.size
/-- What Changes answers. -/
def ChangesPost (w0 : World) (len : Nat) (lc : List Ch) (e : Ending) (w : World) : Prop := Below w0.heap.size w0 w ∧ ∃ (lo ld : List Cv) (XL DL : List Nat) (Po : Option Addr) (qo : Nat) (Pd : Option Addr) (qd : Nat), e = .returned (.tuple #[.slice Po lo.length qo, .slice Pd ld.length qd]) ∧ lo.length = min len 6 ∧ ld.length = min len 6 ∧ RowIs (fun g => w0.heap.size ≤ g) 44 w Po lo ∧ RowIs (fun g => w0.heap.size ≤ g) 73 w Pd ld ∧
  ChsIn (fun q => q ∈ XL) w lo ((lc.map cut6).take 6) ∧ ChsIn (fun q => q ∈ DL) w ld ((lc.map cut6).take 6) ∧ (∀ q ∈ XL, w0.heap.size ≤ q ∧ q < w.heap.size ∧ q ∉ DL) ∧ (∀ q ∈ DL, w0.heap.size ≤ q ∧ q < w.heap.size) ∧ lo.length ≤ qo ∧ qo ≤ maxLen ∧ ld.length ≤ qd ∧ qd ≤ maxLen

set_option maxRecDepth 100000 in
set_option maxHeartbeats 8000000 in
theorem changes_any {w : World} {P : Option Addr} {len cap : Nat} {l : List Cv} {lc : List Ch} (hl : CvIn w P len l) (ha : ArgIn w l lc) :
    Calls Tryz.prog 6 #[.slice P len cap] w fun e w' => ChangesPost w len lc e w' := by
  have hbig := hl.big
  have hll : lc.length = len := by rw [← ha.len, hl.len]
  have HL := Lib.hid (And.intro hl (And.intro ha hll))
  clear hl ha hll
  go_enter Tryz.func6, Tryz.ntmps6
  go_wp2_with fail
  go_loopw [4, 5, 6] (fun vo vd iv wr => ∃ i : Nat, i ≤ len ∧ i ≤ 6 ∧ iv = .int .i64 i ∧ ChgAt w.heap.size lc i vo vd wr ∧ Below w.heap.size w wr) (fun _ _ iv _ => 6 - (intOf iv).toNat)
  case atStart => exact ⟨0, Nat.zero_le _, Nat.zero_le _, rfl, ⟨[], [], [], [], World.ownsRow_nil _ _ _ _, World.ownsRow_nil _ _ _ _, ⟨rfl, (fun j x c h => by simp at h)⟩, ⟨rfl, (fun j x c h => by simp at h)⟩, (fun q hq => by cases hq), (fun q hq => by cases hq)⟩, Below.refl _ _⟩
  case round =>
    obtain ⟨i, hi, hi6, rfl, ⟨lo, ld, XL, DL, ho, hd, hco, hcd, hX, hD⟩, hbel⟩ := hrel
    by_cases hlt : i < len
    · by_cases h6 : i < 6
      · obtain ⟨gl, ol, rfl, hgl, hcl⟩ := HL.out.1.cells (by omega)
        obtain ⟨x, hx⟩ : ∃ x, l[i]? = some x := ⟨_, List.getElem?_eq_getElem (by have := HL.out.1.len; omega)⟩
        obtain ⟨c, hc⟩ : ∃ c, lc[i]? = some c := ⟨_, List.getElem?_eq_getElem (by have := HL.out.2.2; omega)⟩
        obtain ⟨a1, a2, a3, a4, a5, a6, a7, a8, a9, a10⟩ := (HL.out.2.1.below hbel).at_ i x c hx hc
        have HC := Lib.hid (hcl i x hx)
        obtain ⟨xno, xk, xm, xo, xg, xA, xn, xc, xd⟩ := x
        simp only at a1 a2 a3 a4 a5 a6 a7 a8 a9 a10 HC
        obtain ⟨c0, c1, c2, c3, c4, c5, c6⟩ := HC.out
        have c0 := cell_below c0 hbel
        have c1 := cell_below c1 hbel
        have c2 := cell_below c2 hbel
        have c3 := cell_below c3 hbel
        have c4 := cell_below c4 hbel
        have c5 := cell_below c5 hbel
        have c6 := cell_below c6 hbel
        have HTO := Lib.hid (to7_any wr xk xm xo xg xA xn xc c.data a7 a8 a9 a10)
        have hlo : lo.length = i := by rw [hco.1, List.length_take, List.length_map, HL.out.2.2]; omega
        have hld : ld.length = i := by rw [hcd.1, List.length_take, List.length_map, HL.out.2.2]; omega
        have hcm : (lc.map cut6)[i]? = some (cut6 c) := by rw [List.getElem?_map, hc]; rfl
        have HB := Lib.hid (And.intro ho (And.intro hd (And.intro hco (And.intro hcd (And.intro hX (And.intro hD (And.intro hbel hcm)))))))
        have HA := Lib.hid (And.intro a1 (And.intro a2 (And.intro a3 (And.intro a4 (And.intro a5 a6)))))
        have hsz := hbel.size
        clear ho hd hco hcd hX hD hbel hcm a1 a2 a3 a4 a5 a6 a7 a8 a9 a10 hcl hx hc
        have HLO := Lib.hid (And.intro hlo hld)
        clear hlo hld
        go_wp2_with (first
          | (go_at_call 16; refine HTO.out.mono ?_; rintro e w5 ⟨P', r, c', rfl, hB5, hW5⟩; have c0 := cell_below c0 hW5; have c1 := cell_below c1 hW5; have c2 := cell_below c2 hW5; have c3 := cell_below c3 hW5; have c4 := cell_below c4 hW5; have c6 := cell_below c6 hW5; have H5 := Lib.hid (And.intro hB5 hW5); clear hB5 hW5 HTO)
          | go_in)
        have hr6 : r ≤ 600 := by rw [← H5.out.1.cells.1, List.length_take]; omega
        have hb6 := new_below w5 (.cells #[.int .i64 xk, .int .i64 xm, .int .i64 xo, .int .i64 xg, .slice P' r c'] 42)
        have hbn := Blk.new w5 42 [.int .i64 xk, .int .i64 xm, .int .i64 xo, .int .i64 xg, .slice P' r c']
        have c0 := cell_below c0 hb6
        have c1 := cell_below c1 hb6
        have c2 := cell_below c2 hb6
        have c3 := cell_below c3 hb6
        have c4 := cell_below c4 hb6
        have c6 := cell_below c6 hb6
        have hs56 : w5.heap.size < (w5.alloc (.cells #[.int .i64 xk, .int .i64 xm, .int .i64 xo, .int .i64 xg, .slice P' r c'] 42)).heap.size := by simp
        have H6 := Lib.hid (And.intro (H5.out.1.below hb6) (And.intro (below_of H5.out.2 hb6) (And.intro hs56 (And.intro H5.out.2.size hb6))))
        clear hs56
        obtain ⟨w6, hw6⟩ : ∃ w6, w5.alloc (.cells #[.int .i64 xk, .int .i64 xm, .int .i64 xo, .int .i64 xg, .slice P' r c'] 42) = w6 := ⟨_, rfl⟩
        rw [show w5.alloc (.cells [Value.int .i64 xk, .int .i64 xm, .int .i64 xo, .int .i64 xg, .slice P' r c'].toArray 42) = w6 from hw6] at hbn
        obtain ⟨e0, e1, e2, e3, e4⟩ := five_cells hbn
        have HBN := Lib.hid hbn
        clear hbn
        rw [hw6] at c0 c1 c2 c3 c4 c6 H6 ⊢
        clear hw6 hb6
        refine wp_hideQ ?_
        intro QQ hQQ
        refine wp_region_quickT [some 24, some 25, some 26, some 27, some 28, some 29, some 30, some 31, some 32, some 33, some 34, some 35, some 36, some 37] [isV (u4), isV (.slice (some ⟨gl, ol, none⟩) len cap), isV (.int .i64 (i : Int)), isV (.pointer (some ⟨gl, ol + i * 7, none⟩)), isV (.pointer (some ⟨gl, ol + i * 7, none⟩)), isV (.int .i64 xno), isV (nodeV xk xm xo xg P' r c'), isV (.slice (some ⟨gl, ol, none⟩) len cap), isV (.int .i64 (i : Int)), isV (.pointer (some ⟨gl, ol + i * 7, none⟩)), isV (.pointer (some ⟨gl, ol + i * 7 + 6, none⟩)), isV (.bool xd), isV (chgV xno xk xm xo xg P' r c' xd), oneRow 44 w6.heap.size (cvC ⟨xno, xk, xm, xo, xg, P', r, c', xd⟩)] 14 16 (by kernel_rfl) rfl rfl rfl rfl (by kernel_rfl) (by kernel_rfl) (by simp [isV.st, oneRow.st]) ?_ ?_
        · intro hq i hi
          match i, hi with
          | 0, _ =>
            refine StepL.val rfl [] (by decide +kernel) ?_
            intro v wx hR hd
            exact ⟨wanted_plain rfl _, _, _, x_move rfl (fill_off rfl rfl), hR, Below.refl _ _, rfl⟩
          | 1, _ =>
            refine StepL.val rfl [] (by decide +kernel) ?_
            intro v wx hR hd
            exact ⟨wanted_plain rfl _, _, _, x_move rfl (fill_off rfl rfl), hR, Below.refl _ _, rfl⟩
          | 2, _ =>
            refine StepL.val rfl [] (by decide +kernel) ?_
            intro v wx hR hd
            exact ⟨wanted_plain rfl _, _, _, x_move rfl (fill_off rfl rfl), hR, Below.refl _ _, rfl⟩
          | 3, _ =>
            refine StepL.val rfl [1, 2] (by decide +kernel) ?_
            intro v wx hR hd
            have h1 : v 1 = _ := hd 1 (by simp)
            have h2 : v 2 = _ := hd 2 (by simp)
            exact ⟨wanted_plain rfl _, _, _, x_index rfl (hq.at_ rfl h1) (hq.at_ rfl h2) (r_index (e := 73) (size := 7) (by kernel_rfl) (by kernel_rfl) (by omega) (by omega) (by first | omega | simp)), hR, Below.refl _ _, rfl⟩
          | 4, _ =>
            refine StepL.val rfl [3] (by decide +kernel) ?_
            intro v wx hR hd
            have h3 : v 3 = _ := hd 3 (by simp)
            exact ⟨wanted_plain rfl _, _, _, x_field rfl (hq.at_ rfl h3) (r_field (off := 0) (by kernel_rfl)), hR, Below.refl _ _, rfl⟩
          | 5, _ =>
            refine StepL.val rfl [4] (by decide +kernel) ?_
            intro v wx hR hd
            have h4 : v 4 = _ := hd 4 (by simp)
            exact ⟨wanted_plain rfl _, _, _, x_load rfl (hq.at_ rfl h4) (r_load (by kernel_rfl) (cell_below c0 hR)), hR, Below.refl _ _, rfl⟩
          | 6, _ =>
            refine StepL.val rfl [] (by decide +kernel) ?_
            intro v wx hR hd
            exact ⟨wanted_plain rfl _, _, _, x_load rfl (fill_off rfl rfl) (r_loadR (cs := [.int .i64 xk, .int .i64 xm, .int .i64 xo, .int .i64 xg, .slice P' r c']) (by kernel_rfl) (range_five (cell_below e0 hR) (cell_below e1 hR) (cell_below e2 hR) (cell_below e3 hR) (cell_below e4 hR))), hR, Below.refl _ _, rfl⟩
          | 7, _ =>
            refine StepL.val rfl [] (by decide +kernel) ?_
            intro v wx hR hd
            exact ⟨wanted_plain rfl _, _, _, x_move rfl (fill_off rfl rfl), hR, Below.refl _ _, rfl⟩
          | 8, _ =>
            refine StepL.val rfl [] (by decide +kernel) ?_
            intro v wx hR hd
            exact ⟨wanted_plain rfl _, _, _, x_move rfl (fill_off rfl rfl), hR, Below.refl _ _, rfl⟩
          | 9, _ =>
            refine StepL.val rfl [7, 8] (by decide +kernel) ?_
            intro v wx hR hd
            have h7 : v 7 = _ := hd 7 (by simp)
            have h8 : v 8 = _ := hd 8 (by simp)
            exact ⟨wanted_plain rfl _, _, _, x_index rfl (hq.at_ rfl h7) (hq.at_ rfl h8) (r_index (e := 73) (size := 7) (by kernel_rfl) (by kernel_rfl) (by omega) (by omega) (by first | omega | simp)), hR, Below.refl _ _, rfl⟩
          | 10, _ =>
            refine StepL.val rfl [9] (by decide +kernel) ?_
            intro v wx hR hd
            have h9 : v 9 = _ := hd 9 (by simp)
            exact ⟨wanted_plain rfl _, _, _, x_field rfl (hq.at_ rfl h9) (r_field (off := 6) (by kernel_rfl)), hR, Below.refl _ _, rfl⟩
          | 11, _ =>
            refine StepL.val rfl [10] (by decide +kernel) ?_
            intro v wx hR hd
            have h10 : v 10 = _ := hd 10 (by simp)
            exact ⟨wanted_plain rfl _, _, _, x_load rfl (hq.at_ rfl h10) (r_load (by kernel_rfl) (cell_below c6 hR)), hR, Below.refl _ _, rfl⟩
          | 12, _ =>
            refine StepL.val rfl [5, 6, 11] (by decide +kernel) ?_
            intro v wx hR hd
            have h5 : v 5 = _ := hd 5 (by simp)
            have h6 : v 6 = _ := hd 6 (by simp)
            have h11 : v 11 = _ := hd 11 (by simp)
            exact ⟨wanted_plain rfl _, xe_ex (x_build rfl (pairs_3 (hq.at_ rfl h5) (hq.at_ rfl h6) (hq.at_ rfl h11)) (build_chg wx _ _ _ _ _ _ _ _ _)) ⟨hR, Below.refl _ _, rfl⟩⟩
          | 13, _ =>
            refine StepL.val rfl [12] (by decide +kernel) ?_
            intro v wx hR hd
            have h12 : v 12 = _ := hd 12 (by simp)
            have hb := new_below wx (.cells #[.int .i64 xno, .int .i64 xk, .int .i64 xm, .int .i64 xo, .int .i64 xg, .slice P' r c', .bool xd] 44)
            exact ⟨wanted_plain rfl _, xe_ex (x_slice rfl (pairs_1 (hq.at_ rfl h12)) (slice_chg wx _ _ _ _ _ _ _ _ _)) ⟨hR.trans (hb.mono hR.size), hb, _, rfl, hR.size, Blk.new wx 44 (cvC ⟨xno, xk, xm, xo, xg, P', r, c', xd⟩)⟩⟩
          | i + 14, h => omega
        · intro v wx hR hV
          have h0 : v 0 = _ := hV 0 (by omega)
          obtain ⟨p13, h13, hp13, hk13⟩ : oneRow 44 w6.heap.size (cvC ⟨xno, xk, xm, xo, xg, P', r, c', xd⟩) (v 13) wx := hV 13 (by omega)
          have hb0 : Below wr.heap.size wr wx := H6.out.2.1.trans (hR.mono H6.out.2.1.size)
          have HX := Lib.hid (And.intro (own_below HB.out.1 hb0) (And.intro hb0 (And.intro (H6.out.1.below hR) (And.intro hk13 (H6.out.2.2.2.2.trans (hR.mono H6.out.2.2.2.2.size))))))
          have HBX := Lib.hid (HBN.out.below hR HBN.out.lt)
          have hsx : w.heap.size ≤ wx.heap.size := Nat.le_trans hsz hb0.size
          have hs6x := hR.size
          clear hV hR hk13 hb0 e0 e1 e2 e3 e4 c0 c1 c2 c3 c4 c6
          simp only [fillR, Act.put, List.setIfInBounds_toArray, List.set_cons_zero, List.set_cons_succ, List.drop_succ_cons, List.drop_zero, h0, h13]
          obtain ⟨i0, i1, i2, i3, i4⟩ := ichg_info
          refine wpList_append_lies wx rfl (.tmp 24) (.tmp 37) 29 rfl w.heap.size 44 i0 _ 7 72 Tryz.underlying29 i1 i2 i3 i4 rfl (by decide) u4 lo.length (rowC lo) rfl HX.out.1 ⟨p13, 0, none⟩ 1 1 (cvC ⟨xno, xk, xm, xo, xg, P', r, c', xd⟩) rfl rfl (blk_row HX.out.2.2.2.1) (cvC_cells _) (by decide) (by unfold maxLen; have := HLO.out.1; omega) (by have := HLO.out.1; omega) hsx _ rfl ?_
          intro go capo w7 g1 g2 _ _
          have hk : Kp w.heap.size (· = 44) [] wx w7 := Kp.of_grown HX.out.1 g2 hsx rfl
          have hbx : Below w.heap.size w w7 := (HB.out.2.2.2.2.2.2.1.trans (HX.out.2.1.mono hsz)).trans hk.below
          obtain ⟨c0, c1, c2, c3, c4, c5, c6⟩ := HC.out
          have c0 := cell_below c0 hbx
          have c1 := cell_below c1 hbx
          have c2 := cell_below c2 hbx
          have c3 := cell_below c3 hbx
          have c4 := cell_below c4 hbx
          have c6 := cell_below c6 hbx
          have hbn7 := hk.keep _ _ _ (by decide) (by simp) HBX.out
          obtain ⟨e0, e1, e2, e3, e4⟩ := five_cells hbn7
          have hB7 := HX.out.2.2.1.kp hk (by decide) (by decide) (by simp)
          have HDT := Lib.hid (RdB.of_bts hB7)
          have H7 := Lib.hid (And.intro g1 (And.intro hk (And.intro hbx (And.intro hB7 (own_kp (own_below HB.out.2.1 HX.out.2.1) hk (by decide))))))
          have hs7 := hk.size
          obtain ⟨dt, hdt⟩ : ∃ dt, c.data.take 600 = dt := ⟨_, rfl⟩
          rw [hdt] at HDT
          have HDE := Lib.hid hdt
          clear hdt g1 g2 hk hbx hbn7 hB7 c5
          go_wp2_with fail
          refine wp_hideQ ?_
          intro QQ hQQ
          refine wp_region_quickT [some 39, some 40, some 41, some 42, some 43, some 44, some 45, some 46, some 47, some 48, some 49, some 50, some 51, some 52, some 53, some 54, some 55, some 56, some 57, some 58, some 59, some 60, some 61, some 62] [isV (u5), isV (.slice (some ⟨gl, ol, none⟩) len cap), isV (.int .i64 (i : Int)), isV (.pointer (some ⟨gl, ol + i * 7, none⟩)), isV (.pointer (some ⟨gl, ol + i * 7, none⟩)), isV (.int .i64 xno), isV (.slice (some ⟨gl, ol, none⟩) len cap), isV (.int .i64 (i : Int)), isV (.pointer (some ⟨gl, ol + i * 7, none⟩)), isV (.pointer (some ⟨gl, ol + i * 7 + 1, none⟩)), isV (.pointer (some ⟨gl, ol + i * 7 + 1, none⟩)), isV (stv xk xm xo xg), noV 5 w7.heap.size, isV (.pointer (some ⟨w5.heap.size, 4, none⟩)), isV (.slice P' r c'), btsV w7.heap.size r dt, nodeW w7.heap.size xk xm xo xg r dt, isV (.slice (some ⟨gl, ol, none⟩) len cap), isV (.int .i64 (i : Int)), isV (.pointer (some ⟨gl, ol + i * 7, none⟩)), isV (.pointer (some ⟨gl, ol + i * 7 + 6, none⟩)), isV (.bool xd), chgW w7.heap.size xno xk xm xo xg r xd dt, chgRow w7.heap.size xno xk xm xo xg r xd dt] 24 26 (by kernel_rfl) rfl rfl rfl rfl (by kernel_rfl) (by kernel_rfl) (by simp [isV.st, noV.st, btsV.st, nodeW.st, chgW.st, chgRow.st]) ?_ ?_
          · intro hq i hi
            match i, hi with
            | 0, _ =>
              refine StepL.val rfl [] (by decide +kernel) ?_
              intro v wx hR hd
              exact ⟨wanted_plain rfl _, _, _, x_move rfl (fill_off rfl rfl), hR, Below.refl _ _, rfl⟩
            | 1, _ =>
              refine StepL.val rfl [] (by decide +kernel) ?_
              intro v wx hR hd
              exact ⟨wanted_plain rfl _, _, _, x_move rfl (fill_off rfl rfl), hR, Below.refl _ _, rfl⟩
            | 2, _ =>
              refine StepL.val rfl [] (by decide +kernel) ?_
              intro v wx hR hd
              exact ⟨wanted_plain rfl _, _, _, x_move rfl (fill_off rfl rfl), hR, Below.refl _ _, rfl⟩
            | 3, _ =>
              refine StepL.val rfl [1, 2] (by decide +kernel) ?_
              intro v wx hR hd
              have h1 : v 1 = _ := hd 1 (by simp)
              have h2 : v 2 = _ := hd 2 (by simp)
              exact ⟨wanted_plain rfl _, _, _, x_index rfl (hq.at_ rfl h1) (hq.at_ rfl h2) (r_index (e := 73) (size := 7) (by kernel_rfl) (by kernel_rfl) (by omega) (by omega) (by first | omega | simp)), hR, Below.refl _ _, rfl⟩
            | 4, _ =>
              refine StepL.val rfl [3] (by decide +kernel) ?_
              intro v wx hR hd
              have h3 : v 3 = _ := hd 3 (by simp)
              exact ⟨wanted_plain rfl _, _, _, x_field rfl (hq.at_ rfl h3) (r_field (off := 0) (by kernel_rfl)), hR, Below.refl _ _, rfl⟩
            | 5, _ =>
              refine StepL.val rfl [4] (by decide +kernel) ?_
              intro v wx hR hd
              have h4 : v 4 = _ := hd 4 (by simp)
              exact ⟨wanted_plain rfl _, _, _, x_load rfl (hq.at_ rfl h4) (r_load (by kernel_rfl) (cell_below c0 hR)), hR, Below.refl _ _, rfl⟩
            | 6, _ =>
              refine StepL.val rfl [] (by decide +kernel) ?_
              intro v wx hR hd
              exact ⟨wanted_plain rfl _, _, _, x_move rfl (fill_off rfl rfl), hR, Below.refl _ _, rfl⟩
            | 7, _ =>
              refine StepL.val rfl [] (by decide +kernel) ?_
              intro v wx hR hd
              exact ⟨wanted_plain rfl _, _, _, x_move rfl (fill_off rfl rfl), hR, Below.refl _ _, rfl⟩
            | 8, _ =>
              refine StepL.val rfl [6, 7] (by decide +kernel) ?_
              intro v wx hR hd
              have h6 : v 6 = _ := hd 6 (by simp)
              have h7 : v 7 = _ := hd 7 (by simp)
              exact ⟨wanted_plain rfl _, _, _, x_index rfl (hq.at_ rfl h6) (hq.at_ rfl h7) (r_index (e := 73) (size := 7) (by kernel_rfl) (by kernel_rfl) (by omega) (by omega) (by first | omega | simp)), hR, Below.refl _ _, rfl⟩
            | 9, _ =>
              refine StepL.val rfl [8] (by decide +kernel) ?_
              intro v wx hR hd
              have h8 : v 8 = _ := hd 8 (by simp)
              exact ⟨wanted_plain rfl _, _, _, x_field rfl (hq.at_ rfl h8) (r_field (off := 1) (by kernel_rfl)), hR, Below.refl _ _, rfl⟩
            | 10, _ =>
              refine StepL.val rfl [9] (by decide +kernel) ?_
              intro v wx hR hd
              have h9 : v 9 = _ := hd 9 (by simp)
              exact ⟨wanted_plain rfl _, _, _, x_field rfl (hq.at_ rfl h9) (r_field (off := 0) (by kernel_rfl)), hR, Below.refl _ _, rfl⟩
            | 11, _ =>
              refine StepL.val rfl [10] (by decide +kernel) ?_
              intro v wx hR hd
              have h10 : v 10 = _ := hd 10 (by simp)
              exact ⟨wanted_plain rfl _, _, _, x_load rfl (hq.at_ rfl h10) (r_loadR (cs := [.int .i64 xk, .int .i64 xm, .int .i64 xo, .int .i64 xg]) (by kernel_rfl) (range_four (cell_below c1 hR) (cell_below c2 hR) (cell_below c3 hR) (cell_below c4 hR))), hR, Below.refl _ _, rfl⟩
            | 12, _ =>
              refine StepL.val rfl [] (by decide +kernel) ?_
              intro v wx hR hd
              exact ⟨wanted_plain rfl _, xe_ex (x_slice rfl pairs_0 (noslice_B wx)) ⟨hR.trans ((new_below wx _).mono hR.size), new_below wx _, _, rfl, hR.size, Blk.new wx 5 []⟩⟩
            | 13, _ =>
              refine StepL.val rfl [] (by decide +kernel) ?_
              intro v wx hR hd
              exact ⟨wanted_plain rfl _, _, _, x_field rfl (fill_off rfl rfl) (r_field (off := 4) (by kernel_rfl)), hR, Below.refl _ _, rfl⟩
            | 14, _ =>
              refine StepL.val rfl [13] (by decide +kernel) ?_
              intro v wx hR hd
              have h13 : v 13 = _ := hd 13 (by simp)
              exact ⟨wanted_plain rfl _, _, _, x_load rfl (hq.at_ rfl h13) (r_load (by kernel_rfl) (cell_below e4 hR)), hR, Below.refl _ _, rfl⟩
            | 15, _ =>
              refine StepL.val rfl [12, 14] (by decide +kernel) ?_
              intro v wx hR hd
              obtain ⟨q12, h12, hq12, hk12⟩ : noV 5 w7.heap.size (v 12) wx := hd 12 (by simp)
              have h14 : v 14 = _ := hd 14 (by simp)
              refine ⟨wanted_plain rfl _, xe_app_bts rfl (hq.at_ rfl h12) hq12 hk12 hR.size (hq.at_ rfl h14) (HDT.out.below hR) (by omega) ?_⟩
              intro Q q w' hW hB
              exact ⟨hR.trans (hW.mono hR.size), hW, Q, q, rfl, hB⟩
            | 16, _ =>
              refine StepL.val rfl [11, 15] (by decide +kernel) ?_
              intro v wx hR hd
              have h11 : v 11 = _ := hd 11 (by simp)
              obtain ⟨Q15, c15, h15, hb15⟩ : btsV w7.heap.size r dt (v 15) wx := hd 15 (by simp)
              exact ⟨wanted_plain rfl _, xe_ex (x_build rfl (pairs_2 (hq.at_ rfl h11) (hq.at_ rfl h15)) (build_node wx _ _ _ _ _ _ _)) ⟨hR, Below.refl _ _, Q15, c15, rfl, hb15⟩⟩
            | 17, _ =>
              refine StepL.val rfl [] (by decide +kernel) ?_
              intro v wx hR hd
              exact ⟨wanted_plain rfl _, _, _, x_move rfl (fill_off rfl rfl), hR, Below.refl _ _, rfl⟩
            | 18, _ =>
              refine StepL.val rfl [] (by decide +kernel) ?_
              intro v wx hR hd
              exact ⟨wanted_plain rfl _, _, _, x_move rfl (fill_off rfl rfl), hR, Below.refl _ _, rfl⟩
            | 19, _ =>
              refine StepL.val rfl [17, 18] (by decide +kernel) ?_
              intro v wx hR hd
              have h17 : v 17 = _ := hd 17 (by simp)
              have h18 : v 18 = _ := hd 18 (by simp)
              exact ⟨wanted_plain rfl _, _, _, x_index rfl (hq.at_ rfl h17) (hq.at_ rfl h18) (r_index (e := 73) (size := 7) (by kernel_rfl) (by kernel_rfl) (by omega) (by omega) (by first | omega | simp)), hR, Below.refl _ _, rfl⟩
            | 20, _ =>
              refine StepL.val rfl [19] (by decide +kernel) ?_
              intro v wx hR hd
              have h19 : v 19 = _ := hd 19 (by simp)
              exact ⟨wanted_plain rfl _, _, _, x_field rfl (hq.at_ rfl h19) (r_field (off := 6) (by kernel_rfl)), hR, Below.refl _ _, rfl⟩
            | 21, _ =>
              refine StepL.val rfl [20] (by decide +kernel) ?_
              intro v wx hR hd
              have h20 : v 20 = _ := hd 20 (by simp)
              exact ⟨wanted_plain rfl _, _, _, x_load rfl (hq.at_ rfl h20) (r_load (by kernel_rfl) (cell_below c6 hR)), hR, Below.refl _ _, rfl⟩
            | 22, _ =>
              refine StepL.val rfl [5, 16, 21] (by decide +kernel) ?_
              intro v wx hR hd
              have h5 : v 5 = _ := hd 5 (by simp)
              obtain ⟨Q16, c16, h16, hb16⟩ : nodeW w7.heap.size xk xm xo xg r dt (v 16) wx := hd 16 (by simp)
              have h21 : v 21 = _ := hd 21 (by simp)
              exact ⟨wanted_plain rfl _, xe_ex (x_build rfl (pairs_3 (hq.at_ rfl h5) (hq.at_ rfl h16) (hq.at_ rfl h21)) (build_dchg wx _ _ _ _ _ _ _ _ _)) ⟨hR, Below.refl _ _, Q16, c16, rfl, hb16⟩⟩
            | 23, _ =>
              refine StepL.val rfl [22] (by decide +kernel) ?_
              intro v wx hR hd
              obtain ⟨Q22, c22, h22, hb22⟩ : chgW w7.heap.size xno xk xm xo xg r xd dt (v 22) wx := hd 22 (by simp)
              have hb := new_below wx (.cells #[.int .i64 xno, .int .i64 xk, .int .i64 xm, .int .i64 xo, .int .i64 xg, .slice Q22 r c22, .bool xd] 73)
              exact ⟨wanted_plain rfl _, xe_ex (x_slice rfl (pairs_1 (hq.at_ rfl h22)) (slice_dchg wx _ _ _ _ _ _ _ _ _)) ⟨hR.trans (hb.mono hR.size), hb, _, Q22, c22, rfl, hR.size, Blk.new wx 73 (cvC ⟨xno, xk, xm, xo, xg, Q22, r, c22, xd⟩), hb22.below hb⟩⟩
            | i + 24, h => omega
          · intro v wy hR hV
            have h0 : v 0 = _ := hV 0 (by omega)
            obtain ⟨p23, Q23, c23, h23, hp23, hk23, hb23⟩ : chgRow w7.heap.size xno xk xm xo xg r xd dt (v 23) wy := hV 23 (by omega)
            have HY := Lib.hid (And.intro (own_below H7.out.2.2.2.2 hR) (And.intro (own_below H7.out.1 hR) (And.intro hR (And.intro hk23 hb23))))
            have hsy : w.heap.size ≤ wy.heap.size := Nat.le_trans (Nat.le_trans hsx hs7) hR.size
            have hs7y := hR.size
            clear hV hR hk23 hb23 e0 e1 e2 e3 e4 c0 c1 c2 c3 c4 c6
            simp only [fillR, Act.put, List.setIfInBounds_toArray, List.set_cons_zero, List.set_cons_succ, List.drop_succ_cons, List.drop_zero, h0, h23]
            obtain ⟨j0, j1, j2, j3, j4⟩ := dchg_info
            refine wpList_append_lies wy rfl (.tmp 39) (.tmp 62) 30 rfl w.heap.size 73 j0 _ 7 72 Tryz.underlying30 j1 j2 j3 j4 rfl (by decide) u5 ld.length (rowC ld) rfl HY.out.1 ⟨p23, 0, none⟩ 1 1 (cvC ⟨xno, xk, xm, xo, xg, Q23, r, c23, xd⟩) rfl rfl (blk_row HY.out.2.2.2.1) (cvC_cells _) (by decide) (by unfold maxLen; have := HLO.out.2; omega) (by have := HLO.out.2; omega) hsy _ rfl ?_
            intro gd capd w8 k1 k2 _ _
            have hk2 : Kp w.heap.size (· = 73) [] wy w8 := Kp.of_grown HY.out.1 k2 hsy rfl
            have H8 := Lib.hid (And.intro k1 hk2)
            have hs8 := hk2.size
            clear k1 k2 hk2
            go_wp2_with fail
            go_roundw
            case rel =>
              obtain ⟨ho, hd, hco, hcd, hX, hD, hbel, hcm⟩ := HB.out
              obtain ⟨g1, hk, hbx, hB7, hd7⟩ := H7.out
              obtain ⟨_, hoy, hR, hk23, hb23⟩ := HY.out
              obtain ⟨k1, hk2⟩ := H8.out
              obtain ⟨a1, a2, a3, a4, a5, a6⟩ := HA.out
              have hpy : p23 < wy.heap.size := hk23.lt
              obtain ⟨ga, ga1, ga2, ga3⟩ := H5.out.1.one w5.heap.size H6.out.2.2.2.1
              obtain ⟨gb, gb1, gb2, gb3⟩ := hb23.one p23 hp23
              have hs5 := H6.out.2.2.1
              have hz5 := H5.out.2.size
              have hb5y : Below w5.heap.size w5 wx := HX.out.2.2.2.2
              refine ⟨i + 1, by omega, by omega, by go_num, ⟨lo ++ [⟨xno, xk, xm, xo, xg, P', r, c', xd⟩], ld ++ [⟨xno, xk, xm, xo, xg, Q23, r, c23, xd⟩], XL ++ [ga], DL ++ [gb], ?_, ?_, ?_, ?_, ?_, ?_⟩, (hbx.trans (hR.mono (Nat.le_trans hsx hs7))).trans hk2.below⟩
              · have := own_kp hoy hk2 (by decide)
                rw [List.length_append, rowC_append]
                exact this
              · rw [List.length_append, rowC_append]
                exact k1
              · refine ChsIn.snoc ((((hco.below HX.out.2.1).kp hk (by decide) (by decide) (by simp)).below hR).kp hk2 (by decide) (by decide) (by simp)) hcm ⟨a1.symm, a2.symm, a3.symm, a4.symm, a5.symm, a6.symm, ?_⟩
                exact (((ga3.below hb5y).kp hk (by decide) (by decide) (by simp)).below hR).kp hk2 (by decide) (by decide) (by simp)
              · refine ChsIn.snoc ((((hcd.below HX.out.2.1).kp hk (by decide) (by decide) (by simp)).below hR).kp hk2 (by decide) (by decide) (by simp)) hcm ⟨a1.symm, a2.symm, a3.symm, a4.symm, a5.symm, a6.symm, ?_⟩
                show Bts _ _ _ (c.data.take 600)
                rw [HDE.out]
                exact gb3.kp hk2 (by decide) (by decide) (by simp)
              · intro q hq
                rcases List.mem_append.1 hq with hq | hq
                · obtain ⟨q1, q2, q3⟩ := hX q hq
                  refine ⟨q1, by omega, fun h => ?_⟩
                  rcases List.mem_append.1 h with h | h
                  · exact q3 h
                  · simp at h; omega
                · obtain rfl : q = ga := by simpa using hq
                  refine ⟨by omega, by rcases ga2 with h | h <;> omega, fun h => ?_⟩
                  rcases List.mem_append.1 h with h | h
                  · have := hD q h; omega
                  · simp at h; rcases ga2 with h' | h' <;> omega
              · intro q hq
                rcases List.mem_append.1 hq with hq | hq
                · obtain ⟨q1, q2⟩ := hD q hq
                  exact ⟨q1, by omega⟩
                · obtain rfl : q = gb := by simpa using hq
                  exact ⟨by omega, by rcases gb2 with h' | h' <;> omega⟩
            case measure => simp [intOf]; omega
      · obtain rfl : i = 6 := by omega
        have hlo : lo.length = min len 6 := by rw [hco.1, List.length_take, List.length_map, HL.out.2.2]; omega
        have hld : ld.length = min len 6 := by rw [hcd.1, List.length_take, List.length_map, HL.out.2.2]; omega
        obtain ⟨Po, qo, rfl, ro1, ro2, ro3⟩ := row_own ho rfl
        obtain ⟨Pd, qd, rfl, rd1, rd2, rd3⟩ := row_own hd rfl
        have HB := Lib.hid (show ChangesPost w len lc (.returned (.tuple #[.slice Po lo.length qo, .slice Pd ld.length qd])) wr from ⟨hbel, lo, ld, XL, DL, Po, qo, Pd, qd, rfl, hlo, hld, ro1, rd1, hco, hcd, hX, hD, ro2, ro3, rd2, rd3⟩)
        clear ho hd hco hcd hX hD hbel hlo hld ro1 ro2 ro3 rd1 rd2 rd3
        go_wp2_with fail
        go_ret2
        exact HB.out
    · obtain rfl : i = len := by omega
      have hlo : lo.length = min i 6 := by rw [hco.1, List.length_take, List.length_map, HL.out.2.2]; omega
      have hld : ld.length = min i 6 := by rw [hcd.1, List.length_take, List.length_map, HL.out.2.2]; omega
      obtain ⟨Po, qo, rfl, ro1, ro2, ro3⟩ := row_own ho rfl
      obtain ⟨Pd, qd, rfl, rd1, rd2, rd3⟩ := row_own hd rfl
      have ht : (lc.map cut6).take i = (lc.map cut6).take 6 := by
        rw [List.take_of_length_le (by rw [List.length_map, HL.out.2.2]; omega), List.take_of_length_le (by rw [List.length_map, HL.out.2.2]; omega)]
      rw [ht] at hco hcd
      have HB := Lib.hid (show ChangesPost w i lc (.returned (.tuple #[.slice Po lo.length qo, .slice Pd ld.length qd])) wr from ⟨hbel, lo, ld, XL, DL, Po, qo, Pd, qd, rfl, hlo, hld, ro1, rd1, hco, hcd, hX, hD, ro2, ro3, rd2, rd3⟩)
      clear ho hd hco hcd hX hD hbel hlo hld ro1 ro2 ro3 rd1 rd2 rd3 ht
      go_wp2_with fail
      go_ret2
      exact HB.out
end Go.Proofs.YtkmkblhmjeeaeaaGreatDoor
end

/-
  Drawn regions that append to rows of one's own and store into a box: the operations, and the words that outlive them. Conditions: those of the theorems.
-/

section
set_option linter.unusedSimpArgs false
set_option linter.unusedVariables false
set_option maxRecDepth 100000
namespace Go.Proofs.YtkmkblhmjeeaeaaGreatDoor
open Go.RowKit Go.Maps

section
variable {P : Program} {ρ : Operand → Value} {o : Oper} {w : World} {G : Value → World → Prop}
/-- 'append(own, x..)'. -/
theorem xe_app_own {s x : Operand} {t e base : Nat} {z : Value} {size bytes : Nat} (ho : o.op = .call { callee := .builtin .append, args := #[s, x], argTypes := #[t, t] }) (ht : P.underlying t = some (.slice e)) (hi : (P.info? e).map (fun i => (i.zero, i.size, i.bytes)) = some (some z, size, bytes)) (hzs : z.cells.size = size) (hsz : 0 < size)
    {v : Value} {n : Nat} {xs : List Value} (hs : ρ s = v) (hown : w.ownsRow base e size v n xs) {g off m c : Nat} (hx : ρ x = .slice (some ⟨g, off, none⟩) m c) (news : List Value) (hl : news.length = m * size) (hnews : ∀ (j : Nat) u, news[j]? = some u → w.cell? ⟨g, off + j, none⟩ = some u) (h1 : ∀ u ∈ news, u.oneCell' = true) (hm : 0 < m) (hmx : n + m ≤ 1000000) (hb : bytes ≤ 1000) (hbase : base ≤ w.heap.size)
    (hG : ∀ g' cap w', w'.ownsRow base e size (.slice (some ⟨g', 0, none⟩) (n + m) cap) (n + m) (xs ++ news) → Only v.ownBlock.toList w w' → (v.ownBlock = some g' ∨ g' = w.heap.size) → G (.slice (some ⟨g', 0, none⟩) (n + m) cap) w') : ∃ y w', (execOp ρ o).run P w = .ok (.value y) w' ∧ G y w' := by
  obtain ⟨i, i1, i2, i3, i4⟩ := info_parts hi
  obtain ⟨g', cap, w', hr, g1, g2, g3, g4⟩ := run_append_lies (P := P) w t o.type base e i z size bytes ht i1 i2 i3 i4 hzs hsz v n xs hown ⟨g, off, none⟩ m c news hl (fun j u hu => by rw [addr_add]; exact hnews j u hu) h1 hm (by unfold maxLen; omega) (Nat.le_trans (Nat.mul_le_mul hmx hb) (by omega)) hbase _ rfl
  refine ⟨_, w', ?_, hG g' cap w' g1 ((Only.refl _ w).grown g2 (fun k hk => .inl (by rw [hk]; simp))) g3⟩
  unfold execOp resolve
  simp only [ho, invoke, builtin, Sem.run_bind, Sem.run_pure, Result.andThen_ok, List.map_toArray, List.map_cons, List.map_nil, hs, hx, hr]
/-- A value of one cell into a block that is known. -/
theorem r_store1 {t b x tt : Nat} {v : Value} {cs : List Value} (hi : (P.info? t).map (·.size) = some 1) (h1 : v.oneCell' = true) (hv : v.cells = #[v]) (hb : Blk w b tt cs) (hx : x < cs.length) : (Instr.storeAt t (.pointer (some ⟨b, x, none⟩)) v).run P w = .ok () (w.setCells b x [v]) := by
  have hst := run_storeCells_cells (P := P) b x [v] 0 w (fun j hj => by
    simp at hj
    subst hj
    show (w.cell? ⟨b, x, none⟩).isSome = true
    rw [hb.cell, List.getElem?_eq_getElem hx]
    rfl) (fun j hj => hb.frozen _) (fun u hu => by simp at hu; subst hu; exact h1)
  rw [Nat.add_zero] at hst
  cases hq : P.info? t with
  | none => simp [hq] at hi
  | some i =>
    have hs : i.size = 1 := by simpa [hq] using hi
    simp only [Instr.storeAt, Instr.sureAddr, Sem.run_bind, Sem.run_pure, Result.andThen_ok, storeVar, sizeOf, typeInfo, run_program, hq, hs, hv]
    simp [hst]
end
theorem over_one {cs : List Value} {x : Nat} {v : Value} (h : x < cs.length) : over cs x [v] = cs.set x v := by
  unfold over
  rw [show [v].length = 1 from rfl, List.set_eq_take_append_cons_drop, if_pos h, List.append_assoc]
  rfl
theorem store_only (w : World) (b x : Nat) (v : Value) : Only [b] w (w.setCells b x [v]) := Only.setCells [v] b x (Only.refl _ _) (.inl (by simp))
theorem store_blk {w : World} {b tt x : Nat} {cs : List Value} {v : Value} (h : Blk w b tt cs) (hx : x < cs.length) : Blk (w.setCells b x [v]) b tt (cs.set x v) := by
  rw [← over_one hx]
  exact h.setCells [v] x (by simp; omega)
/-- A row of one's own, in no block of these. -/
def ownW (N e n : Nat) (xs : List Value) (bad : List Nat) : Value → World → Prop := fun u w => w.ownsRow N e 1 u n xs ∧ ∀ k, u.ownBlock = some k → k ∉ bad
theorem ownW.only {N e n : Nat} {xs : List Value} {bad S : List Nat} {u : Value} {w w' : World} (h : ownW N e n xs bad u w) (ho : Only S w w') (hS : ∀ k ∈ S, k < w.heap.size → k ∈ bad) : ownW N e n xs bad u w' := by
  exact ⟨ownsRow_only h.1 ho (fun k hk hm => h.2 k hk (hS k hm (h.1.lt k hk).2)), h.2⟩
/-- The rule for a region with a chain, by words and by the blocks that each operation may turn. -/
theorem wp_region_chainQ {P : Program} {ops : Array Oper} {Q : Exit → Act → World → Prop} {a0 : Act} (chain : List Nat) (ds : List (Option Tmp)) (fs : List (Value → World → Prop)) (X : Nat → List Nat) (R : Nat → World → Prop) (n : Nat) {id : Nat} {w : World} (hm : P.follows .mixedOrders = true)
    (hn : ops.size = n) (hds : ops.toList.map (·.dst) = ds) (hq : quickB ds a0.tmps.size = true) (hl : lexA .any ops = true) (ho : ordR .any ops chain = true) (hR : R 0 w.drew)
    (hst : ∀ i k v w w', k ≠ i → LV fs i v w → Only (X k) w w' → LV fs i v w')
    (hstep : QuickR ds a0 → ∀ i, i < n → StepP P .any ops Q chain ds (LV fs) R (fun k a b => Only (X k) a b) a0 i)
    (hfin : ∀ (v : Nat → Value) (wx : World), R chain.length wx → (∀ i, i < n → LV fs i v wx) → Q .normal (fillR ds v 0 a0) wx) : (Code.region id ops true).wp P Q a0 w :=
  wp_region_chain chain ds (LV fs) R (fun k a b => Only (X k) a b) n hm hn hds (QuickR.of hq).ap hl ho hR (fun i v j x w h hj => LV.loc i v j x w h hj) hst (hstep (QuickR.of hq)) hfin
/-- One value in a new row. -/
def oneRowX (N : Nat) (x : Value) : Value → World → Prop := fun u w => ∃ p, u = .slice (some ⟨p, 0, none⟩) 1 1 ∧ N ≤ p ∧ Blk w p 3 [x]
theorem slice_int (w : World) (x : Int) : (Instr.buildSlice 60 1 #[(0, .int .i64 x)]).run Tryz.prog w = .ok (.slice (some ⟨w.heap.size, 0, none⟩) 1 1) (w.alloc (.cells #[.int .i64 x] 3)) := by kernel_rfl
theorem own_slice {w : World} {N e s n : Nat} {v : Value} {xs : List Value} (h : w.ownsRow N e s v n xs) : ∃ P c, v = .slice P n c := by
  rcases h.2 with ⟨rfl, rfl⟩ | ⟨g, cap, cur, rfl, _⟩
  · exact ⟨_, _, rfl⟩
  · exact ⟨_, _, rfl⟩
/-- What a log's read answers. -/
def rdV (b0 : Nat) (data : List B8) : Value → World → Prop := fun u w => ∃ Q c, u = .tuple #[.slice Q 64 c, .int .i64 0] ∧ Bts (fun q => b0 ≤ q) w (.slice Q 64 c) data
theorem rdV.st (b0 : Nat) (data : List B8) : StV (rdV b0 data) := fun _ _ _ ⟨Q, c, h1, h2⟩ hb => ⟨Q, c, h1, h2.below hb⟩
theorem range_two {w : World} {g o : Nat} {x0 x1 : Value} (h0 : w.cell? ⟨g, o, none⟩ = some x0) (h1 : w.cell? ⟨g, o + 1, none⟩ = some x1) : w.rangeAt g o [x0, x1] := by
  intro j v hj
  match j, hj with
  | 0, hj => cases hj; exact h0
  | 1, hj => cases hj; exact h1
  | j + 2, hj => simp at hj
end Go.Proofs.YtkmkblhmjeeaeaaGreatDoor
end
