/-
  first, Decode, Next: what stands at the beginning of bytes. Conditions: the bytes lie in memory, and are a right value's, or a number's that isn't written the one way.
-/
import Derived.Test.YtodpojbgkeecnaaDoorCValue
import Derived.Deep.RegionHeld3
set_option linter.unusedSimpArgs false
set_option linter.unusedVariables false
namespace Go.Proofs.YtodpojbgkeecnaaDoor
open Go.RowKit

/-- What first leaves where it reads a value. -/
def FirstPost (t : T) (r : List UInt8) (w : World) (e : Ending) (w' : World) : Prop := ∃ v' A n c, e = .returned (.tuple #[v', .slice A n c, .int .i64 0]) ∧ In w' (fun g => w.heap.size ≤ g) t v' ∧ BIn w' (fun _ => True) A n c r ∧ Below w.heap.size w w'
/-- What first leaves where a number isn't written the one way. -/
def FirstErr (w : World) (e : Ending) (w' : World) : Prop := ∃ A n c, e = .returned (.tuple #[.agg #[.int .i64 0, .int .i64 0, .slice none 0 0, .slice none 0 0], .slice A n c, .int .i64 3]) ∧ Below w.heap.size w w'

theorem first_start {w : World} {Q : Nat → Prop} {A : Option Addr} {n c : Nat} {bs : List UInt8} (h : BIn w Q A n c bs) (o : Obj) : IsRd ((w.alloc o).alloc (.cells #[.slice A n c, .int .i64 0] 70)) (w.heap.size + 1) 0 bs := by
  have hb := Blk.new (w.alloc o) 70 [.slice A n c, .int .i64 0]
  rw [World.size_alloc] at hb
  exact ⟨A, n, c, hb, h.keep fun g _ hlt => ⟨(Below.heap_alloc (w.alloc o) _ g (by simp; omega)).trans (Below.heap_alloc w o g hlt), by omega⟩⟩

theorem first_cells {w2 : World} {g R : Nat} {x y : Value} (hz : Blk w2 g 26 [.int .i64 0, .int .i64 0, .slice none 0 0, .slice none 0 0]) (hr : Blk w2 R 70 [x, y]) (cs : List Value) :
    (w2.alloc (.cells cs.toArray 26)).cell? ⟨g, 0, none⟩ = some (.int .i64 0) ∧ (w2.alloc (.cells cs.toArray 26)).cell? ⟨g, 1, none⟩ = some (.int .i64 0) ∧ (w2.alloc (.cells cs.toArray 26)).cell? ⟨g, 2, none⟩ = some (.slice none 0 0) ∧ (w2.alloc (.cells cs.toArray 26)).cell? ⟨g, 3, none⟩ = some (.slice none 0 0) ∧
      (w2.alloc (.cells cs.toArray 26)).frozen? ⟨g, 0, none⟩ = false ∧ (w2.alloc (.cells cs.toArray 26)).frozen? ⟨g, 1, none⟩ = false ∧ (w2.alloc (.cells cs.toArray 26)).frozen? ⟨g, 2, none⟩ = false ∧ (w2.alloc (.cells cs.toArray 26)).frozen? ⟨g, 3, none⟩ = false ∧
      (w2.alloc (.cells cs.toArray 26)).cell? ⟨R, 0, none⟩ = some x :=
  have h := hz.alloc (.cells cs.toArray 26)
  ⟨h.cell 0, h.cell 1, h.cell 2, h.cell 3, h.frozen 0, h.frozen 1, h.frozen 2, h.frozen 3, (hr.alloc (.cells cs.toArray 26)).cell 0⟩
theorem bin_ne {w : World} {Q : Nat → Prop} {A : Option Addr} {n c D : Nat} {b : List UInt8} (h : BIn w Q A n c b) (hz : Blk w D 26 [.int .i64 0, .int .i64 0, .slice none 0 0, .slice none 0 0]) : BIn w (fun g => Q g ∧ g ≠ D) A n c b := by
  refine ⟨h.len, h.cap, h.capm, h.nil, fun hn => ?_⟩
  obtain ⟨g, o, hA, hq, hc⟩ := h.cells hn
  refine ⟨g, o, hA, ⟨hq, ?_⟩, hc⟩
  rintro rfl
  have h0 := hc 0 (b[0]'(by have := h.len; omega)) (List.getElem?_eq_getElem _)
  rw [hz.cell] at h0
  match o, h0 with
  | 0, h0 => simp at h0
  | 1, h0 => simp at h0
  | 2, h0 => simp at h0
  | 3, h0 => simp at h0
  | o + 4, h0 => simp at h0
theorem first_end {w w2 w3 : World} {t : T} {r : List UInt8} {v : Value} {A : Option Addr} {n c : Nat} {o o' : Obj} (hin : In w2 (fun g => ((w.alloc o).alloc o').heap.size ≤ g) t v) (hb : BIn w2 (fun g => g < w.heap.size + 1) A n c r) (hz : Blk w2 w.heap.size 26 [.int .i64 0, .int .i64 0, .slice none 0 0, .slice none 0 0])
    (ho : Only [w.heap.size + 1] ((w.alloc o).alloc o') w2) (h3 : Only [w.heap.size] w2 w3) : FirstPost t r w (.returned (.tuple #[v, .slice A n c, .int .i64 0])) w3 := by
  simp only [World.size_alloc] at hin
  have hs := ho.size
  simp only [World.size_alloc] at hs
  refine ⟨v, A, n, c, rfl, hin.keep _ _ fun g hg hlt => ⟨h3.block g hlt (by simp; omega), by omega⟩, (bin_ne hb hz).keep fun g hg hlt => ⟨h3.block g hlt (by simpa using hg.2), trivial⟩, ?_⟩
  exact (((below_new w o).alloc (by simp) o').trans (ho.below (B := w.heap.size) (by simp; omega) (by simp))).trans (h3.below (by omega) (by simp))
theorem first_fail {w w2 w3 : World} {A : Option Addr} {n c : Nat} {o o' : Obj} (ho : Only [w.heap.size + 1] ((w.alloc o).alloc o') w2) (h3 : Only [w.heap.size] w2 w3) : FirstErr w (.returned (.tuple #[.agg #[.int .i64 0, .int .i64 0, .slice none 0 0, .slice none 0 0], .slice A n c, .int .i64 3])) w3 := by
  have hs := ho.size
  simp only [World.size_alloc] at hs
  exact ⟨A, n, c, rfl, (((below_new w o).alloc (by simp) o').trans (ho.below (B := w.heap.size) (by simp; omega) (by simp))).trans (h3.below (by omega) (by simp))⟩
set_option maxRecDepth 100000 in
set_option maxHeartbeats 1000000 in
theorem first_ok (w : World) (Q : Nat → Prop) (A : Option Addr) (n c : Nat) (t : T) (r : List UInt8) (h : BIn w Q A n c (t.enc ++ r)) (hok : t.ok) (hr : t.anyB = false) (hd : t.dep ≤ 8) (hlen : (t.enc ++ r).length ≤ 131072) :
    Calls Tryd.prog 29 #[.slice A n c] w (FirstPost t r w) := by
  have hn : n ≤ 131072 := by have := h.len; omega
  have HST := Lib.hid (first_start h (.cells #[.int .i64 0, .int .i64 0, .slice none 0 0, .slice none 0 0] 26))
  have HV := Lib.hid (And.intro (value_ok _ t (Nat.lt_succ_self _) hok hr) (And.intro hd hlen))
  clear h hok hr hd hlen
  go_enter Tryd.func29, Tryd.ntmps29
  go_wp2_with fail
  refine (HV.out.1 _ (w.heap.size + 1) 0 r (by omega) (by have := HV.out.2.1; omega) HST.out (by have := HV.out.2.2; omega)).mono ?_
  rintro e w2 ⟨v2, rfl, hin2, hrd2, ho2⟩
  obtain ⟨k', n', b', l'⟩ := t
  obtain ⟨A2, nb2, cb2, L2, nl2, cl2, xs2, rfl, _, _⟩ := hin2.open_
  have hrd3 := hrd2
  obtain ⟨A3, n3, c3, hbk, hb3⟩ := hrd3
  have c0 := hbk.cell 0
  simp only [List.getElem?_cons_zero] at c0
  have hz : Blk w2 w.heap.size 26 [.int .i64 0, .int .i64 0, .slice none 0 0, .slice none 0 0] := ((Blk.new w 26 [.int .i64 0, .int .i64 0, .slice none 0 0, .slice none 0 0]).alloc _).only ho2 (by simp)
  have H2 := Lib.hid (And.intro hin2 (And.intro hb3 (And.intro hz ho2)))
  have hs2 := ho2.size
  simp only [World.size_alloc] at hs2
  have hdist : w.heap.size ≠ w2.heap.size := by omega
  have hfx := first_cells hz hbk [.int .i64 k', .int .i64 n', .slice A2 nb2 cb2, .slice L2 nl2 cl2]
  obtain ⟨z0, z1, z2, z3, y0, y1, y2, y3, q0⟩ := hfx
  clear hin2 hrd2 hbk hb3 ho2 hz c0
  go_wp2_with fail
  go_region
  all_goals go_wp2_with fail
  all_goals (refine bodyPost_ret (v := .tuple #[.agg #[.int .i64 k', .int .i64 n', .slice A2 nb2 cb2, .slice L2 nl2 cl2], .slice A3 n3 c3, .int .i64 0]) (by simp [results, Tryd.results29, go_sem, z0, z1, z2, z3]) rfl ?_)
  exact first_end H2.out.1 H2.out.2.1 H2.out.2.2.1 H2.out.2.2.2 (by repeat (first | exact Only.refl _ _ | refine Only.drew ?_ | refine Only.setCell ?_ (.inl (by simp)) _ | refine Only.alloc ?_ _))


set_option maxRecDepth 100000 in
set_option maxHeartbeats 1000000 in
theorem first_form (w : World) (Q : Nat → Prop) (A : Option Addr) (n c : Nat) (d r : List UInt8) (h : BIn w Q A n c (105 :: (d ++ 59 :: r))) (hsg : Signs d (59 :: r)) (hpl : plainB d = false) (hlen : (105 :: (d ++ 59 :: r)).length ≤ 131072) :
    Calls Tryd.prog 29 #[.slice A n c] w (FirstErr w) := by
  have hn : n ≤ 131072 := by have := h.len; omega
  have HST := Lib.hid (first_start h (.cells #[.int .i64 0, .int .i64 0, .slice none 0 0, .slice none 0 0] 26))
  have HV := Lib.hid (And.intro hsg hpl)
  have hlen2 : d.length + r.length ≤ 900000 := by simp at hlen; omega
  clear h hsg hpl hlen
  go_enter Tryd.func29, Tryd.ntmps29
  go_wp2_with fail
  refine (value_form _ (w.heap.size + 1) 0 d r HST.out HV.out.1 HV.out.2 hlen2).mono ?_
  rintro e w2 ⟨rfl, ho2, bs, op, hrd2⟩
  obtain ⟨A3, n3, c3, hbk, hb3⟩ := hrd2
  have hz : Blk w2 w.heap.size 26 [.int .i64 0, .int .i64 0, .slice none 0 0, .slice none 0 0] := ((Blk.new w 26 [.int .i64 0, .int .i64 0, .slice none 0 0, .slice none 0 0]).alloc _).only ho2 (by simp)
  have H2 := Lib.hid ho2
  have hs2 := ho2.size
  simp only [World.size_alloc] at hs2
  have hdist : w.heap.size ≠ w2.heap.size := by omega
  have hfx := first_cells hz hbk [.int .i64 0, .int .i64 0, .slice none 0 0, .slice none 0 0]
  obtain ⟨z0, z1, z2, z3, y0, y1, y2, y3, q0⟩ := hfx
  clear hbk hb3 ho2 hz
  go_wp2_with fail
  go_region
  all_goals go_wp2_with fail
  all_goals (refine bodyPost_ret (v := .tuple #[.agg #[.int .i64 0, .int .i64 0, .slice none 0 0, .slice none 0 0], .slice A3 n3 c3, .int .i64 3]) (by simp [results, Tryd.results29, go_sem, z0, z1, z2, z3]) rfl ?_)
  exact first_fail H2.out (by repeat (first | exact Only.refl _ _ | refine Only.drew ?_ | refine Only.setCell ?_ (.inl (by simp)) _ | refine Only.alloc ?_ _))

theorem dec_below {w w2 w3 : World} {o : Obj} (hb : Below (w.heap.size + 1) (w.alloc o) w2) (h3 : Only [w.heap.size] w2 w3) : Below w.heap.size w w3 := by
  have hs := hb.size
  simp only [World.size_alloc] at hs
  exact ((below_new w o).trans (hb.mono (Nat.le_succ _))).trans (h3.below (by omega) (by simp))
/-- What Decode leaves of a right value's bytes. -/
def DecPost (t : T) (w : World) (e : Ending) (w' : World) : Prop := ∃ v', e = .returned (.tuple #[v', .int .i64 0]) ∧ In w' (fun g => w.heap.size ≤ g) t v' ∧ Below w.heap.size w w'
theorem dec_end {w w2 w3 : World} {t : T} {v : Value} {o : Obj} (hin : In w2 (fun g => (w.alloc o).heap.size ≤ g) t v) (hb : Below (w.heap.size + 1) (w.alloc o) w2) (h3 : Only [w.heap.size] w2 w3) : DecPost t w (.returned (.tuple #[v, .int .i64 0])) w3 := by
  simp only [World.size_alloc] at hin
  exact ⟨v, rfl, hin.keep _ _ fun g hg hlt => ⟨h3.block g hlt (by simp; omega), by omega⟩, dec_below hb h3⟩
theorem box_fields {w w2 : World} (hb : Below w.heap.size.succ (w.alloc (.cells #[.int .i64 0, .int .i64 0, .slice none 0 0, .slice none 0 0] 26)) w2) (cs : List Value) :
    (w2.alloc (.cells cs.toArray 26)).cell? ⟨w.heap.size, 0, none⟩ = some (.int .i64 0) ∧ (w2.alloc (.cells cs.toArray 26)).cell? ⟨w.heap.size, 1, none⟩ = some (.int .i64 0) ∧ (w2.alloc (.cells cs.toArray 26)).cell? ⟨w.heap.size, 2, none⟩ = some (.slice none 0 0) ∧ (w2.alloc (.cells cs.toArray 26)).cell? ⟨w.heap.size, 3, none⟩ = some (.slice none 0 0) ∧
      (w2.alloc (.cells cs.toArray 26)).frozen? ⟨w.heap.size, 0, none⟩ = false ∧ (w2.alloc (.cells cs.toArray 26)).frozen? ⟨w.heap.size, 1, none⟩ = false ∧ (w2.alloc (.cells cs.toArray 26)).frozen? ⟨w.heap.size, 2, none⟩ = false ∧ (w2.alloc (.cells cs.toArray 26)).frozen? ⟨w.heap.size, 3, none⟩ = false :=
  have h := (Blk.new w 26 [.int .i64 0, .int .i64 0, .slice none 0 0, .slice none 0 0]).below hb (Nat.lt_succ_self _) |>.alloc (.cells cs.toArray 26)
  ⟨h.cell 0, h.cell 1, h.cell 2, h.cell 3, h.frozen 0, h.frozen 1, h.frozen 2, h.frozen 3⟩

set_option maxRecDepth 100000 in
theorem decode_ok (w : World) (Q : Nat → Prop) (A : Option Addr) (n c : Nat) (t : T) (h : BIn w Q A n c t.enc) (hok : t.ok) (hr : t.anyB = false) (hd : t.dep ≤ 8) (hlen : t.enc.length ≤ 131072) :
    Calls Tryd.prog 13 #[.slice A n c] w (DecPost t w) := by
  have hb := h.below (below_new w (.cells #[.int .i64 0, .int .i64 0, .slice none 0 0, .slice none 0 0] 26))
  have hf := first_ok _ Q A n c t [] (by rw [List.append_nil]; exact hb) hok hr hd (by rw [List.append_nil]; exact hlen)
  clear h hb hok hr hd hlen
  go_enter Tryd.func13, Tryd.ntmps13
  go_wp2_with fail
  refine hf.mono ?_
  clear hf
  rintro e w2 ⟨v2, A2, n2, c2, rfl, hin2, hb2, hbel2⟩
  obtain ⟨k', n', b', l'⟩ := t
  obtain ⟨A3, nb3, cb3, L3, nl3, cl3, xs3, rfl, _, _⟩ := hin2.open_
  have hn2 : n2 = 0 := by have := hb2.len; simpa using this.symm
  subst hn2
  rw [World.size_alloc] at hbel2
  obtain ⟨z0, z1, z2, z3, y0, y1, y2, y3⟩ := box_fields hbel2 [.int .i64 k', .int .i64 n', .slice A3 nb3 cb3, .slice L3 nl3 cl3]
  have hs2 := hbel2.size
  simp only [World.size_alloc] at hs2
  have hdist : w.heap.size ≠ w2.heap.size := by omega
  have H2 := Lib.hid (And.intro hin2 hbel2)
  clear hin2 hb2 hbel2
  go_wp2_with fail
  refine bodyPost_ret (v := .tuple #[.agg #[.int .i64 k', .int .i64 n', .slice A3 nb3 cb3, .slice L3 nl3 cl3], .int .i64 0]) (by simp [results, Tryd.results13, go_sem, z0, z1, z2, z3]) rfl ?_
  exact dec_end H2.out.1 H2.out.2 (by repeat (first | exact Only.refl _ _ | refine Only.drew ?_ | refine Only.setCell ?_ (.inl (by simp)) _ | refine Only.alloc ?_ _))

set_option maxRecDepth 100000 in
theorem decode_form (w : World) (Q : Nat → Prop) (A : Option Addr) (n c : Nat) (d r : List UInt8) (h : BIn w Q A n c (105 :: (d ++ 59 :: r))) (hsg : Signs d (59 :: r)) (hpl : plainB d = false) (hlen : (105 :: (d ++ 59 :: r)).length ≤ 131072) :
    Calls Tryd.prog 13 #[.slice A n c] w fun e w' => e = .returned (.tuple #[.agg #[.int .i64 0, .int .i64 0, .slice none 0 0, .slice none 0 0], .int .i64 3]) ∧ Below w.heap.size w w' := by
  have hb := h.below (below_new w (.cells #[.int .i64 0, .int .i64 0, .slice none 0 0, .slice none 0 0] 26))
  have hf := first_form _ Q A n c d r hb hsg hpl hlen
  clear h hb hsg hpl hlen
  go_enter Tryd.func13, Tryd.ntmps13
  go_wp2_with fail
  refine hf.mono ?_
  clear hf
  rintro e w2 ⟨A2, n2, c2, rfl, hbel2⟩
  rw [World.size_alloc] at hbel2
  obtain ⟨z0, z1, z2, z3, y0, y1, y2, y3⟩ := box_fields hbel2 [.int .i64 0, .int .i64 0, .slice none 0 0, .slice none 0 0]
  have hs2 := hbel2.size
  simp only [World.size_alloc] at hs2
  have hdist : w.heap.size ≠ w2.heap.size := by omega
  have H2 := Lib.hid hbel2
  clear hbel2
  go_wp2_with fail
  refine bodyPost_ret (v := .tuple #[.agg #[.int .i64 0, .int .i64 0, .slice none 0 0, .slice none 0 0], .int .i64 3]) (by simp [results, Tryd.results13, go_sem, z0, z1, z2, z3]) rfl ⟨rfl, ?_⟩
  exact dec_below H2.out (by repeat (first | exact Only.refl _ _ | refine Only.drew ?_ | refine Only.setCell ?_ (.inl (by simp)) _ | refine Only.alloc ?_ _))

/-- bytes.Clone of bytes in memory. -/
theorem clone_any (w : World) (Q : Nat → Prop) (A : Option Addr) (n c : Nat) (b : List UInt8) (h : BIn w Q A n c b) (hn : n ≤ 1000000) : Calls Tryd.prog 32 #[.slice A n c] w fun e w' => ∃ A' c', e = .returned (.slice A' b.length c') ∧ BIn w' (fun g => w.heap.size ≤ g) A' b.length c' b ∧ Below w.heap.size w w' := by
  cases A with
  | none =>
    obtain ⟨rfl, rfl⟩ := h.nil rfl
    obtain rfl := List.eq_nil_of_length_eq_zero h.len
    exact (Tryd.bytes_Clone_nil 0 0 w).mono fun e w' ⟨he, hw⟩ => ⟨none, 0, he, BIn.none _ _, by subst hw; exact Below.refl _ _⟩
  | some a =>
    have hbi := bytes_in h
    refine (Tryd.bytes_Clone_at a n c (b.map fun x => (x.toNat : Int)) w (by rw [List.length_map]; exact h.len) (by omega) ?_).mono ?_
    · intro i hi
      obtain ⟨g, o, hA, hc⟩ := hbi (by omega)
      cases hA
      rw [add_off]
      exact hc i hi
    · rintro e w' ⟨v', rfl, ho, _, hb⟩
      have hcells : (b.map fun x => (x.toNat : Int)).map (Value.int .u8) = Lib.byteCells b := by simp [Lib.byteCells]
      rw [hcells, ← h.len] at ho
      obtain ⟨A', c', rfl, hb'⟩ := own_bin ho
      exact ⟨A', c', rfl, hb', hb⟩

end Go.Proofs.YtodpojbgkeecnaaDoor
