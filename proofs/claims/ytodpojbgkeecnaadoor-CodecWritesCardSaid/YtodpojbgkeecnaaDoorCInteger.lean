/-
  plain, integer, number: a numeral that is read. Conditions: the reader's block is known, its bytes lie in blocks below it; the library's table is as laid.
-/
import Derived.Test.YtodpojbgkeecnaaDoorCPure
import Derived.Test.YtodpojbgkeecnaaDoorCCheck
set_option linter.unusedSimpArgs false
set_option linter.unusedVariables false
namespace Go.Proofs.YtodpojbgkeecnaaDoor
open Go.RowKit

set_option maxRecDepth 100000 in
theorem plain_any (w : World) (d : List UInt8) : Calls Tryd.prog 54 #[.string ⟨d.toArray⟩] w fun e w' => e = .returned (.bool (plainB d)) ∧ w = w' := by
  obtain ⟨z, hz⟩ : ∃ z, z = plainB d := ⟨_, rfl⟩
  rw [← hz]
  unfold plainB at hz
  cases hd : Lib.trimPrefix d [45] with
  | nil =>
    rw [hd] at hz
    have HD := Lib.hid hd
    subst hz
    clear hd
    go_enter Tryd.func54, Tryd.ntmps54
    go_wp2_with fail
    refine (Tryd.strings_TrimPrefix ⟨d.toArray⟩ ⟨#[45]⟩ w).mono ?_
    rintro e w' ⟨rfl, rfl⟩
    rw [show Lib.trimPrefix (ByteArray.mk d.toArray).data.toList (ByteArray.mk #[45]).data.toList = [] from HD.out]
    go_wp2_with fail
    go_ret
    exact ⟨rfl, rfl⟩
  | cons x r =>
    rw [hd] at hz
    simp only at hz
    have HD := Lib.hid hd
    have HZ := Lib.hid hz
    clear hd hz
    by_cases hx : x = 48
    · subst hx
      by_cases h48 : d = [48]
      · subst h48
        go_enter Tryd.func54, Tryd.ntmps54
        go_wp2_with fail
        refine (Tryd.strings_TrimPrefix ⟨#[48]⟩ ⟨#[45]⟩ w).mono ?_
        rintro e w' ⟨rfl, rfl⟩
        rw [show Lib.trimPrefix (ByteArray.mk #[48]).data.toList (ByteArray.mk #[45]).data.toList = 48 :: r from HD.out]
        go_wp2_with fail
        go_ret
        exact ⟨by rw [HZ.out]; rfl, rfl⟩
      · clear h48
        have hx2 : ((((⟨((48 : UInt8) :: r).toArray⟩ : ByteArray)[0]'(by simp [ByteArray.size])).toNat : Int) == 48) = true := rfl
        go_enter Tryd.func54, Tryd.ntmps54
        go_wp2_with fail
        refine (Tryd.strings_TrimPrefix ⟨d.toArray⟩ ⟨#[45]⟩ w).mono ?_
        rintro e w' ⟨rfl, rfl⟩
        rw [show Lib.trimPrefix (ByteArray.mk d.toArray).data.toList (ByteArray.mk #[45]).data.toList = 48 :: r from HD.out]
        go_wp2_with fail
        go_ret
        have hz2 : z = (d == [48]) := by rw [HZ.out, Bool.eq_iff_iff]; simp
        exact ⟨by rw [hz2]; rfl, rfl⟩
    · have hx2 : ((((⟨(x :: r).toArray⟩ : ByteArray)[0]'(by simp [ByteArray.size])).toNat : Int) == 48) = false := by
        show ((x.toNat : Int) == 48) = false
        rw [beq_eq_false_iff_ne]
        intro e
        apply hx
        apply UInt8.toNat_inj.1
        have : ((48 : UInt8).toNat : Int) = 48 := rfl
        omega
      have HX := Lib.hid hx
      clear hx
      go_enter Tryd.func54, Tryd.ntmps54
      go_wp2_with fail
      refine (Tryd.strings_TrimPrefix ⟨d.toArray⟩ ⟨#[45]⟩ w).mono ?_
      rintro e w' ⟨rfl, rfl⟩
      rw [show Lib.trimPrefix (ByteArray.mk d.toArray).data.toList (ByteArray.mk #[45]).data.toList = x :: r from HD.out]
      go_wp2_with fail
      go_ret
      exact ⟨by rw [HZ.out, if_neg HX.out]; rfl, rfl⟩


set_option maxRecDepth 100000 in
/-- integer, where what is read is a numeral written the one way, and the sign behind it is right. -/
theorem integer_ok (w : World) (R : Nat) (op : Int) (m : Int) (c : UInt8) (r : List UInt8) (h : IsRd w R op (Lib.itoa m ++ c :: r)) (hm : -9223372036854775808 ≤ m ∧ m ≤ 9223372036854775807) (hc : isD c = false) (s : Int) (hs : (c.toNat : Int) = s) (hr : r.length ≤ 900000) :
    Calls Tryd.prog 48 #[.pointer (some ⟨R, 0, none⟩), .int .u8 s] w fun e w' => e = .returned (.tuple #[.int .i64 m, .int .i64 0]) ∧ IsRd w' R op r ∧ Only [R] w w' := by
  have hil := Lib.itoa_length_le m hm.1 hm.2
  have hsg := signs_itoa m c r hc
  have hat := atoi_itoa m hm.1 hm.2
  have hpl := plain_itoa m
  have hsz : (ByteArray.mk (Lib.itoa m).toArray).size ≤ 21 := by simpa [ByteArray.size] using hil
  obtain ⟨d, hd⟩ : ∃ d, d = Lib.itoa m := ⟨_, rfl⟩
  rw [← hd] at h hil hsg hat hpl hsz
  have H := Lib.hid h
  have HS := Lib.hid hsg
  have HA := Lib.hid hat
  have HP := Lib.hid hpl
  have HCS := Lib.hid hs
  clear h hsg hat hpl hd hs
  go_enter Tryd.func48, Tryd.ntmps48
  go_wp2_with fail
  refine (numeral_any w R op d (c :: r) H.out HS.out (by simp; omega)).mono ?_
  rintro e w2 ⟨rfl, h2, ho2⟩
  have H2 := Lib.hid (And.intro h2 ho2)
  clear h2 ho2
  go_wp2_with fail
  refine (ended_any w2 R op _ H2.out.1).mono ?_
  rintro e w3 ⟨rfl, rfl⟩
  simp only [List.isEmpty_cons]
  go_wp2_with fail
  refine (take_yes w2 R op c r H2.out.1 s HCS.out).mono ?_
  rintro e w4 ⟨rfl, h4, ho4⟩
  have H4 := Lib.hid (And.intro h4 (H2.out.2.trans ho4))
  clear h4 ho4
  go_wp2_with fail
  refine (plain_any w4 d).mono ?_
  rintro e w5 ⟨rfl, rfl⟩
  rw [HP.out]
  go_wp2_with fail
  refine (Tryd.strconv_Atoi_ok ⟨d.toArray⟩ (by omega) m HA.out w4).mono ?_
  rintro e w6 ⟨rfl, hw6⟩
  have hb6 : Below w4.heap.size w4 w6 := by
    rcases hw6 with rfl | ⟨t, rfl⟩
    · exact Below.refl _ _
    · exact ⟨rfl, rfl, rfl, by rw [Lib.bytesWorld_size]; omega, fun j hj => Lib.bytesWorld_at_old w4 5 t j hj⟩
  have H6 := Lib.hid (And.intro (H4.out.1.below hb6) (H4.out.2.trans (Only.of_below hb6)))
  clear hw6 hb6
  go_wp2_with fail
  go_ret2
  exact ⟨rfl, H6.out.1, H6.out.2⟩

set_option maxRecDepth 100000 in
/-- integer, where what is read isn't written the one way. -/
theorem integer_form (w : World) (R : Nat) (op : Int) (d : List UInt8) (c : UInt8) (r : List UInt8) (h : IsRd w R op (d ++ c :: r)) (hsg : Signs d (c :: r)) (hpl : plainB d = false) (s : Int) (hs : (c.toNat : Int) = s) (hr : d.length + r.length ≤ 900000) :
    Calls Tryd.prog 48 #[.pointer (some ⟨R, 0, none⟩), .int .u8 s] w fun e w' => e = .returned (.tuple #[.int .i64 0, .int .i64 3]) ∧ IsRd w' R op r ∧ Only [R] w w' := by
  have H := Lib.hid h
  have HS := Lib.hid hsg
  have HP := Lib.hid hpl
  have HCS := Lib.hid hs
  clear h hsg hpl hs
  go_enter Tryd.func48, Tryd.ntmps48
  go_wp2_with fail
  refine (numeral_any w R op d (c :: r) H.out HS.out (by simp; omega)).mono ?_
  rintro e w2 ⟨rfl, h2, ho2⟩
  have H2 := Lib.hid (And.intro h2 ho2)
  clear h2 ho2
  go_wp2_with fail
  refine (ended_any w2 R op _ H2.out.1).mono ?_
  rintro e w3 ⟨rfl, rfl⟩
  simp only [List.isEmpty_cons]
  go_wp2_with fail
  refine (take_yes w2 R op c r H2.out.1 s HCS.out).mono ?_
  rintro e w4 ⟨rfl, h4, ho4⟩
  have H4 := Lib.hid (And.intro h4 (H2.out.2.trans ho4))
  clear h4 ho4
  go_wp2_with fail
  refine (plain_any w4 d).mono ?_
  rintro e w5 ⟨rfl, rfl⟩
  rw [HP.out]
  go_wp2_with fail
  go_ret2
  exact ⟨rfl, H4.out.1, H4.out.2⟩


/-- What a reading leaves: the value in new memory, the reader behind it. -/
def ReadPost (t : T) (R : Nat) (op : Int) (r : List UInt8) (w : World) (e : Ending) (w' : World) : Prop := ∃ v', e = .returned (.tuple #[v', .int .i64 0]) ∧ In w' (fun g => w.heap.size ≤ g) t v' ∧ IsRd w' R op r ∧ Only [R] w w'
/-- What a reading leaves that finds a fault. -/
def ErrPost (R : Nat) (x : Int) (w : World) (e : Ending) (w' : World) : Prop := e = .returned (.tuple #[.agg #[.int .i64 0, .int .i64 0, .slice none 0 0, .slice none 0 0], .int .i64 x]) ∧ Only [R] w w' ∧ ∃ bs op, IsRd w' R op bs
theorem z_cells {w w2 : World} {S : List Nat} (ho : Only S (w.alloc (.cells #[.int .i64 0, .int .i64 0, .slice none 0 0, .slice none 0 0] 26)) w2) (hS : w.heap.size ∉ S) :
    Blk w2 w.heap.size 26 [.int .i64 0, .int .i64 0, .slice none 0 0, .slice none 0 0] ∧ w2.cell? ⟨w.heap.size, 0, none⟩ = some (.int .i64 0) ∧ w2.cell? ⟨w.heap.size, 1, none⟩ = some (.int .i64 0) ∧ w2.cell? ⟨w.heap.size, 2, none⟩ = some (.slice none 0 0) ∧ w2.cell? ⟨w.heap.size, 3, none⟩ = some (.slice none 0 0) ∧
      w2.frozen? ⟨w.heap.size, 0, none⟩ = false ∧ w2.frozen? ⟨w.heap.size, 1, none⟩ = false ∧ w2.frozen? ⟨w.heap.size, 2, none⟩ = false ∧ w2.frozen? ⟨w.heap.size, 3, none⟩ = false :=
  have h := (Blk.new w 26 [.int .i64 0, .int .i64 0, .slice none 0 0, .slice none 0 0]).only ho hS
  ⟨h, h.cell 0, h.cell 1, h.cell 2, h.cell 3, h.frozen 0, h.frozen 1, h.frozen 2, h.frozen 3⟩
/-- The four cells of a result are stored. -/
def put4 (w : World) (g : Nat) (c0 c1 c2 c3 : Value) : World := (((w.setCell ⟨g, 0, none⟩ c0).setCell ⟨g, 1, none⟩ c1).setCell ⟨g, 2, none⟩ c2).setCell ⟨g, 3, none⟩ c3
theorem put4_only (w : World) (g : Nat) (c0 c1 c2 c3 : Value) : Only [g] w (put4 w g c0 c1 c2 c3) := (((((Only.refl _ _).setCell (.inl (by simp)) _).setCell (.inl (by simp)) _).setCell (.inl (by simp)) _).setCell (.inl (by simp)) _)
theorem IsRd.only {w w' : World} {R : Nat} {op : Int} {bs : List UInt8} {S : List Nat} (h : IsRd w R op bs) (ho : Only S w w') (hS : ∀ g, g ≤ R → g ∉ S) : IsRd w' R op bs := by
  obtain ⟨A, n, c, h1, h2⟩ := h
  exact ⟨A, n, c, h1.only ho (hS R (Nat.le_refl _)), h2.keep fun g hg hlt => ⟨ho.block g hlt (hS g (by omega)), hg⟩⟩

theorem put_only {w w2 : World} {R : Nat} {c0 c1 c2 c3 : Value} {o : Obj} (ho : Only [R] (w.alloc o) w2) : Only [R] w ((((w2.setCell ⟨w.heap.size, 0, none⟩ c0).setCell ⟨w.heap.size, 1, none⟩ c1).setCell ⟨w.heap.size, 2, none⟩ c2).setCell ⟨w.heap.size, 3, none⟩ c3) :=
  (((((Only.refl [R] w).alloc o).trans ho).setCell (.inr (Nat.le_refl _)) _).setCell (.inr (Nat.le_refl _)) _).setCell (.inr (Nat.le_refl _)) _ |>.setCell (.inr (Nat.le_refl _)) _
theorem err_end {w w2 : World} {R : Nat} {op x : Int} {bs : List UInt8} {c0 c1 c2 c3 : Value} {o : Obj} (h2 : IsRd w2 R op bs) (ho : Only [R] (w.alloc o) w2) (hR : R < w.heap.size) :
    ErrPost R x w (.returned (.tuple #[.agg #[.int .i64 0, .int .i64 0, .slice none 0 0, .slice none 0 0], .int .i64 x])) ((((w2.setCell ⟨w.heap.size, 0, none⟩ c0).setCell ⟨w.heap.size, 1, none⟩ c1).setCell ⟨w.heap.size, 2, none⟩ c2).setCell ⟨w.heap.size, 3, none⟩ c3) :=
  ⟨rfl, put_only ho, bs, op, h2.only (put4_only w2 w.heap.size c0 c1 c2 c3) (fun g hg => by simp; omega)⟩
theorem read_end {t : T} {w w2 : World} {R : Nat} {op : Int} {bs : List UInt8} {c0 c1 c2 c3 d0 d1 d2 d3 : Value} {o : Obj} (hin : In w2 (fun g => w.heap.size < g) t (.agg #[c0, c1, c2, c3])) (h2 : IsRd w2 R op bs) (ho : Only [R] (w.alloc o) w2) (hR : R < w.heap.size) :
    ReadPost t R op bs w (.returned (.tuple #[.agg #[c0, c1, c2, c3], .int .i64 0])) ((((w2.setCell ⟨w.heap.size, 0, none⟩ d0).setCell ⟨w.heap.size, 1, none⟩ d1).setCell ⟨w.heap.size, 2, none⟩ d2).setCell ⟨w.heap.size, 3, none⟩ d3) :=
  ⟨_, rfl, hin.keep _ _ fun g hg hlt => ⟨(put4_only w2 w.heap.size d0 d1 d2 d3).block g hlt (by simp; omega), by omega⟩, h2.only (put4_only w2 w.heap.size d0 d1 d2 d3) (fun g hg => by simp; omega), put_only ho⟩

set_option maxRecDepth 100000 in
theorem number_form (w : World) (R : Nat) (op : Int) (d : List UInt8) (r : List UInt8) (h : IsRd w R op (d ++ 59 :: r)) (hsg : Signs d (59 :: r)) (hpl : plainB d = false) (hr : d.length + r.length ≤ 900000) :
    Calls Tryd.prog 41 #[.pointer (some ⟨R, 0, none⟩)] w (ErrPost R 3 w) := by
  have hR := h.lt
  have H := Lib.hid (h.below (below_new w (.cells #[.int .i64 0, .int .i64 0, .slice none 0 0, .slice none 0 0] 26)))
  have HS := Lib.hid hsg
  have HP := Lib.hid hpl
  clear h hsg hpl
  go_enter Tryd.func41, Tryd.ntmps41
  go_wp2_with fail
  refine (integer_form _ R op d 59 r H.out HS.out HP.out 59 rfl hr).mono ?_
  rintro e w2 ⟨rfl, h2, ho2⟩
  obtain ⟨hz, z0, z1, z2, z3, y0, y1, y2, y3⟩ := z_cells ho2 (by simp; omega)
  have H2 := Lib.hid (And.intro h2 ho2)
  clear h2 ho2 hz
  go_wp2_with fail
  refine bodyPost_ret (v := .tuple #[.agg #[.int .i64 0, .int .i64 0, .slice none 0 0, .slice none 0 0], .int .i64 3]) (by simp [results, Tryd.results41, go_sem, z0, z1, z2, z3]) rfl ?_
  exact err_end H2.out.1 H2.out.2 hR

set_option maxRecDepth 100000 in
theorem number_ok (w : World) (R : Nat) (op : Int) (m : Int) (r : List UInt8) (h : IsRd w R op (Lib.itoa m ++ 59 :: r)) (hm : -9223372036854775808 ≤ m ∧ m ≤ 9223372036854775807) (hr : r.length ≤ 900000) :
    Calls Tryd.prog 41 #[.pointer (some ⟨R, 0, none⟩)] w (ReadPost (.mk 0 m [] []) R op r w) := by
  have hR := h.lt
  have H := Lib.hid (h.below (below_new w (.cells #[.int .i64 0, .int .i64 0, .slice none 0 0, .slice none 0 0] 26)))
  clear h
  go_enter Tryd.func41, Tryd.ntmps41
  go_wp2_with fail
  refine (integer_ok _ R op m 59 r H.out hm (by decide) 59 rfl hr).mono ?_
  rintro e w2 ⟨rfl, h2, ho2⟩
  have H2 := Lib.hid (And.intro h2 ho2)
  clear h2 ho2
  go_wp2_with fail
  refine (int_any _ m).mono ?_
  rintro e w3 ⟨rfl, hb3⟩
  obtain ⟨hz, z0, z1, z2, z3, y0, y1, y2, y3⟩ := z_cells (H2.out.2.trans (Only.of_below hb3)) (by simp; omega)
  have H3 := Lib.hid hb3
  clear hb3 hz
  go_wp2_with fail
  refine bodyPost_ret (v := .tuple #[.agg #[.int .i64 0, .int .i64 m, .slice none 0 0, .slice none 0 0], .int .i64 0]) (by simp [results, Tryd.results41, go_sem, z0, z1, z2, z3]) rfl ?_
  exact read_end (In.int w3 _ m) (H2.out.1.below H3.out) (H2.out.2.trans (Only.of_below H3.out)) hR

end Go.Proofs.YtodpojbgkeecnaaDoor
