/-
  A nil store has nothing: the law's walk. Conditions: the signs lie in their variable; the revisions lie in memory.
-/
import Derived.Test.YtmdiajmjmkmnoaaGreatDoorSTo
import Derived.Test.YtmdiajmjmkmnoaaGreatDoorSConn
set_option linter.unusedSimpArgs false
set_option linter.unusedVariables false
set_option maxRecDepth 100000
namespace Go.Proofs.YtmdiajmjmkmnoaaGreatDoor
open Go.RowKit

theorem tof_nil (w : World) (s : ByteArray) : Calls Tryz.prog 15 #[.pointer none, .string s] w fun e w' => e = .returned (.tuple #[.pointer none, .int .i64 16]) ∧ w' = w := by
  go_enter Tryz.func15, Tryz.ntmps15
  go_wp2_with fail
  go_ret2
  exact ⟨rfl, rfl⟩
theorem sof_nil (w : World) : Calls Tryz.prog 4 #[.pointer none] w fun e w' => e = .returned (.tuple #[.pointer none, .int .i64 16]) ∧ w' = w := by
  go_enter Tryz.func4, Tryz.ntmps4
  go_wp2_with (go_at_call 15; refine (tof_nil _ _).mono ?_; rintro e w' ⟨rfl, rfl⟩)
  go_ret2
  exact ⟨rfl, rfl⟩
theorem package_nil (w : World) (s : ByteArray) : Calls Tryz.prog 5 #[.pointer none, .string s] w fun e w' => e = .returned (.tuple #[pkV ⟨#[]⟩ ⟨#[]⟩ 0 none 0 0, .int .i64 16]) ∧ Below w.heap.size w w' := by
  go_enter Tryz.func5, Tryz.ntmps5
  go_wp2_with fail
  exact bodyPost_ret (v := .tuple #[pkV ⟨#[]⟩ ⟨#[]⟩ 0 none 0 0, .int .i64 16]) (by simp [results, Tryz.results5, go_sem]) rfl ⟨rfl, pnew _ _⟩
theorem drop_nil (w : World) (A : Option Addr) (n c : Nat) : Calls Tryz.prog 6 #[.pointer none, .slice A n c] w fun e w' => e = .returned (.tuple #[.int .i64 0, .int .i64 16]) ∧ w' = w := by
  go_enter Tryz.func6, Tryz.ntmps6
  go_wp2_with fail
  go_ret2
  exact ⟨rfl, rfl⟩
theorem packages_nil (w : World) : Calls Tryz.prog 7 #[.pointer none] w fun e w' => e = .returned (.tuple #[.slice none 0 0, .int .i64 16]) ∧ w' = w := by
  go_enter Tryz.func7, Tryz.ntmps7
  go_wp2_with fail
  go_ret2
  exact ⟨rfl, rfl⟩
theorem conns_nil (w : World) (A : Option Addr) (n c : Nat) : Calls Tryz.prog 8 #[.pointer none, .slice A n c] w fun e w' => e = .returned (.tuple #[.slice none 0 0, .int .i64 16]) ∧ Below w.heap.size w w' := by
  have hB := pnew w (.cells #[.slice A n c] 65)
  go_enter Tryz.func8, Tryz.ntmps8
  go_wp2_with fail
  go_ret2
  exact ⟨rfl, hB⟩
theorem save_nil (w : World) (a b : ByteArray) (x : Int) (A : Option Addr) (n c : Nat) : Calls Tryz.prog 10 #[.pointer none, pkV a b x A n c] w fun e w' => e = .returned (.int .i64 16) ∧ Below w.heap.size w w' := by
  have hB := pnew w (.cells #[.string a, .string b, .int .i64 x, .slice A n c] 34)
  go_enter Tryz.func10, Tryz.ntmps10
  go_wp2_with fail
  go_ret
  exact ⟨rfl, hB⟩
theorem connect_nil (w : World) (a b c d e' : ByteArray) : Calls Tryz.prog 12 #[.pointer none, cnV a b c d e'] w fun e w' => e = .returned (.int .i64 16) ∧ Below w.heap.size w w' := by
  have hB := pnew w (.cells #[.string a, .string b, .string c, .string d, .string e'] 49)
  go_enter Tryz.func12, Tryz.ntmps12
  go_wp2_with fail
  go_ret
  exact ⟨rfl, hB⟩
theorem disconnect_nil (w : World) (a b c d e' : ByteArray) : Calls Tryz.prog 14 #[.pointer none, cnV a b c d e'] w fun e w' => e = .returned (.int .i64 16) ∧ Below w.heap.size w w' := by
  have hB := pnew w (.cells #[.string a, .string b, .string c, .string d, .string e'] 49)
  go_enter Tryz.func14, Tryz.ntmps14
  go_wp2_with fail
  go_ret
  exact ⟨rfl, hB⟩

/-- The two boxes of the law's arguments. -/
structure SBox (w : World) (p q : Nat) (nm pb : ByteArray) (act : Int) (A : Option Addr) (n c : Nat) (pa pn sa sn it : ByteArray) : Prop where
  bp : Blk w p 24 [.string nm, .string pb, .int .i64 act, .slice A n c]
  bc : Blk w q 27 [.string pa, .string pn, .string sa, .string sn, .string it]
theorem SBox.below {w w' : World} {p q : Nat} {nm pb : ByteArray} {act : Int} {A : Option Addr} {n c : Nat} {pa pn sa sn it : ByteArray} (h : SBox w p q nm pb act A n c pa pn sa sn it) (hb : Below w.heap.size w w') : SBox w' p q nm pb act A n c pa pn sa sn it := ⟨h.bp.below hb h.bp.lt, h.bc.below hb h.bc.lt⟩
theorem SBox.cells {w : World} {p q : Nat} {nm pb : ByteArray} {act : Int} {A : Option Addr} {n c : Nat} {pa pn sa sn it : ByteArray} (h : SBox w p q nm pb act A n c pa pn sa sn it) :
    w.cell? ⟨p, 0, none⟩ = some (.string nm) ∧ w.cell? ⟨p, 1, none⟩ = some (.string pb) ∧ w.cell? ⟨p, 2, none⟩ = some (.int .i64 act) ∧ w.cell? ⟨p, 3, none⟩ = some (.slice A n c) ∧
    w.cell? ⟨q, 0, none⟩ = some (.string pa) ∧ w.cell? ⟨q, 1, none⟩ = some (.string pn) ∧ w.cell? ⟨q, 2, none⟩ = some (.string sa) ∧ w.cell? ⟨q, 3, none⟩ = some (.string sn) ∧ w.cell? ⟨q, 4, none⟩ = some (.string it) ∧ p < w.heap.size ∧ q < w.heap.size :=
  ⟨h.bp.cell 0, h.bp.cell 1, h.bp.cell 2, h.bp.cell 3, h.bc.cell 0, h.bc.cell 1, h.bc.cell 2, h.bc.cell 3, h.bc.cell 4, h.bp.lt, h.bc.lt⟩

set_option maxHeartbeats 4000000 in
set_option maxRecDepth 100000 in
theorem snil_walk (w : World) (hS : Signs w) (nm pb : ByteArray) (act : Int) (A : Option Addr) (n c : Nat) (rs : List RevR) (hr : RIn w A n c rs) (pa pn sa sn it : ByteArray) :
    Calls Tryz.prog 3 #[pkV nm pb act A n c, cnV pa pn sa sn it] w fun e w' => e = .returned (.bool true) ∧ Below w.heap.size w w' := by
  have hB0 := pthen (pnew w (.cells #[.string nm, .string pb, .int .i64 act, .slice A n c] 24)) (pnew _ (.cells #[.string pa, .string pn, .string sa, .string sn, .string it] 27))
  have hk := (Blk.new w 24 [.string nm, .string pb, .int .i64 act, .slice A n c]).alloc (.cells #[.string pa, .string pn, .string sa, .string sn, .string it] 27)
  have hc := Blk.new (w.alloc (.cells #[.string nm, .string pb, .int .i64 act, .slice A n c] 24)) 27 [.string pa, .string pn, .string sa, .string sn, .string it]
  rw [show (w.alloc (.cells #[.string nm, .string pb, .int .i64 act, .slice A n c] 24)).heap.size = w.heap.size + 1 by simp] at hc
  have hx0 : SBox _ w.heap.size (w.heap.size + 1) nm pb act A n c pa pn sa sn it := ⟨hk, hc⟩
  have HS := Lib.hid hS
  have HR := Lib.hid hr
  have H0 := Lib.hid (And.intro hB0 hx0)
  obtain ⟨c0, c1, c2, c3, q0, q1, q2, q3, q4, lp, lq⟩ := hx0.cells
  clear hS hr hB0 hk hc hx0
  go_enter Tryz.func3, Tryz.ntmps3
  go_wp2_with (go_at_call 4; refine (sof_nil _).mono ?_; rintro e w' ⟨rfl, rfl⟩)
  refine (package_nil _ nm).mono ?_
  rintro e w1 ⟨rfl, h1⟩
  clear c0 c1 c2 c3 q0 q1 q2 q3 q4 lp lq
  have H1 := Lib.hid (And.intro (pthen H0.out.1 h1) (H0.out.2.below h1))
  clear h1
  obtain ⟨c0, c1, c2, c3, q0, q1, q2, q3, q4, lp, lq⟩ := H1.out.2.cells
  go_wp2_with (first
    | (go_at_call 6; refine (drop_nil _ _ _ _).mono ?_; rintro e w' ⟨rfl, rfl⟩)
    | (go_at_call 7; refine (packages_nil _).mono ?_; rintro e w' ⟨rfl, rfl⟩))
  refine (conns_nil _ _ _ _).mono ?_
  rintro e w2 ⟨rfl, h2⟩
  have H2 := Lib.hid (And.intro (pthen H1.out.1 (pthen (pthen (pnew _ _) (pnew _ _)) h2)) (H1.out.2.below (pthen (pthen (pnew _ _) (pnew _ _)) h2)))
  clear c0 c1 c2 c3 q0 q1 q2 q3 q4 lp lq
  clear h2
  obtain ⟨c0, c1, c2, c3, q0, q1, q2, q3, q4, lp, lq⟩ := H2.out.2.cells
  go_wp2_with fail
  refine (sknown_walk _ (HS.out.to H2.out.1)).mono ?_
  rintro e w3 ⟨rfl, h3⟩
  have H3 := Lib.hid (And.intro (pthen H2.out.1 h3) (H2.out.2.below h3))
  clear c0 c1 c2 c3 q0 q1 q2 q3 q4 lp lq
  clear h3
  obtain ⟨c0, c1, c2, c3, q0, q1, q2, q3, q4, lp, lq⟩ := H3.out.2.cells
  go_wp2_with fail
  refine (to10_any _ nm pb act A n c rs (HR.out.below H3.out.1)).mono ?_
  rintro e w4 ⟨A', n', c', rfl, hr4, _, h4⟩
  have H4 := Lib.hid (And.intro (pthen H3.out.1 h4) (H3.out.2.below h4))
  clear c0 c1 c2 c3 q0 q1 q2 q3 q4 lp lq
  clear h4 hr4
  obtain ⟨c0, c1, c2, c3, q0, q1, q2, q3, q4, lp, lq⟩ := H4.out.2.cells
  go_wp2_with fail
  refine (save_nil _ _ _ _ _ _ _).mono ?_
  rintro e w5 ⟨rfl, h5⟩
  have H5 := Lib.hid (And.intro (pthen H4.out.1 h5) (H4.out.2.below h5))
  clear c0 c1 c2 c3 q0 q1 q2 q3 q4 lp lq
  clear h5
  obtain ⟨c0, c1, c2, c3, q0, q1, q2, q3, q4, lp, lq⟩ := H5.out.2.cells
  go_wp2_with fail
  refine (toconn_any _ pa pn sa sn it).mono ?_
  rintro e w6 ⟨rfl, h6⟩
  have H6 := Lib.hid (And.intro (pthen H5.out.1 h6) (H5.out.2.below h6))
  clear c0 c1 c2 c3 q0 q1 q2 q3 q4 lp lq
  clear h6
  obtain ⟨c0, c1, c2, c3, q0, q1, q2, q3, q4, lp, lq⟩ := H6.out.2.cells
  go_wp2_with fail
  refine (connect_nil _ _ _ _ _ _).mono ?_
  rintro e w7 ⟨rfl, h7⟩
  have H7 := Lib.hid (And.intro (pthen H6.out.1 h7) (H6.out.2.below h7))
  clear c0 c1 c2 c3 q0 q1 q2 q3 q4 lp lq
  clear h7
  obtain ⟨c0, c1, c2, c3, q0, q1, q2, q3, q4, lp, lq⟩ := H7.out.2.cells
  go_wp2_with fail
  refine (toconn_any _ pa pn sa sn it).mono ?_
  rintro e w8 ⟨rfl, h8⟩
  have H8 := Lib.hid (And.intro (pthen H7.out.1 h8) (H7.out.2.below h8))
  clear c0 c1 c2 c3 q0 q1 q2 q3 q4 lp lq
  clear h8
  obtain ⟨c0, c1, c2, c3, q0, q1, q2, q3, q4, lp, lq⟩ := H8.out.2.cells
  go_wp2_with fail
  refine (disconnect_nil _ _ _ _ _ _).mono ?_
  rintro e w9 ⟨rfl, h9⟩
  have H9 := Lib.hid (And.intro (pthen H8.out.1 h9) (H8.out.2.below h9))
  clear c0 c1 c2 c3 q0 q1 q2 q3 q4 lp lq
  clear h9
  obtain ⟨c0, c1, c2, c3, q0, q1, q2, q3, q4, lp, lq⟩ := H9.out.2.cells
  go_wp2_with fail
  go_ret
  exact ⟨rfl, H9.out.1⟩
end Go.Proofs.YtmdiajmjmkmnoaaGreatDoor
