/-
  Check, Encode. Conditions: the value reads as a tree of no more than 131072 bytes; the library's table is as laid.
-/
import Derived.Test.YtodpojbgkeecnaaDoorCWrite
import Derived.Test.YtodpojbgkeecnaaDoorCAny
set_option linter.unusedSimpArgs false
set_option linter.unusedVariables false
namespace Go.Proofs.YtodpojbgkeecnaaDoor
open Go.RowKit

/-- What Check answers where the bytes aren't too many. -/
def T.check : T → Int
  | .mk k n b l => if T.strangeB (.mk k n b l) = true then 17 else if 8 < T.dep (.mk k n b l) then 18 else if T.anyAll l = true then 17 else 0

theorem box_later {w w2 : World} {c0 c1 c2 c3 : Value} (hb : Below (w.heap.size + 1) (w.alloc (.cells #[c0, c1, c2, c3] 26)) w2) : Blk w2 w.heap.size 26 [c0, c1, c2, c3] ∧ Below w.heap.size w w2 :=
  ⟨(Blk.new w 26 [c0, c1, c2, c3]).below hb (Nat.lt_succ_self _), ((Below.refl _ _).alloc (Nat.le_refl _) _).trans (hb.mono (Nat.le_succ _))⟩

set_option maxRecDepth 100000 in
set_option maxHeartbeats 1000000 in
theorem check_any (t : T) (hok : t.ok) (hlen : t.enc.length ≤ 131072) (B : Nat) (w : World) (Q : Nat → Prop) (v : Value) (hB : B ≤ w.heap.size) (htab : Tab B w) (hin : In w Q t v) : Calls Tryd.prog 8 #[v] w fun e w' => e = .returned (.int .i64 t.check) ∧ Below w.heap.size w w' := by
  obtain ⟨k, n, b, l⟩ := t
  obtain ⟨A, nb, cb, L, nl, cl, xs, rfl, hb, hl⟩ := hin.open_
  have hnl : nl ≤ 1000000 := by rw [T.ok] at hok; have := hl.len; omega
  have hall : ∀ t ∈ l, AnySays t := fun t ht => any_any _ t (Nat.lt_succ_self _) (by rw [T.ok] at hok; exact T.okAll_mem hok.2.2.2.2 t ht)
  have HIN := Lib.hid hin
  have HOK := Lib.hid hok
  have HL := Lib.hid hl
  have HLEN := Lib.hid hlen
  have HT := Lib.hid htab
  have HAL := Lib.hid hall
  clear hin hok hb hl hlen htab hall
  obtain ⟨z, hz⟩ : ∃ z, z = T.check (.mk k n b l) := ⟨_, rfl⟩
  rw [← hz]
  rw [T.check] at hz
  have HZ := Lib.hid hz
  clear hz
  go_enter Tryd.func8, Tryd.ntmps8
  go_wp2_with fail
  refine (strange_any _ Q _ _ (HIN.out.below ((Below.refl _ _).alloc (Nat.le_refl _) _))).mono ?_
  rintro e w2 ⟨rfl, hb2⟩
  rw [World.size_alloc] at hb2
  obtain ⟨hbox, hbl⟩ := box_later hb2
  have HBX := Lib.hid hbox
  have HBL := Lib.hid hbl
  have e0 := hbox.cell 0
  have e1 := hbox.cell 1
  have e2 := hbox.cell 2
  have e3 := hbox.cell 3
  simp only [List.getElem?_cons_succ, List.getElem?_cons_zero] at e0 e1 e2 e3
  clear hb2 hbox hbl
  cases hs : T.strangeB (.mk k n b l)
  · have HS := Lib.hid hs
    clear hs
    go_wp2_with fail
    refine (Depth_any _ HOK.out _ Q _ (HIN.out.below HBL.out)).mono ?_
    rintro e w3 ⟨rfl, hb3⟩
    have HBX3 := Lib.hid (HBX.out.below hb3 HBX.out.lt)
    have HBL3 := Lib.hid (HBL.out.trans (hb3.mono HBL.out.size))
    clear e0 e1 e2 e3 hb3 HBX HBL
    have e0 := HBX3.out.cell 0
    have e1 := HBX3.out.cell 1
    have e2 := HBX3.out.cell 2
    have e3 := HBX3.out.cell 3
    simp only [List.getElem?_cons_succ, List.getElem?_cons_zero] at e0 e1 e2 e3
    obtain ⟨d, hd⟩ : ∃ d : Int, d = (min (T.dep (.mk k n b l)) 9 : Nat) := ⟨_, rfl⟩
    rw [← hd]
    have HD := Lib.hid hd
    clear hd
    rcases Int.lt_or_le 8 d with hd8 | hd8
    · go_wp2_with fail
      go_ret
      refine ⟨ret_int ?_, HBL3.out⟩
      have h1 := HZ.out
      have h2 := HD.out
      rw [HS.out, if_neg (by simp), if_pos (by omega)] at h1
      exact h1.symm
    · have hd9 : ¬ 8 < d := by omega
      go_wp2_with fail
      refine (contains_any _ Q L nl cl l xs (HL.out.below HBL3.out) hnl HAL.out).mono ?_
      rintro e w4 ⟨rfl, hb4⟩
      have HBX4 := Lib.hid (HBX3.out.below hb4 HBX3.out.lt)
      have HBL4 := Lib.hid (HBL3.out.trans (hb4.mono HBL3.out.size))
      clear e0 e1 e2 e3 hb4 HBX3 HBL3
      have e0 := HBX4.out.cell 0
      have e1 := HBX4.out.cell 1
      have e2 := HBX4.out.cell 2
      have e3 := HBX4.out.cell 3
      simp only [List.getElem?_cons_succ, List.getElem?_cons_zero] at e0 e1 e2 e3
      cases ha : T.anyAll l
      · have HA := Lib.hid ha
        clear ha
        go_wp2_with fail
        refine (size_any _ _ (Nat.lt_succ_self _) HOK.out HLEN.out B _ Q _ (Nat.le_trans hB HBL4.out.size) (HT.out.later hB HBL4.out) (HIN.out.below HBL4.out)).mono ?_
        rintro e w5 ⟨rfl, hb5⟩
        have HBL5 := Lib.hid (HBL4.out.trans (hb5.mono HBL4.out.size))
        clear hb5
        obtain ⟨y, hy⟩ : ∃ y : Int, y = ((T.mk k n b l).enc.length : Nat) := ⟨_, rfl⟩
        rw [← hy]
        have hy2 : ¬ 131072 < y := by have := HLEN.out; omega
        clear hy
        go_wp2_with fail
        go_ret
        refine ⟨ret_int ?_, HBL5.out⟩
        have h1 := HZ.out
        have h2 := HD.out
        rw [HS.out, HA.out, if_neg (by simp), if_neg (by omega), if_neg (by simp)] at h1
        exact h1.symm
      · have HA := Lib.hid ha
        clear ha
        go_wp2_with fail
        go_ret
        refine ⟨ret_int ?_, HBL4.out⟩
        have h1 := HZ.out
        have h2 := HD.out
        rw [HS.out, HA.out, if_neg (by simp), if_neg (by omega), if_pos rfl] at h1
        exact h1.symm
  · have HS := Lib.hid hs
    clear hs
    go_wp2_with fail
    go_ret
    refine ⟨ret_int ?_, HBL.out⟩
    have h1 := HZ.out
    rw [HS.out, if_pos rfl] at h1
    exact h1.symm

theorem box_cells {w w2 : World} {g : Nat} {c0 c1 c2 c3 : Value} (h : Blk w g 26 [c0, c1, c2, c3]) (hb : Below w.heap.size w w2) : Blk w2 g 26 [c0, c1, c2, c3] ∧ w2.cell? ⟨g, 0, none⟩ = some c0 ∧ w2.cell? ⟨g, 1, none⟩ = some c1 ∧ w2.cell? ⟨g, 2, none⟩ = some c2 ∧ w2.cell? ⟨g, 3, none⟩ = some c3 :=
  have h2 := h.below hb h.lt
  ⟨h2, h2.cell 0, h2.cell 1, h2.cell 2, h2.cell 3⟩
theorem Tab.mono {B B' : Nat} {w : World} (h : Tab B w) (hB : B ≤ B') : Tab B' w := fun w' hb => h w' (hb.mono hB)
theorem below_new (w : World) (o : Obj) : Below w.heap.size w (w.alloc o) := (Below.refl _ _).alloc (Nat.le_refl _) _
theorem make_cap (w : World) (n : Nat) (h1 : n ≤ 1000000) : ∃ cur : Array Value, cur.size = n ∧ (Instr.makeSlice 23 (.int .i64 0) (.int .i64 (n : Nat))).run Tryd.prog w = .ok (.slice (some ⟨w.heap.size, 0, none⟩) 0 n) (w.alloc (.cells cur 5)) := by
  obtain ⟨i0, hi, hz0, hz1, hz2⟩ := info_parts binfo
  have := run_make (P := Tryd.prog) w 23 5 i0 (.int .u8 0) Tryd.underlying23 hi hz0 .i64 .i64 0 n (Int.le_refl _) (by omega) (by rw [hz2]; omega) (by omega)
  refine ⟨_, ?_, this⟩
  rw [size_madeCells]
  simp [hz1]
theorem ownsRow_base {w : World} {N M : Nat} {e : TypeId} {size n : Nat} {v : Value} {xs : List Value} (h : w.ownsRow N e size v n xs) (hM : M ≤ N) : w.ownsRow M e size v n xs := by
  refine ⟨h.1, ?_⟩
  rcases h.2 with hn | ⟨g, cap, cur, hv, hg, rest⟩
  · exact .inl hn
  · exact .inr ⟨g, cap, cur, hv, by omega, rest⟩
theorem write_new (t : T) (hok : t.ok) (hlen : t.enc.length ≤ 131072) (B : Nat) (w w5 : World) (Q : Nat → Prop) (v : Value) (cur : Array Value) (hB : B ≤ w.heap.size) (htab : Tab B w) (hin : In w Q t v) (hb5 : Below w.heap.size w w5) (hcur : cur.size = t.enc.length) {g : Nat} {c0 c1 c2 c3 : Value} (hbox : Blk w5 g 26 [c0, c1, c2, c3]) :
    Calls Tryd.prog 21 #[.slice (some ⟨w5.heap.size, 0, none⟩) 0 t.enc.length, v] (w5.alloc (.cells cur 5)) fun e w6 => ∃ v6, e = .returned v6 ∧ w6.ownsRow w.heap.size 5 1 v6 t.enc.length (Lib.byteCells t.enc) ∧ Below w.heap.size w w6 ∧
      w6.cell? ⟨g, 0, none⟩ = some c0 ∧ w6.cell? ⟨g, 1, none⟩ = some c1 ∧ w6.cell? ⟨g, 2, none⟩ = some c2 ∧ w6.cell? ⟨g, 3, none⟩ = some c3 := by
  have hs := hb5.size
  have ht5 : Tab w5.heap.size (w5.alloc (.cells cur 5)) := ((htab.later hB hb5).mono (Nat.le_trans hB hs)).on (below_new w5 _)
  have hin5 : In (w5.alloc (.cells cur 5)) (fun g => g < w5.heap.size) t v := hin.keep _ _ fun g _ hlt => ⟨(Below.heap_alloc w5 _ g (by omega)).trans (hb5.block g hlt), by omega⟩
  refine (write_any _ t (Nat.lt_succ_self _) hok hlen w5.heap.size _ v (by simp) ht5 hin5 _ 0 [] (World.ownsRow_made w5 cur _ (Nat.le_refl _) (by unfold maxLen; omega) (by rw [hcur, Nat.mul_one])) (by omega)).mono ?_
  rintro e w6 ⟨v6, he, ho, hb⟩
  have hb6 : Below w5.heap.size w5 w6 := (below_new w5 _).trans hb
  have hc := (box_cells hbox hb6).2
  exact ⟨v6, he, ownsRow_base (by simpa using ho) hs, hb5.trans (hb6.mono hs), hc.1, hc.2.1, hc.2.2.1, hc.2.2.2⟩
/-- What Encode leaves. -/
def EncPost (t : T) (w : World) (e : Ending) (w' : World) : Prop := Below w.heap.size w w' ∧ ((t.check ≠ 0 ∧ e = .returned (.tuple #[.slice none 0 0, .int .i64 t.check])) ∨ (t.check = 0 ∧ ∃ v', e = .returned (.tuple #[v', .int .i64 0]) ∧ w'.ownsRow w.heap.size 5 1 v' t.enc.length (Lib.byteCells t.enc)))

set_option maxRecDepth 100000 in
set_option maxHeartbeats 1000000 in
theorem encode_any (t : T) (hok : t.ok) (hlen : t.enc.length ≤ 131072) (B : Nat) (w : World) (Q : Nat → Prop) (v : Value) (hB : B ≤ w.heap.size) (htab : Tab B w) (hin : In w Q t v) : Calls Tryd.prog 7 #[v] w (EncPost t w) := by
  obtain ⟨k, n, b, l⟩ := t
  obtain ⟨A, nb, cb, L, nl, cl, xs, rfl, hb, hl⟩ := hin.open_
  have HIN := Lib.hid hin
  have HOK := Lib.hid hok
  have HLEN := Lib.hid hlen
  have HT := Lib.hid htab
  clear hin hok hb hl hlen htab
  go_enter Tryd.func7, Tryd.ntmps7
  go_wp2_with fail
  have hba : Below w.heap.size w (w.alloc (.cells #[.int .i64 k, .int .i64 n, .slice A nb cb, .slice L nl cl] 26)) := (Below.refl _ _).alloc (Nat.le_refl _) _
  refine (check_any _ HOK.out HLEN.out B _ Q _ (by simp; omega) (HT.out.later hB hba) (HIN.out.below hba)).mono ?_
  rintro e w2 ⟨rfl, hb2⟩
  rw [World.size_alloc] at hb2
  obtain ⟨hbox, hbl⟩ := box_later hb2
  have HBX := Lib.hid hbox
  have HBL := Lib.hid hbl
  have e0 := hbox.cell 0
  have e1 := hbox.cell 1
  have e2 := hbox.cell 2
  have e3 := hbox.cell 3
  simp only [List.getElem?_cons_succ, List.getElem?_cons_zero] at e0 e1 e2 e3
  clear hb2 hbox hbl hba
  obtain ⟨c, hc⟩ : ∃ c, c = T.check (.mk k n b l) := ⟨_, rfl⟩
  rw [← hc]
  have HC := Lib.hid hc
  clear hc
  by_cases c0 : c = 0
  · subst c0
    go_wp2_with fail
    go_region_held3 (fun w' => w'.cell? ⟨w.heap.size, 0, none⟩ = some (.int .i64 k) ∧ w'.cell? ⟨w.heap.size, 1, none⟩ = some (.int .i64 n) ∧ w'.cell? ⟨w.heap.size, 2, none⟩ = some (.slice A nb cb) ∧ w'.cell? ⟨w.heap.size, 3, none⟩ = some (.slice L nl cl))
      (go_keep)
      (first
        | (go_at_call 22; refine (size_any _ _ (Nat.lt_succ_self _) HOK.out HLEN.out B w2.drew Q _ (Nat.le_trans hB HBL.out.size) ((HT.out.later hB HBL.out).on (Below.refl _ _).drew) (HIN.out.below HBL.out.drew)).mono ?_; rintro e w5 ⟨rfl, hb5⟩; obtain ⟨hbx5, f0, f1, f2, f3⟩ := box_cells HBX.out.drew hb5; obtain ⟨cur, hcur, hmk⟩ := make_cap w5 (T.mk k n b l).enc.length (by have := HLEN.out; omega); have H5 := Lib.hid (And.intro hbx5 (And.intro (HBL.out.drew.trans (hb5.mono HBL.out.size)) hcur)); clear hb5 hbx5 hcur)
        | (go_at_call 21; refine (write_new _ HOK.out HLEN.out B w w5 Q _ cur hB HT.out HIN.out H5.out.2.1 H5.out.2.2 H5.out.1).mono ?_; rintro e w6 ⟨v6, rfl, ho6, hb6, d0, d1, d2, d3⟩; have H6 := Lib.hid (And.intro ho6 hb6); clear ho6 hb6))
    go_wp2_with fail
    go_ret2
    exact ⟨H6.out.2, .inr ⟨HC.out.symm, _, rfl, H6.out.1⟩⟩
  · have c1 : (c == 0) = false := by simp [c0]
    go_wp2_with fail
    go_ret2
    refine ⟨HBL.out, .inl ⟨by rw [← HC.out]; exact c0, by rw [← HC.out]; rfl⟩⟩

end Go.Proofs.YtodpojbgkeecnaaDoor
