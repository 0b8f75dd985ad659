/-
  CodecWrites, walked: for every list of tokens it returns true. Conditions: the argument lies in memory; the library's table is as laid.
-/
import Derived.Test.YtodpojbgkeecnaaDoorCBuild
import Derived.Test.YtodpojbgkeecnaaDoorCNodesPre
import Derived.Test.YtodpojbgkeecnaaDoorCBytesRef
import Derived.Deep.CutBlock
import Derived.Deep.DeepCutAuto
set_option linter.unusedSimpArgs false
set_option linter.unusedVariables false
namespace Go.Proofs.YtodpojbgkeecnaaDoor
open Go.RowKit

/-- What the law keeps to its end: the value, its box. -/
structure Kept1 (w wr : World) (t : T) (g : Nat) (k m : Int) (A L : Option Addr) (nb cb nl cl : Nat) : Prop where
  i1 : In wr (fun _ => True) t (.agg #[.int .i64 k, .int .i64 m, .slice A nb cb, .slice L nl cl])
  bel : Below w.heap.size w wr
  x1 : Blk wr g 26 [.int .i64 k, .int .i64 m, .slice A nb cb, .slice L nl cl]
section
variable {w wr w' : World} {t : T} {g : Nat} {k m : Int} {A L : Option Addr} {nb cb nl cl : Nat}
theorem Kept1.on (h : Kept1 w wr t g k m A L nb cb nl cl) (hb : Below wr.heap.size wr w') : Kept1 w w' t g k m A L nb cb nl cl := ⟨h.i1.below hb, h.bel.trans (hb.mono h.bel.size), h.x1.below hb h.x1.lt⟩
theorem Kept1.cells (h : Kept1 w wr t g k m A L nb cb nl cl) : wr.cell? ⟨g, 0, none⟩ = some (.int .i64 k) ∧ wr.cell? ⟨g, 1, none⟩ = some (.int .i64 m) ∧ wr.cell? ⟨g, 2, none⟩ = some (.slice A nb cb) ∧ wr.cell? ⟨g, 3, none⟩ = some (.slice L nl cl) := ⟨h.x1.cell 0, h.x1.cell 1, h.x1.cell 2, h.x1.cell 3⟩
end
/-- What Encode tells of what can't be written. -/
theorem encode_wrong (t : T) (hok : t.ok) (hlen : t.enc.length ≤ 131072) (x : Int) (hx : t.check = x) (hne : x ≠ 0) (B : Nat) (w : World) (Q : Nat → Prop) (v : Value) (hB : B ≤ w.heap.size) (htab : Tab B w) (hin : In w Q t v) :
    Calls Tryd.prog 7 #[v] w fun e w' => e = .returned (.tuple #[.slice none 0 0, .int .i64 x]) ∧ Below w.heap.size w w' := by
  refine (encode_any t hok hlen B w Q v hB htab hin).mono ?_
  rintro e w' ⟨hb, ⟨_, rfl⟩ | ⟨h, _⟩⟩
  · exact ⟨by rw [hx], hb⟩
  · exact absurd (hx.symm.trans h) hne

set_option maxRecDepth 100000 in
set_option maxHeartbeats 4000000 in
theorem writes_walk (hnd : ∀ t : T, t.ok → t.anyB = false → NodesSays t) (B : Nat) (w : World) (hB : B ≤ w.heap.size) (htab : Tab B w) (A : Option Addr) (n c : Nat) (ts : List Tok) (hk : KIn w A n c ts) :
    Calls Tryd.prog 3 #[.slice A n c] w fun e w' => e = .returned (.bool true) ∧ Below w.heap.size w w' := by
  have HT := Lib.hid (And.intro hB htab)
  have HK := Lib.hid hk
  have HND := Lib.hid hnd
  clear hB htab hk hnd
  go_enter Tryd.func3, Tryd.ntmps3
  go_wp2_with fail
  refine (build_any _ _ _ _ _ HK.out).mono ?_
  rintro e w1 ⟨v1, rfl, hin1, hb1⟩
  have hfx := built_facts (ts := ts) fun t ht => (HK.out.fits t ht).1
  obtain ⟨l, hT⟩ : ∃ l, builtT ts = .mk 2 0 [] l := ⟨_, rfl⟩
  rw [hT] at hin1 hfx
  obtain ⟨k1, m1, A1, nb1, cb1, L1, nl1, cl1, rfl⟩ := hin1.form
  have bn := below_new w1 (.cells #[.int .i64 k1, .int .i64 m1, .slice A1 nb1 cb1, .slice L1 nl1 cl1] 26)
  have HE := Lib.hid (show Kept1 w (w1.alloc (.cells #[.int .i64 k1, .int .i64 m1, .slice A1 nb1 cb1, .slice L1 nl1 cl1] 26)) (.mk 2 0 [] l) w1.heap.size k1 m1 A1 L1 nb1 cb1 nl1 cl1 from ⟨(hin1.below bn).mono fun _ _ _ => trivial, hb1.trans (bn.mono hb1.size), Blk.new w1 26 _⟩)
  have HFX := Lib.hid hfx
  have HDX : Hid (((builtN ts 60).right = !(T.mk 2 0 [] l).anyB) ∧ (builtN ts 60).deep = (T.mk 2 0 [] l).dep) := ⟨hfx.2.2.1, hfx.2.2.2⟩
  clear hin1 hb1 hfx bn hT
  generalize (builtN ts 60).right = R1 at HDX ⊢
  generalize (builtN ts 60).deep = D1 at HDX ⊢
  obtain ⟨t, ht⟩ : ∃ t, T.mk 2 0 [] l = t := ⟨_, rfl⟩
  have hcheck : t.check = if 8 < D1 then 18 else if R1 = false then 17 else 0 := by
    have h1 := HDX.out.1
    have h2 := HDX.out.2
    have hs : T.strangeB (T.mk 2 0 [] l) = false := by rw [T.strangeB, if_neg (by omega), if_neg (by omega), if_pos rfl]; rfl
    rw [← ht, T.check, if_neg (by rw [hs]; decide), ← h2]
    rw [any_list] at h1
    split
    · rfl
    · cases hq : T.anyAll l
      · rw [hq] at h1; subst h1; rfl
      · rw [hq] at h1; subst h1; rfl
  rw [ht] at HE HFX HDX
  have hdep : ((min t.dep 9 : Nat) : Int) = min (D1 : Int) 9 := by have := HDX.out.2; omega
  have HC := Lib.hid (And.intro hcheck hdep)
  clear hcheck hdep ht
  by_cases hd1 : 8 < D1
  · have hdi : (8 : Int) < (D1 : Int) := by omega
    cases R1
    all_goals
      have hcx : t.check = 18 := by rw [HC.out.1]; simp [hd1]
      have HCX := Lib.hid hcx
      clear hcx
      go_wp2_with fail
      refine (encode_wrong t HFX.out.1 HFX.out.2.1 18 HCX.out (by omega) B _ _ _ (Tab.at_ HT.out HE.out.bel).1 (Tab.at_ HT.out HE.out.bel).2 HE.out.i1).mono ?_
      rintro e w2 ⟨rfl, hb2⟩
      have HE2 := Lib.hid (HE.out.on hb2)
      clear hb2
      obtain ⟨e0, e1, e2, e3⟩ := HE2.out.cells
      go_wp2_with fail
      refine (check_any t HFX.out.1 HFX.out.2.1 B _ _ _ (Tab.at_ HT.out HE2.out.bel).1 (Tab.at_ HT.out HE2.out.bel).2 HE2.out.i1).mono ?_
      rw [HCX.out]
      rintro e w3 ⟨rfl, hb3⟩
      have HE3 := Lib.hid (HE2.out.on hb3)
      clear hb3 e0 e1 e2 e3
      obtain ⟨e0, e1, e2, e3⟩ := HE3.out.cells
      go_wp2_with fail
      refine (Depth_any t HFX.out.1 _ _ _ HE3.out.i1).mono ?_
      rw [HC.out.2]
      rintro e w4 ⟨rfl, hb4⟩
      have HE4 := Lib.hid (HE3.out.on hb4)
      clear hb4 e0 e1 e2 e3
      obtain ⟨e0, e1, e2, e3⟩ := HE4.out.cells
      go_wp2_with fail
      refine (same_any _ t (Nat.lt_succ_self _) HFX.out.1 t _ _ _ _ _ HFX.out.1 HE4.out.i1 HE4.out.i1).mono ?_
      rw [(T.sameB_iff t t).2 rfl]
      rintro e w5 ⟨rfl, hb5⟩
      have HE5 := Lib.hid (HE4.out.on hb5)
      clear hb5 e0 e1 e2 e3
      obtain ⟨e0, e1, e2, e3⟩ := HE5.out.cells
      go_wp2_with fail
      refine (known_walk B _ (Tab.at_ HT.out HE5.out.bel).1 (Tab.at_ HT.out HE5.out.bel).2).mono ?_
      rintro e w6 ⟨rfl, hb6⟩
      have HE6 := Lib.hid (HE5.out.on hb6)
      clear hb6
      go_wp2_with fail
      go_ret
      exact ⟨rfl, HE6.out.bel⟩
  · have hdi : ¬ (8 : Int) < (D1 : Int) := by omega
    cases R1
    · have hcx : t.check = 17 := by rw [HC.out.1]; simp [hd1]
      have HCX := Lib.hid hcx
      clear hcx
      go_wp2_with fail
      refine (encode_wrong t HFX.out.1 HFX.out.2.1 17 HCX.out (by omega) B _ _ _ (Tab.at_ HT.out HE.out.bel).1 (Tab.at_ HT.out HE.out.bel).2 HE.out.i1).mono ?_
      rintro e w2 ⟨rfl, hb2⟩
      have HE2 := Lib.hid (HE.out.on hb2)
      clear hb2
      obtain ⟨e0, e1, e2, e3⟩ := HE2.out.cells
      go_wp2_with fail
      refine (check_any t HFX.out.1 HFX.out.2.1 B _ _ _ (Tab.at_ HT.out HE2.out.bel).1 (Tab.at_ HT.out HE2.out.bel).2 HE2.out.i1).mono ?_
      rw [HCX.out]
      rintro e w3 ⟨rfl, hb3⟩
      have HE3 := Lib.hid (HE2.out.on hb3)
      clear hb3 e0 e1 e2 e3
      obtain ⟨e0, e1, e2, e3⟩ := HE3.out.cells
      go_wp2_with fail
      refine (Depth_any t HFX.out.1 _ _ _ HE3.out.i1).mono ?_
      rw [HC.out.2]
      rintro e w4 ⟨rfl, hb4⟩
      have HE4 := Lib.hid (HE3.out.on hb4)
      clear hb4 e0 e1 e2 e3
      obtain ⟨e0, e1, e2, e3⟩ := HE4.out.cells
      go_wp2_with fail
      refine (same_any _ t (Nat.lt_succ_self _) HFX.out.1 t _ _ _ _ _ HFX.out.1 HE4.out.i1 HE4.out.i1).mono ?_
      rw [(T.sameB_iff t t).2 rfl]
      rintro e w5 ⟨rfl, hb5⟩
      have HE5 := Lib.hid (HE4.out.on hb5)
      clear hb5 e0 e1 e2 e3
      obtain ⟨e0, e1, e2, e3⟩ := HE5.out.cells
      go_wp2_with fail
      refine (known_walk B _ (Tab.at_ HT.out HE5.out.bel).1 (Tab.at_ HT.out HE5.out.bel).2).mono ?_
      rintro e w6 ⟨rfl, hb6⟩
      have HE6 := Lib.hid (HE5.out.on hb6)
      clear hb6
      go_wp2_with fail
      go_ret
      exact ⟨rfl, HE6.out.bel⟩
    · have hra : t.anyB = false := by have := HDX.out.1; simpa using this
      have hdp : t.dep ≤ 8 := by have := HDX.out.2; omega
      have hcx : t.check = 0 := by rw [HC.out.1]; simp [hd1]
      have HCX := Lib.hid hcx
      have HRA := Lib.hid (And.intro hra hdp)
      clear hcx hra hdp
      go_wp2_with fail
      refine (encode_right t HFX.out.1 HFX.out.2.1 HRA.out.1 HRA.out.2 B _ _ _ (Tab.at_ HT.out HE.out.bel).1 (Tab.at_ HT.out HE.out.bel).2 HE.out.i1).mono ?_
      rintro e w2 ⟨Ae, ce, rfl, hbe, hb2⟩
      have HE2 := Lib.hid (HE.out.on hb2)
      have HB2 := Lib.hid hbe
      clear hb2 hbe
      obtain ⟨e0, e1, e2, e3⟩ := HE2.out.cells
      go_wp2_with fail
      refine (check_any t HFX.out.1 HFX.out.2.1 B _ _ _ (Tab.at_ HT.out HE2.out.bel).1 (Tab.at_ HT.out HE2.out.bel).2 HE2.out.i1).mono ?_
      rw [HCX.out]
      rintro e w3 ⟨rfl, hb3⟩
      have HE3 := Lib.hid (HE2.out.on hb3)
      have HB23 := Lib.hid hb3
      clear hb3 e0 e1 e2 e3
      obtain ⟨e0, e1, e2, e3⟩ := HE3.out.cells
      go_wp2_with fail
      refine (Depth_any t HFX.out.1 _ _ _ HE3.out.i1).mono ?_
      rw [HC.out.2]
      rintro e w4 ⟨rfl, hb4⟩
      have HE4 := Lib.hid (HE3.out.on hb4)
      have HB24 := Lib.hid (HB23.out.trans (hb4.mono HB23.out.size))
      clear hb4 e0 e1 e2 e3
      obtain ⟨e0, e1, e2, e3⟩ := HE4.out.cells
      go_wp2_with fail
      refine (same_any _ t (Nat.lt_succ_self _) HFX.out.1 t _ _ _ _ _ HFX.out.1 HE4.out.i1 HE4.out.i1).mono ?_
      rw [(T.sameB_iff t t).2 rfl]
      rintro e w5 ⟨rfl, hb5⟩
      have HE5 := Lib.hid (HE4.out.on hb5)
      have HB25 := Lib.hid (HB24.out.trans (hb5.mono HB24.out.size))
      clear hb5 e0 e1 e2 e3
      obtain ⟨e0, e1, e2, e3⟩ := HE5.out.cells
      go_wp2_with fail
      refine (HND.out t HFX.out.1 HRA.out.1 _ _ _ HE5.out.i1 none 0 0 [] [] (NIn.none _ _) (by have := HFX.out.2.1; omega)).mono ?_
      rintro e w6 ⟨A6, m6, c6, xs6, rfl, hN6, hb6⟩
      have HE6 := Lib.hid (HE5.out.on hb6)
      have HB56 := Lib.hid hb6
      have HN6 := Lib.hid hN6
      clear hb6 hN6 e0 e1 e2 e3
      go_wp2_with fail
      refine (decode_ok _ _ Ae _ ce t (((HB2.out.below HB25.out)).below HB56.out) HFX.out.1 HRA.out.1 HRA.out.2 HFX.out.2.1).mono ?_
      rintro e w7 ⟨v7, rfl, hin7, hb7⟩
      obtain ⟨k7, m7, A7, nb7, cb7, L7, nl7, cl7, rfl⟩ := hin7.form
      have bn7 := below_new w7 (.cells #[.int .i64 k7, .int .i64 m7, .slice A7 nb7 cb7, .slice L7 nl7 cl7] 26)
      have hx7 := Blk.new w7 26 [.int .i64 k7, .int .i64 m7, .slice A7 nb7 cb7, .slice L7 nl7 cl7]
      have hbb := hb7.trans (bn7.mono hb7.size)
      have HE7 := Lib.hid (HE6.out.on hbb)
      have H7 := Lib.hid (And.intro (hin7.below bn7) (And.intro hx7 hbb))
      clear hin7 hb7 bn7 hx7 hbb
      go_wp2_with fail
      refine (known_walk B _ (Tab.at_ HT.out HE7.out.bel).1 (Tab.at_ HT.out HE7.out.bel).2).mono ?_
      rintro e w8 ⟨rfl, hb8⟩
      have HE8 := Lib.hid (HE7.out.on hb8)
      have H8 := Lib.hid (And.intro (H7.out.1.below hb8) (And.intro (H7.out.2.1.below hb8 H7.out.2.1.lt) (H7.out.2.2.trans (hb8.mono H7.out.2.2.size))))
      clear hb8
      have hrep := rep_flat t [] []
      rw [List.append_nil, List.nil_append] at hrep
      have hm6 : m6 = (t.flat 0).length := by have := HN6.out.len; simpa using this.symm
      have hcall := ref_any _ t (Nat.lt_succ_self _) HFX.out.1 HRA.out.1 (by have := HFX.out.2.1; omega) w8 _ A6 m6 c6 _ xs6 ((m6 : Int) - 1) (HN6.out.below H8.out.2.2) (by have := flat_length t 0 HRA.out.1; have := HFX.out.2.1; omega) (by simpa [hm6] using hrep)
      clear hrep hm6
      go_wp2_with fail
      refine hcall.mono ?_
      clear hcall
      rintro e w9 ⟨A9, c9, rfl, hb9, hbel9⟩
      have HE9 := Lib.hid (HE8.out.on hbel9)
      have H9 := Lib.hid (And.intro (H8.out.1.below hbel9) (And.intro (H8.out.2.1.below hbel9 H8.out.2.1.lt) (And.intro hb9 (H8.out.2.2.trans (hbel9.mono H8.out.2.2.size)))))
      clear hb9 hbel9
      go_wp2_with fail
      refine (ref_same _ _ _ _ _ _ _ _ _ _ _ ((HB2.out.below HB25.out).below (HB56.out.trans (H9.out.2.2.2.mono HB56.out.size))) H9.out.2.2.1).mono ?_
      rw [decide_eq_true rfl]
      rintro e w10 ⟨rfl, hb10⟩
      have HE10 := Lib.hid (HE9.out.on hb10)
      have H10 := Lib.hid (And.intro (H9.out.1.below hb10) (H9.out.2.1.below hb10 H9.out.2.1.lt))
      clear hb10
      obtain ⟨e0, e1, e2, e3⟩ := HE10.out.cells
      have q0 := H10.out.2.cell 0
      have q1 := H10.out.2.cell 1
      have q2 := H10.out.2.cell 2
      have q3 := H10.out.2.cell 3
      simp only [List.getElem?_cons_succ, List.getElem?_cons_zero] at q0 q1 q2 q3
      go_wp2_with fail
      refine (same_any _ t (Nat.lt_succ_self _) HFX.out.1 t _ _ _ _ _ HFX.out.1 H10.out.1 HE10.out.i1).mono ?_
      rw [(T.sameB_iff t t).2 rfl]
      rintro e w11 ⟨rfl, hb11⟩
      have HE11 := Lib.hid (HE10.out.on hb11)
      clear hb11
      go_wp2_with fail
      go_ret
      exact ⟨rfl, HE11.out.bel⟩

end Go.Proofs.YtodpojbgkeecnaaDoor
