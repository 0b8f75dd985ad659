/-
  CodecLists, walked: for every list of tokens it returns true. Conditions: the argument lies in memory; the library's table is as laid.
-/
import Derived.Test.YtodpojbgkeecnaaDoorCBuild
import Derived.Test.YtodpojbgkeecnaaDoorCLawKit
import Derived.Deep.CutBlock
import Derived.Deep.DeepCutAuto
set_option linter.unusedSimpArgs false
set_option linter.unusedVariables false
namespace Go.Proofs.YtodpojbgkeecnaaDoor
open Go.RowKit

/-- Where the law's first loop stands. -/
def JRel (W : World) (l : List T) (v i : Value) (wr : World) : Prop := ∃ k : Nat, k ≤ l.length ∧ i = .int .i64 k ∧ wr.ownsRow W.heap.size 5 1 v (1 + (T.encAll (l.take k)).length) (Lib.byteCells (40 :: T.encAll (l.take k))) ∧ Below W.heap.size W wr
/-- Where its second loop stands. -/
def GRel (W : World) (l : List T) (v i : Value) (wr : World) : Prop := ∃ (k : Nat) (A : Option Addr) (c : Nat), k ≤ l.length ∧ i = .int .i64 k ∧ v = .slice A (T.encAll (l.drop k)).length c ∧ BIn wr (fun _ => True) A (T.encAll (l.drop k)).length c (T.encAll (l.drop k)) ∧ Below W.heap.size W wr
theorem encAll_drop {l : List T} {k : Nat} {t : T} (h : l[k]? = some t) : T.encAll (l.drop k) = t.enc ++ T.encAll (l.drop (k + 1)) := by
  have hlt := (List.getElem?_eq_some_iff.1 h).1
  rw [List.drop_eq_getElem_cons hlt, T.encAll]
  have := (List.getElem?_eq_some_iff.1 h).2
  rw [this]
theorem encAll_drop_le : ∀ (l : List T) (k : Nat), (T.encAll (l.drop k)).length ≤ (T.encAll l).length
  | [], k => by simp
  | s :: r, 0 => by simp
  | s :: r, k + 1 => by
    have := encAll_drop_le r k
    rw [List.drop_succ_cons, T.encAll, List.length_append]
    omega

theorem cell_on {w w' : World} {a : Addr} {u : Value} (hb : Below w.heap.size w w') (h : w.cell? a = some u) : w'.cell? a = some u := (hb.cell (World.block_lt_of_cell? w _ h)).trans h
theorem bin_mid {w : World} {Q : Nat → Prop} {g o c N : Nat} {r : List UInt8} {x y : UInt8} (h : BIn w Q (some ⟨g, o, none⟩) (N + 2) c (x :: (r ++ [y]))) : BIn w (fun _ => True) (some ⟨g, o + 1, none⟩) r.length (c - 1) r := by
  have hl := h.len
  have hc := h.cap
  have hm := h.capm
  simp at hl
  refine ⟨rfl, by omega, by omega, (fun h => by cases h), fun _ => ?_⟩
  obtain ⟨g', o', e, _, hcell⟩ := h.cells (by omega)
  simp only [Option.some.injEq, Addr.mk.injEq, and_true] at e
  obtain ⟨rfl, rfl⟩ := e
  refine ⟨g, o + 1, rfl, trivial, fun j z hz => ?_⟩
  have hj := (List.getElem?_eq_some_iff.1 hz).1
  rw [show o + 1 + j = o + (j + 1) by omega]
  exact hcell (j + 1) z (by rw [List.getElem?_cons_succ, List.getElem?_append_left hj]; exact hz)
theorem lists_at {wr : World} {Q : Nat → Prop} {l : List T} {g o c N n : Nat} {v : Value} (hN : N = (T.encAll l).length) (hn : n = N) (hv : v = .slice (some ⟨g, o + 1, none⟩) n (c - 1)) (h : BIn wr Q (some ⟨g, o, none⟩) (N + 2) c (T.mk 2 0 [] l).enc) {W' : World} (hb : Below W'.heap.size W' wr) : GRel W' l v (.int .i64 0) wr := by
  subst hv hn hN
  rw [enc_2] at h
  exact ⟨0, _, _, Nat.zero_le _, rfl, rfl, bin_mid h, hb⟩

set_option maxRecDepth 100000 in
set_option maxHeartbeats 4000000 in
theorem lists_walk (B : Nat) (w : World) (hB : B ≤ w.heap.size) (htab : Tab B w) (A : Option Addr) (n c : Nat) (ts : List Tok) (hk : KIn w A n c ts) :
    Calls Tryd.prog 5 #[.slice A n c] w fun e w' => e = .returned (.bool true) ∧ Below w.heap.size w w' := by
  have HT := Lib.hid (And.intro hB htab)
  have HK := Lib.hid hk
  clear hB htab hk
  go_enter Tryd.func5, Tryd.ntmps5
  go_wp2_with fail
  refine (build_any _ _ _ _ _ HK.out).mono ?_
  rintro e w1 ⟨v1, rfl, hin1, hb1⟩
  have hfx := built_facts (ts := ts) fun t ht => (HK.out.fits t ht).1
  obtain ⟨l, hT⟩ : ∃ l, builtT ts = .mk 2 0 [] l := ⟨_, rfl⟩
  rw [hT] at hin1 hfx
  obtain ⟨A1, nb1, cb1, L1, nl1, cl1, xs1, rfl, hbb1, hl1⟩ := hin1.open_
  have hx1 := Blk.new w1 26 [.int .i64 2, .int .i64 0, .slice A1 nb1 cb1, .slice L1 nl1 cl1]
  have bn := below_new w1 (.cells #[.int .i64 2, .int .i64 0, .slice A1 nb1 cb1, .slice L1 nl1 cl1] 26)
  have H1 := Lib.hid (And.intro (hin1.below bn) (And.intro (hl1.below bn) (And.intro (hb1.trans (bn.mono hb1.size)) hx1)))
  have HFX := Lib.hid hfx
  have HDX : Hid (((builtN ts 60).right = !(T.mk 2 0 [] l).anyB) ∧ (builtN ts 60).deep = (T.mk 2 0 [] l).dep) := ⟨hfx.2.2.1, hfx.2.2.2⟩
  clear hin1 hb1 hbb1 hl1 hfx hx1 bn hT
  generalize (builtN ts 60).right = R1 at HDX ⊢
  generalize (builtN ts 60).deep = D1 at HDX ⊢
  cases R1
  · go_wp2_with fail
    refine (known_walk B _ (Tab.at_ HT.out H1.out.2.2.1).1 (Tab.at_ HT.out H1.out.2.2.1).2).mono ?_
    rintro e w4 ⟨rfl, hb4⟩
    have H4 := Lib.hid hb4
    clear hb4
    go_wp2_with fail
    go_ret
    exact ⟨rfl, H1.out.2.2.1.trans (H4.out.mono H1.out.2.2.1.size)⟩
  · rcases Nat.lt_or_ge 8 D1 with hd1 | hd1
    · have hdi : (8 : Int) < (D1 : Int) := by omega
      go_wp2_with fail
      refine (known_walk B _ (Tab.at_ HT.out H1.out.2.2.1).1 (Tab.at_ HT.out H1.out.2.2.1).2).mono ?_
      rintro e w4 ⟨rfl, hb4⟩
      have H4 := Lib.hid hb4
      clear hb4
      go_wp2_with fail
      go_ret
      exact ⟨rfl, H1.out.2.2.1.trans (H4.out.mono H1.out.2.2.1.size)⟩
    · have hdi : ¬ (8 : Int) < (D1 : Int) := by omega
      have hra : (T.mk 2 0 [] l).anyB = false := by have := HDX.out.1; simpa using this
      have hdp : (T.mk 2 0 [] l).dep ≤ 8 := by have := HDX.out.2; omega
      have hla : T.anyAll l = false := by rw [any_list] at hra; exact hra
      have hld : T.depAll l ≤ 8 := by rw [T.dep, if_pos rfl] at hdp; omega
      have hlo : T.okAll l := by have := HFX.out.1; rw [T.ok] at this; exact this.2.2.2.2
      have hel : (T.mk 2 0 [] l).enc.length = (T.encAll l).length + 2 := enc_list l
      have hle : (T.encAll l).length ≤ 131072 := by have := HFX.out.2.1; omega
      have HL := Lib.hid (And.intro hla (And.intro hld hlo))
      have hen := encode_right _ HFX.out.1 HFX.out.2.1 hra hdp B _ _ _ (Tab.at_ HT.out H1.out.2.2.1).1 (Tab.at_ HT.out H1.out.2.2.1).2 H1.out.1
      rw [hel] at hen
      obtain ⟨N, hN⟩ : ∃ N, N = (T.encAll l).length := ⟨_, rfl⟩
      have HN := Lib.hid hN
      rw [← hN] at hen hle
      have hcl := H1.out.2.1.cap
      have hcm := H1.out.2.1.capm
      unfold maxLen at hcm
      clear hra hdp hla hld hlo hel hN
      go_wp2_with fail
      refine hen.mono ?_
      clear hen
      rintro e w2 ⟨Ae, ce, rfl, hbe, hb2⟩
      have hx1 := H1.out.2.2.2.below hb2 H1.out.2.2.2.lt
      have H2 := Lib.hid (And.intro (H1.out.2.1.below hb2) (And.intro (H1.out.2.2.1.trans (hb2.mono H1.out.2.2.1.size)) (And.intro hx1 hbe)))
      have hcap := hbe.cap
      have hcam := hbe.capm
      unfold maxLen at hcam
      have hlt1 := hx1.lt
      clear hb2 hx1 hbe
      go_wp2_with fail
      go_loopw [8, 9] (fun v i wr => JRel w2 l v i wr) (fun _ i _ => nl1 - (intOf i).toNat)
      case atStart => exact ⟨0, Nat.zero_le _, rfl, ⟨rfl, .inr ⟨w2.heap.size, 1, _, rfl, Nat.le_refl _, heap_alloc_new w2 _, Nat.le_refl _, by unfold maxLen; omega, rfl, rfl⟩⟩, below_new _ _⟩
      case round =>
        obtain ⟨k, hkl, rfl, hown, hbel⟩ := hrel
        have hll := H2.out.1.len
        have hx1 := H2.out.2.2.1.below hbel H2.out.2.2.1.lt
        have hli := H2.out.1.below hbel
        have bww := H2.out.2.1.trans (hbel.mono H2.out.2.1.size)
        have e0 := hx1.cell 0
        have e1 := hx1.cell 1
        have e2 := hx1.cell 2
        have e3 := hx1.cell 3
        simp only [List.getElem?_cons_succ, List.getElem?_cons_zero] at e0 e1 e2 e3
        have hltr := hx1.lt
        by_cases hkn : k < nl1
        · have hki : (k : Int) < (nl1 : Int) := by omega
          have hk0 : (0 : Int) ≤ (k : Int) := by omega
          obtain ⟨t, htk⟩ : ∃ t, l[k]? = some t := ⟨_, List.getElem?_eq_getElem (by omega)⟩
          obtain ⟨gl, ol, rfl, _, _⟩ := hli.cells (by omega)
          obtain ⟨d0, d1, d2, d3, h0, h1, h2, h3, hint⟩ := hli.get k t htk
          have hm := List.mem_of_getElem? htk
          have hte : t.enc.length ≤ (T.encAll l).length := T.enc_le hm
          have hen := encode_right t (T.okAll_mem HL.out.2.2 t hm) (by have := HN.out; omega) (T.anyAll_mem HL.out.1 t hm) (by have := T.dep_le hm; have := HL.out.2.1; omega) B _ _ _ (Tab.at_ HT.out bww).1 (Tab.at_ HT.out bww).2 hint
          have htl := T.encAll_take_le l k
          have HR := Lib.hid (And.intro hown (And.intro hbel (And.intro htk HN.out)))
          have hts : t.enc.length ≤ 131072 := by have := HN.out; omega
          have htt : (T.encAll (l.take k)).length ≤ 131072 := by have := HN.out; omega
          obtain ⟨k', m', Ax, nx, cx, Lx, mx, dx, hform⟩ := hint.form
          injection hform with hform
          simp only [Array.mk.injEq, List.cons.injEq, and_true] at hform
          obtain ⟨rfl, rfl, rfl, rfl⟩ := hform
          clear hown hbel htk hm hte htl hint hli bww hx1 hll
          go_wp2_with fail
          refine hen.mono ?_
          clear hen
          rintro e w5 ⟨Ay, cy, rfl, hby, hb5⟩
          have H5 := Lib.hid (And.intro hby (And.intro hb5 (ownsRow_only (S := []) HR.out.1 (Only.of_below hb5) (by simp))))
          have hbs : w2.heap.size ≤ w5.heap.size := Nat.le_trans HR.out.2.1.size hb5.size
          clear hby hb5
          go_wp2_with (at_builtin; go_loud (refine wpList_append_bin rfl (.tmp 56) (.tmp 57) rfl w2.heap.size _ (1 + (T.encAll (l.take k)).length) (Lib.byteCells (40 :: T.encAll (l.take k))) rfl H5.out.2.2 _ Ay t.enc.length cy t.enc rfl H5.out.1 (by omega) hbs ?_); intro v9 w6 ho6 hg6 hat6; have H6 := Lib.hid (And.intro ho6 hg6); clear ho6 hg6 hat6)
          go_roundw
          case rel =>
            refine ⟨k + 1, by have := (List.getElem?_eq_some_iff.1 HR.out.2.2.1).1; omega, by go_num, ?_, ((HR.out.2.1.trans (H5.out.2.1.mono HR.out.2.1.size)).grown H6.out.2 hbs (own_ge H5.out.2.2))⟩
            have := H6.out.1
            rw [T.encAll_take HR.out.2.2.1, List.length_append]
            simpa [Lib.byteCells, Nat.add_assoc] using this
          case measure => simp [intOf]; omega
        · obtain rfl : k = nl1 := by omega
          rw [List.take_of_length_le (by omega)] at hown
          have hbs : w2.heap.size ≤ wr.heap.size := hbel.size
          have hl2 : 1 + (T.encAll l).length ≤ 131100 := by have := HN.out; omega
          have hbe := H2.out.2.2.2.below hbel
          have HR := Lib.hid (And.intro hown (And.intro hbel (And.intro hx1 (And.intro hli (And.intro bww hbe)))))
          clear hown hbel hx1 hli bww hbe hkn hll
          go_wp2_with (at_builtin; go_loud (refine wpList_append_bin rfl (.tmp 59) (.tmp 60) rfl w2.heap.size _ (1 + (T.encAll l).length) (Lib.byteCells (40 :: T.encAll l)) rfl (HR.out.1.alloc _) _ (some ⟨wr.heap.size, 0, none⟩) 1 1 [41] rfl (const_bin wr _ _ [41] 1 rfl (by unfold maxLen; omega) rfl) (by omega) (by simp; omega) ?_); intro v9 w6 ho6 hg6 hat6; obtain ⟨A9, c9, rfl, hb9⟩ := own_bin (b := 40 :: (T.encAll l ++ [41])) (by have e := Nat.add_comm 1 (T.encAll l).length; simpa [Lib.byteCells, e] using ho6); have H6 := Lib.hid (And.intro hb9 (And.intro hg6 ho6)); clear ho6 hg6 hat6 hb9)
          have hb6 : Below w2.heap.size w2 w6 := (HR.out.2.1.alloc hbs _).grown H6.out.2.1 (by simp; omega) (own_ge HR.out.1)
          have h9 := H6.out.1
          rw [show (40 :: (T.encAll l ++ [41])).length = (T.encAll l).length + 1 + 1 by simp] at h9
          have hrs := ref_same w6 _ _ A9 Ae _ c9 _ ce _ _ h9 (H2.out.2.2.2.below hb6)
          rw [decide_eq_true (show (40 :: (T.encAll l ++ [41])) = (T.mk 2 0 [] l).enc from (enc_2 l).symm)] at hrs
          have HB6 := Lib.hid hb6
          clear hb6 h9
          have hcc : 1 ≤ ce := by omega
          have hii : ((N + 2 : Nat) : Int) - 1 = ((N + 1 : Nat) : Int) := by omega
          refine hrs.mono ?_
          clear hrs
          rintro e w7 ⟨rfl, hb7⟩
          have hb7w := HB6.out.trans (hb7.mono HB6.out.size)
          have hbx7 := H2.out.2.2.1.below hb7w H2.out.2.2.1.lt
          have hbe7 := H2.out.2.2.2.below hb7w
          obtain ⟨gE, oE, rfl, _, _⟩ := hbe7.cells (by omega)
          have HB7 := Lib.hid (And.intro hb7w hbe7)
          clear hb7 hb7w e0 e1 e2 e3 hbx7 hbe7
          go_wp2_with fail
          go_loopw [12, 13] (fun v i wr => GRel w2 l v i wr) (fun _ i _ => k - (intOf i).toNat)
          case atStart => exact lists_at HN.out (by omega) rfl HB7.out.2 HB7.out.1
          case round =>
            obtain ⟨j, Aj, cj, hjl, rfl, rfl, hbj, hbel⟩ := hrel
            have hll := H2.out.1.len
            have hx1 := H2.out.2.2.1.below hbel H2.out.2.2.1.lt
            have hli := H2.out.1.below hbel
            have bww := H2.out.2.1.trans (hbel.mono H2.out.2.1.size)
            have e0 := hx1.cell 0
            have e1 := hx1.cell 1
            have e2 := hx1.cell 2
            have e3 := hx1.cell 3
            simp only [List.getElem?_cons_succ, List.getElem?_cons_zero] at e0 e1 e2 e3
            by_cases hjn : j < k
            · have hji : (j : Int) < (k : Int) := by omega
              have hj0 : (0 : Int) ≤ (j : Int) := by omega
              obtain ⟨t, htj⟩ : ∃ t, l[j]? = some t := ⟨_, List.getElem?_eq_getElem (by omega)⟩
              obtain ⟨gl, ol, rfl, _, _⟩ := hli.cells (by omega)
              have hm := List.mem_of_getElem? htj
              have hdl := encAll_drop_le l j
              have hed := encAll_drop htj
              have hbj2 := hbj
              rw [hed] at hbj2
              have hto := T.okAll_mem HL.out.2.2 t hm
              have hnx := next_ok wr _ Aj _ cj t _ hbj2 hto (T.anyAll_mem HL.out.1 t hm) (by have := T.dep_le hm; have := HL.out.2.1; omega) (by rw [← hed]; have := HN.out; omega)
              rw [← hed] at hnx
              have HR := Lib.hid (And.intro hbel (And.intro htj (And.intro hto (And.intro hli (And.intro bww hx1)))))
              clear hbj hbj2 hbel htj hm hdl hed hto hli bww hx1 hll
              go_wp2_with fail
              refine hnx.mono ?_
              clear hnx
              rintro e w8 ⟨v8, A8, c8, rfl, hin8, hb8, hbel8⟩
              obtain ⟨k8, m8, Ax, nx, cx, Lx, mx, dx, rfl⟩ := hin8.form
              have hx8 := HR.out.2.2.2.2.2.below hbel8 HR.out.2.2.2.2.2.lt
              have bn := below_new w8 (.cells #[.int .i64 k8, .int .i64 m8, .slice Ax nx cx, .slice Lx mx dx] 26)
              have hli8 := (HR.out.2.2.2.1.below hbel8).below bn
              obtain ⟨d0, d1, d2, d3, h0, h1, h2, h3, hint⟩ := hli8.get j t HR.out.2.1
              obtain ⟨k', m', Ay, ny, cy, Ly, my, dy, hform⟩ := hint.form
              injection hform with hform
              simp only [Array.mk.injEq, List.cons.injEq, and_true] at hform
              obtain ⟨rfl, rfl, rfl, rfl⟩ := hform
              have hb9 := (HR.out.1.trans (hbel8.mono HR.out.1.size)).trans (bn.mono (Nat.le_trans HR.out.1.size hbel8.size))
              have H8 := Lib.hid (And.intro (hin8.below bn) (And.intro hint (And.intro (hb8.below bn) hb9)))
              clear e0 e1 e2 e3
              have e0 := hx8.cell 0
              have e1 := hx8.cell 1
              have e2 := hx8.cell 2
              have e3 := hx8.cell 3
              simp only [List.getElem?_cons_succ, List.getElem?_cons_zero] at e0 e1 e2 e3
              have hlx := hx8.lt
              clear hin8 hb8 hbel8 hx8 bn hli8 hint hb9
              go_wp2_with fail
              have hbx := Blk.new w8 26 [.int .i64 k8, .int .i64 m8, .slice Ax nx cx, .slice Lx mx dx]
              have y0 := hbx.cell 0
              have y1 := hbx.cell 1
              have y2 := hbx.cell 2
              have y3 := hbx.cell 3
              simp only [List.getElem?_cons_succ, List.getElem?_cons_zero] at y0 y1 y2 y3
              have z3 := later_cell (.cells #[.int .i64 k8, .int .i64 m8, .slice Ax nx cx, .slice Lx mx dx] 26) e3
              clear hbx
              go_region_held3 (fun w' => w'.cell? ⟨w8.heap.size, 0, none⟩ = some (.int .i64 k8) ∧ w'.cell? ⟨w8.heap.size, 1, none⟩ = some (.int .i64 m8) ∧ w'.cell? ⟨w8.heap.size, 2, none⟩ = some (.slice Ax nx cx) ∧ w'.cell? ⟨w8.heap.size, 3, none⟩ = some (.slice Lx mx dx) ∧ w'.cell? ⟨w1.heap.size, 3, none⟩ = some (.slice (some ⟨gl, ol, none⟩) k cl1) ∧
                  w'.cell? ⟨gl, ol + j * 4, none⟩ = some (.int .i64 k') ∧ w'.cell? ⟨gl, ol + j * 4 + 1, none⟩ = some (.int .i64 m') ∧ w'.cell? ⟨gl, ol + j * 4 + 2, none⟩ = some (.slice Ay ny cy) ∧ w'.cell? ⟨gl, ol + j * 4 + 3, none⟩ = some (.slice Ly my dy))
                (first | exact ⟨y0, y1, y2, y3, z3, h0, h1, h2, h3⟩ | exact ⟨q0, q1, q2, q3, q4, q5, q6, q7, q8⟩ | go_keep | (trace_state; fail))
                ((go_at_call 10; refine (same_any _ t (Nat.lt_succ_self _) HR.out.2.2.1 t _ _ _ _ _ HR.out.2.2.1 (H8.out.1.below (by repeat (first | exact Below.refl _ _ | refine Below.drew ?_))) (H8.out.2.1.below (by repeat (first | exact Below.refl _ _ | refine Below.drew ?_)))).mono ?_; rw [(T.sameB_iff t t).2 rfl]; rintro e w9 ⟨rfl, hb9⟩; have q0 := cell_on hb9 y0; have q1 := cell_on hb9 y1; have q2 := cell_on hb9 y2; have q3 := cell_on hb9 y3; have q4 := cell_on hb9 z3; have q5 := cell_on hb9 h0; have q6 := cell_on hb9 h1; have q7 := cell_on hb9 h2; have q8 := cell_on hb9 h3; have H9 := Lib.hid hb9; clear hb9))
              go_wp2_with fail
              have hdr : Below (w8.alloc (.cells #[.int .i64 k8, .int .i64 m8, .slice Ax nx cx, .slice Lx mx dx] 26)).heap.size (w8.alloc (.cells #[.int .i64 k8, .int .i64 m8, .slice Ax nx cx, .slice Lx mx dx] 26)) w9 := ((Below.refl _ _).drew).trans H9.out
              have hrel2 : GRel w2 l (.slice A8 (T.encAll (l.drop (j + 1))).length c8) (.int .i64 ((j : Int) + 1)) w9 :=
                ⟨j + 1, A8, c8, by have := (List.getElem?_eq_some_iff.1 HR.out.2.1).1; omega, by go_num, rfl, (H8.out.2.2.1.below hdr).keep fun _ _ _ => ⟨rfl, trivial⟩, H8.out.2.2.2.trans (hdr.mono H8.out.2.2.2.size)⟩
              have HG := Lib.hid hrel2
              clear hrel2 hdr
              go_roundw
              case rel => first | exact HG.out | ((repeat apply Exists.intro); exact ⟨HG.out, rfl⟩)
              case measure => simp [intOf]; omega
            · obtain rfl : j = k := by omega
              have hr0 : T.encAll (l.drop j) = [] := by rw [List.drop_of_length_le (by omega), T.encAll]
              rw [hr0] at hbj ⊢
              have HR := Lib.hid bww
              clear hbj hr0 hbel hli bww hx1 hll
              simp only [List.length_nil]
              go_wp2_with fail
              refine (known_walk B _ (Tab.at_ HT.out HR.out).1 (Tab.at_ HT.out HR.out).2).mono ?_
              rintro e w9 ⟨rfl, hb9⟩
              have H9 := Lib.hid hb9
              clear hb9
              go_wp2_with fail
              go_ret
              exact ⟨rfl, HR.out.trans (H9.out.mono HR.out.size)⟩

end Go.Proofs.YtodpojbgkeecnaaDoor
