/-
  begun, mend, where the journal doesn't begin with the next number: nothing is done. Conditions: the disk has power that never goes; the head is right.
-/
import Derived.Test.YtkmkblhmjeeaeaaGreatDoorM9
import Derived.Test.YtkmkblhmjeeaeaaGreatDoorM8
section
set_option maxRecDepth 100000
set_option linter.unusedSimpArgs false
set_option linter.unusedVariables false
namespace Go.Proofs.YtkmkblhmjeeaeaaGreatDoor
open Go.RowKit

theorem zeroTrans (w : World) : (zeroValue 141).run Tryz.prog w = .ok (.agg #[.int .i64 0, .slice none 0 0]) w := by kernel_rfl

theorem two_read {wk : World} {b : Nat} {t : TypeId} {p q : Value} (h : Blk wk b t [p, q]) (x y : Value) :
    ((wk.setCell ⟨b, 0, none⟩ x).setCell ⟨b, 1, none⟩ y).cell? ⟨b, 0, none⟩ = some x ∧ ((wk.setCell ⟨b, 0, none⟩ x).setCell ⟨b, 1, none⟩ y).cell? ⟨b, 1, none⟩ = some y := by
  have := (h.set_ 0 x).set_ 1 y
  exact ⟨this.cell 0, this.cell 1⟩
theorem two_only (wk : World) (b : Nat) (x y : Value) : Only [b] wk ((wk.setCell ⟨b, 0, none⟩ x).setCell ⟨b, 1, none⟩ y) := ((Only.refl _ wk).setCell (p := ⟨b, 0, none⟩) (.inl (by simp)) x).setCell (p := ⟨b, 1, none⟩) (.inl (by simp)) y
theorem two_below {w wk : World} {b : Nat} {x y : Value} (h : Below w.heap.size w wk) (hb : w.heap.size ≤ b) : Below w.heap.size w ((wk.setCell ⟨b, 0, none⟩ x).setCell ⟨b, 1, none⟩ y) :=
  h.trans ((two_only wk b x y).below (B := w.heap.size) h.size (by simpa using hb))
theorem doneB_le {ks : List B32} {b : List B8} {k : Nat} (h : doneB ks b = some k) : k ≤ top60 := by
  unfold doneB at h
  split at h
  · cases h; exact Nat.zero_le _
  · split at h
    · rename_i h1; cases h; exact h1.1
    · cases h

set_option maxHeartbeats 1600000 in
theorem begun_none (B : Nat) (w : World) (D L n j : Nat) (S : Nat → List B8) (cw cf num : Nat) (hd : Idle B D L n S cw cf w) (hj : j + 1 < n) (hj1 : 1 ≤ j) (hnum : num ≤ 9223372036854775807) (hno : fromB (sub (S 1) 0 8) ≠ num) :
    Calls Tryz.prog 112 #[lay_ D j, .int .i64 num] w fun e w' => e = .returned (.tuple #[.agg #[.int .i64 0, .slice none 0 0], .int .i64 7]) ∧ Below w.heap.size w w' := by
  have hnb := hd.bound
  have hz := zeroTrans
  have b1 := new_below w (.cells #[.pointer (some ⟨D, 0, none⟩), .int .i64 (j : Int)] 119)
  have k1 := Blk.new w 119 [.pointer (some ⟨D, 0, none⟩), .int .i64 (j : Int)]
  have b2 := new_below (w.alloc (.cells #[.pointer (some ⟨D, 0, none⟩), .int .i64 (j : Int)] 119)) (.cells #[.int .i64 0, .slice none 0 0] 141)
  have k2 := Blk.new (w.alloc (.cells #[.pointer (some ⟨D, 0, none⟩), .int .i64 (j : Int)] 119)) 141 [.int .i64 0, .slice none 0 0]
  simp only [World.size_alloc] at k2
  have ⟨l0, l1⟩ := blk_pair (k1.below b2 k1.lt)
  have H := Lib.hid (And.intro (hd.below (below_of b1 b2)) (And.intro (k1.below b2 k1.lt) (And.intro k2 (below_of b1 b2))))
  have hf : ((fromB (sub (S 1) 0 8) : Int) != (num : Int)) = true := by simp; omega
  obtain ⟨f0, hf0⟩ : ∃ f, fromB (sub (S 1) 0 8) = f := ⟨_, rfl⟩
  rw [hf0] at hf
  have HF := Lib.hid hf0
  clear hd b1 k1 b2 k2 hno hf0
  go_enter Tryz.func112, Tryz.ntmps112
  go_wp2_with fail
  go_region_held3 (fun w' => w'.cell? ⟨w.heap.size, 0, none⟩ = some (.pointer (some ⟨D, 0, none⟩)) ∧ w'.cell? ⟨w.heap.size, 1, none⟩ = some (.int .i64 (j : Int)))
    (first | exact ⟨c0, c1⟩ | exact ⟨e0, e1⟩ | exact ⟨l0, l1⟩)
    (first
      | (go_at_call 91; refine (noteAt_any (D := D) (j := j) 0 (by omega)).mono ?_; rintro e w2 ⟨rfl, hW⟩; have e0 := cell_drew l0 hW; have e1 := cell_drew l1 hW; have H2 := Lib.hid (And.intro (idle_drew H.out.1 hW) (And.intro (blk_drew H.out.2.1 hW) (And.intro (blk_drew H.out.2.2.1 hW) (below_drew H.out.2.2.2 hW)))); clear hW)
      | (go_at_call 66; refine (read_calm H2.out.1.calm (k := 1) (by omega)).mono ?_; rintro e w3 ⟨v, rfl, hv, hW⟩; have c0 := cell_below e0 hW; have c1 := cell_below e1 hW; have hs64 := H2.out.1.sec (k := 1) (by omega); obtain ⟨Q, k3, rfl, hk64, hk3⟩ := hv.form; rw [hs64] at hk64 hv ⊢; obtain ⟨g, o, rfl, _, _, _⟩ := hv.cells.2 (by omega); have H3 := Lib.hid (And.intro hv (And.intro (H2.out.2.1.below hW H2.out.2.1.lt) (And.intro (H2.out.2.2.1.below hW H2.out.2.2.1.lt) (below_of H2.out.2.2.2 hW)))); clear hW hv))
  go_wp2_with fail
  refine (noted_any _ _ g o k3 (S 1) H3.out.1 hk64 hk3).mono ?_
  rintro e w4 ⟨rfl, hW⟩
  have hr := H3.out.2.2.1.below hW H3.out.2.2.1.lt
  have ⟨r0, r1⟩ := blk_pair hr
  have rf0 := hr.frozen 0
  have rf1 := hr.frozen 1
  have H4 := Lib.hid (And.intro hr (below_of H3.out.2.2.2 hW))
  clear hW hr l0 l1 e0 e1 c0 c1
  rw [HF.out]
  clear HF
  go_wp2_with fail
  have HC := two_read H4.out.1 (.int .i64 0) (.slice none 0 0)
  refine bodyPost_ret (v := .tuple #[.agg #[.int .i64 0, .slice none 0 0], .int .i64 7]) ?_ rfl ⟨rfl, two_below H4.out.2 (Nat.le_succ _)⟩
  have hc0 := HC.1
  have hc1 := HC.2
  simp [results, Tryz.results112, go_sem, hc0, hc1]

set_option maxHeartbeats 1600000 in
theorem mend_none (ks : List B32) (B : Nat) (w : World) (D L G n j : Nat) (S : Nat → List B8) (cw cf done done' : Nat) (x : Int × Int) (red : Bool) (hd : Idle B D L n S cw cf w) (hB : B ≤ w.heap.size) (hBG : B ≤ G) (hK : Roots ks w) (hG : Blk w G 131 (logCells D j x done red))
    (hj : j + 1 < n) (hj1 : 1 ≤ j) (hdn : doneB ks (S 0) = some done') (hno : fromB (sub (S 1) 0 8) ≠ done' + 1) :
    Calls Tryz.prog 81 #[.pointer (some ⟨G, 0, none⟩)] w (mendPost B D L G n j S cw cf x done' red 0 w) := by
  have hnb := hd.bound
  have hpos := hK.pos
  have htop : done' ≤ top60 := doneB_le hdn
  have hdb : done' + 1 ≤ 9223372036854775807 := by unfold top60 at htop; omega
  clear htop
  have hlt := hd.lt
  have hGl := hG.lt
  have hDG : D ≠ G := by
    rintro rfl
    obtain ⟨s, hs, _⟩ := hd
    exact absurd (hG.same hs.disk).1 (by decide)
  have hLG : L ≠ G := by
    rintro rfl
    obtain ⟨s, hs, _⟩ := hd
    exact absurd (hG.same hs.laid).1 (by decide)
  obtain ⟨g0, g1, g5, g6⟩ := log_cells hG
  have H := Lib.hid (And.intro hd (And.intro hG (And.intro hK (And.intro hdn (And.intro hno (And.intro hDG hLG))))))
  clear hd hG hK hdn hno hDG hLG
  go_enter Tryz.func81, Tryz.ntmps81
  go_wp2_with (first
    | (go_at_call 66; refine (read_calm H.out.1.calm (k := 0) (by omega)).mono ?_; rintro e w1 ⟨v, rfl, hv, hW⟩; have hs64 := H.out.1.sec (k := 0) (by omega); obtain ⟨Q, k3, rfl, hk64, hk3⟩ := hv.form; rw [hs64] at hk64 hv ⊢; obtain ⟨g, o, rfl, _, _, _⟩ := hv.cells.2 (by omega); have H1 := Lib.hid (And.intro hv hW); clear hW hv))
  refine (doneBy_any ks _ _ g o k3 (S 0) (H.out.2.2.1.below H1.out.2 hpos) H1.out.1 hk64 hk3).mono ?_
  rw [H.out.2.2.2.1]
  rintro e w2 ⟨rfl, hW⟩
  have hb2 := below_of H1.out.2 hW
  have hG2 := H.out.2.1.below hb2 hGl
  have hset := stp_set (B := B) (G := G) (w := w2) (o := 5) (Nat.le_trans hB hb2.size) hBG (.int .i64 (done' : Int))
  have hG3 : Blk (w2.setCell ⟨G, 5, none⟩ (.int .i64 (done' : Int))) G 131 (logCells D j x done' red) := hG2.set_ 5 (.int .i64 (done' : Int))
  have hd3 := (H.out.1.below hb2).stp hset (by simpa using H.out.2.2.2.2.2.1) (by simpa using H.out.2.2.2.2.2.2)
  obtain ⟨g0, g1, g5, g6⟩ := log_cells hG2
  have gf := hG2.frozen 5
  obtain ⟨m0, m1, m5, m6⟩ := log_cells hG3
  have H2 := Lib.hid (And.intro hd3 (And.intro hG3 ((Stp.of_below (X := [D, L, G]) hB hb2).trans (hset.mono (by intro k hk _; simp at hk ⊢; simp [hk])))))
  clear hW hb2 hG2 hset hG3 hd3
  go_wp2_with (first
    | (go_at_call 112; refine (begun_none B _ D L n j S cw cf (done' + 1) H2.out.1 hj hj1 hdb H.out.2.2.2.2.1).mono ?_; rintro e w4 ⟨rfl, hW⟩; have H4 := Lib.hid (And.intro (H2.out.1.below hW) (And.intro (H2.out.2.1.below hW H2.out.2.1.lt) (H2.out.2.2.trans (Stp.of_below (Nat.le_trans hB H2.out.2.2.size) hW)))); clear hW))
  have hb := new_below w4 (.cells #[.int .i64 0, .slice none 0 0] 141)
  go_ret
  exact ⟨rfl, H4.out.1.below hb, H4.out.2.1.below hb H4.out.2.1.lt, H4.out.2.2.trans (Stp.of_below (Nat.le_trans hB H4.out.2.2.size) hb)⟩

/-- A log, opened. -/
def openPost (B D L n j : Nat) (S : Nat → List B8) (cw cf done : Nat) (red : Bool) (w : World) (e : Ending) (w' : World) : Prop :=
  e = .returned (.tuple #[.pointer (some ⟨w.heap.size, 0, none⟩), .int .i64 0]) ∧ Idle B D L n S cw cf w' ∧ Blk w' w.heap.size 131 (logCells D j (1, 0) done red) ∧ Stp B [D, L] w w'

set_option maxHeartbeats 1600000 in
theorem open_any (B : Nat) (w : World) (D L n j : Nat) (S S' : Nat → List B8) (cw cf cw' cf' done : Nat) (red : Bool) (hd : Idle B D L n S cw cf w) (hB : B ≤ w.heap.size) (hj : j + 1 < n) (h2 : 2 ≤ j) (h3 : j ≤ 1024) (h4 : j % 2 = 0)
    (hm : ∀ w1, Stp B [] w w1 → w.heap.size ≤ w1.heap.size → Blk w1 w.heap.size 131 (logCells D j (0, 1) 0 false) → Calls Tryz.prog 81 #[.pointer (some ⟨w.heap.size, 0, none⟩)] w1 (mendPost B D L w.heap.size n j S' cw' cf' (0, 1) done red 0 w1)) :
    Calls Tryz.prog 22 #[.pointer (some ⟨D, 0, none⟩), .int .i64 j] w (openPost B D L n j S' cw' cf' done red w) := by
  have hnb := hd.bound
  have hlt := hd.lt
  have b1 := new_below w (.cells #[.pointer (some ⟨D, 0, none⟩), .int .i64 (j : Int), .int .u32 0, .int .i32 0, .int .u32 0, .int .i64 0, .bool false] 131)
  have k1 : Blk (w.alloc (.cells #[.pointer (some ⟨D, 0, none⟩), .int .i64 (j : Int), .int .u32 0, .int .i32 0, .int .u32 0, .int .i64 0, .bool false] 131)) w.heap.size 131 (logCells D j (0, 0) 0 false) := Blk.new w 131 [.pointer (some ⟨D, 0, none⟩), .int .i64 (j : Int), .int .u32 0, .int .i32 0, .int .u32 0, .int .i64 0, .bool false]
  obtain ⟨g0, g1, g5, g6⟩ := log_cells k1
  have H := Lib.hid (And.intro (hd.below b1) (And.intro k1 (And.intro b1 hm)))
  clear hd b1 k1 hm
  go_enter Tryz.func22, Tryz.ntmps22
  go_wp2_with (first
    | (go_at_call 47; refine (on_idle H.out.1.calm).mono ?_; rintro e w' ⟨rfl, rfl⟩)
    | (go_at_call 48; refine (fits_any H.out.1.calm hj hnb.2 h2 h3 h4).mono ?_; rintro e w1 ⟨rfl, hb⟩; have HB := Lib.hid hb; clear hb))
  have hs1 := HB.out.size
  have hs0 := H.out.2.2.1.size
  have hsz : (w.alloc (.cells #[.pointer (some ⟨D, 0, none⟩), .int .i64 (j : Int), .int .u32 0, .int .i32 0, .int .u32 0, .int .i64 0, .bool false] 131)).heap.size = w.heap.size + 1 := by simp
  have hst : Stp B [] w w1 := Stp.of_below hB (below_of H.out.2.2.1 HB.out)
  refine (recovered_any (B := B) (D := D) (L := L) (G := w.heap.size) (n := n) (j := j) (S := S') (cw := cw') (cf := cf') (done := done) (red := red) (r := 0) (H.out.2.1.below HB.out H.out.2.1.lt) (by omega) (by omega) (by omega) hB (by omega) (by omega) ?_).mono ?_
  · intro w2 hs hG
    refine H.out.2.2.2 w2 ((hst.mono (Y := [w.heap.size]) (by simp)).trans hs |>.mono (by intro k hk hl; simp at hk; omega)) ?_ hG
    have := hs.size
    omega
  rintro e w2 ⟨rfl, hI, hG, hS⟩
  have H2 := Lib.hid (And.intro hI (And.intro hG (((hst.mono (Y := [D, L, w.heap.size]) (by simp)).trans hS).mono (Y := [D, L]) (by intro k hk hl; simp at hk ⊢; omega))))
  clear hI hG hS hst
  go_wp2_with fail
  go_ret2
  exact ⟨rfl, H2.out.1, H2.out.2.1, H2.out.2.2⟩

theorem open_none (ks : List B32) (B : Nat) (w : World) (D L n j : Nat) (S : Nat → List B8) (cw cf done : Nat) (hd : Idle B D L n S cw cf w) (hB : B ≤ w.heap.size) (hK : Roots ks w) (hKB : 1 < B) (hj : j + 1 < n) (h2 : 2 ≤ j) (h3 : j ≤ 1024) (h4 : j % 2 = 0)
    (hdn : doneB ks (S 0) = some done) (hno : fromB (sub (S 1) 0 8) ≠ done + 1) :
    Calls Tryz.prog 22 #[.pointer (some ⟨D, 0, none⟩), .int .i64 j] w (openPost B D L n j S cw cf done false w) :=
  open_any B w D L n j S S cw cf cw cf done false hd hB hj h2 h3 h4 fun w1 hs hw hG =>
    mend_none ks B w1 D L w.heap.size n j S cw cf 0 done (0, 1) false (hd.stp hs (by simp) (by simp)) (by omega) hB (hK.below hs.below hKB) hG hj (by omega) hdn hno
end Go.Proofs.YtkmkblhmjeeaeaaGreatDoor
end

/-
  The law's own example of a log: it holds, and leaves what was there as it was. Condition: the constants lie in their variable.
-/

section
set_option maxRecDepth 100000
set_option linter.unusedSimpArgs false
set_option linter.unusedVariables false
namespace Go.Proofs.YtkmkblhmjeeaeaaGreatDoor
open Go.RowKit

theorem Bts.bytesAt {A : Nat → Prop} {w : World} {P : Option Addr} {n c : Nat} {xs : List B8} (h : Bts A w (.slice P n c) xs) : BytesAt w P (xs.map nb) := by
  intro hn
  rw [List.length_map] at hn
  obtain ⟨hl, hc⟩ := h.cells
  obtain ⟨g, o, rfl, _, _, hcell⟩ := hc (by omega)
  refine ⟨_, rfl, fun j x hx => ?_⟩
  rw [add_off]
  refine hcell j _ ?_
  rw [List.getElem?_map] at hx
  unfold Vb
  rw [List.getElem?_map]
  cases hb : xs[j]? with
  | none => rw [hb] at hx; cases hx
  | some b => rw [hb] at hx; cases hx; rfl
/-- Same, of two slices of bytes. -/
theorem same_bts {A A' : Nat → Prop} {w : World} {P Q : Option Addr} {n n' c c' : Nat} {xs ys : List B8} (hx : Bts A w (.slice P n c) xs) (hy : Bts A' w (.slice Q n' c') ys) {b : Bool} (hb : decide (xs = ys) = b) :
    Calls Tryz.prog 63 #[.slice P n c, .slice Q n' c'] w fun e w' => e = .returned (.bool b) ∧ Below w.heap.size w w' := by
  have hxl := hx.cells.1
  have hyl := hy.cells.1
  have hmx : n ≤ 9223372036854775807 := by obtain ⟨P', c', e, h1, h2⟩ := hx.form; cases e; omega
  refine (same_walk w P Q n n' c c' (xs.map nb) (ys.map nb) (by simpa using hxl) (by simpa using hyl) hmx hx.bytesAt hy.bytesAt).mono ?_
  rintro e w' ⟨rfl, q, rfl⟩
  refine ⟨?_, drewN_below _ _⟩
  congr 2
  rw [← hb]
  by_cases h : xs = ys
  · subst h; simp
  · rw [decide_eq_false h, beq_eq_false_iff_ne]
    exact fun e => h (map_nb_inj e)
theorem make64 (w : World) : (Instr.makeSlice 40 (.int .i64 64) (.int .i64 64)).run Tryz.prog w = .ok (.slice (some ⟨w.heap.size, 0, none⟩) 64 64) (w.alloc (.cells (Vb zeros64).toArray 5)) := by
  have h := make_bytes w 64 (by omega) (by omega)
  have e : U (List.replicate (64 : Int).toNat 0) = Vb zeros64 := by simp [U, Vb, nb, zeros64]
  rw [e] at h
  exact h

def seven : List B8 := zeros64.set 5 7
theorem seven_cells : (Vb zeros64).set 5 (.int .u8 7) = Vb seven := by
  unfold seven Vb
  rw [List.map_set, show nb (7 : B8) = 7 by unfold nb; rfl]
theorem zeros_at : (Vb zeros64)[5]? = some (.int .u8 0) := by simp [Vb, zeros64, nb]
theorem seven_length : seven.length = 64 := by rfl
theorem zeros_from (o n : Nat) : fromB (sub (List.replicate 64 (0 : B8)) o n) = 0 := by
  unfold sub fromB
  rw [List.drop_replicate, List.take_replicate]
  generalize min n (64 - o) = k
  induction k with
  | zero => rfl
  | succ k ih => rw [List.replicate_succ, List.foldl_cons]; exact ih
theorem known_at (ks : List B32) : behind ks 2 (0 + 1) 1 (fun _ => List.replicate 64 0) [(2, seven)] (1 + 2 + 2) = seven := by
  rfl

theorem Wrs.two {A : Nat → Prop} {w : World} {g : Nat} {n0 n1 : Int} {Q R : Option Addr} {m k m' k' : Nat} {b b' : List B8} (hb : Blk w g 146 [.int .i64 n0, .slice Q m k, .int .i64 n1, .slice R m' k']) (hA : A g) (hu : Bts A w (.slice Q m k) b) (hu' : Bts A w (.slice R m' k') b') : Wrs A w (.slice (some ⟨g, 0, none⟩) 2 2) [(n0, b), (n1, b')] := by
  refine .inr ⟨g, 2, _, rfl, hA, hb, by simp, by unfold maxLen; omega, fun i p hp => ?_⟩
  match i, hp with
  | 0, hp => simp at hp; subst hp; exact ⟨rfl, _, rfl, hu⟩
  | 1, hp => simp at hp; subst hp; exact ⟨rfl, _, rfl, hu'⟩

end Go.Proofs.YtkmkblhmjeeaeaaGreatDoor
end
