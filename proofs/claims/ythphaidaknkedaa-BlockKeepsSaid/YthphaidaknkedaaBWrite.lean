/-
  Write: what it does to a disk. Conditions: the disk is held; the bytes handed in lie at their address where there are 64 of them, beside the disk's own block.
-/
import Derived.Test.YthphaidaknkedaaBSmall
import Derived.Test.YthphaidaknkedaaBPower
import Derived.Test.YthphaidaknkedaaBBuild
import Derived.Deep.RegionLaw
import Derived.Deep.AppendLies
import Derived.Lib.Hide
namespace Go.Proofs.Ythphaidaknkedaa
open Go.RowKit

theorem write_nil (w : World) (no : Int) (A : Option Addr) (m c : Nat) : Calls Try.prog 12 #[.pointer none, .int .i64 no, .slice A m c] w fun e w' => e = .returned (.int .i64 9) ∧ w = w' := by
  go_enter Try.func12, Try.ntmps12
  go_wp2_with (go_at_call 28; refine (on_nil _).mono ?_; rintro e w' ⟨rfl, rfl⟩)
  go_ret
  exact ⟨rfl, rfl⟩

theorem write_off (w : World) (D : Nat) (no : Int) (A : Option Addr) (m c : Nat) (h0 : w.cell? ⟨D, 0, none⟩ = some (.bool false)) :
    Calls Try.prog 12 #[.pointer (some ⟨D, 0, none⟩), .int .i64 no, .slice A m c] w fun e w' => e = .returned (.int .i64 9) ∧ w = w' := by
  go_enter Try.func12, Try.ntmps12
  go_wp2_with (go_at_call 28; refine (on_any _ D _ h0).mono ?_; rintro e w' ⟨rfl, rfl⟩)
  go_ret
  exact ⟨rfl, rfl⟩

theorem write_arg (w : World) (D L n lc : Nat) (no : Int) (A : Option Addr) (m c : Nat) (hn : n ≤ 4096) (h0 : w.cell? ⟨D, 0, none⟩ = some (.bool true)) (h3 : w.cell? ⟨D, 3, none⟩ = some (.slice (some ⟨L, 0, none⟩) (64 * n) lc))
    (hbad : ¬ (0 ≤ no ∧ no < n ∧ m = 64)) :
    Calls Try.prog 12 #[.pointer (some ⟨D, 0, none⟩), .int .i64 no, .slice A m c] w fun e w' => e = .returned (.int .i64 1) ∧ w = w' := by
  by_cases h : 0 ≤ no ∧ no < n
  · have hm : ((m : Int) != 64) = true := by
      rw [bne_iff_ne]; intro e; exact hbad ⟨h.1, h.2, by omega⟩
    have hd : decide (0 ≤ no ∧ no < n) = true := decide_eq_true h
    clear hbad h
    go_enter Try.func12, Try.ntmps12
    go_wp2_with (first | (go_at_call 28; refine (on_any _ D _ h0).mono ?_; rintro e w' ⟨rfl, rfl⟩) | (go_at_call 32; refine (has_any _ D L n lc no hn h3).mono ?_; rw [hd]; rintro e w' ⟨rfl, rfl⟩))
    go_ret
    exact ⟨rfl, rfl⟩
  · have hd : decide (0 ≤ no ∧ no < n) = false := decide_eq_false h
    clear hbad h
    go_enter Try.func12, Try.ntmps12
    go_wp2_with (first | (go_at_call 28; refine (on_any _ D _ h0).mono ?_; rintro e w' ⟨rfl, rfl⟩) | (go_at_call 32; refine (has_any _ D L n lc no hn h3).mono ?_; rw [hd]; rintro e w' ⟨rfl, rfl⟩))
    go_ret
    exact ⟨rfl, rfl⟩

theorem write_none (w : World) (D L : Nat) (n lc : Nat) (wv : Value) (wr fl : Int) (no : Int) (A : Option Addr) (c : Nat) (hd : Blk w D 69 (dk true true 0 L n lc wv wr fl)) (hn : n ≤ 4096) (h1 : 0 ≤ no) (h2 : no < n) :
    Calls Try.prog 12 #[.pointer (some ⟨D, 0, none⟩), .int .i64 no, .slice A 64 c] w fun e w' => e = .returned (.int .i64 9) ∧
      Blk w' D 69 (dk false true 0 L n lc wv wr fl) ∧ Only [D] w w' := by
  have hdc : decide (0 ≤ no ∧ no < n) = true := decide_eq_true ⟨h1, h2⟩
  obtain ⟨c0, c1, c2, c3, c4, c5, c6⟩ := dk_cells hd
  have HD := Lib.hid hd
  clear hd h1 h2
  go_enter Try.func12, Try.ntmps12
  go_wp2_with (first | (go_at_call 28; refine (on_any _ D _ c0).mono ?_; rintro e w' ⟨rfl, rfl⟩) | (go_at_call 32; refine (has_any _ D L n lc no hn c3).mono ?_; rw [hdc]; rintro e w' ⟨rfl, rfl⟩))
  refine (spend_no w D true L n lc wv wr fl HD.out).mono ?_
  rintro e w1 ⟨rfl, hd1, ho1⟩
  have H := Lib.hid (And.intro hd1 ho1)
  clear hd1 ho1
  go_wp2_with fail
  go_ret
  exact ⟨rfl, H.out.1, H.out.2⟩

attribute [local go_sem ↓] exec_load64 exec_build_waiting exec_slice_waiting
attribute [local go_sem] run_arrayAt64 read64_drew all64_drew all64V_ptr read64V_ptr isWait_U is65_U noOf_int bytesIn_agg

theorem W_snoc (ws : List (Int × List Int)) (no : Int) (bs : List Int) : W ws ++ (.int .i64 no :: U bs) = W (ws ++ [(no, bs)]) := by simp [W]
theorem one_cells (no : Int) (bs : List Int) : ∀ u ∈ (.int .i64 no :: U bs : List Value), u.oneCell' = true := by
  intro u hu
  rcases List.mem_cons.1 hu with rfl | hu
  · rfl
  · exact U_oneCell bs u hu

theorem block_of_add' (a : Addr) (n : Nat) : (a.add n).block = a.block := by unfold Addr.add; split <;> rfl
theorem len65 (no : Int) {bs : List Int} (h : (U bs).length = 64) : (.int .i64 no :: U bs : List Value).length = 1 * 65 := by rw [List.length_cons, h]
theorem new_cells (w : World) (cs : List Value) (t : TypeId) : ∀ j u, cs[j]? = some u → (w.alloc (.cells cs.toArray t)).cell? ((⟨w.heap.size, 0, none⟩ : Addr).add j) = some u := by
  intro j u hu
  have hadd : (⟨w.heap.size, 0, none⟩ : Addr).add j = ⟨w.heap.size, j, none⟩ := by unfold Addr.add; split <;> simp_all
  rw [hadd, (Blk.new w t cs).cell j, hu]

/-- What the last lines of Write leave: the disk again. -/
theorem write_end (B : Nat) (w w1 w2 : World) (D L : Nat) (wv : Value) (s : St) (no : Int) (bs : List Int) (g cap : Nat) (X : Obj) (left' : Int)
    (hlaid : Blk w L 5 (U s.laid ++ s.tl)) (hown : w.ownsRow B 73 65 wv s.waits.length (W s.waits)) (hdisk : Blk w D 69 (dk true s.armed s.left L s.n s.lc wv s.wr s.fl)) (hbD : B ≤ D) (hbL : B ≤ L) (hg : Good s)
    (hon : s.on = true) (h1 : 0 ≤ no) (h2 : no < s.n) (hb : bs.length = 64) (hcap : s.waits.length < 1000000) (hwr : s.wr < 1000000) (hl0 : 0 ≤ left') (hl1 : left' ≤ 9223372036854775807)
    (ho1 : Only [D] w w1) (hd2 : Blk w2 D 69 (dk true s.armed left' L s.n s.lc wv s.wr s.fl))
    (hgrow : (w1.alloc X).drew.grownBy w2 wv.ownBlock) (hown2 : w2.ownsRow B 73 65 (.slice (some ⟨g, 0, none⟩) (s.waits.length + 1) cap) (s.waits.length + 1) (W s.waits ++ (.int .i64 no :: U bs))) :
    IsDisk B ((w2.setCell ⟨D, 4, none⟩ (.slice (some ⟨g, 0, none⟩) (s.waits.length + 1) cap)).setCell ⟨D, 5, none⟩ (.int .i64 (s.wr + 1))) D L (.slice (some ⟨g, 0, none⟩) (s.waits.length + 1) cap)
      { s with left := left', waits := s.waits ++ [(no, bs)], wr := s.wr + 1 } ∧
    Only (D :: wv.ownBlock.toList) w ((w2.setCell ⟨D, 4, none⟩ (.slice (some ⟨g, 0, none⟩) (s.waits.length + 1) cap)).setCell ⟨D, 5, none⟩ (.int .i64 (s.wr + 1))) := by
  have hDL : L ≠ D := hlaid.ne_ hdisk (by decide)
  have hwL : some L ≠ wv.ownBlock := (own_blk_ne hown hlaid (by decide)).symm
  have hgD : g ≠ D := by
    have := own_blk_ne hown2 hd2 (by decide)
    simpa [Value.ownBlock] using this
  have hO : Only (D :: wv.ownBlock.toList) w w2 := by
    refine Only.grown (((ho1.mono (T := D :: wv.ownBlock.toList) (fun k hk _ => by simp at hk; simp [hk])).alloc X).drew) hgrow fun k hk => ?_
    exact .inl (by simp [hk])
  refine ⟨⟨?_, ?_, ?_, hbD, hbL, ?_⟩, ?_⟩
  · have := (hd2.set_ 4 (.slice (some ⟨g, 0, none⟩) (s.waits.length + 1) cap)).set_ 5 (.int .i64 (s.wr + 1))
    rw [hon]
    exact this
  · refine ((hlaid.only hO ?_).far (p := ⟨D, 4, none⟩) hDL _).far (p := ⟨D, 5, none⟩) hDL _
    simp only [List.mem_cons, Option.mem_toList, not_or]
    exact ⟨hDL, fun h => hwL h.symm⟩
  · have hO2 : Only [D] w2 ((w2.setCell ⟨D, 4, none⟩ (.slice (some ⟨g, 0, none⟩) (s.waits.length + 1) cap)).setCell ⟨D, 5, none⟩ (.int .i64 (s.wr + 1))) :=
      ((Only.refl _ _).setCell (.inl (by simp)) _).setCell (.inl (by simp)) _
    have := ownsRow_only hown2 hO2 (fun k hk => by
      simp [Value.ownBlock] at hk
      subst hk
      simpa using hgD)
    rw [W_snoc] at this
    simpa using this
  · refine ⟨hg.size, hg.n1, hg.n2, ?_, hl0, hl1, by simp; omega, by have := hg.wr0; show 0 ≤ s.wr + 1; omega, by show s.wr + 1 ≤ 1000000; omega, hg.fl0, hg.fl1, hg.lc0⟩
    intro p hp
    rcases List.mem_append.1 hp with hp | hp
    · exact hg.sec p hp
    · simp only [List.mem_singleton] at hp
      subst hp
      exact ⟨h1, h2, hb⟩
  · exact (hO.setCell (.inl (by simp)) _).setCell (.inl (by simp)) _

set_option maxRecDepth 100000 in
set_option maxHeartbeats 1000000 in
theorem write_ok (B : Nat) (w : World) (D L : Nat) (wv : Value) (s : St) (no : Int) (bs : List Int) (ad : Addr) (c : Nat) (hd : IsDisk B w D L wv s) (hB : B ≤ w.heap.size) (hon : s.on = true) (h1 : 0 ≤ no) (h2 : no < s.n) (hb : bs.length = 64)
    (hbs : ∀ j u, (U bs)[j]? = some u → w.cell? (ad.add j) = some u) (hne : ad.block ≠ D) (hs : ¬ (s.armed = true ∧ s.left = 0)) (hcap : s.waits.length < 1000000) (hwr : s.wr < 1000000) :
    Calls Try.prog 12 #[.pointer (some ⟨D, 0, none⟩), .int .i64 no, .slice (some ad) 64 c] w fun e w' => e = .returned (.int .i64 0) ∧
      DiskPost B D L (D :: wv.ownBlock.toList) w { s with left := nextLeft s.armed s.left, waits := s.waits ++ [(no, bs)], wr := s.wr + 1 } w' := by
  obtain ⟨hdisk, hlaid, hown, hbD, hbL, hg⟩ := hd
  have hn := hg.n2
  have hw0 := hg.wr0
  have hdc : decide (0 ≤ no ∧ no < s.n) = true := decide_eq_true ⟨h1, h2⟩
  rw [hon] at hdisk
  obtain ⟨c0, c1, c2, c3, c4, c5, c6⟩ := dk_cells hdisk
  have HS := Lib.hid hs
  have HG := Lib.hid hg
  have HL := Lib.hid hlaid
  have HO := Lib.hid hown
  have HD := Lib.hid hdisk
  have HB := Lib.hid hbs
  have HON := Lib.hid hon
  have H12 := Lib.hid (And.intro h1 h2)
  have hU : (U bs).length = 64 := by rw [U_length, hb]
  clear hs hg hlaid hown hdisk h1 h2 hbs hon
  go_enter Try.func12, Try.ntmps12
  go_wp2_with (first | (go_at_call 28; refine (on_any _ D _ c0).mono ?_; rintro e w' ⟨rfl, rfl⟩) | (go_at_call 32; refine (has_any _ D L s.n s.lc no hn c3).mono ?_; rw [hdc]; rintro e w' ⟨rfl, rfl⟩))
  refine (spend_ok w D true s.armed s.left L s.n s.lc wv s.wr s.fl HD.out HS.out HG.out.left0 HG.out.left1).mono ?_
  rintro e w1 ⟨rfl, hd1, ho1⟩
  clear c0 c1 c2 c3 c4 c5 c6
  obtain ⟨c0, c1, c2, c3, c4, c5, c6⟩ := dk_cells hd1
  have hr := read64_of hU (W := w1) (a := ad) (fun j u hu => by
    rw [World.cell?_of_block (w := w) (ho1.block _ ?_ ?_)]
    · exact HB.out j u hu
    · have := World.block_lt_of_cell? w _ (HB.out j u hu); exact this
    · rw [block_of_add']; simpa using hne)
  obtain ⟨hr1, hr2⟩ := hr
  have hown1 : w1.ownsRow B 73 65 wv s.waits.length (W s.waits) := ownsRow_only HO.out ho1 (fun k hk => by
    have := own_blk_ne HO.out HD.out (by decide)
    rw [hk] at this
    simpa using this)
  have HO1 := Lib.hid hown1
  have Hd1 := Lib.hid hd1
  have Ho1 := Lib.hid ho1
  have hv : wv.ownBlock ≠ some D := own_blk_ne hown1 hd1 (by decide)
  have Hv := Lib.hid hv
  have hsz := ho1.size
  clear hown1 hd1 ho1 hv hdc hne
  obtain ⟨i0, hi, hz0, hz1, hz2⟩ := info_parts winfo
  have HI := Lib.hid hi
  have HZ0 := Lib.hid hz0
  have HZ1 := Lib.hid hz1
  have HZ2 := Lib.hid hz2
  have HU := Lib.hid hU
  have hb' : (bs.length == 64) = true := by rw [hb]; rfl
  have HB64 := Lib.hid hb
  clear hi hz0 hz1 hz2 hU hb
  have ca4 := (Blk.alloc Hd1.out (.cells (.int .i64 no :: U bs).toArray 73)).cell 4
  rw [show (dk true s.armed (nextLeft s.armed s.left) L s.n s.lc wv s.wr s.fl)[4]? = some wv from rfl] at ca4
  go_wp2_with fail
  go_region_law (refine step_append_lies _ rfl (.tmp 28) (.tmp 34) 62 rfl B 73 i0 _ 65 72 (by kernel_rfl) HI.out HZ0.out HZ1.out HZ2.out rfl (by decide) wv s.waits.length (W s.waits) rfl (HO1.out.alloc _) ⟨w1.heap.size, 0, none⟩ 1 1 (.int .i64 no :: U bs) rfl (len65 no HU.out) (new_cells w1 _ _) (one_cells no bs) (by decide) (by unfold maxLen; omega) (by omega) (by simp; omega) (w1.heap.size + 1) (by simp) ?_; intro g cap w2 hown2 hgrow hwhere hlt; have hd2 : Blk w2 D 69 (dk true s.armed (nextLeft s.armed s.left) L s.n s.lc wv s.wr s.fl) := Blk.grown (Blk.drew (Blk.alloc Hd1.out (.cells (.int .i64 no :: U bs).toArray 73))) hgrow (Ne.symm Hv.out); have Hd2 := Lib.hid hd2; have c4' := (dk_cells hd2).2.2.2.2.1; have f4' := hd2.frozen 4; have Hown2 := Lib.hid hown2; have Hgrow := Lib.hid hgrow; have Hwhere := Lib.hid hwhere; clear hown2 hgrow hwhere hd2)
  all_goals
    have H3 : Blk (w2.setCell ⟨D, 4, none⟩ (.slice (some ⟨g, 0, none⟩) (s.waits.length + 1) cap)) D 69 (dk true s.armed (nextLeft s.armed s.left) L s.n s.lc (.slice (some ⟨g, 0, none⟩) (s.waits.length + 1) cap) s.wr s.fl) := Hd2.out.set_ 4 _
    have c5'' := (dk_cells H3).2.2.2.2.2.1
    have f5'' := H3.frozen 5
    have HH3 := Lib.hid H3
    clear H3 c4' f4' c0 c1 c2 c3 c4 c5 c6 hr1 hr2 ca4
    go_wp2_with (go_at_call 34; refine (atom_add _ ⟨D, 5, none⟩ s.wr hw0 (by omega) c5'' f5'').mono ?_; rintro e w' ⟨rfl, rfl⟩)
    go_ret
    exact ⟨rfl, _, write_end B w w1 w2 D L wv s no bs g cap _ _ HL.out HO.out HD.out hbD hbL HG.out HON.out H12.out.1 H12.out.2 HB64.out hcap hwr (left_ok HG.out HS.out).1 (left_ok HG.out HS.out).2 Ho1.out Hd2.out Hgrow.out Hown2.out⟩

/-- Write, in whatever state. -/
theorem write_any (B : Nat) (w : World) (D L : Nat) (wv : Value) (s : St) (no : Int) (bs : List Int) (A : Option Addr) (m c : Nat) (hd : IsDisk B w D L wv s) (hB : B ≤ w.heap.size) (hm : bs.length = m)
    (hbs : m = 64 → ∃ ad, A = some ad ∧ ad.block ≠ D ∧ ∀ j u, (U bs)[j]? = some u → w.cell? (ad.add j) = some u) (hcap : s.waits.length < 1000000) (hwr : s.wr < 1000000) :
    Calls Try.prog 12 #[.pointer (some ⟨D, 0, none⟩), .int .i64 no, .slice A m c] w fun e w' => e = .returned (.int .i64 (s.write no bs).1) ∧
      DiskPost B D L (D :: wv.ownBlock.toList) w (s.write no bs).2 w' := by
  obtain ⟨c0, c1, c2, c3, c4, c5, c6⟩ := dk_cells hd.disk
  unfold St.write
  by_cases hon : s.on = false
  · rw [if_pos hon]
    rw [hon] at c0
    exact (write_off w D no A m c c0).mono fun e w' ⟨he, hw⟩ => ⟨he, by subst hw; exact ⟨wv, hd, Only.refl _ _⟩⟩
  rw [if_neg hon]
  have hon' : s.on = true := by cases h : s.on <;> simp_all
  by_cases hbad : 0 ≤ no ∧ no < s.n ∧ bs.length = 64
  · rw [if_neg (fun h => h hbad)]
    obtain ⟨h1, h2, h64⟩ := hbad
    have hm64 : m = 64 := by omega
    subst hm64
    obtain ⟨ad, rfl, hne, hc⟩ := hbs rfl
    by_cases hs : s.armed = true ∧ s.left = 0
    · rw [if_pos hs]
      have hdisk := hd.disk
      rw [hon', hs.1, hs.2] at hdisk
      refine (write_none w D L s.n s.lc wv s.wr s.fl no _ c hdisk hd.good.n2 h1 h2).mono fun e w' ⟨he, hb, ho⟩ => ⟨he, wv, ⟨?_, ?_, ?_, hd.baseD, hd.baseL, ?_⟩, ho.mono (by intro k hk _; simp at hk; simp [hk])⟩
      · show Blk w' D _ (dk false s.armed s.left L s.n s.lc wv s.wr s.fl)
        rw [hs.1, hs.2]; exact hb
      · exact hd.laid.only ho (by simpa using hd.laid.ne_ hd.disk (by decide))
      · refine ownsRow_only hd.own ho fun k hk => ?_
        have := own_blk_ne hd.own hd.disk (by decide)
        rw [hk] at this
        simpa using this
      · obtain ⟨g1, g2, g3, g4, g5, g6, g7, g8, g9, g10, g11, g12⟩ := hd.good
        exact ⟨g1, g2, g3, g4, g5, g6, g7, g8, g9, g10, g11, g12⟩
    · rw [if_neg hs]
      exact write_ok B w D L wv s no bs ad c hd hB hon' h1 h2 h64 hc hne hs hcap hwr
  · rw [if_pos hbad]
    rw [hon'] at c0
    exact (write_arg w D L s.n s.lc no A m c hd.good.n2 c0 c3 (fun h => hbad ⟨h.1, h.2.1, by omega⟩)).mono fun e w' ⟨he, hw⟩ => ⟨he, by subst hw; exact ⟨wv, hd, Only.refl _ _⟩⟩

end Go.Proofs.Ythphaidaknkedaa
