/-
  Flush: what it does to a disk. Conditions: the disk is held.
-/
import Derived.Test.YthphaidaknkedaaBMore
import Derived.WalkMore
namespace Go.Proofs.Ythphaidaknkedaa
open Go.RowKit

theorem flush_off (w : World) (D : Nat) (c0 : w.cell? ⟨D, 0, none⟩ = some (.bool false)) :
    Calls Try.prog 17 #[.pointer (some ⟨D, 0, none⟩)] w fun e w' => e = .returned (.int .i64 9) ∧ w = w' := by
  go_enter Try.func17, Try.ntmps17
  go_wp2_with (go_at_call 28; refine (on_any _ D _ c0).mono ?_; rintro e w' ⟨rfl, rfl⟩)
  go_ret
  exact ⟨rfl, rfl⟩

theorem flush_none (w : World) (D L : Nat) (n lc : Nat) (wv : Value) (wr fl : Int) (hd : Blk w D 69 (dk true true 0 L n lc wv wr fl)) :
    Calls Try.prog 17 #[.pointer (some ⟨D, 0, none⟩)] w fun e w' => e = .returned (.int .i64 9) ∧
      Blk w' D 69 (dk false true 0 L n lc wv wr fl) ∧ Only [D] w w' := by
  obtain ⟨c0, c1, c2, c3, c4, c5, c6⟩ := dk_cells hd
  have HD := Lib.hid hd
  clear hd
  go_enter Try.func17, Try.ntmps17
  go_wp2_with (first | (go_at_call 28; refine (on_any _ D _ c0).mono ?_; rintro e w' ⟨rfl, rfl⟩))
  refine (spend_no w D true L n lc wv wr fl HD.out).mono ?_
  rintro e w1 ⟨rfl, hd1, ho1⟩
  have H := Lib.hid (And.intro hd1 ho1)
  clear hd1 ho1
  go_wp2_with fail
  go_ret
  exact ⟨rfl, H.out.1, H.out.2⟩

/-- The writes' slice and its cells, in a later world in which the row stands. -/
def Form (w : World) (A : Option Addr) (ws : List (Int × List Int)) : Prop := ∀ i p, ws[i]? = some p →
    ∃ g, A = some ⟨g, 0, none⟩ ∧ w.cell? ⟨g, i * 65, none⟩ = some (.int .i64 p.1) ∧ ∀ j x, p.2[j]? = some x → w.cell? ⟨g, i * 65 + 1 + j, none⟩ = some (.int .u8 x)
theorem Form.only {w w' : World} {A : Option Addr} {ws : List (Int × List Int)} {S : List Nat} (h : Form w A ws) (ho : Only S w w') (hA : ∀ a, A = some a → a.block ∉ S) : Form w' A ws := by
  intro i p hp
  obtain ⟨g, rfl, h1, h2⟩ := h i p hp
  have hb : w'.heap[g]? = w.heap[g]? := ho.block g (World.block_lt_of_cell? w _ h1) (hA _ rfl)
  exact ⟨g, rfl, (World.cell?_of_block (a := ⟨g, i * 65, none⟩) hb).trans h1, fun j x hx => (World.cell?_of_block (a := ⟨g, i * 65 + 1 + j, none⟩) hb).trans (h2 j x hx)⟩

/-- What the loop of Flush keeps. -/
def LayRel (L : Nat) (s : St) (w : World) (k : Nat) (wr : World) : Prop := Blk wr L 5 (U (layAll s.laid (s.waits.take k)) ++ s.tl) ∧ Only [L] w wr

theorem flush_end (B : Nat) (w w1 wr : World) (D L : Nat) (wv : Value) (s : St) (hd : IsDisk B w D L wv s) (hon : s.on = true) (hs : ¬ (s.armed = true ∧ s.left = 0)) (hfl : s.fl < 1000000) (ho1 : Only [D] w w1)
    (hdr : Blk wr D 69 (dk true s.armed (nextLeft s.armed s.left) L s.n s.lc wv s.wr s.fl)) (hr : LayRel L s w1 s.waits.length wr) :
    IsDisk B ((wr.setCell ⟨D, 4, none⟩ (.slice none 0 0)).setCell ⟨D, 6, none⟩ (.int .i64 (s.fl + 1))) D L (.slice none 0 0) { s with left := nextLeft s.armed s.left, laid := layAll s.laid s.waits, waits := [], fl := s.fl + 1 } ∧
    Only [D, L] w ((wr.setCell ⟨D, 4, none⟩ (.slice none 0 0)).setCell ⟨D, 6, none⟩ (.int .i64 (s.fl + 1))) := by
  have hDL : L ≠ D := hd.laid.ne_ hd.disk (by decide)
  obtain ⟨r1, r2⟩ := hr
  rw [List.take_length] at r1
  refine ⟨⟨?_, ?_, World.ownsRow_nil _ _ _ _, hd.baseD, hd.baseL, ?_⟩, ?_⟩
  · have := (hdr.set_ 4 (.slice none 0 0)).set_ 6 (.int .i64 (s.fl + 1))
    rw [hon]
    exact this
  · exact (r1.far (p := ⟨D, 4, none⟩) hDL _).far (p := ⟨D, 6, none⟩) hDL _
  · have hg := hd.good
    exact ⟨layAll_length _ _ hg.size hg.sec, hg.n1, hg.n2, by intro p hp; simp at hp, (left_ok hg hs).1, (left_ok hg hs).2, by simp, hg.wr0, hg.wr1, by have := hg.fl0; show 0 ≤ s.fl + 1; omega, by show s.fl + 1 ≤ 1000000; omega, hg.lc0⟩
  · have h1 : Only [D, L] w wr := (ho1.mono (by intro k hk _; simp at hk; simp [hk])).trans (r2.mono (by intro k hk _; simp at hk; simp [hk]))
    exact (h1.setCell (.inl (by simp)) _).setCell (.inl (by simp)) _

set_option maxHeartbeats 1000000 in
theorem flush_ok (B : Nat) (w : World) (D L : Nat) (wv : Value) (s : St) (hd : IsDisk B w D L wv s) (hon : s.on = true) (hs : ¬ (s.armed = true ∧ s.left = 0)) (hfl : s.fl < 1000000) :
    Calls Try.prog 17 #[.pointer (some ⟨D, 0, none⟩)] w fun e w' => e = .returned (.int .i64 0) ∧
      DiskPost B D L [D, L] w { s with left := nextLeft s.armed s.left, laid := layAll s.laid s.waits, waits := [], fl := s.fl + 1 } w' := by
  obtain ⟨A, c, rfl, hform⟩ := hd.form
  have hn := hd.good.n2
  have hcap := hd.good.cap
  have hlc := hd.good.lc0
  have hw0 := hd.good.fl0
  have hdisk := hd.disk
  rw [hon] at hdisk
  obtain ⟨c0, c1, c2, c3, c4, c5, c6⟩ := dk_cells hdisk
  have HD := Lib.hid hd
  have HF : Hid (Form w A s.waits) := hform
  have HS := Lib.hid hs
  have HON := Lib.hid hon
  have HK := Lib.hid hdisk
  clear hd hform hs hon hdisk
  go_enter Try.func17, Try.ntmps17
  go_wp2_with (first | (go_at_call 28; refine (on_any _ D _ c0).mono ?_; rintro e w' ⟨rfl, rfl⟩))
  refine (spend_ok w D true s.armed s.left L s.n s.lc _ s.wr s.fl HK.out HS.out HD.out.good.left0 HD.out.good.left1).mono ?_
  rintro e w1 ⟨rfl, hd1, ho1⟩
  clear c0 c1 c2 c3 c4 c5 c6
  obtain ⟨c0, c1, c2, c3, c4, c5, c6⟩ := dk_cells hd1
  have Hd1 := Lib.hid hd1
  have Ho1 := Lib.hid ho1
  clear hd1 ho1
  have hrowD : (Value.slice A s.waits.length c).ownBlock ≠ some D := own_blk_ne HD.out.own HD.out.disk (by decide)
  have hrowL : (Value.slice A s.waits.length c).ownBlock ≠ some L := own_blk_ne HD.out.own HD.out.laid (by decide)
  have hDL : D ≠ L := HD.out.disk.ne_ HD.out.laid (by decide)
  have HR := Lib.hid (And.intro hrowD (And.intro hrowL hDL))
  clear hrowD hrowL hDL
  have hF1 : Form w1 A s.waits := HF.out.only Ho1.out (by
    intro a ha
    subst ha
    have := HR.out.1
    simpa [Value.ownBlock] using this)
  have HF1 := Lib.hid hF1
  have hL1 : Blk w1 L 5 (U s.laid ++ s.tl) := HD.out.laid.only Ho1.out (by simpa using fun e => HR.out.2.2 e.symm)
  have HL1 := Lib.hid hL1
  clear hF1 hL1 HF
  go_wp2_with fail
  go_loopw [19] (fun i wr => ∃ k : Nat, k ≤ s.waits.length ∧ i = .int .i64 k ∧ LayRel L s w1 k wr) (fun i _ => s.waits.length - (intOf i).toNat)
  case atStart => exact ⟨0, Nat.zero_le _, rfl, by simpa [layAll] using HL1.out, Only.refl _ _⟩
  case round =>
    obtain ⟨k, hk, rfl, hrel⟩ := hrel
    have HR1 := Lib.hid hrel
    have hdr : Blk wr D 69 (dk true s.armed (nextLeft s.armed s.left) L s.n s.lc (.slice A s.waits.length c) s.wr s.fl) := Hd1.out.only hrel.2 (by simpa using HR.out.2.2)
    clear c0 c1 c2 c3 c4 c5 c6
    obtain ⟨c0, c1, c2, c3, c4, c5, c6⟩ := dk_cells hdr
    have f4 := hdr.frozen 4
    have Hdr := Lib.hid hdr
    clear hrel hdr
    by_cases hlt : k < s.waits.length
    · obtain ⟨p, hp⟩ : ∃ p, s.waits[k]? = some p := ⟨_, List.getElem?_eq_getElem hlt⟩
      obtain ⟨g, rfl, hno, hbs⟩ := (HF1.out.only HR1.out.2 (by
        intro a ha
        subst ha
        have := HR.out.2.1
        simpa [Value.ownBlock] using this)) k p hp
      have hsec := HD.out.good.sec p (List.mem_of_getElem? hp)
      have hpn : p.1 = ((p.1.toNat : Nat) : Int) := by omega
      rw [hpn] at hno
      have HP := Lib.hid (And.intro hp (And.intro hsec hpn))
      have HB := Lib.hid hbs
      clear hp hsec hpn hbs
      go_wp2_with (go_at_call 38; refine (lay_any _ D L g (k * 65) s.n s.lc p.1.toNat (layAll s.laid (s.waits.take k)) p.2 s.tl hlc hn (by have := HP.out.2.1; omega) c3 HR1.out.1 (layAll_length _ _ HD.out.good.size (fun q hq => HD.out.good.sec q (List.mem_of_mem_take hq))) HP.out.2.1.2.2 hno HB.out).mono ?_; rintro e w2 ⟨rfl, h1, h2⟩; have HH := Lib.hid (And.intro h1 h2); clear h1 h2)
      go_roundw
      case rel =>
        refine ⟨k + 1, by omega, by go_num, ?_, HR1.out.2.trans HH.out.2⟩
        have e : s.waits.take (k + 1) = s.waits.take k ++ [p] := by
          rw [List.take_add_one, HP.out.1]; rfl
        rw [e, layAll_snoc]
        exact HH.out.1
      case measure => simp [intOf]; omega
    · obtain rfl : k = s.waits.length := by omega
      have H3 : Blk (wr.setCell ⟨D, 4, none⟩ (.slice none 0 0)) D 69 (dk true s.armed (nextLeft s.armed s.left) L s.n s.lc (.slice none 0 0) s.wr s.fl) := Hdr.out.set_ 4 _
      have c6'' := (dk_cells H3).2.2.2.2.2.2
      have f6'' := H3.frozen 6
      have HH3 := Lib.hid H3
      clear H3
      go_wp2_with (go_at_call 34; refine (atom_add _ ⟨D, 6, none⟩ s.fl hw0 (by omega) c6'' f6'').mono ?_; rintro e w' ⟨rfl, rfl⟩)
      go_ret
      refine ⟨rfl, _, flush_end B w w1 wr D L _ s HD.out HON.out HS.out hfl Ho1.out Hdr.out HR1.out⟩

/-- Flush, in whatever state. -/
theorem flush_any (B : Nat) (w : World) (D L : Nat) (wv : Value) (s : St) (hd : IsDisk B w D L wv s) (hfl : s.fl < 1000000) :
    Calls Try.prog 17 #[.pointer (some ⟨D, 0, none⟩)] w fun e w' => e = .returned (.int .i64 s.flush.1) ∧ DiskPost B D L [D, L] w s.flush.2 w' := by
  obtain ⟨c0, c1, c2, c3, c4, c5, c6⟩ := dk_cells hd.disk
  unfold St.flush
  by_cases hon : s.on = false
  · rw [if_pos hon]
    rw [hon] at c0
    exact (flush_off w D c0).mono fun e w' ⟨he, hw⟩ => ⟨he, by subst hw; exact ⟨wv, hd, Only.refl _ _⟩⟩
  rw [if_neg hon]
  have hon' : s.on = true := by cases h : s.on <;> simp_all
  by_cases hs : s.armed = true ∧ s.left = 0
  · rw [if_pos hs]
    have hdisk := hd.disk
    rw [hon', hs.1, hs.2] at hdisk
    refine (flush_none w D L s.n s.lc wv s.wr s.fl hdisk).mono fun e w' ⟨he, hb, ho⟩ => ⟨he, wv, ⟨?_, ?_, ?_, hd.baseD, hd.baseL, ?_⟩, ho.mono (by intro k hk _; simp at hk; simp [hk])⟩
    · show Blk w' D _ (dk false s.armed s.left L s.n s.lc wv s.wr s.fl)
      rw [hs.1, hs.2]; exact hb
    · exact hd.laid.only ho (by simpa using hd.laid.ne_ hd.disk (by decide))
    · refine ownsRow_only hd.own ho fun k hk => ?_
      have := own_blk_ne hd.own hd.disk (by decide)
      rw [hk] at this
      simpa using this
    · obtain ⟨g1, g2, g3, g4, g5, g6, g7, g8, g9, g10, g11, g12⟩ := hd.good
      exact ⟨g1, g2, g3, g4, g5, g6, g7, g8, g9, g10, g11, g12⟩
  · rw [if_neg hs]
    exact flush_ok B w D L wv s hd hon' hs hfl

end Go.Proofs.Ythphaidaknkedaa
