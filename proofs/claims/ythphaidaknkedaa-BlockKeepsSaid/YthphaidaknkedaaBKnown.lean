/-
  The law's own example: it holds, and leaves what was there as it was. No condition.
-/
import Derived.Test.YthphaidaknkedaaBLive
import Derived.Test.YthphaidaknkedaaBTools
namespace Go.Proofs.Ythphaidaknkedaa
open Go.RowKit

/-- A sector of one byte. -/
def R (c : Int) : List Int := List.replicate 64 c
def k1 : St := { fresh 2 with waits := [(0, R 1)], wr := 1 }
def k2 : St := { fresh 2 with waits := [(0, R 1), (0, R 2)], wr := 2 }
def k3 : St := { fresh 2 with waits := [(0, R 1), (0, R 2), (1, R 3)], wr := 3 }
def k4 : St := { fresh 2 with on := false, laid := R 1 ++ R 3, waits := [], wr := 3 }
theorem w1_eq : (fresh 2).write 0 (R 1) = (0, k1) := by rfl
theorem w2_eq : k1.write 0 (R 2) = (0, k2) := by rfl
theorem w3_eq : k2.write 1 (R 3) = (0, k3) := by rfl
theorem seen_eq : seen k3 0 = R 2 := by rfl
theorem crash_eq : k3.crash [0, 2] = (2, k4) := by
  have h : kept [0, 2] k3.waits = [(0, R 1), (1, R 3)] := by simp [kept, k3]
  unfold St.crash
  rw [h]
  rfl

theorem new_two (w : World) : Calls Try.prog 7 #[.int .i64 2] w fun e w' => ∃ D L, e = .returned (.tuple #[.pointer (some ⟨D, 0, none⟩), .int .i64 0]) ∧ Live w.heap.size D L (fresh 2) w' ∧ Below w.heap.size w w' :=
  (new_live w 2 (by omega) (by omega)).mono fun _ _ ⟨he, h⟩ => ⟨_, _, he, h⟩

/-- A sector of one byte, written. -/
theorem write_R (B : Nat) (w w' : World) (D L : Nat) (s s' : St) (no c n : Int) (hl : Live B D L s w) (hB : B ≤ w.heap.size) (hb : Blk w' w.heap.size 5 (U (R c))) (hbel : Below w.heap.size w w') (he : s.write no (R c) = (n, s')) (hcap : s.waits.length < 1000000) (hwr : s.wr < 1000000) :
    Calls Try.prog 12 #[.pointer (some ⟨D, 0, none⟩), .int .i64 no, .slice (some ⟨w.heap.size, 0, none⟩) 64 64] w' fun e w2 => e = .returned (.int .i64 n) ∧ Live B D L s' w2 ∧ Step B L w w2 := by
  have h := write_live B w' D L s no (R c) (some ⟨w.heap.size, 0, none⟩) 64 64 (hl.below hbel) (Nat.le_trans hB hbel.size) (by simp [R]) (fun _ => ⟨_, rfl, by have := hl.lt; simp; omega, fun j u hu => by rw [add_off, hb.cell, Nat.zero_add]; exact hu⟩) hcap hwr
  rw [he] at h
  exact h.mono fun e w2 ⟨h1, h2, h3⟩ => ⟨h1, h2, (Step.of_below hB hbel).trans h3⟩

theorem read_R (B : Nat) (w : World) (D L : Nat) (s : St) (hd : Live B D L s w) (hB : B ≤ w.heap.size) (hon : s.on = true) (hk : 0 < s.n) :
    Calls Try.prog 14 #[.pointer (some ⟨D, 0, none⟩), .int .i64 0] w fun e w' => ∃ v, e = .returned (.tuple #[v, .int .i64 0]) ∧ GotBytes B D L s (seen s 0) w v w' :=
  read_live B w D L s 0 hd hB hon hk

theorem blk_cells {w : World} {g : Nat} {t : TypeId} {cs : List Value} (h : Blk w g t cs) : ∀ j u, cs[j]? = some u → w.cell? ((⟨g, 0, none⟩ : Addr).add j) = some u := by
  intro j u hu
  rw [add_off, h.cell, Nat.zero_add, hu]
theorem crash_R (B : Nat) (w : World) (D L : Nat) (hd : Live B D L k3 w) (hB : B ≤ w.heap.size) :
    Calls Try.prog 19 #[.pointer (some ⟨D, 0, none⟩), .slice (some ⟨w.heap.size, 0, none⟩) 2 2] (w.alloc (.cells #[.int .i64 0, .int .i64 2] 3)) fun e w' => e = .returned (.int .i64 2) ∧ Live B D L k4 w' ∧ Step B L w w' := by
  have hb : Below w.heap.size w (w.alloc (.cells #[.int .i64 0, .int .i64 2] 3)) := (Below.refl _ _).alloc (Nat.le_refl _) _
  have h := crash_live B (w.alloc (.cells #[.int .i64 0, .int .i64 2] 3)) D L k3 (some ⟨w.heap.size, 0, none⟩) 2 2 [0, 2] (hd.below hb) (Nat.le_trans hB hb.size) rfl (by omega) (fun j x hx => ⟨w.heap.size, 0, rfl, by
    have hn := (Blk.new w 3 [.int .i64 0, .int .i64 2]).cell j
    rw [Nat.zero_add]
    refine hn.trans ?_
    match j, hx with
    | 0, hx => simp at hx; subst hx; rfl
    | 1, hx => simp at hx; subst hx; rfl⟩)
  rw [crash_eq] at h
  exact h.mono fun e w2 ⟨h1, h2, h3⟩ => ⟨h1, h2, (Step.of_below hB hb).trans h3⟩

set_option maxRecDepth 100000 in
set_option maxHeartbeats 1000000 in
theorem known_walk (w : World) : Calls Try.prog 8 #[] w fun e w' => e = .returned (.bool true) ∧ Below w.heap.size w w' := by
  go_enter Try.func8, Try.ntmps8
  go_wp2_with fail
  refine (new_two w).mono ?_
  rintro e w1 ⟨D, L, rfl, hl1, hb1⟩
  have HL := Lib.hid hl1
  have HB := Lib.hid hb1
  clear hl1 hb1
  go_wp2_with fail
  refine (all_walk w1 1).mono ?_
  rintro e w2 ⟨rfl, ha, hb⟩
  have HA := Lib.hid (And.intro ha hb)
  clear ha hb
  go_wp2_with fail
  refine (write_R w.heap.size w1 w2 D L (fresh 2) k1 0 1 0 HL.out HB.out.size HA.out.1 HA.out.2 w1_eq (by decide) (by decide)).mono ?_
  rintro e w3 ⟨rfl, hl3, hs3⟩
  have HL3 := Lib.hid hl3
  have HS3 := Lib.hid ((Step.of_below (L := L) (Nat.le_refl _) HB.out).trans hs3)
  clear hl3 hs3 HA
  go_wp2_with fail
  refine (all_walk w3 2).mono ?_
  rintro e w4 ⟨rfl, ha, hb⟩
  have HA := Lib.hid (And.intro ha hb)
  clear ha hb
  go_wp2_with fail
  refine (write_R w.heap.size w3 w4 D L k1 k2 0 2 0 HL3.out HS3.out.size HA.out.1 HA.out.2 w2_eq (by decide) (by decide)).mono ?_
  rintro e w5 ⟨rfl, hl5, hs5⟩
  have HL5 := Lib.hid hl5
  have HS5 := Lib.hid (HS3.out.trans hs5)
  clear hl5 hs5 HA
  go_wp2_with fail
  refine (all_walk w5 3).mono ?_
  rintro e w6 ⟨rfl, ha, hb⟩
  have HA := Lib.hid (And.intro ha hb)
  clear ha hb
  go_wp2_with fail
  refine (write_R w.heap.size w5 w6 D L k2 k3 1 3 0 HL5.out HS5.out.size HA.out.1 HA.out.2 w3_eq (by decide) (by decide)).mono ?_
  rintro e w7 ⟨rfl, hl7, hs7⟩
  have HL7 := Lib.hid hl7
  have HS7 := Lib.hid (HS5.out.trans hs7)
  clear hl7 hs7 HA
  go_wp2_with fail
  refine (read_R w.heap.size w7 D L k3 HL7.out HS7.out.size rfl (by decide)).mono ?_
  rw [seen_eq]
  rintro e w8 ⟨v, rfl, hx, hl8, hs8⟩
  obtain ⟨gx, cx, rfl, hgx⟩ := hx.at_ (n := 64) rfl
  have HX := Lib.hid hx
  have HLt := Lib.hid HL7.out.lt.2.2.2
  have HL8 := Lib.hid hl8
  have HS8 := Lib.hid (HS7.out.trans hs8)
  clear hl8 hs8 hx hgx
  go_wp2_with fail
  refine (crash_R w.heap.size w8 D L HL8.out HS8.out.size).mono ?_
  rintro e w9 ⟨rfl, hl9, hs9⟩
  have HL9 := Lib.hid hl9
  have HS9 := Lib.hid (HS8.out.trans hs9)
  have HX9 := Lib.hid (HX.out.step hs9 HLt.out)
  clear hl9 hs9 HX
  go_wp2_with fail
  refine (laid_live w.heap.size w9 D L k4 HL9.out HS9.out.size).mono ?_
  rintro e w10 ⟨v, rfl, hy, hl10, hs10⟩
  obtain ⟨gy, cy, rfl, hgy⟩ := hy.at_ (n := 128) rfl
  have HY := Lib.hid hy
  have HL10 := Lib.hid hl10
  have HS10 := Lib.hid (HS9.out.trans hs10)
  have HX10 := Lib.hid (HX9.out.step hs10 HLt.out)
  have HLt9 := Lib.hid HL9.out.lt.2.2.2
  have HGy := Lib.hid hy.lt_
  clear hl10 hs10 hy hgy HX9
  go_wp2_with fail
  refine (all_walk w10 2).mono ?_
  rintro e w11 ⟨rfl, ha, hb⟩
  have HA := Lib.hid (HasBytes.of_blk ha (by rfl) (Nat.le_refl _))
  have hsa := Step.of_below (L := L) HS10.out.size hb
  have HX11 := Lib.hid (HX10.out.step hsa HLt.out)
  have HY11 := Lib.hid (HY.out.step hsa HLt9.out)
  have HL11 := Lib.hid (HL10.out.below hb)
  have HS11 := Lib.hid (HS10.out.trans hsa)
  have HA11 := Lib.hid hb.size
  clear ha hb hsa HX10 HY
  go_wp2_with fail
  refine (same_has w.heap.size L w11 _ _ _ _ 64 (R 2) (List.replicate 64 2) true rfl (by omega) HX11.out HA.out (by simp [R])).mono ?_
  rintro e w12 ⟨rfl, hs12, hlf⟩
  have HY12 := Lib.hid (HY11.out.step hs12 HLt9.out)
  have HL12 := Lib.hid (hlf D k4 HL11.out)
  have HS12 := Lib.hid (HS11.out.trans hs12)
  have HS11' : Hid (w10.heap.size ≤ w12.heap.size) := Nat.le_trans HA11.out hs12.size
  clear hs12 hlf HX11 HA HY11
  obtain ⟨wv, hd12⟩ := HL12.out
  have c0 := (dk_cells hd12.disk).1
  clear hd12
  go_wp2_with (first | (go_at_call 28; refine (on_any _ D _ c0).mono ?_; rintro e w' ⟨rfl, rfl⟩))
  refine (all_walk w12 1).mono ?_
  rintro e w13 ⟨rfl, ha, hb⟩
  have HA1 := Lib.hid ha
  have hsa := Step.of_below (L := L) HS12.out.size hb
  have HY13 := Lib.hid (HY12.out.step hsa HLt9.out)
  have HS13 := Lib.hid (HS12.out.trans hsa)
  have HB13 := Lib.hid hb
  have HW12 := Lib.hid (Nat.le_trans HS11'.out (Nat.le_refl _))
  clear ha hb hsa HY12
  go_wp2_with fail
  refine (all_walk w13 3).mono ?_
  rintro e w14 ⟨rfl, ha, hb⟩
  have HA3 := Lib.hid ha
  have HA1' := Lib.hid (HA1.out.below hb HA1.out.lt)
  have hsa := Step.of_below (L := L) HS13.out.size hb
  have HY14 := Lib.hid (HY13.out.step hsa HLt9.out)
  have HS14 := Lib.hid (HS13.out.trans hsa)
  have HB14 := Lib.hid hb
  clear ha hb hsa HY13 HA1
  obtain ⟨i0, hi, hz0, hz1, hz2⟩ := info_parts byte_info
  have HI := Lib.hid (And.intro hi (And.intro hz0 (And.intro hz1 hz2)))
  clear hi hz0 hz1 hz2 c0
  have hbase : w12.heap.size ≤ w14.heap.size := Nat.le_trans HB13.out.size (Nat.le_of_lt_succ (Nat.lt_succ_of_le HB14.out.size))
  have HBase := Lib.hid hbase
  clear hbase
  go_wp2_with (at_builtin; refine BigFrame.wpList_want (by rfl) (fun K hK => wp_append_own _ (.tmp 69) (.tmp 70) 31 rfl w12.heap.size 5 i0 (.int .u8 0) 1 1 (by kernel_rfl) HI.out.1 HI.out.2.1 HI.out.2.2.1 HI.out.2.2.2 rfl (by decide) (.slice (some ⟨w12.heap.size, 0, none⟩) 64 64) 64 (U (R 1)) rfl (own_of_blk HA1'.out rfl (Nat.le_refl _) (by decide)) ⟨w13.heap.size, 0, none⟩ 64 64 (U (R 3)) rfl rfl (blk_cells HA3.out) (U_oneCell _) (by decide) (by decide) HBase.out ?_); intro v' w15 hown hgrow hnil; refine hK _ _ ?_; clear hK; have Hown := Lib.hid hown; have Hgrow := Lib.hid hgrow; have Hnil := Lib.hid hnil; clear hown hgrow hnil)
  have hn' : v' ≠ .slice none 0 0 := fun e => by
    have := (Hnil.out.1 e).1
    cases this
  have hz : HasBytes w12.heap.size w15 v' (R 1 ++ R 3) := HasBytes.of_own (by have := Hown.out; rw [← U_append] at this; exact this) hn'
  have HZ := Lib.hid hz
  have hy15 : HasBytes w9.heap.size w15 _ k4.laid := HY14.out.grown Hgrow.out (by
    intro g e e'
    cases e
    have h1 := HGy.out _ _ _ rfl
    have h2 := HW12.out
    simp [Value.ownBlock] at e'
    omega)
  have HY15 := Lib.hid hy15
  have hb15 : Below w.heap.size w w15 := HS14.out.below.grown Hgrow.out HS14.out.below.size (by
    intro k hk
    simp [Value.ownBlock] at hk
    subst hk
    exact HS12.out.size)
  have HB15 := Lib.hid hb15
  clear hn' hz hy15 hb15
  go_wp2_with fail
  refine (same_has w.heap.size L w15 _ _ _ _ 128 k4.laid (R 1 ++ R 3) true rfl (by omega) HY15.out HZ.out (by simp [k4])).mono ?_
  rintro e w16 ⟨rfl, hs16, _⟩
  have HB16 := Lib.hid (HB15.out.trans hs16.below)
  clear hs16
  go_wp2_with fail
  go_ret
  exact ⟨rfl, HB16.out⟩

end Go.Proofs.Ythphaidaknkedaa
