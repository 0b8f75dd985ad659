/-
  Crash: what it does to a disk. Conditions: the disk is held; the places told lie at their address.
-/
import Derived.Test.YthphaidaknkedaaBTold
import Derived.WalkMore
namespace Go.Proofs.Ythphaidaknkedaa
open Go.RowKit

/-- What the loop of layKept keeps of the laid bytes. -/
def KeptRel (N L : Nat) (s : St) (ks : List Int) (w : World) (i : Nat) (c : Int) (wr : World) : Prop :=
  Blk wr L 5 (U (layAll s.laid (kept ks (s.waits.take i))) ++ s.tl) ∧ Only [L] w wr ∧ c = ((kept ks (s.waits.take i)).length : Nat) ∧ N ≤ w.heap.size
/-- The list of the places still told, in memory of the call's own. -/
def ToldAt (N : Nat) (A : Option Addr) (cap : Nat) (rest : List Int) (wr : World) : Prop :=
  rest.length ≤ cap ∧ cap ≤ maxLen ∧ ∀ j x, rest[j]? = some x → ∃ g o, A = some ⟨g, o, none⟩ ∧ N ≤ g ∧ wr.cell? ⟨g, o + j, none⟩ = some (.int .i64 x)

theorem ToldAt.only {N : Nat} {A : Option Addr} {cap : Nat} {rest : List Int} {w wr : World} {S : List Nat} (h : ToldAt N A cap rest w) (ho : Only S w wr) (hS : ∀ k, k ∈ S → k < N) : ToldAt N A cap rest wr := by
  refine ⟨h.1, h.2.1, fun j x hx => ?_⟩
  obtain ⟨g, o, e, hg, hc⟩ := h.2.2 j x hx
  refine ⟨g, o, e, hg, ?_⟩
  rw [World.cell?_of_block (w := w) (ho.block g (World.block_lt_of_cell? w _ hc) (fun hs => by have := hS g hs; omega))]
  exact hc
theorem ToldAt.tail {N g o cap : Nat} {x : Int} {rest : List Int} {w : World} (h : ToldAt N (some ⟨g, o, none⟩) cap (x :: rest) w) : ToldAt N (some ⟨g, o + 1, none⟩) (cap - 1) rest w := by
  obtain ⟨h1, h2, h3⟩ := h
  refine ⟨by simp at h1; omega, by omega, fun j y hy => ?_⟩
  obtain ⟨g', o', e, hg, hc⟩ := h3 (j + 1) y (by simpa using hy)
  cases e
  exact ⟨g, o + 1, rfl, hg, by rw [← hc]; congr 2; omega⟩
theorem ToldAt.of_own {N : Nat} {w : World} {v : Value} {ks : List Int} (h : w.ownsRow N 3 1 v ks.length (ks.map (Value.int .i64))) : ∃ A cap, v = .slice A ks.length cap ∧ ToldAt N A cap ks w := by
  rcases h.2 with ⟨rfl, h0⟩ | ⟨g, cap, cur, rfl, hbase, hb, h1, h2, h3, h4⟩
  · have hk : ks = [] := List.eq_nil_of_length_eq_zero h0
    subst hk
    exact ⟨none, 0, rfl, by simp, by simp [maxLen], fun j x hx => by simp at hx⟩
  · refine ⟨some ⟨g, 0, none⟩, cap, rfl, h1, h2, fun j x hx => ⟨g, 0, rfl, hbase, ?_⟩⟩
    have := h.cells (g := g) rfl j (.int .i64 x) (by rw [List.getElem?_map, hx]; rfl)
    have hadd : (⟨g, 0, none⟩ : Addr).add j = ⟨g, 0 + j, none⟩ := by unfold Addr.add; split <;> simp_all
    rwa [hadd] at this

def lenV : Value → Nat
  | .slice _ n _ => n
  | _ => 0

/-- The loop has gone through all that is kept. -/
theorem kept_end {L : Nat} {s : St} {ks : List Int} {w w2 wr : World} {cn : Int} (h : KeptRel w.heap.size L s ks w2 s.waits.length cn wr) (le : Below w.heap.size w w2) :
    Ending.returned (.int .i64 cn) = .returned (.int .i64 ((kept ks s.waits).length : Nat)) ∧ Blk wr L 5 (U (layAll s.laid (kept ks s.waits)) ++ s.tl) ∧ Only [L] w wr := by
  obtain ⟨h1, h2, h3, _⟩ := h
  rw [List.take_length] at h1 h3
  exact ⟨by rw [h3], h1, (Only.of_below le).trans h2⟩
theorem kept_stop {N L : Nat} {s : St} {ks : List Int} {w2 wr : World} {cn : Int} {i : Nat} (h : KeptRel N L s ks w2 i cn wr) (hi : i ≤ s.waits.length) (hr : ∀ j : Nat, i ≤ j → (j : Int) ∉ ks) : KeptRel N L s ks w2 s.waits.length cn wr := by
  obtain ⟨h1, h2, h3, h4⟩ := h
  have e : kept ks (s.waits.take s.waits.length) = kept ks (s.waits.take i) := by
    rw [List.take_length]
    have := kept_none (ks := ks) (s.waits.take i) (s.waits.drop i) (by intro j hj; exact hr j (by simp at hj; omega))
    rwa [List.take_append_drop] at this
  unfold KeptRel
  rw [e]
  exact ⟨h1, h2, h3, h4⟩

theorem KeptRel.cn {N L : Nat} {s : St} {ks : List Int} {w2 wr : World} {cn : Int} {i : Nat} (h : KeptRel N L s ks w2 i cn wr) : 0 ≤ cn ∧ cn ≤ i := by
  have h3 := h.2.2.1
  have := kept_length ks (s.waits.take i)
  rw [List.length_take] at this
  omega
theorem kept_lay {N L : Nat} {s : St} {ks : List Int} {w2 wr w3 : World} {cn : Int} {i : Nat} {p : Int × List Int} (h : KeptRel N L s ks w2 i cn wr) (hb : Blk w3 L 5 (U (putS (layAll s.laid (kept ks (s.waits.take i))) p.1.toNat p.2) ++ s.tl)) (ho : Only [L] wr w3)
    (et : s.waits.take (i + 1) = s.waits.take i ++ [p]) (hti : (s.waits.take i).length = i) (hin : (i : Int) ∈ ks) : KeptRel N L s ks w2 (i + 1) (cn + 1) w3 := by
  obtain ⟨h1, h2, h3, h4⟩ := h
  have e : kept ks (s.waits.take (i + 1)) = kept ks (s.waits.take i) ++ [p] := by rw [et, kept_snoc, hti, if_pos hin]
  unfold KeptRel
  rw [e, layAll_snoc]
  exact ⟨hb, h2.trans ho, by rw [h3]; simp, h4⟩
theorem kept_pass {N L : Nat} {s : St} {ks : List Int} {w2 wr : World} {cn : Int} {i : Nat} {p : Int × List Int} (h : KeptRel N L s ks w2 i cn wr)
    (et : s.waits.take (i + 1) = s.waits.take i ++ [p]) (hti : (s.waits.take i).length = i) (hin : (i : Int) ∉ ks) : KeptRel N L s ks w2 (i + 1) cn wr := by
  have e : kept ks (s.waits.take (i + 1)) = kept ks (s.waits.take i) := by rw [et, kept_snoc, hti, if_neg hin]
  unfold KeptRel
  rw [e]
  exact h

set_option maxHeartbeats 1000000 in
theorem kept_walk (B : Nat) (w : World) (D L : Nat) (wv : Value) (s : St) (A : Option Addr) (m c : Nat) (ks : List Int) (hd : IsDisk B w D L wv s) (hm : ks.length = m) (hbig : m ≤ 1000000) (hk : IntsAt w A ks) :
    Calls Try.prog 40 #[.pointer (some ⟨D, 0, none⟩), .slice A m c] w fun e w' => e = .returned (.int .i64 ((kept ks s.waits).length : Nat)) ∧
      Blk w' L 5 (U (layAll s.laid (kept ks s.waits)) ++ s.tl) ∧ Only [L] w w' := by
  obtain ⟨Aw, cw, rfl, hform⟩ := hd.form
  have hn := hd.good.n2
  have hcap := hd.good.cap
  have hlcap := hd.good.lc0
  have HD := Lib.hid hd
  have HF : Hid (Form w Aw s.waits) := hform
  have HM := Lib.hid hm
  have HK := Lib.hid hk
  have hDlt : D < w.heap.size := hd.disk.lt
  have hLlt : L < w.heap.size := hd.laid.lt
  clear hd hform hm hk
  go_enter Try.func40, Try.ntmps40
  go_wp2_with fail
  go_step3
  go_wp2_with fail
  refine (clone_ints w A m c ks HM.out hbig HK.out).mono ?_
  rintro e w1 ⟨v', rfl, hown, hbel⟩
  obtain ⟨At, cap, hv, _⟩ := ToldAt.of_own hown
  subst hv
  have HO := Lib.hid hown
  have HB := Lib.hid hbel
  have hs1 := hbel.size
  clear hown hbel
  go_wp2_with fail
  refine (sort_ints w.heap.size w1 _ ks hs1 (by have := HM.out; omega) HO.out).mono ?_
  rintro e w2 ⟨rfl, hown2, hbel2⟩
  have hbel3 : Below w.heap.size w w2 := HB.out.trans hbel2
  have hs2 := hbel3.size
  have hd2 : Blk w2 D 69 _ := HD.out.disk.below hbel3 hDlt
  obtain ⟨c0, c1, c2, c3, c4, c5, c6⟩ := dk_cells hd2
  have htold : ToldAt w.heap.size At cap (sorted ks) w2 := by
    obtain ⟨A', cap', e, h⟩ := ToldAt.of_own (ks := sorted ks) (by rw [show (sorted ks).length = ks.length by simp [sorted]]; exact hown2)
    injection e with e1 e2 e3
    subst e1
    subst e3
    exact h
  have hsl : ks.length = (sorted ks).length := by simp [sorted]
  have HT := Lib.hid htold
  have HB2 := Lib.hid hbel3
  have Hd2 := Lib.hid hd2
  have hL2 : Blk w2 L 5 (U s.laid ++ s.tl) := HD.out.laid.below hbel3 hLlt
  have HL2 := Lib.hid hL2
  have hF2 : Form w2 Aw s.waits := HF.out.only (Only.of_below (S := []) hbel3) (by intro a _; simp)
  have HF2 := Lib.hid hF2
  rw [hsl]
  have hrowL : (Value.slice Aw s.waits.length cw).ownBlock ≠ some L := own_blk_ne HD.out.own HD.out.laid (by decide)
  have HRL := Lib.hid hrowL
  have hDL : D ≠ L := HD.out.disk.ne_ HD.out.laid (by decide)
  have HDL := Lib.hid hDL
  clear hown2 hbel2 hbel3 hd2 htold hsl hL2 hF2 hrowL hDL HO HB HF HK
  go_wp2_with fail
  go_step3
  go_wp2_with fail
  go_loopw [5, 6, 17] (fun t lc iv wr => ∃ (i : Nat) (At : Option Addr) (cap : Nat) (rest : List Int) (cn : Int), i ≤ s.waits.length ∧ iv = .int .i64 i ∧ t = .slice At rest.length cap ∧ lc = .int .i64 cn ∧ ToldAt w.heap.size At cap rest wr ∧ Rest ks rest i ∧ KeptRel w.heap.size L s ks w2 i cn wr) (fun _ _ iv _ => s.waits.length - (intOf iv).toNat)
  case atStart => exact ⟨0, At, cap, sorted ks, 0, Nat.zero_le _, rfl, rfl, rfl, HT.out, Rest.start ks, by simpa [layAll, kept] using HL2.out, Only.refl _ _, by simp [kept], hs2⟩
  case round =>
    obtain ⟨i, At', cap', rest, cn, hi, rfl, rfl, rfl, htold, hrest, hrel⟩ := hrel
    have HRel := Lib.hid hrel
    have hcn := hrel.cn
    have hcn0 := hcn.1
    have hcn1 := hcn.2
    clear hcn
    have hdr : Blk wr D 69 _ := Hd2.out.only hrel.2.1 (by simpa using HDL.out)
    clear c0 c1 c2 c3 c4 c5 c6
    obtain ⟨c0, c1, c2, c3, c4, c5, c6⟩ := dk_cells hdr
    have HTo := Lib.hid htold
    have HRest := Lib.hid hrest
    clear hrel hdr htold hrest
    by_cases hlt : i < s.waits.length
    · obtain ⟨wo, rfl⟩ : ∃ wo : World, wo = wr := ⟨_, rfl⟩
      go_wp2_with fail
      go_loop [5] (fun t => ∃ (At : Option Addr) (cap : Nat) (rest : List Int), t = .slice At rest.length cap ∧ ToldAt w.heap.size At cap rest wo ∧ Rest ks rest i) (fun t => lenV t)
      case atStart => exact ⟨At', cap', rest, rfl, HTo.out, HRest.out⟩
      case round =>
        clear HTo HRest
        obtain ⟨At1, cap1, rest1, rfl, htold, hrest⟩ := hrel
        have hcm : cap1 ≤ 9223372036854775807 := by have := htold.2.1; unfold maxLen at this; omega
        have hlc := htold.1
        have HTo := Lib.hid htold
        have HRest := Lib.hid hrest
        clear htold hrest
        match rest1, hlc, HTo, HRest with
        | [], hlc, HTo, HRest =>
          go_wp2_with fail
          go_ret
          exact kept_end (kept_stop HRel.out hi HRest.out.nil) HB2.out
        | x :: r, hlc, HTo, HRest =>
          obtain ⟨g, o, rfl, hg, hc⟩ := HTo.out.2.2 0 x rfl
          simp only [Nat.add_zero] at hc
          by_cases hx : x < (i : Int)
          · by_cases hc1 : cap1 = 1
            · subst hc1
              have hr : r = [] := by simpa using hlc
              subst hr
              go_wp2_with fail
              go_round
              case rel => exact ⟨some ⟨g, o, none⟩, 0, [], rfl, ⟨Nat.le_refl _, Nat.zero_le _, fun j y hy => by simp at hy⟩, HRest.out.drop hx⟩
              case measure => simp [lenV]
            · go_wp2_with fail
              go_round
              case rel => exact ⟨some ⟨g, o + 1, none⟩, cap1 - 1, r, rfl, HTo.out.tail, HRest.out.drop hx⟩
              case measure => simp [lenV]
          · have HX := Lib.hid hx
            have hdx : decide (x < (i : Int)) = false := decide_eq_false hx
            clear hx
            obtain ⟨p, hp⟩ : ∃ p, s.waits[i]? = some p := ⟨_, List.getElem?_eq_getElem hlt⟩
            have et : s.waits.take (i + 1) = s.waits.take i ++ [p] := by rw [List.take_add_one, hp]; rfl
            have hti : (s.waits.take i).length = i := by rw [List.length_take]; omega
            have HH := Lib.hid (And.intro hp (And.intro et hti))
            clear hp et hti
            by_cases he : x = (i : Int)
            · have hne : (x != (i : Int)) = false := by rw [he]; simp
              have hin : (i : Int) ∈ ks := (HRest.out.head HX.out).2 he
              have HE := Lib.hid (And.intro he hin)
              obtain ⟨gw, rfl, hno, hbs⟩ := (HF2.out.only HRel.out.2.1 (by
                intro a ha
                subst ha
                have := HRL.out
                simpa [Value.ownBlock] using this)) i p HH.out.1
              have hsec := HD.out.good.sec p (List.mem_of_getElem? HH.out.1)
              have hpn : p.1 = ((p.1.toNat : Nat) : Int) := by omega
              rw [hpn] at hno
              have HP := Lib.hid (And.intro hsec hpn)
              have HBs := Lib.hid hbs
              clear he hin hsec hpn hbs
              go_wp2_with (go_at_call 38; refine (lay_any _ D L gw (i * 65) s.n s.lc p.1.toNat (layAll s.laid (kept ks (s.waits.take i))) p.2 s.tl hlcap hn (by have := HP.out.1; omega) c3 HRel.out.1 (layAll_length _ _ HD.out.good.size (fun q hq => HD.out.good.sec q (List.mem_of_mem_take (kept_mem hq)))) HP.out.1.2.2 hno HBs.out).mono ?_; rintro e w3 ⟨rfl, h1, h2⟩; have HW := Lib.hid (And.intro h1 h2); clear h1 h2)
              go_roundw
              case rel => exact ⟨i + 1, some ⟨g, o, none⟩, cap1, x :: r, cn + 1, by omega, by go_num, rfl, rfl, HTo.out.only HW.out.2 (by intro k hk; simp at hk; subst hk; exact hLlt), HRest.out.next, kept_lay HRel.out HW.out.1 HW.out.2 HH.out.2.1 HH.out.2.2 HE.out.2⟩
              case measure => simp [intOf]; omega
            · have hne : (x != (i : Int)) = true := by rw [bne_iff_ne]; exact he
              have hin : (i : Int) ∉ ks := fun h => he ((HRest.out.head HX.out).1 h)
              have HE := Lib.hid (And.intro he hin)
              clear he hin
              go_wp2_with fail
              go_roundw
              case rel => exact ⟨i + 1, some ⟨g, o, none⟩, cap1, x :: r, cn, by omega, by go_num, rfl, rfl, HTo.out, HRest.out.next, kept_pass HRel.out HH.out.2.1 HH.out.2.2 HE.out.2⟩
              case measure => simp [intOf]; omega
    · obtain rfl : i = s.waits.length := by omega
      go_wp2_with fail
      rw [Exit.noGoto_ret]
      go_ret
      exact kept_end HRel.out HB2.out

theorem crash_end {B : Nat} {w w1 : World} {D L : Nat} {wv : Value} {s : St} {ks : List Int} (hd : IsDisk B w D L wv s) (h1 : Blk w1 L 5 (U (layAll s.laid (kept ks s.waits)) ++ s.tl)) (h2 : Only [L] w w1)
    (hd2 : Blk (w1.setCell ⟨D, 4, none⟩ (.slice none 0 0)) D 69 (dk s.on s.armed s.left L s.n s.lc (.slice none 0 0) s.wr s.fl)) :
    DiskPost B D L [D, L] w (s.crash ks).2 ((w1.setCell ⟨D, 4, none⟩ (.slice none 0 0)).setCell ⟨D, 0, none⟩ (.bool false)) := by
  have hDL : L ≠ D := hd.laid.ne_ hd.disk (by decide)
  refine ⟨.slice none 0 0, ⟨hd2.set_ 0 _, (h1.far (p := ⟨D, 4, none⟩) hDL _).far (p := ⟨D, 0, none⟩) hDL _, World.ownsRow_nil _ _ _ _, hd.baseD, hd.baseL, ?_⟩, ?_⟩
  · have hg := hd.good
    exact ⟨layAll_length _ _ hg.size (fun p hp => hg.sec p (kept_mem hp)), hg.n1, hg.n2, by intro p hp; simp [St.crash] at hp, hg.left0, hg.left1, by simp [St.crash], hg.wr0, hg.wr1, hg.fl0, hg.fl1, hg.lc0⟩
  · have h : Only [D, L] w w1 := h2.mono (by intro k hk _; simp at hk; simp [hk])
    exact (h.setCell (.inl (by simp)) _).setCell (.inl (by simp)) _

set_option maxHeartbeats 400000 in
theorem crash_any (B : Nat) (w : World) (D L : Nat) (wv : Value) (s : St) (A : Option Addr) (m c : Nat) (ks : List Int) (hd : IsDisk B w D L wv s) (hm : ks.length = m) (hbig : m ≤ 1000000) (hk : IntsAt w A ks) :
    Calls Try.prog 19 #[.pointer (some ⟨D, 0, none⟩), .slice A m c] w fun e w' => e = .returned (.int .i64 (s.crash ks).1) ∧ DiskPost B D L [D, L] w (s.crash ks).2 w' := by
  have HD := Lib.hid hd
  have HM := Lib.hid hm
  have HK := Lib.hid hk
  clear hd hm hk
  go_enter Try.func19, Try.ntmps19
  go_wp2_with fail
  refine (kept_walk B w D L wv s A m c ks HD.out HM.out hbig HK.out).mono ?_
  rintro e w1 ⟨rfl, h1, h2⟩
  have hd1 : Blk w1 D 69 _ := HD.out.disk.only h2 (by simpa using HD.out.disk.ne_ HD.out.laid (by decide))
  obtain ⟨c0, c1, c2, c3, c4, c5, c6⟩ := dk_cells hd1
  have f4 := hd1.frozen 4
  have H1 := Lib.hid (And.intro h1 (And.intro h2 hd1))
  have hd2 : Blk (w1.setCell ⟨D, 4, none⟩ (.slice none 0 0)) D 69 (dk s.on s.armed s.left L s.n s.lc (.slice none 0 0) s.wr s.fl) := hd1.set_ 4 _
  have c0' := (dk_cells hd2).1
  have f0' := hd2.frozen 0
  have H2 := Lib.hid hd2
  clear h1 h2 hd1 hd2
  go_wp2_with (go_at_call 41; refine (cut_any _ D s.on c0' f0').mono ?_; rintro e w' ⟨rfl, rfl⟩)
  go_ret
  exact ⟨rfl, crash_end HD.out H1.out.1 H1.out.2.1 H2.out⟩

end Go.Proofs.Ythphaidaknkedaa
