/-
  tell: a stream is told a text more. Conditions: the stream is known; the constants lie in their variable; at most 2^50 bytes in all.
-/
import Derived.Test.YtfkdpndcoegfpaaDoorM1
import Derived.StillTailTactics
import Derived.Deep.DeepCutAuto
import Derived.Deep.CutBlock
import Derived.Test.YtfkdpndcoegfpaaDoorCards
import Derived.Test.YtfkdpndcoegfpaaDoorTie
import Derived.WalkKit
import Derived.ProofKit
import Derived.OpenShut
import Derived.ShutString
import Derived.ChangeOld
import Derived.Below
import Derived.Deep.DeepHandedRow
import Derived.Lib.LaidTab
import Derived.Test.YtfkdpndcoegfpaaDoorProg
import Derived.Great.BuildSlice
import Derived.Deep.RegionLaw
import Derived.Deep.AppendLies
import Derived.Lib.Hide
import Derived.Laws.CopyOwn
import Derived.Laws.IdiomStrings
import Derived.Lib.SlBytesConst
import Derived.Stop.BytesEq
section
set_option maxRecDepth 100000
set_option linter.unusedSimpArgs false
set_option linter.unusedVariables false
namespace Go.Proofs.YtfkdpndcoegfpaaDoor
open Go.RowKit

theorem info3 : (Tryd.prog.info? 3).map (·.size) = some 1 := by kernel_rfl
theorem cell72 {w : World} {p : Nat} {ws : List B32} {rs : List B8} {n : Nat} (hb : Blk w p 118 (strCells ws rs n)) (hws : ws.length = 8) (hrs : rs.length = 64) : w.cell? ⟨p, 72, none⟩ = some (.int .i64 (n : Nat)) := by
  rw [hb.cell]; unfold strCells
  rw [List.getElem?_append_right (by rw [Wd_length]; omega), List.getElem?_append_right (by rw [Wd_length, Vb_length]; omega)]
  simp [Wd_length, Vb_length, hws, hrs]

theorem slice_rest (p r : Nat) (hr : r < 64) (W : World) : (Instr.sliceAt 73 (.pointer (some ⟨p, 8, none⟩)) (some (.int .i64 r)) none none).run Tryd.prog W = .ok (.slice (some ⟨p, 8 + r, none⟩) (64 - r) (64 - r)) W := by
  have hl : Tryd.prog.arrayLen 73 = 64 := by kernel_rfl
  have he : Tryd.prog.elem 73 = 5 := by kernel_rfl
  have hs : (sizeOf 5).run Tryd.prog W = .ok 1 W := by kernel_rfl
  have h := run_sliceAt_array_l (P := Tryd.prog) W 73 ⟨p, 8, none⟩ (by rw [hl, he]; exact Tryd.underlying73) .i64 r (by omega) (by rw [hl]; omega)
  rw [h, he, hs, hl]
  simp only [Result.andThen_ok, slicedAt, Int.toNat_natCast]
  rw [if_neg (by omega), Addr.add_mid, Nat.mul_one]

theorem slice_all (p : Nat) (W : World) : (Instr.sliceAt 73 (.pointer (some ⟨p, 8, none⟩)) none none none).run Tryd.prog W = .ok (.slice (some ⟨p, 8, none⟩) 64 64) W := by
  have hl : Tryd.prog.arrayLen 73 = 64 := by kernel_rfl
  have he : Tryd.prog.elem 73 = 5 := by kernel_rfl
  have hs : (sizeOf 5).run Tryd.prog W = .ok 1 W := by kernel_rfl
  have h := run_sliceAt_array_all (P := Tryd.prog) W 73 ⟨p, 8, none⟩ (by rw [hl, he]; exact Tryd.underlying73)
  rw [h, he, hs, hl]
  simp only [Result.andThen_ok, slicedAt]
  rw [if_neg (by omega), Addr.add_mid]

theorem slice_64 (g o n c : Nat) (h : 64 ≤ c) (W : World) : (Instr.sliceAt 23 (.slice (some ⟨g, o, none⟩) n c) none (some (.int .i64 64)) none).run Tryd.prog W = .ok (.slice (some ⟨g, o, none⟩) 64 c) W := by
  have he : Tryd.prog.elem 23 = 5 := by kernel_rfl
  have hs : (sizeOf 5).run Tryd.prog W = .ok 1 W := by kernel_rfl
  have hu : Tryd.prog.underlying 23 = some (.slice (Tryd.prog.elem 23)) := by rw [he]; exact Tryd.underlying23
  rw [run_sliceAt_slice _ _ _ _ _ _ hu, run_slice_h _ _ _ _ _ hu .i64 64 (by omega) (by omega), he, hs]
  simp only [Result.andThen_ok, sliced]
  simp [Addr.add_mid]

set_option maxHeartbeats 1000000 in
set_option maxRecDepth 100000 in
theorem tell_any (ks : List B32) (w : World) (p : Nat) (m : List B8) (A : Option Addr) (n c : Nat) (bs : List B8) (hp : 1 < p) (hK : Roots ks w) (hs : IsStr ks w p m) (ht : Txt w p A n c bs) (hlen : m.length + n ≤ 1125899906842624) :
    Calls Tryd.prog 69 #[.pointer (some ⟨p, 0, none⟩), .slice A n c] w fun e w' => e = .returned (.tuple #[]) ∧ IsStr ks w' p (m ++ bs) ∧ Only [p] w w' := by
  obtain ⟨ws, rs, hb, hws, hrs, hm1, hm2⟩ := hs
  have hcm := ht.capm
  have hcap := ht.cap
  have c72 := cell72 hb hws hrs
  unfold maxLen at hcm
  have HB := Lib.hid hb
  have HM1 := Lib.hid hm1
  have HM2 := Lib.hid hm2
  have HK := Lib.hid hK
  have HT := Lib.hid ht
  clear hb hm1 hm2 hK ht
  go_enter Tryd.func69, Tryd.ntmps69
  go_upto_if 10 with fail
  go_cut [] (fun wx => Blk wx p 118 (strCells (foldN ks m (m.length / 64)).list rs m.length) ∧ Only [p] w wx)
  case first =>
    by_cases h0 : m.length = 0
    · have hd : ((m.length : Int) == 0) = true := by simp [h0]
      go_wp2_with (go_at_call 76; refine (begin_any w p ws hws _ HB.out).mono ?_; rintro e w' ⟨rfl, h1, h2⟩)
      go_meet
      refine ⟨?_, h2⟩
      rw [show m.length / 64 = 0 by omega]
      exact h1
    · have hd : ((m.length : Int) == 0) = false := beq_eq_false_iff_ne.2 (by omega)
      go_wp2_with fail
      go_meet
      refine ⟨?_, Only.refl _ _⟩
      rw [← HM1.out (by omega)]
      exact HB.out
  case rest =>
    obtain ⟨hb, ho⟩ := hcut
    obtain ⟨r, hr⟩ : ∃ r, r = m.length % 64 := ⟨_, rfl⟩
    have hri : (m.length : Int) % 64 = (r : Int) := by omega
    have hr64 : r < 64 := by omega
    have c72 : wc.cell? ⟨p, 72, none⟩ = some (.int .i64 (m.length : Nat)) := cell72 hb rfl hrs
    have hfz := hb.frozen 72
    have HR := Lib.hid hr
    have HB2 := Lib.hid hb
    have HO := Lib.hid ho
    clear hb ho hr
    go_upto_if 30 with (refine wpList_store_one rfl 3 (.tmp 28) (.tmp 26) rfl p 72 .i64 _ rfl rfl HB2.out (by rw [strCells_length rfl hrs]; omega) info3 ?_; intro w2 hb2 o2)
    rw [show ((m.length : Int) + (n : Int)) = ((m.length + n : Nat) : Int) by omega, set_str rfl hrs] at hb2
    have HB3 := Lib.hid hb2
    have HO2 := Lib.hid (HO.out.trans o2)
    clear hb2 o2 c72 hfz
    go_cut [1] (fun v wx => TRel ks w p m bs n c v wx)
    case first =>
      by_cases h0 : 0 < r
      · have hd : decide (0 < r) = true := decide_eq_true h0
        have hbl := HT.out.len
        have hsl := slice_rest p r hr64
        by_cases hA : n < 64 - r
        · have hmin : min (64 - r) n = n := by omega
          have htk : bs.take (64 - r) = bs := List.take_of_length_le (by omega)
          go_wp2_with (refine wpList_copy_blk rfl (.tmp 35) (.tmp 36) 23 23 rfl 5 Tryd.underlying23 info5 p (8 + r) (64 - r) (64 - r) rfl rfl HB3.out (HT.out.only HO2.out) (by rw [strCells_length rfl hrs]; omega) ?_; intro w3 hb3 o3)
          rw [htk, over_str rfl (by rw [hrs, hbl]; omega), HR.out] at hb3
          refine bodyPost_ret (results_none rfl _ _ _) rfl ⟨rfl, ?_, HO2.out.trans o3⟩
          exact str_small hbl hrs HM2.out (by have := HR.out; omega) hb3
        · have hmin : min (64 - r) n = 64 - r := by omega
          go_wp2_with (refine wpList_copy_blk rfl (.tmp 35) (.tmp 36) 23 23 rfl 5 Tryd.underlying23 info5 p (8 + r) (64 - r) (64 - r) rfl rfl HB3.out (HT.out.only HO2.out) (by rw [strCells_length rfl hrs]; omega) ?_; intro w3 hb3 o3)
          rw [over_str rfl (by rw [hrs, List.length_take]; omega), chunk_fill rfl HR.out HM2.out hrs (by omega)] at hb3
          have hsa := slice_all p
          have HB4 := Lib.hid hb3.drew
          have HO4 := Lib.hid (HO2.out.trans o3)
          clear hb3 o3
          go_still_tail 7, (by kernel_rfl)
          change wpList _ _ _ _ _ w3.drew
          have hq64 : (chunk (m ++ bs) (m.length / 64)).length = 64 := chunk_length (by rw [List.length_append, hbl]; have := HR.out; omega)
          generalize hw4 : w3.drew = w4 at HB4
          have HO5 : Hid (Only [p] w w4) := by rw [← hw4]; exact HO4.out.drew
          clear HO4 hw4
          obtain ⟨g, o, rfl, hgp, -⟩ := HT.out.cells (by omega)
          go_wp2_with (go_at_call 77; refine (turn_any ks w4 p p 8 64 (foldN ks m (m.length / 64)) (Vb (chunk (m ++ bs) (m.length / 64)) ++ [.int .i64 (m.length + n : Nat)]) (chunk (m ++ bs) (m.length / 64)) hp (HK.out.only HO5.out (by simp; omega)) HB4.out (rest_cell HB4.out rfl hq64)).mono ?_; rintro e w5 ⟨rfl, h5, o5⟩)
          all_goals go_meet
          all_goals first
            | exact tell_mid (by omega) h0 HR.out HT.out (HO5.out.trans o5) h5 _ (fun _ => rfl) _ rfl
            | exact tell_mid (by omega) h0 HR.out HT.out (HO5.out.trans o5) h5 _ (fun h => absurd h (by omega)) _ (by omega)
      · obtain rfl : r = 0 := by omega
        have hd : decide (0 < 0) = false := by decide
        go_wp2_with fail
        go_meet
        refine ⟨0, A, rs, by omega, rfl, by simpa using HT.out.only HO2.out, by have := HR.out; omega, hrs, ?_, HO2.out⟩
        rw [Nat.add_zero, foldN_append ks (by omega)]
        exact HB3.out
    case rest =>
      clear HB2 HO HB3 HO2 c72
      go_wp2_with fail
      go_loopw [1] (fun v wr => TRel ks w p m bs n c v wr) (fun v _ => sliceLen v)
      case atStart => exact hcut
      case round =>
        clear hcut
        obtain ⟨k, A', rs', hk, rfl, hT, hz, hr', hb, hO⟩ := hrel
        have hcap' := hT.cap
        have hlen' := hT.len
        have hbl := HT.out.len
        by_cases h64 : 64 ≤ n - k
        · obtain ⟨g, o, rfl, hgp, hcells⟩ := hT.cells (by omega)
          have HTK := Lib.hid hT
          have HBK := Lib.hid hb
          have HOK := Lib.hid hO
          have HCS := Lib.hid hcells
          clear hT hb hO hcells
          have hs64 := slice_64 g o (n - k) (c - k) (by omega)
          go_wp2_with fail
          go_still_tail 5, (by kernel_rfl)
          change wpList _ _ _ _ _ wr.drew
          have hb4 : Blk wr.drew p 118 (Wd (foldN ks (m ++ bs) ((m.length + k) / 64)).list ++ (Vb rs' ++ [.int .i64 (m.length + n : Nat)])) := HBK.out.drew
          have hc4 : ∀ j, j < 64 → wr.drew.cell? ⟨g, o + j, none⟩ = some (.int .u8 (nb (((bs.drop k).take 64).getD j 0))) := by
            intro j hj
            refine (HCS.out j (by omega)).trans ?_
            simp [List.getD_eq_getElem?_getD, hj]
          have ho4 : Only [p] wr wr.drew := (Only.refl _ _).drew
          have hk4 : Roots ks wr.drew := HK.out.only (HOK.out.trans ho4) (by simp; omega)
          generalize wr.drew = w4 at hb4 hc4 ho4 hk4
          have HB4 := Lib.hid hb4
          have HC4 := Lib.hid hc4
          have HO4 := Lib.hid ho4
          have HK4 := Lib.hid hk4
          clear hb4 hc4 ho4 hk4
          go_wp2_with (go_at_call 77; refine (turn_any ks w4 p g o (c - k) (foldN ks (m ++ bs) ((m.length + k) / 64)) (Vb rs' ++ [.int .i64 (m.length + n : Nat)]) ((bs.drop k).take 64) hp HK4.out HB4.out HC4.out).mono ?_; rintro e w5 ⟨rfl, h5, o5⟩)
          have hcap2 := HTK.out.cap
          go_roundw
          case rel => exact tell_next hk hz h64 hr' HTK.out HOK.out (HO4.out.trans o5) h5 _ (fun h => by rw [if_neg (by omega)]) _ _ rfl rfl
          case measure => simp [sliceLen]; omega
        · have HTK := Lib.hid hT
          have HBK := Lib.hid hb
          have HOK := Lib.hid hO
          clear hT hb hO
          have hsa := slice_all p
          go_wp2_with (refine wpList_copy_blk rfl (.tmp 67) (.tmp 68) 23 23 rfl 5 Tryd.underlying23 info5 p 8 64 64 rfl rfl HBK.out HTK.out (by rw [strCells_length rfl hr']; omega) ?_; intro w3 hb3 o3)
          rw [List.take_of_length_le (by rw [HTK.out.len]; omega)] at hb3
          have hb3 : Blk w3 p 118 (over (strCells (foldN ks (m ++ bs) ((m.length + k) / 64)).list rs' (m.length + n)) (8 + 0) (Vb (bs.drop k))) := hb3
          rw [over_str rfl (by rw [hr', HTK.out.len]; omega)] at hb3
          go_end0
          exact ⟨rfl, str_last hbl hr' hk hz (by omega) hb3, HOK.out.trans o3⟩

end Go.Proofs.YtfkdpndcoegfpaaDoor
end

/-
  Sum and Write. Conditions: the stream is known; the constants lie in their variable; at most 2^49 bytes in all.
-/

section
set_option maxRecDepth 100000
set_option linter.unusedSimpArgs false
set_option linter.unusedVariables false
namespace Go.Proofs.YtfkdpndcoegfpaaDoor
open Go.RowKit

/-- The digest, plainly. -/
def fullD (m : List B8) : List B8 := m ++ endB m.length
def sha (ks : List B32) (m : List B8) : List B8 := outB (foldN ks (fullD m) ((fullD m).length / 64)) 8
theorem sha_length (ks : List B32) (m : List B8) : (sha ks m).length = 32 := outB_length _ 8

theorem txt_of_owned {w : World} {B p g n c : Nat} {bs : List B8} (h : w.ownsRow B 5 1 (.slice (some ⟨g, 0, none⟩) n c) n (Vb bs)) (hp : p < B) : Txt w p (some ⟨g, 0, none⟩) n c bs := by
  have hl : bs.length = n := by have := h.1; rw [Vb_length] at this; omega
  have hgb : B ≤ g ∧ n ≤ c ∧ c ≤ maxLen := by
    rcases h.2 with ⟨h', _⟩ | ⟨g', cap', cur, h', h1, _, h2, h3, _, _⟩
    · simp at h'
    · simp only [Value.slice.injEq, Option.some.injEq, Addr.mk.injEq, and_true, true_and] at h'
      obtain ⟨rfl, rfl⟩ := h'
      exact ⟨h1, h2, h3⟩
  refine ⟨hl, hgb.2.1, hgb.2.2, fun _ => ⟨g, 0, rfl, by omega, fun j hj => ?_⟩⟩
  rw [Nat.zero_add, h.cellAt j (by omega), Vb_get, List.getD_eq_getElem?_getD, List.getElem?_eq_getElem (by omega)]
  rfl

theorem IsStr.words {ks : List B32} {w : World} {p : Nat} {m : List B8} (h : IsStr ks w p m) (hm : 0 < m.length) : ∃ tl, Blk w p 118 (Wd (foldN ks m (m.length / 64)).list ++ tl) := by
  obtain ⟨ws, rs, hb, h1, h2, h3, h4⟩ := h
  rw [h3 hm] at hb
  exact ⟨_, hb⟩
theorem IsStr.len {ks : List B32} {w : World} {p : Nat} {m : List B8} (h : IsStr ks w p m) : w.cell? ⟨p, 72, none⟩ = some (.int .i64 (m.length : Nat)) := by
  obtain ⟨ws, rs, hb, h1, h2, h3, h4⟩ := h
  exact cell72 hb h1 h2

theorem fork_str (ks : List B32) (w : World) (p : Nat) (m : List B8) (h : IsStr ks w p m) : Calls Tryd.prog 78 #[.pointer (some ⟨p, 0, none⟩)] w fun e w' => ∃ q, e = .returned (.pointer (some ⟨q, 0, none⟩)) ∧ w.heap.size ≤ q ∧ IsStr ks w' q m ∧ Below w.heap.size w w' := by
  obtain ⟨ws, rs, hb, h1, h2, h3, h4⟩ := h
  refine (fork_any w p _ (strCells_oneCell ws rs m.length) (strCells_length h1 h2) hb).mono ?_
  rintro e w' ⟨q, rfl, hq, hb', hbel⟩
  exact ⟨q, rfl, hq, ⟨ws, rs, hb', h1, h2, h3, h4⟩, hbel⟩
theorem fork_str_nil (ks : List B32) (w : World) : Calls Tryd.prog 78 #[.pointer none] w fun e w' => ∃ q, e = .returned (.pointer (some ⟨q, 0, none⟩)) ∧ w.heap.size ≤ q ∧ IsStr ks w' q [] ∧ Below w.heap.size w w' := by
  refine (fork_nil w).mono ?_
  rintro e w' ⟨rfl, hb, hbel⟩
  exact ⟨_, rfl, Nat.le_refl _, zero_str ks hb, hbel⟩

/-- A stream, or nil, that was told m. -/
def PtrStr (ks : List B32) (w : World) (a : Option Addr) (m : List B8) : Prop := (a = none ∧ m = []) ∨ ∃ p, a = some ⟨p, 0, none⟩ ∧ IsStr ks w p m
theorem fork_ptr (ks : List B32) (w : World) (a : Option Addr) (m : List B8) (h : PtrStr ks w a m) : Calls Tryd.prog 78 #[.pointer a] w fun e w' => ∃ q, e = .returned (.pointer (some ⟨q, 0, none⟩)) ∧ w.heap.size ≤ q ∧ IsStr ks w' q m ∧ Below w.heap.size w w' := by
  rcases h with ⟨rfl, rfl⟩ | ⟨p, rfl, h⟩
  · exact fork_str_nil ks w
  · exact fork_str ks w p m h

set_option maxHeartbeats 1000000 in
set_option maxRecDepth 100000 in
theorem sum_any (ks : List B32) (w : World) (a : Option Addr) (m : List B8) (hK : Roots ks w) (h : PtrStr ks w a m) (hm : m.length ≤ 562949953421312) :
    Calls Tryd.prog 70 #[.pointer a] w fun e w' => e = .returned (.agg (Vb (sha ks m)).toArray) ∧ Below w.heap.size w w' := by
  have hpos := hK.pos
  have h1 : PtrStr ks (w.alloc (.cells (List.replicate 32 (Value.int .u8 0)).toArray 80)) a m := by
    rcases h with h | ⟨p, rfl, h⟩
    · exact .inl h
    · exact .inr ⟨p, rfl, h.below ((Below.refl _ _).alloc (Nat.le_refl _) _) h.lt⟩
  have HK := Lib.hid hK
  clear hK h
  go_enter Tryd.func70, Tryd.ntmps70
  go_wp2_with fail
  refine (fork_ptr ks _ a m h1).mono ?_
  clear h1
  rintro e w1 ⟨q, rfl, hq, hs1, hb1⟩
  have HR1 := Lib.hid ((Blk.new w 80 (List.replicate 32 (.int .u8 0))).below hb1 (by simp))
  have hb1' : Below w.heap.size w w1 := ((Below.refl _ _).alloc (Nat.le_refl _) _).trans (hb1.mono (by simp))
  have hsz1 := hb1'.size
  have hq1 := hs1.lt
  have c72 := hs1.len
  have HS1 := Lib.hid hs1
  have HB1 := Lib.hid hb1'
  have hq0 : w.heap.size < q := by simp at hq; omega
  clear hs1 hb1 hb1'
  go_wp2_with fail
  refine (ending_any w1 m.length (by omega)).mono ?_
  rintro e w2 ⟨g, c, rfl, hown, hb2⟩
  have ht2 : Txt w2 q (some ⟨g, 0, none⟩) (endB m.length).length c (endB m.length) := txt_of_owned hown hq1
  have hs2 := HS1.out.below hb2 hq1
  have hB2 : Below w.heap.size w w2 := HB1.out.trans (hb2.mono hsz1)
  have hK2 := HK.out.below hB2 hpos
  have hR2 := HR1.out.below hb2 (by omega)
  have HOLD := Lib.hid (And.intro ht2 (And.intro hs2 (And.intro hB2 (And.intro hK2 hR2))))
  clear hown ht2 hs2 hB2 hK2 hR2 hb2
  go_wp2_with fail
  have hel := endB_length m.length
  have hgl := gap_lt m.length
  refine (tell_any ks w2 q m (some ⟨g, 0, none⟩) (endB m.length).length c (endB m.length) (by omega) HOLD.out.2.2.2.1 HOLD.out.2.1 HOLD.out.1 (by omega)).mono ?_
  rintro e w3 ⟨rfl, hs3, ho3⟩
  have hB3 : Below w.heap.size w w3 := HOLD.out.2.2.1.trans (ho3.below (B := w.heap.size) HOLD.out.2.2.1.size (by simp; omega))
  have hR3 := HOLD.out.2.2.2.2.only ho3 (by simp; omega)
  obtain ⟨tl, hw3⟩ := hs3.words (by rw [List.length_append]; omega)
  have H3 := Lib.hid (And.intro hB3 (And.intro hR3 hw3))
  clear hs3 ho3 hB3 hR3 hw3
  go_wp2_with fail
  refine (bytes_any w3 q _ tl H3.out.2.2).mono ?_
  rintro e w4 ⟨he, hb4⟩
  have he2 : e = .returned (.agg (Vb (sha ks m)).toArray) := he
  clear he
  subst he2
  have hB4 : Below w.heap.size w w4 := H3.out.1.trans (hb4.mono H3.out.1.size)
  have hR4 : Blk w4 w.heap.size 80 (List.replicate 32 (.int .u8 0)) := H3.out.2.1.below hb4 (by have := H3.out.2.1.lt; exact this)
  have H4 := Lib.hid (And.intro hB4 hR4)
  clear hb4 hB4 hR4
  go_wp2_with (refine wpList_store_blk rfl 80 (.tmp 2) (.tmp 16) rfl w.heap.size 0 (Vb (sha ks m)) rfl rfl H4.out.2 (by simp [Vb_length, sha_length]) (info31.trans (by simp [Vb_length, sha_length])) (Vb_oneCell _) ?_; intro w5 hA hO)
  rw [over_whole (by simp [Vb_length, sha_length])] at hA
  refine bodyPost_ret (v := .agg (Vb (sha ks m)).toArray) ?_ rfl ⟨rfl, ?_⟩
  · exact ret_cell rfl rfl (run_loadVar_mid _ _ 0 80 _ _ hA.range Tryd.underlying80 rfl (info31.trans (by simp [Vb_length, sha_length])))
  · exact H4.out.1.trans (hO.below (B := w.heap.size) H4.out.1.size (by simp))

/-- Texts: so many slices in memory, outside block p, and what they hold. -/
structure Txts (w : World) (p : Nat) (L : Option Addr) (n : Nat) (xs : List (List B8)) : Prop where
  len : xs.length = n
  cells : 0 < n → ∃ g o, L = some ⟨g, o, none⟩ ∧ g ≠ p ∧ ∀ i x, xs[i]? = some x → ∃ A k c, w.cell? ⟨g, o + i, none⟩ = some (.slice A k c) ∧ Txt w p A k c x
theorem Txts.only {w w' : World} {p : Nat} {L : Option Addr} {n : Nat} {xs : List (List B8)} (h : Txts w p L n xs) (ho : Only [p] w w') : Txts w' p L n xs := by
  refine ⟨h.len, fun hn => ?_⟩
  obtain ⟨g, o, hL, hg, hc⟩ := h.cells hn
  refine ⟨g, o, hL, hg, fun i x hx => ?_⟩
  obtain ⟨A, k, c, h0, ht⟩ := hc i x hx
  refine ⟨A, k, c, ?_, ht.only ho⟩
  rw [← h0]
  unfold World.cell?
  rw [show (⟨g, o + i, none⟩ : Addr).block = g from rfl, ho.block g (World.block_lt_of_cell? w _ h0) (by simp [hg])]
theorem Txts.below {w w' : World} {p B : Nat} {L : Option Addr} {n : Nat} {xs : List (List B8)} (h : Txts w p L n xs) (ho : Below B w w') (hB : w.heap.size ≤ B) : Txts w' p L n xs := by
  refine ⟨h.len, fun hn => ?_⟩
  obtain ⟨g, o, hL, hg, hc⟩ := h.cells hn
  refine ⟨g, o, hL, hg, fun i x hx => ?_⟩
  obtain ⟨A, k, c, h0, ht⟩ := hc i x hx
  refine ⟨A, k, c, (ho.cell ?_).trans h0, ht.below ho hB⟩
  have h1 : g < w.heap.size := World.block_lt_of_cell? w _ h0
  show g < B
  omega

theorem take_flat {xs : List (List B8)} {i : Nat} {x : List B8} (h : xs[i]? = some x) : (xs.take (i + 1)).flatten = (xs.take i).flatten ++ x := by
  obtain ⟨hi, rfl⟩ := List.getElem?_eq_some_iff.1 h
  rw [List.take_succ_eq_append_getElem hi, List.flatten_append]
  simp
theorem take_flat_le (xs : List (List B8)) (i : Nat) : (xs.take i).flatten.length ≤ xs.flatten.length := by
  conv => rhs; rw [← List.take_append_drop i xs, List.flatten_append, List.length_append]
  omega

end Go.Proofs.YtfkdpndcoegfpaaDoor
end

/-
  The digests of no bytes and of abc, reckoned by the kernel. No condition.
-/

section
set_option maxRecDepth 100000
set_option linter.unusedSimpArgs false
set_option linter.unusedVariables false
namespace Go.Proofs.YtfkdpndcoegfpaaDoor
open Go.RowKit

/-- The steps' constants. -/
def rootsZ : List Int := [1116352408, 1899447441, 3049323471, 3921009573, 961987163, 1508970993, 2453635748, 2870763221, 3624381080, 310598401, 607225278, 1426881987, 1925078388, 2162078206, 2614888103, 3248222580, 3835390401, 4022224774, 264347078, 604807628, 770255983, 1249150122, 1555081692, 1996064986, 2554220882, 2821834349, 2952996808, 3210313671, 3336571891, 3584528711, 113926993, 338241895, 666307205, 773529912, 1294757372, 1396182291, 1695183700, 1986661051, 2177026350, 2456956037, 2730485921, 2820302411, 3259730800, 3345764771, 3516065817, 3600352804, 4094571909, 275423344, 430227734, 506948616, 659060556, 883997877, 958139571, 1322822218, 1537002063, 1747873779, 1955562222, 2024104815, 2227730452, 2361852424, 2428436474, 2756734187, 3204031479, 3329325298]
def Ks : List B32 := rootsZ.map fun z => BitVec.ofInt 32 z

/-- The sign of four bits. -/
def signs : List B8 := [48, 49, 50, 51, 52, 53, 54, 55, 56, 57, 97, 98, 99, 100, 101, 102]
def sign (i : Nat) : B8 := signs.getD i 0
/-- The signs of the first k bytes. -/
def hexS (d : List B8) : Nat → List B8
  | 0 => []
  | k + 1 => hexS d k ++ [sign ((d.getD k 0).toNat / 16), sign ((d.getD k 0).toNat % 16)]
theorem hexS_length (d : List B8) : ∀ k, (hexS d k).length = 2 * k
  | 0 => rfl
  | k + 1 => by simp [hexS, hexS_length d k]; omega

def textA : List B8 := [101, 51, 98, 48, 99, 52, 52, 50, 57, 56, 102, 99, 49, 99, 49, 52, 57, 97, 102, 98, 102, 52, 99, 56, 57, 57, 54, 102, 98, 57, 50, 52, 50, 55, 97, 101, 52, 49, 101, 52, 54, 52, 57, 98, 57, 51, 52, 99, 97, 52, 57, 53, 57, 57, 49, 98, 55, 56, 53, 50, 98, 56, 53, 53]
def textB : List B8 := [98, 97, 55, 56, 49, 54, 98, 102, 56, 102, 48, 49, 99, 102, 101, 97, 52, 49, 52, 49, 52, 48, 100, 101, 53, 100, 97, 101, 50, 50, 50, 51, 98, 48, 48, 51, 54, 49, 97, 51, 57, 54, 49, 55, 55, 97, 57, 99, 98, 52, 49, 48, 102, 102, 54, 49, 102, 50, 48, 48, 49, 53, 97, 100]

set_option maxRecDepth 1000000 in
theorem known_none : hexS (sha Ks []) 32 = textA := by decide +kernel
set_option maxRecDepth 1000000 in
theorem known_abc : hexS (sha Ks [97, 98, 99]) 32 = textB := by decide +kernel

end Go.Proofs.YtfkdpndcoegfpaaDoor
end

/-
  What every row of this seat shares: its list gives the constants; a world for the witness. No condition of its own.
-/

section
set_option maxRecDepth 100000
set_option linter.unusedSimpArgs false
set_option linter.unusedVariables false
namespace Go.Proofs.YtfkdpndcoegfpaaDoor
open Go.ChangeShapes Go.WideShapes Go.ChangeAt Go.RowKit

theorem own : ownKnob Tryd.prog.godebug = none := by kernel_rfl
theorem laidOut : laidOutB Tryd.prog = true := by kernel_rfl
theorem gTab : Tryd.prog.globalNamed "creel/digest.roots" = some 1 := by kernel_rfl
theorem gTabType : (Tryd.prog.globals[1]?).map (·.type) = some 136 := by kernel_rfl
theorem cells74 : Tryd.prog.cellsOf 136 = 64 := by kernel_rfl
theorem cells39 : Tryd.prog.cellsOf 39 = 1 := by kernel_rfl

theorem table {W : World} (h : laidMetH Tryd.prog [("creel/digest.roots", Rows.laid_creel_digest_roots)] W) : Lib.TabIs Tryd.prog W "creel/digest.roots" .u32 rootsZ :=
  Lib.tabIs_of_head (rest := []) gTab gTabType Tryd.underlying136 Tryd.underlying39 cells39 cells74 h
theorem roots_nat : ∀ i : Nat, i < 64 → rootsZ.getD i 0 = nw (Ks.getD i 0) := by decide +kernel
theorem roots_of {W : World} (h : laidMetH Tryd.prog [("creel/digest.roots", Rows.laid_creel_digest_roots)] W) : Roots Ks W := by
  intro i hi
  have := (table h).cell gTab i hi
  rw [roots_nat i hi] at this
  exact this

/-- A world for the witness: the settled one, the variable holding what its initialiser lays. -/
noncomputable def laidWorld (os : Os) : World :=
  { World.holding Tryd.prog os ⟨#[], #[], []⟩ with heap := (World.holding Tryd.prog os ⟨#[], #[], []⟩).heap.modify 1 fun
      | .cells _ t frozen => .cells (rootsZ.map fun z => Value.int .u32 z).toArray t frozen
      | o => o }

end Go.Proofs.YtfkdpndcoegfpaaDoor
end

/-
  The state of a disk as plain data, what the methods make of it, and when memory holds it. Plain definitions and theorems; no condition.
-/

section
set_option maxRecDepth 100000
set_option linter.unusedSimpArgs false
set_option linter.unusedVariables false
namespace Go.Proofs.YtfkdpndcoegfpaaDoor
open Go.RowKit

/-- A disk: power, what it is armed with, laid bytes (64 for each of n sectors), waiting writes, counts. -/
structure St where
  on : Bool
  armed : Bool
  left : Int
  n : Nat
  lc : Nat
  laid : List Int
  tl : List Value
  waits : List (Int × List Int)
  wr : Int
  fl : Int

/-- The cells of the disk's own block. -/
def dk (on armed : Bool) (left : Int) (L n lc : Nat) (wv : Value) (wr fl : Int) : List Value :=
  [.bool on, .bool armed, .int .i64 left, .slice (some ⟨L, 0, none⟩) (64 * n) lc, wv, .int .i64 wr, .int .i64 fl]

/-- The cells of the waiting writes. -/
def W (ws : List (Int × List Int)) : List Value := ws.flatMap fun p => .int .i64 p.1 :: U p.2

structure Good (s : St) : Prop where
  size : s.laid.length = 64 * s.n
  n1 : 1 ≤ s.n
  n2 : s.n ≤ 4096
  sec : ∀ p ∈ s.waits, 0 ≤ p.1 ∧ p.1 < s.n ∧ p.2.length = 64
  left0 : 0 ≤ s.left
  left1 : s.left ≤ 9223372036854775807
  cap : s.waits.length ≤ 1000000
  wr0 : 0 ≤ s.wr
  wr1 : s.wr ≤ 1000000
  fl0 : 0 ≤ s.fl
  fl1 : s.fl ≤ 1000000
  lc0 : 64 * s.n ≤ s.lc

structure IsDisk (B : Nat) (w : World) (D L : Nat) (wv : Value) (s : St) : Prop where
  disk : Blk w D 70 (dk s.on s.armed s.left L s.n s.lc wv s.wr s.fl)
  laid : Blk w L 5 (U s.laid ++ s.tl)
  own : w.ownsRow B 75 65 wv s.waits.length (W s.waits)
  baseD : B ≤ D
  baseL : B ≤ L
  good : Good s

theorem dk_cells {w : World} {D : Nat} {t : TypeId} {on armed : Bool} {left : Int} {L n lc : Nat} {wv : Value} {wr fl : Int} (h : Blk w D t (dk on armed left L n lc wv wr fl)) :
    w.cell? ⟨D, 0, none⟩ = some (.bool on) ∧ w.cell? ⟨D, 1, none⟩ = some (.bool armed) ∧ w.cell? ⟨D, 2, none⟩ = some (.int .i64 left) ∧
    w.cell? ⟨D, 3, none⟩ = some (.slice (some ⟨L, 0, none⟩) (64 * n) lc) ∧ w.cell? ⟨D, 4, none⟩ = some wv ∧
    w.cell? ⟨D, 5, none⟩ = some (.int .i64 wr) ∧ w.cell? ⟨D, 6, none⟩ = some (.int .i64 fl) :=
  ⟨h.cell 0, h.cell 1, h.cell 2, h.cell 3, h.cell 4, h.cell 5, h.cell 6⟩

/-- Laid bytes behind the laying of a sector. -/
def putS (laid : List Int) (k : Nat) (bs : List Int) : List Int := laid.take (64 * k) ++ bs ++ laid.drop (64 * k + 64)
theorem putS_length {laid bs : List Int} {k n : Nat} (hl : laid.length = 64 * n) (hk : k < n) (hb : bs.length = 64) : (putS laid k bs).length = 64 * n := by
  simp [putS]; omega

theorem W_get : ∀ (ws : List (Int × List Int)), (∀ p ∈ ws, p.2.length = 64) → ∀ (i : Nat) (p : Int × List Int), ws[i]? = some p →
    (W ws)[i * 65]? = some (.int .i64 p.1) ∧ ∀ j x, p.2[j]? = some x → (W ws)[i * 65 + 1 + j]? = some (.int .u8 x)
  | [], _, _, _, h => by simp at h
  | q :: ws, hw, i, p, h => by
    have hq : (Value.int .i64 q.1 :: U q.2).length = 65 := by simp [U_length, hw q (by simp)]
    have hW : W (q :: ws) = (Value.int .i64 q.1 :: U q.2) ++ W ws := by simp [W]
    match i, h with
    | 0, h =>
      simp only [List.getElem?_cons_zero, Option.some.injEq] at h
      subst h
      refine ⟨by rw [hW]; simp, fun j x hx => ?_⟩
      have hj : j < q.2.length := (List.getElem?_eq_some_iff.1 hx).1
      have hj2 := hw q (by simp)
      rw [hW, List.getElem?_append_left (by omega), show 0 * 65 + 1 + j = j + 1 by omega, List.getElem?_cons_succ, U_get, hx]
      rfl
    | i + 1, h =>
      simp only [List.getElem?_cons_succ] at h
      obtain ⟨h1, h2⟩ := W_get ws (fun p hp => hw p (by simp [hp])) i p h
      refine ⟨?_, fun j x hx => ?_⟩
      · rw [hW, List.getElem?_append_right (by omega), hq, show (i + 1) * 65 - 65 = i * 65 by omega]; exact h1
      · rw [hW, List.getElem?_append_right (by omega), hq, show (i + 1) * 65 + 1 + j - 65 = i * 65 + 1 + j by omega]; exact h2 j x hx

/-- The slice of the waiting writes, and its cells. -/
theorem IsDisk.form {B : Nat} {w : World} {D L : Nat} {wv : Value} {s : St} (h : IsDisk B w D L wv s) : ∃ A c, wv = .slice A s.waits.length c ∧ ∀ i p, s.waits[i]? = some p →
    ∃ g, A = some ⟨g, 0, none⟩ ∧ w.cell? ⟨g, i * 65, none⟩ = some (.int .i64 p.1) ∧ ∀ j x, p.2[j]? = some x → w.cell? ⟨g, i * 65 + 1 + j, none⟩ = some (.int .u8 x) := by
  rcases h.own.2 with ⟨rfl, hn⟩ | ⟨g, cap, cur, rfl, _, hg, hnc, _, hs, ht⟩
  · refine ⟨none, 0, by rw [hn], fun i p hp => ?_⟩
    rw [List.getElem?_eq_none (by omega)] at hp
    cases hp
  · refine ⟨some ⟨g, 0, none⟩, cap, rfl, fun i p hp => ⟨g, rfl, ?_⟩⟩
    have hcell : ∀ k u, (W s.waits)[k]? = some u → w.cell? ⟨g, k, none⟩ = some u := by
      intro k u hu
      rw [cell_of_row w g k cur _ (0, 0) hg]
      rw [← ht, List.getElem?_take] at hu
      split at hu
      · simpa using hu
      · cases hu
    obtain ⟨h1, h2⟩ := W_get s.waits (fun p hp => (h.good.sec p hp).2.2) i p hp
    exact ⟨hcell _ _ h1, fun j x hx => hcell _ _ (h2 j x hx)⟩

/-- What is read of a sector: the last waiting write of it, or what is laid. -/
def seen (s : St) (k : Nat) : List Int :=
  match s.waits.reverse.find? (fun p => p.1 == (k : Int)) with
  | some p => p.2
  | none => (s.laid.drop (64 * k)).take 64

/-- The disk is held again, and what else was there is as it was, but for the blocks of S. -/
def DiskPost (B D L : Nat) (S : List Nat) (w : World) (s : St) (w' : World) : Prop := ∃ wv', IsDisk B w' D L wv' s ∧ Only S w w'

/-- What is left behind a write or a flush. -/
def nextLeft (armed : Bool) (left : Int) : Int := if armed = true then left - 1 else left

theorem left_ok {s : St} (hg : Good s) (hs : ¬ (s.armed = true ∧ s.left = 0)) : 0 ≤ nextLeft s.armed s.left ∧ nextLeft s.armed s.left ≤ 9223372036854775807 := by
  unfold nextLeft
  have h0 := hg.left0
  have h1 := hg.left1
  by_cases h : s.armed = true
  · rw [if_pos h]
    have : s.left ≠ 0 := fun e => hs ⟨h, e⟩
    omega
  · rw [if_neg h]; omega

/-- Laid bytes behind the laying of these writes, in order. -/
def layAll (laid : List Int) (ws : List (Int × List Int)) : List Int := ws.foldl (fun l p => putS l p.1.toNat p.2) laid
theorem layAll_snoc (laid : List Int) (ws : List (Int × List Int)) (p : Int × List Int) : layAll laid (ws ++ [p]) = putS (layAll laid ws) p.1.toNat p.2 := by simp [layAll]
theorem layAll_length {n : Nat} : ∀ (ws : List (Int × List Int)) (laid : List Int), laid.length = 64 * n → (∀ p ∈ ws, 0 ≤ p.1 ∧ p.1 < n ∧ p.2.length = 64) → (layAll laid ws).length = 64 * n
  | [], _, h, _ => h
  | p :: ws, laid, h, hw => by
    have := hw p (by simp)
    exact layAll_length ws _ (putS_length h (by omega) this.2.2) (fun q hq => hw q (by simp [hq]))

/-- What Flush makes of a state. -/
def St.flush (s : St) : Int × St :=
  if s.on = false then (9, s)
  else if s.armed = true ∧ s.left = 0 then (9, { s with on := false })
  else (0, { s with left := nextLeft s.armed s.left, laid := layAll s.laid s.waits, waits := [], fl := s.fl + 1 })

/-- What Write makes of a state: the error's number, the state behind it. -/
def St.write (s : St) (no : Int) (bs : List Int) : Int × St :=
  if s.on = false then (9, s)
  else if ¬ (0 ≤ no ∧ no < s.n ∧ bs.length = 64) then (1, s)
  else if s.armed = true ∧ s.left = 0 then (9, { s with on := false })
  else (0, { s with left := nextLeft s.armed s.left, waits := s.waits ++ [(no, bs)], wr := s.wr + 1 })

end Go.Proofs.YtfkdpndcoegfpaaDoor
end

/-
  The small methods of a disk and of its power: what each call does, said of cells. Conditions: the disk's block is known.
-/

section
set_option maxRecDepth 100000
set_option linter.unusedSimpArgs false
set_option linter.unusedVariables false
namespace Go.Proofs.YtfkdpndcoegfpaaDoor
open Go.RowKit

theorem on_nil (w : World) : Calls Tryd.prog 12 #[.pointer none] w fun e w' => e = .returned (.bool false) ∧ w = w' := by
  go_enter Tryd.func12, Tryd.ntmps12
  go_wp2
  go_ret
  exact ⟨rfl, rfl⟩

theorem on_any (w : World) (D : Nat) (b : Bool) (h0 : w.cell? ⟨D, 0, none⟩ = some (.bool b)) : Calls Tryd.prog 12 #[.pointer (some ⟨D, 0, none⟩)] w fun e w' => e = .returned (.bool b) ∧ w = w' := by
  go_enter Tryd.func12, Tryd.ntmps12
  go_wp2
  go_ret
  exact ⟨rfl, rfl⟩

theorem sectors_nil (w : World) : Calls Tryd.prog 42 #[.pointer none] w fun e w' => e = .returned (.int .i64 0) ∧ w = w' := by
  go_enter Tryd.func42, Tryd.ntmps42
  go_wp2
  go_ret
  exact ⟨rfl, rfl⟩

theorem sectors_any (w : World) (D L n lc : Nat) (hn : n ≤ 4096) (h3 : w.cell? ⟨D, 3, none⟩ = some (.slice (some ⟨L, 0, none⟩) (64 * n) lc)) :
    Calls Tryd.prog 42 #[.pointer (some ⟨D, 0, none⟩)] w fun e w' => e = .returned (.int .i64 n) ∧ w = w' := by
  go_enter Tryd.func42, Tryd.ntmps42
  go_wp2
  go_ret
  exact ⟨by congr 1, rfl⟩

theorem has_any (w : World) (D L n lc : Nat) (no : Int) (hn : n ≤ 4096) (h3 : w.cell? ⟨D, 3, none⟩ = some (.slice (some ⟨L, 0, none⟩) (64 * n) lc)) :
    Calls Tryd.prog 26 #[.pointer (some ⟨D, 0, none⟩), .int .i64 no] w fun e w' => e = .returned (.bool (decide (0 ≤ no ∧ no < n))) ∧ w = w' := by
  go_enter Tryd.func26, Tryd.ntmps26
  by_cases h : 0 ≤ no
  · go_wp2_with (go_at_call 42; refine (sectors_any _ D L n lc hn h3).mono ?_; rintro e w' ⟨rfl, rfl⟩)
    go_ret
    exact ⟨by simp [h], rfl⟩
  · have hd : decide (0 ≤ no) = false := by simpa using h
    go_wp2_with (go_at_call 42; refine (sectors_any _ D L n lc hn h3).mono ?_; rintro e w' ⟨rfl, rfl⟩)
    go_ret
    exact ⟨by simp, rfl⟩

end Go.Proofs.YtfkdpndcoegfpaaDoor
end

/-
  The methods of a disk's power: what each call does to the three cells. Conditions: the disk's block is known.
-/

section
set_option maxRecDepth 100000
set_option linter.unusedSimpArgs false
set_option linter.unusedVariables false
namespace Go.Proofs.YtfkdpndcoegfpaaDoor
open Go.RowKit

theorem cut_any (w : World) (D : Nat) (b : Bool) (h0 : w.cell? ⟨D, 0, none⟩ = some (.bool b)) (f0 : w.frozen? ⟨D, 0, none⟩ = false) :
    Calls Tryd.prog 66 #[.pointer (some ⟨D, 0, none⟩)] w fun e w' => e = .returned (.tuple #[]) ∧ w.setCell ⟨D, 0, none⟩ (.bool false) = w' := by
  go_enter Tryd.func66, Tryd.ntmps66
  go_wp2
  go_end0
  exact ⟨rfl, rfl⟩

theorem restore_any (w : World) (D : Nat) (b c : Bool) (n : Int) (h0 : w.cell? ⟨D, 0, none⟩ = some (.bool b)) (h1 : w.cell? ⟨D, 1, none⟩ = some (.bool c)) (h2 : w.cell? ⟨D, 2, none⟩ = some (.int .i64 n))
    (f0 : w.frozen? ⟨D, 0, none⟩ = false) (f1 : w.frozen? ⟨D, 1, none⟩ = false) (f2 : w.frozen? ⟨D, 2, none⟩ = false) :
    Calls Tryd.prog 32 #[.pointer (some ⟨D, 0, none⟩)] w fun e w' => e = .returned (.tuple #[]) ∧
      ((w.setCell ⟨D, 0, none⟩ (.bool true)).setCell ⟨D, 1, none⟩ (.bool false)).setCell ⟨D, 2, none⟩ (.int .i64 0) = w' := by
  go_enter Tryd.func32, Tryd.ntmps32
  go_wp2
  go_end0
  exact ⟨rfl, rfl⟩

theorem spend_free (w : World) (D : Nat) (h1 : w.cell? ⟨D, 1, none⟩ = some (.bool false)) :
    Calls Tryd.prog 50 #[.pointer (some ⟨D, 0, none⟩)] w fun e w' => e = .returned (.bool true) ∧ w = w' := by
  go_enter Tryd.func50, Tryd.ntmps50
  go_wp2
  go_ret
  exact ⟨rfl, rfl⟩

theorem spend_none (w : World) (D : Nat) (b : Bool) (h0 : w.cell? ⟨D, 0, none⟩ = some (.bool b)) (h1 : w.cell? ⟨D, 1, none⟩ = some (.bool true)) (h2 : w.cell? ⟨D, 2, none⟩ = some (.int .i64 0)) (f0 : w.frozen? ⟨D, 0, none⟩ = false) :
    Calls Tryd.prog 50 #[.pointer (some ⟨D, 0, none⟩)] w fun e w' => e = .returned (.bool false) ∧ w.setCell ⟨D, 0, none⟩ (.bool false) = w' := by
  go_enter Tryd.func50, Tryd.ntmps50
  go_wp2_with (go_at_call 66; refine (cut_any _ D b h0 f0).mono ?_; rintro e w' ⟨rfl, rfl⟩)
  go_ret
  exact ⟨rfl, rfl⟩

theorem spend_one (w : World) (D : Nat) (n : Int) (hn : 0 < n) (hn' : n ≤ 9223372036854775807) (h1 : w.cell? ⟨D, 1, none⟩ = some (.bool true)) (h2 : w.cell? ⟨D, 2, none⟩ = some (.int .i64 n)) (f2 : w.frozen? ⟨D, 2, none⟩ = false) :
    Calls Tryd.prog 50 #[.pointer (some ⟨D, 0, none⟩)] w fun e w' => e = .returned (.bool true) ∧ w.setCell ⟨D, 2, none⟩ (.int .i64 (n - 1)) = w' := by
  have hz : (n == 0) = false := by simp; omega
  go_enter Tryd.func50, Tryd.ntmps50
  go_wp2
  go_ret
  exact ⟨rfl, rfl⟩

theorem spend_ok (w : World) (D : Nat) (on armed : Bool) (left : Int) (L n lc : Nat) (wv : Value) (wr fl : Int) (h : Blk w D 70 (dk on armed left L n lc wv wr fl))
    (hs : ¬ (armed = true ∧ left = 0)) (h0 : 0 ≤ left) (h1 : left ≤ 9223372036854775807) :
    Calls Tryd.prog 50 #[.pointer (some ⟨D, 0, none⟩)] w fun e w' => e = .returned (.bool true) ∧
      Blk w' D 70 (dk on armed (nextLeft armed left) L n lc wv wr fl) ∧ Only [D] w w' := by
  obtain ⟨c0, c1, c2, c3, c4, c5, c6⟩ := dk_cells h
  cases armed with
  | false => exact (spend_free w D c1).mono fun e w' ⟨he, hw⟩ => by subst hw; exact ⟨he, h, Only.refl _ _⟩
  | true =>
    refine (spend_one w D left (by have : left ≠ 0 := fun e => hs ⟨rfl, e⟩; omega) h1 c1 c2 (h.frozen 2)).mono fun e w' ⟨he, hw⟩ => ?_
    subst hw
    exact ⟨he, h.set_ 2 _, (Only.refl _ _).setCell (.inl (by simp)) _⟩

theorem spend_no (w : World) (D : Nat) (on : Bool) (L n lc : Nat) (wv : Value) (wr fl : Int) (h : Blk w D 70 (dk on true 0 L n lc wv wr fl)) :
    Calls Tryd.prog 50 #[.pointer (some ⟨D, 0, none⟩)] w fun e w' => e = .returned (.bool false) ∧
      Blk w' D 70 (dk false true 0 L n lc wv wr fl) ∧ Only [D] w w' := by
  obtain ⟨c0, c1, c2, c3, c4, c5, c6⟩ := dk_cells h
  refine (spend_none w D on c0 c1 c2 (h.frozen 0)).mono fun e w' ⟨he, hw⟩ => ?_
  subst hw
  exact ⟨he, h.set_ 0 _, (Only.refl _ _).setCell (.inl (by simp)) _⟩

theorem add_run {w : World} {a : Addr} {x : Int} (hx : 0 ≤ x) (hx' : x ≤ 1000000) (hc : w.cell? a = some (.int .i64 x)) (hz : w.frozen? a = false) :
    (callFunc 67 #[.pointer (some a), .int .i64 1]).run Tryd.prog w = .ok (.value (.int .i64 (x + 1))) (w.setCell a (.int .i64 (x + 1))) :=
  run_call_add Tryd.func67 (by kernel_rfl) (by kernel_rfl) (by kernel_rfl) .i64 (by kernel_rfl) hc hz (by simp [go_sem, IntKind.wrap_i64]; omega)

theorem atom_add (w : World) (a : Addr) (x : Int) (hx : 0 ≤ x) (hx' : x ≤ 1000000) (hc : w.cell? a = some (.int .i64 x)) (hz : w.frozen? a = false) :
    Calls Tryd.prog 51 #[.pointer (some a), .int .i64 1] w fun e w' => e = .returned (.int .i64 (x + 1)) ∧ w.setCell a (.int .i64 (x + 1)) = w' := by
  obtain ⟨b, o, s⟩ := a
  have hs : s = none := by
    cases s with
    | none => rfl
    | some v => simp [World.cell?] at hc; split at hc <;> simp at hc
  subst hs
  have hl := add_run hx hx' hc hz
  go_enter Tryd.func51, Tryd.ntmps51
  go_wp2
  go_ret
  exact ⟨rfl, rfl⟩

end Go.Proofs.YtfkdpndcoegfpaaDoor
end

/-
  Building a waiting write and a slice of one; a sector's bytes loaded as an array. Conditions: 64 bytes; each cell is there.
-/

section
set_option maxRecDepth 100000
set_option linter.unusedSimpArgs false
set_option linter.unusedVariables false
namespace Go.Proofs.YtfkdpndcoegfpaaDoor
open Go.RowKit

/-- The fields of a waiting write. -/
noncomputable def wfields : Array Field := match Tryd.prog.underlying 75 with | some (.struct f) => f | _ => #[]
theorem wfields_eq : Tryd.prog.underlying 75 = some (.struct wfields) := by kernel_rfl
theorem wzero (W : World) : (zeroValue 75).run Tryd.prog W = .ok (.agg (.int .i64 0 :: List.replicate 64 (.int .u8 0)).toArray) W := by kernel_rfl
theorem wplaces (W : World) : (wfields.mapM fun (f : Field) => (do pure (f.offset, ← sizeOf f.type) : Sem (Nat × Nat))).run Tryd.prog W = .ok #[(0, 1), (1, 64)] W := by kernel_rfl

theorem fill_two (a b : Value) (cs zs : List Value) (ha : a.cells = #[a]) (hb : b.cells = cs.toArray) (hc : cs.length = 64) (hz : zs.length = 64) (z : Value) :
    Instr.fill (fun i => #[(0, 1), (1, 64)][i]?) (z :: zs).toArray [(0, a), (1, b)] = some (a :: cs).toArray := by
  obtain ⟨g1, g2⟩ := Great.foldl_set 1 cs 0 (a :: zs).toArray
  have e : (#[(0, 1), (1, 64)] : Array (Nat × Nat))[0]? = some (0, 1) := rfl
  have e' : (#[(0, 1), (1, 64)] : Array (Nat × Nat))[1]? = some (1, 64) := rfl
  unfold Instr.fill
  simp only [e, ha]
  rw [if_neg (by simp)]
  unfold Instr.fill
  simp only [e', hb]
  rw [if_neg (by simp [hc, hz])]
  unfold Instr.fill
  have h0 : (#[a].zipIdx.foldl (fun cs (x : Value × Nat) => cs.setIfInBounds (0 + x.2) x.1) (z :: zs).toArray) = (a :: zs).toArray := by simp
  rw [h0, ← Array.foldl_toList, Array.toList_zipIdx]
  congr 1
  apply Array.ext_getElem?
  intro k
  rw [g2 k]
  simp only [List.getElem?_toArray, List.size_toArray, List.length_cons, hz, hc]
  by_cases h : 1 ≤ k ∧ k < 65
  · rw [if_pos ⟨by omega, by omega, by omega⟩]
    obtain ⟨m, rfl⟩ : ∃ m, k = m + 1 := ⟨k - 1, by omega⟩
    rw [List.getElem?_cons_succ]
    congr 1
  · rw [if_neg (by omega)]
    by_cases hk : k = 0
    · subst hk; rfl
    · rw [List.getElem?_eq_none (by simp [hz]; omega), List.getElem?_eq_none (by simp [hc]; omega)]

theorem run_build_waiting (no : Int) (bs : List Int) (hb : bs.length = 64) (W : World) :
    (Instr.build 75 #[(0, .int .i64 no), (1, .agg (U bs).toArray)]).run Tryd.prog W = .ok (.agg (.int .i64 no :: U bs).toArray) W := by
  have hf := fill_two (.int .i64 no) (.agg (U bs).toArray) (U bs) (List.replicate 64 (.int .u8 0)) rfl rfl (by rw [U_length, hb]) (by simp) (.int .i64 0)
  simp only [Instr.build, Sem.run_bind, wzero, Result.andThen_ok, run_underlying wfields_eq, wplaces, Value.cells, hf]
  rfl

theorem winfo : (Tryd.prog.info? 75).map (fun i => (i.zero, i.size, i.bytes)) = some (some (.agg (.int .i64 0 :: List.replicate 64 (.int .u8 0)).toArray), 65, 72) := by kernel_rfl

theorem run_slice_waiting (no : Int) (bs : List Int) (hb : bs.length = 64) (W : World) :
    (Instr.buildSlice 65 1 #[(0, .agg (.int .i64 no :: U bs).toArray)]).run Tryd.prog W = .ok (.slice (some ⟨W.heap.size, 0, none⟩) 1 1) (W.alloc (.cells (.int .i64 no :: U bs).toArray 75)) := by
  obtain ⟨i0, hi, hz0, hz1, hz2⟩ := info_parts winfo
  refine run_buildSlice W _ 75 1 _ _ i0 _ (by kernel_rfl) hi hz0 (by rw [hz1]; omega) (by rw [hz1]; omega) ?_
  have := Great.fill_whole (s := 65) (by omega) [.agg (.int .i64 no :: U bs).toArray]
    ((Array.range (1 * 65)).map ((.agg (.int .i64 0 :: List.replicate 64 (.int .u8 0)).toArray : Value).cells[· % (.agg (.int .i64 0 :: List.replicate 64 (.int .u8 0)).toArray : Value).cells.size]!)) (by
      intro v hv
      simp only [List.mem_singleton] at hv
      subst hv
      simp [Value.cells, U_length, hb]) (by simp)
  rw [hz1]
  simpa [Value.cells] using this

/-- The 64 cells from a on; are they all there? -/
def read64 (W : World) (a : Addr) : List Value := (List.range 64).map fun i => (W.cell? (a.add i)).getD undef
def all64 (W : World) (a : Addr) : Bool := (List.range 64).all fun i => (W.cell? (a.add i)).isSome
theorem read64_drew (W : World) (a : Addr) : read64 W.drew a = read64 W a := rfl
theorem all64_drew (W : World) (a : Addr) : all64 W.drew a = all64 W a := rfl
theorem read64_of {W : World} {a : Addr} {cs : List Value} (hc : cs.length = 64) (h : ∀ j u, cs[j]? = some u → W.cell? (a.add j) = some u) : all64 W a = true ∧ read64 W a = cs := by
  refine ⟨List.all_eq_true.2 fun i hi => ?_, ?_⟩
  · have hlt : i < cs.length := by rw [hc]; exact List.mem_range.1 hi
    rw [h i _ (List.getElem?_eq_getElem hlt)]; rfl
  · apply List.ext_getElem?
    intro k
    unfold read64
    rw [List.getElem?_map]
    by_cases hk : k < 64
    · have hlt : k < cs.length := by omega
      rw [List.getElem?_range hk, List.getElem?_eq_getElem hlt]
      simp [h k _ (List.getElem?_eq_getElem hlt)]
    · rw [List.getElem?_eq_none (by simp; omega), List.getElem?_eq_none (by omega)]; rfl

theorem run_arrayAt64 (W : World) (a : Addr) (c : Nat) : (Instr.arrayAt 73 (.slice (some a) 64 c)).run Tryd.prog W = .ok (.pointer (some a)) W := by kernel_rfl

theorem run_load64 (W : World) (a : Addr) (h : all64 W a = true) : (Instr.loadAt 73 (.pointer (some a))).run Tryd.prog W = .ok (.agg (read64 W a).toArray) W := by
  have hl := run_loadCells_list (P := Tryd.prog) W a (read64 W a) (fun j v hv => by
    unfold read64 at hv
    rw [List.getElem?_map] at hv
    by_cases hj : j < 64
    · rw [List.getElem?_range hj] at hv
      simp at hv
      have := List.all_eq_true.1 h j (List.mem_range.2 hj)
      obtain ⟨u, hu⟩ := Option.isSome_iff_exists.1 this
      rw [hu] at hv ⊢
      simpa using hv
    · rw [List.getElem?_eq_none (by simp; omega)] at hv
      cases hv)
  have hn : (read64 W a).length = 64 := by simp [read64]
  rw [hn] at hl
  have ha : (isAgg 73).run Tryd.prog W = .ok true W := by kernel_rfl
  have hs : (sizeOf 73).run Tryd.prog W = .ok 64 W := by kernel_rfl
  simp only [Instr.loadAt, Instr.sureAddr, Sem.run_bind, Sem.run_pure, Result.andThen_ok, loadVar, ha, hs, if_true, hl]

/-- The same three as rules on a whole operation: for a region that draws its order. -/
def all64V (W : World) : Value → Bool
  | .pointer (some a) => all64 W a
  | _ => false
def read64V (W : World) : Value → List Value
  | .pointer (some a) => read64 W a
  | _ => []
theorem all64V_ptr (W : World) (a : Addr) : all64V W (.pointer (some a)) = all64 W a := rfl
theorem read64V_ptr (W : World) (a : Addr) : read64V W (.pointer (some a)) = read64 W a := rfl
section
variable (ρ : Operand → Value) (d : Option Tmp) (t : TypeId) (p : String) (af : Array Edge) (gd : Option (Nat × Bool)) (W : World)
theorem exec_load64 (x : Operand) (h : all64V W (ρ x) = true) :
    (execOp ρ ⟨d, .load 73 x, t, p, af, gd⟩).run Tryd.prog W = .ok (.value (.agg (read64V W (ρ x)).toArray)) W := by
  generalize hv : ρ x = v at h ⊢
  unfold all64V at h
  split at h
  · simp only [execOp, hv, Sem.run_bind, run_load64 W _ h, Result.andThen_ok, Sem.run_pure, read64V]
  · cases h

def noOf : Value → Int
  | .int .i64 n => n
  | _ => 0
def bytesIn : Value → List Value
  | .agg cs => cs.toList
  | _ => []
def isWait (v u : Value) : Bool :=
  match v, u with
  | .int .i64 _, .agg cs => cs.size == 64
  | _, _ => false
theorem isWait_U (no : Int) (bs : List Int) : isWait (.int .i64 no) (.agg (U bs).toArray) = (bs.length == 64) := by simp [isWait, U_length]
theorem run_build_waiting' (no : Int) (cs : Array Value) (hb : cs.size = 64) (W : World) :
    (Instr.build 75 #[(0, .int .i64 no), (1, .agg cs)]).run Tryd.prog W = .ok (.agg (.int .i64 no :: cs.toList).toArray) W := by
  have hf := fill_two (.int .i64 no) (.agg cs) cs.toList (List.replicate 64 (.int .u8 0)) rfl (by simp [Value.cells]) (by simpa using hb) (by simp) (.int .i64 0)
  simp only [Instr.build, Sem.run_bind, wzero, Result.andThen_ok, run_underlying wfields_eq, wplaces, Value.cells, hf]
  rfl
theorem exec_build_waiting (x y : Operand) (h : isWait (ρ x) (ρ y) = true) :
    (execOp ρ ⟨d, .build 75 #[(0, x), (1, y)], t, p, af, gd⟩).run Tryd.prog W = .ok (.value (.agg (.int .i64 (noOf (ρ x)) :: bytesIn (ρ y)).toArray)) W := by
  have e : (#[(0, x), (1, y)] : Array (Nat × Operand)).map (fun (i, x) => (i, ρ x)) = #[(0, ρ x), (1, ρ y)] := by simp
  have e' : execOp ρ ⟨d, .build 75 #[(0, x), (1, y)], t, p, af, gd⟩ = (do pure (.value (← Instr.build 75 #[(0, ρ x), (1, ρ y)]))) := by
    unfold execOp
    rw [← e]
  rw [e']
  generalize ρ x = v at h ⊢
  generalize ρ y = u at h ⊢
  unfold isWait at h
  split at h
  · rename_i n cs
    simp only [Sem.run_bind, run_build_waiting' _ _ (beq_iff_eq.1 h) W, Result.andThen_ok, Sem.run_pure, noOf, bytesIn]
  · cases h

def is65 : Value → Bool
  | .agg cs => cs.size == 65
  | _ => false
theorem is65_U (no : Int) (bs : List Int) : is65 (.agg (.int .i64 no :: U bs).toArray) = (bs.length == 64) := by
  simp [is65, U_length]
theorem exec_slice_waiting (x : Operand) (h : is65 (ρ x) = true) :
    (execOp ρ ⟨d, .buildSlice 65 1 #[(0, x)], t, p, af, gd⟩).run Tryd.prog W = .ok (.value (.slice (some ⟨W.heap.size, 0, none⟩) 1 1)) (W.alloc (.cells (bytesIn (ρ x)).toArray 75)) := by
  have e : (#[(0, x)] : Array (Nat × Operand)).map (fun (i, x) => (i, ρ x)) = #[(0, ρ x)] := by simp
  have e' : execOp ρ ⟨d, .buildSlice 65 1 #[(0, x)], t, p, af, gd⟩ = (do pure (.value (← Instr.buildSlice 65 1 #[(0, ρ x)]))) := by
    unfold execOp
    rw [← e]
  rw [e']
  generalize ρ x = v at h ⊢
  unfold is65 at h
  split at h
  · rename_i cs
    have hs : cs.size = 65 := beq_iff_eq.1 h
    obtain ⟨i0, hi, hz0, hz1, hz2⟩ := info_parts winfo
    have hr := run_buildSlice W 65 75 1 #[(0, .agg cs)] cs i0 _ (by kernel_rfl) hi hz0 (by rw [hz1]; omega) (by rw [hz1]; omega) (by
      have := Great.fill_whole (s := 65) (by omega) [.agg cs]
        ((Array.range (1 * 65)).map ((.agg (.int .i64 0 :: List.replicate 64 (.int .u8 0)).toArray : Value).cells[· % (.agg (.int .i64 0 :: List.replicate 64 (.int .u8 0)).toArray : Value).cells.size]!)) (by
          intro v hv
          simp only [List.mem_singleton] at hv
          subst hv
          simpa [Value.cells] using hs) (by simp)
      rw [hz1]
      simpa [Value.cells] using this)
    simp only [Sem.run_bind, hr, Result.andThen_ok, Sem.run_pure, bytesIn, Array.toArray_toList]
  · cases h
theorem noOf_int (n : Int) : noOf (.int .i64 n) = n := rfl
theorem bytesIn_agg (cs : List Value) : bytesIn (.agg cs.toArray) = cs := rfl
end

end Go.Proofs.YtfkdpndcoegfpaaDoor
end

/-
  Write: what it does to a disk. Conditions: the disk is held; the bytes handed in lie at their address where there are 64 of them, beside the disk's own block.
-/

section
set_option maxRecDepth 100000
set_option linter.unusedSimpArgs false
set_option linter.unusedVariables false
namespace Go.Proofs.YtfkdpndcoegfpaaDoor
open Go.RowKit

theorem write_nil (w : World) (no : Int) (A : Option Addr) (m c : Nat) : Calls Tryd.prog 35 #[.pointer none, .int .i64 no, .slice A m c] w fun e w' => e = .returned (.int .i64 9) ∧ w = w' := by
  go_enter Tryd.func35, Tryd.ntmps35
  go_wp2_with (go_at_call 12; refine (on_nil _).mono ?_; rintro e w' ⟨rfl, rfl⟩)
  go_ret
  exact ⟨rfl, rfl⟩

theorem write_off (w : World) (D : Nat) (no : Int) (A : Option Addr) (m c : Nat) (h0 : w.cell? ⟨D, 0, none⟩ = some (.bool false)) :
    Calls Tryd.prog 35 #[.pointer (some ⟨D, 0, none⟩), .int .i64 no, .slice A m c] w fun e w' => e = .returned (.int .i64 9) ∧ w = w' := by
  go_enter Tryd.func35, Tryd.ntmps35
  go_wp2_with (go_at_call 12; refine (on_any _ D _ h0).mono ?_; rintro e w' ⟨rfl, rfl⟩)
  go_ret
  exact ⟨rfl, rfl⟩

theorem write_arg (w : World) (D L n lc : Nat) (no : Int) (A : Option Addr) (m c : Nat) (hn : n ≤ 4096) (h0 : w.cell? ⟨D, 0, none⟩ = some (.bool true)) (h3 : w.cell? ⟨D, 3, none⟩ = some (.slice (some ⟨L, 0, none⟩) (64 * n) lc))
    (hbad : ¬ (0 ≤ no ∧ no < n ∧ m = 64)) :
    Calls Tryd.prog 35 #[.pointer (some ⟨D, 0, none⟩), .int .i64 no, .slice A m c] w fun e w' => e = .returned (.int .i64 1) ∧ w = w' := by
  by_cases h : 0 ≤ no ∧ no < n
  · have hm : ((m : Int) != 64) = true := by
      rw [bne_iff_ne]; intro e; exact hbad ⟨h.1, h.2, by omega⟩
    have hd : decide (0 ≤ no ∧ no < n) = true := decide_eq_true h
    clear hbad h
    go_enter Tryd.func35, Tryd.ntmps35
    go_wp2_with (first | (go_at_call 12; refine (on_any _ D _ h0).mono ?_; rintro e w' ⟨rfl, rfl⟩) | (go_at_call 26; refine (has_any _ D L n lc no hn h3).mono ?_; rw [hd]; rintro e w' ⟨rfl, rfl⟩))
    go_ret
    exact ⟨rfl, rfl⟩
  · have hd : decide (0 ≤ no ∧ no < n) = false := decide_eq_false h
    clear hbad h
    go_enter Tryd.func35, Tryd.ntmps35
    go_wp2_with (first | (go_at_call 12; refine (on_any _ D _ h0).mono ?_; rintro e w' ⟨rfl, rfl⟩) | (go_at_call 26; refine (has_any _ D L n lc no hn h3).mono ?_; rw [hd]; rintro e w' ⟨rfl, rfl⟩))
    go_ret
    exact ⟨rfl, rfl⟩

theorem write_none (w : World) (D L : Nat) (n lc : Nat) (wv : Value) (wr fl : Int) (no : Int) (A : Option Addr) (c : Nat) (hd : Blk w D 70 (dk true true 0 L n lc wv wr fl)) (hn : n ≤ 4096) (h1 : 0 ≤ no) (h2 : no < n) :
    Calls Tryd.prog 35 #[.pointer (some ⟨D, 0, none⟩), .int .i64 no, .slice A 64 c] w fun e w' => e = .returned (.int .i64 9) ∧
      Blk w' D 70 (dk false true 0 L n lc wv wr fl) ∧ Only [D] w w' := by
  have hdc : decide (0 ≤ no ∧ no < n) = true := decide_eq_true ⟨h1, h2⟩
  obtain ⟨c0, c1, c2, c3, c4, c5, c6⟩ := dk_cells hd
  have HD := Lib.hid hd
  clear hd h1 h2
  go_enter Tryd.func35, Tryd.ntmps35
  go_wp2_with (first | (go_at_call 12; refine (on_any _ D _ c0).mono ?_; rintro e w' ⟨rfl, rfl⟩) | (go_at_call 26; refine (has_any _ D L n lc no hn c3).mono ?_; rw [hdc]; rintro e w' ⟨rfl, rfl⟩))
  refine (spend_no w D true L n lc wv wr fl HD.out).mono ?_
  rintro e w1 ⟨rfl, hd1, ho1⟩
  have H := Lib.hid (And.intro hd1 ho1)
  clear hd1 ho1
  go_wp2_with fail
  go_ret
  exact ⟨rfl, H.out.1, H.out.2⟩

attribute [local go_sem ↓] exec_load64 exec_build_waiting exec_slice_waiting
attribute [local go_sem] run_arrayAt64 read64_drew all64_drew all64V_ptr read64V_ptr isWait_U is65_U noOf_int bytesIn_agg

theorem W_snoc (ws : List (Int × List Int)) (no : Int) (bs : List Int) : W ws ++ (.int .i64 no :: U bs) = W (ws ++ [(no, bs)]) := by simp [W]
theorem one_cells (no : Int) (bs : List Int) : ∀ u ∈ (.int .i64 no :: U bs : List Value), u.oneCell' = true := by
  intro u hu
  rcases List.mem_cons.1 hu with rfl | hu
  · rfl
  · exact U_oneCell bs u hu

theorem block_of_add' (a : Addr) (n : Nat) : (a.add n).block = a.block := by unfold Addr.add; split <;> rfl
theorem len65 (no : Int) {bs : List Int} (h : (U bs).length = 64) : (.int .i64 no :: U bs : List Value).length = 1 * 65 := by rw [List.length_cons, h]
theorem new_cells (w : World) (cs : List Value) (t : TypeId) : ∀ j u, cs[j]? = some u → (w.alloc (.cells cs.toArray t)).cell? ((⟨w.heap.size, 0, none⟩ : Addr).add j) = some u := by
  intro j u hu
  have hadd : (⟨w.heap.size, 0, none⟩ : Addr).add j = ⟨w.heap.size, j, none⟩ := by unfold Addr.add; split <;> simp_all
  rw [hadd, (Blk.new w t cs).cell j, hu]

/-- What the last lines of Write leave: the disk again. -/
theorem write_end (B : Nat) (w w1 w2 : World) (D L : Nat) (wv : Value) (s : St) (no : Int) (bs : List Int) (g cap : Nat) (X : Obj) (left' : Int)
    (hlaid : Blk w L 5 (U s.laid ++ s.tl)) (hown : w.ownsRow B 75 65 wv s.waits.length (W s.waits)) (hdisk : Blk w D 70 (dk true s.armed s.left L s.n s.lc wv s.wr s.fl)) (hbD : B ≤ D) (hbL : B ≤ L) (hg : Good s)
    (hon : s.on = true) (h1 : 0 ≤ no) (h2 : no < s.n) (hb : bs.length = 64) (hcap : s.waits.length < 1000000) (hwr : s.wr < 1000000) (hl0 : 0 ≤ left') (hl1 : left' ≤ 9223372036854775807)
    (ho1 : Only [D] w w1) (hd2 : Blk w2 D 70 (dk true s.armed left' L s.n s.lc wv s.wr s.fl))
    (hgrow : (w1.alloc X).drew.grownBy w2 wv.ownBlock) (hown2 : w2.ownsRow B 75 65 (.slice (some ⟨g, 0, none⟩) (s.waits.length + 1) cap) (s.waits.length + 1) (W s.waits ++ (.int .i64 no :: U bs))) :
    IsDisk B ((w2.setCell ⟨D, 4, none⟩ (.slice (some ⟨g, 0, none⟩) (s.waits.length + 1) cap)).setCell ⟨D, 5, none⟩ (.int .i64 (s.wr + 1))) D L (.slice (some ⟨g, 0, none⟩) (s.waits.length + 1) cap)
      { s with left := left', waits := s.waits ++ [(no, bs)], wr := s.wr + 1 } ∧
    Only (D :: wv.ownBlock.toList) w ((w2.setCell ⟨D, 4, none⟩ (.slice (some ⟨g, 0, none⟩) (s.waits.length + 1) cap)).setCell ⟨D, 5, none⟩ (.int .i64 (s.wr + 1))) := by
  have hDL : L ≠ D := hlaid.ne_ hdisk (by decide)
  have hwL : some L ≠ wv.ownBlock := (own_blk_ne hown hlaid (by decide)).symm
  have hgD : g ≠ D := by
    have := own_blk_ne hown2 hd2 (by decide)
    simpa [Value.ownBlock] using this
  have hO : Only (D :: wv.ownBlock.toList) w w2 := by
    refine Only.grown (((ho1.mono (T := D :: wv.ownBlock.toList) (fun k hk _ => by simp at hk; simp [hk])).alloc X).drew) hgrow fun k hk => ?_
    exact .inl (by simp [hk])
  refine ⟨⟨?_, ?_, ?_, hbD, hbL, ?_⟩, ?_⟩
  · have := (hd2.set_ 4 (.slice (some ⟨g, 0, none⟩) (s.waits.length + 1) cap)).set_ 5 (.int .i64 (s.wr + 1))
    rw [hon]
    exact this
  · refine ((hlaid.only hO ?_).far (p := ⟨D, 4, none⟩) hDL _).far (p := ⟨D, 5, none⟩) hDL _
    simp only [List.mem_cons, Option.mem_toList, not_or]
    exact ⟨hDL, fun h => hwL h.symm⟩
  · have hO2 : Only [D] w2 ((w2.setCell ⟨D, 4, none⟩ (.slice (some ⟨g, 0, none⟩) (s.waits.length + 1) cap)).setCell ⟨D, 5, none⟩ (.int .i64 (s.wr + 1))) :=
      ((Only.refl _ _).setCell (.inl (by simp)) _).setCell (.inl (by simp)) _
    have := ownsRow_only hown2 hO2 (fun k hk => by
      simp [Value.ownBlock] at hk
      subst hk
      simpa using hgD)
    rw [W_snoc] at this
    simpa using this
  · refine ⟨hg.size, hg.n1, hg.n2, ?_, hl0, hl1, by simp; omega, by have := hg.wr0; show 0 ≤ s.wr + 1; omega, by show s.wr + 1 ≤ 1000000; omega, hg.fl0, hg.fl1, hg.lc0⟩
    intro p hp
    rcases List.mem_append.1 hp with hp | hp
    · exact hg.sec p hp
    · simp only [List.mem_singleton] at hp
      subst hp
      exact ⟨h1, h2, hb⟩
  · exact (hO.setCell (.inl (by simp)) _).setCell (.inl (by simp)) _

set_option maxRecDepth 100000 in
set_option maxHeartbeats 1000000 in
theorem write_ok (B : Nat) (w : World) (D L : Nat) (wv : Value) (s : St) (no : Int) (bs : List Int) (ad : Addr) (c : Nat) (hd : IsDisk B w D L wv s) (hB : B ≤ w.heap.size) (hon : s.on = true) (h1 : 0 ≤ no) (h2 : no < s.n) (hb : bs.length = 64)
    (hbs : ∀ j u, (U bs)[j]? = some u → w.cell? (ad.add j) = some u) (hne : ad.block ≠ D) (hs : ¬ (s.armed = true ∧ s.left = 0)) (hcap : s.waits.length < 1000000) (hwr : s.wr < 1000000) :
    Calls Tryd.prog 35 #[.pointer (some ⟨D, 0, none⟩), .int .i64 no, .slice (some ad) 64 c] w fun e w' => e = .returned (.int .i64 0) ∧
      DiskPost B D L (D :: wv.ownBlock.toList) w { s with left := nextLeft s.armed s.left, waits := s.waits ++ [(no, bs)], wr := s.wr + 1 } w' := by
  obtain ⟨hdisk, hlaid, hown, hbD, hbL, hg⟩ := hd
  have hn := hg.n2
  have hw0 := hg.wr0
  have hdc : decide (0 ≤ no ∧ no < s.n) = true := decide_eq_true ⟨h1, h2⟩
  rw [hon] at hdisk
  obtain ⟨c0, c1, c2, c3, c4, c5, c6⟩ := dk_cells hdisk
  have HS := Lib.hid hs
  have HG := Lib.hid hg
  have HL := Lib.hid hlaid
  have HO := Lib.hid hown
  have HD := Lib.hid hdisk
  have HB := Lib.hid hbs
  have HON := Lib.hid hon
  have H12 := Lib.hid (And.intro h1 h2)
  have hU : (U bs).length = 64 := by rw [U_length, hb]
  clear hs hg hlaid hown hdisk h1 h2 hbs hon
  go_enter Tryd.func35, Tryd.ntmps35
  go_wp2_with (first | (go_at_call 12; refine (on_any _ D _ c0).mono ?_; rintro e w' ⟨rfl, rfl⟩) | (go_at_call 26; refine (has_any _ D L s.n s.lc no hn c3).mono ?_; rw [hdc]; rintro e w' ⟨rfl, rfl⟩))
  refine (spend_ok w D true s.armed s.left L s.n s.lc wv s.wr s.fl HD.out HS.out HG.out.left0 HG.out.left1).mono ?_
  rintro e w1 ⟨rfl, hd1, ho1⟩
  clear c0 c1 c2 c3 c4 c5 c6
  obtain ⟨c0, c1, c2, c3, c4, c5, c6⟩ := dk_cells hd1
  have hr := read64_of hU (W := w1) (a := ad) (fun j u hu => by
    rw [World.cell?_of_block (w := w) (ho1.block _ ?_ ?_)]
    · exact HB.out j u hu
    · have := World.block_lt_of_cell? w _ (HB.out j u hu); exact this
    · rw [block_of_add']; simpa using hne)
  obtain ⟨hr1, hr2⟩ := hr
  have hown1 : w1.ownsRow B 75 65 wv s.waits.length (W s.waits) := ownsRow_only HO.out ho1 (fun k hk => by
    have := own_blk_ne HO.out HD.out (by decide)
    rw [hk] at this
    simpa using this)
  have HO1 := Lib.hid hown1
  have Hd1 := Lib.hid hd1
  have Ho1 := Lib.hid ho1
  have hv : wv.ownBlock ≠ some D := own_blk_ne hown1 hd1 (by decide)
  have Hv := Lib.hid hv
  have hsz := ho1.size
  clear hown1 hd1 ho1 hv hdc hne
  obtain ⟨i0, hi, hz0, hz1, hz2⟩ := info_parts winfo
  have HI := Lib.hid hi
  have HZ0 := Lib.hid hz0
  have HZ1 := Lib.hid hz1
  have HZ2 := Lib.hid hz2
  have HU := Lib.hid hU
  have hb' : (bs.length == 64) = true := by rw [hb]; rfl
  have HB64 := Lib.hid hb
  clear hi hz0 hz1 hz2 hU hb
  have ca4 := (Blk.alloc Hd1.out (.cells (.int .i64 no :: U bs).toArray 75)).cell 4
  rw [show (dk true s.armed (nextLeft s.armed s.left) L s.n s.lc wv s.wr s.fl)[4]? = some wv from rfl] at ca4
  go_wp2_with fail
  go_region_law (refine step_append_lies _ rfl (.tmp 28) (.tmp 34) 65 rfl B 75 i0 _ 65 72 (by kernel_rfl) HI.out HZ0.out HZ1.out HZ2.out rfl (by decide) wv s.waits.length (W s.waits) rfl (HO1.out.alloc _) ⟨w1.heap.size, 0, none⟩ 1 1 (.int .i64 no :: U bs) rfl (len65 no HU.out) (new_cells w1 _ _) (one_cells no bs) (by decide) (by unfold maxLen; omega) (by omega) (by simp; omega) (w1.heap.size + 1) (by simp) ?_; intro g cap w2 hown2 hgrow hwhere hlt; have hd2 : Blk w2 D 70 (dk true s.armed (nextLeft s.armed s.left) L s.n s.lc wv s.wr s.fl) := Blk.grown (Blk.drew (Blk.alloc Hd1.out (.cells (.int .i64 no :: U bs).toArray 75))) hgrow (Ne.symm Hv.out); have Hd2 := Lib.hid hd2; have c4' := (dk_cells hd2).2.2.2.2.1; have f4' := hd2.frozen 4; have Hown2 := Lib.hid hown2; have Hgrow := Lib.hid hgrow; have Hwhere := Lib.hid hwhere; clear hown2 hgrow hwhere hd2)
  all_goals
    have H3 : Blk (w2.setCell ⟨D, 4, none⟩ (.slice (some ⟨g, 0, none⟩) (s.waits.length + 1) cap)) D 70 (dk true s.armed (nextLeft s.armed s.left) L s.n s.lc (.slice (some ⟨g, 0, none⟩) (s.waits.length + 1) cap) s.wr s.fl) := Hd2.out.set_ 4 _
    have c5'' := (dk_cells H3).2.2.2.2.2.1
    have f5'' := H3.frozen 5
    have HH3 := Lib.hid H3
    clear H3 c4' f4' c0 c1 c2 c3 c4 c5 c6 hr1 hr2 ca4
    go_wp2_with (go_at_call 51; refine (atom_add _ ⟨D, 5, none⟩ s.wr hw0 (by omega) c5'' f5'').mono ?_; rintro e w' ⟨rfl, rfl⟩)
    go_ret
    exact ⟨rfl, _, write_end B w w1 w2 D L wv s no bs g cap _ _ HL.out HO.out HD.out hbD hbL HG.out HON.out H12.out.1 H12.out.2 HB64.out hcap hwr (left_ok HG.out HS.out).1 (left_ok HG.out HS.out).2 Ho1.out Hd2.out Hgrow.out Hown2.out⟩

/-- Write, in whatever state. -/
theorem write_any (B : Nat) (w : World) (D L : Nat) (wv : Value) (s : St) (no : Int) (bs : List Int) (A : Option Addr) (m c : Nat) (hd : IsDisk B w D L wv s) (hB : B ≤ w.heap.size) (hm : bs.length = m)
    (hbs : m = 64 → ∃ ad, A = some ad ∧ ad.block ≠ D ∧ ∀ j u, (U bs)[j]? = some u → w.cell? (ad.add j) = some u) (hcap : s.waits.length < 1000000) (hwr : s.wr < 1000000) :
    Calls Tryd.prog 35 #[.pointer (some ⟨D, 0, none⟩), .int .i64 no, .slice A m c] w fun e w' => e = .returned (.int .i64 (s.write no bs).1) ∧
      DiskPost B D L (D :: wv.ownBlock.toList) w (s.write no bs).2 w' := by
  obtain ⟨c0, c1, c2, c3, c4, c5, c6⟩ := dk_cells hd.disk
  unfold St.write
  by_cases hon : s.on = false
  · rw [if_pos hon]
    rw [hon] at c0
    exact (write_off w D no A m c c0).mono fun e w' ⟨he, hw⟩ => ⟨he, by subst hw; exact ⟨wv, hd, Only.refl _ _⟩⟩
  rw [if_neg hon]
  have hon' : s.on = true := by cases h : s.on <;> simp_all
  by_cases hbad : 0 ≤ no ∧ no < s.n ∧ bs.length = 64
  · rw [if_neg (fun h => h hbad)]
    obtain ⟨h1, h2, h64⟩ := hbad
    have hm64 : m = 64 := by omega
    subst hm64
    obtain ⟨ad, rfl, hne, hc⟩ := hbs rfl
    by_cases hs : s.armed = true ∧ s.left = 0
    · rw [if_pos hs]
      have hdisk := hd.disk
      rw [hon', hs.1, hs.2] at hdisk
      refine (write_none w D L s.n s.lc wv s.wr s.fl no _ c hdisk hd.good.n2 h1 h2).mono fun e w' ⟨he, hb, ho⟩ => ⟨he, wv, ⟨?_, ?_, ?_, hd.baseD, hd.baseL, ?_⟩, ho.mono (by intro k hk _; simp at hk; simp [hk])⟩
      · show Blk w' D _ (dk false s.armed s.left L s.n s.lc wv s.wr s.fl)
        rw [hs.1, hs.2]; exact hb
      · exact hd.laid.only ho (by simpa using hd.laid.ne_ hd.disk (by decide))
      · refine ownsRow_only hd.own ho fun k hk => ?_
        have := own_blk_ne hd.own hd.disk (by decide)
        rw [hk] at this
        simpa using this
      · obtain ⟨g1, g2, g3, g4, g5, g6, g7, g8, g9, g10, g11, g12⟩ := hd.good
        exact ⟨g1, g2, g3, g4, g5, g6, g7, g8, g9, g10, g11, g12⟩
    · rw [if_neg hs]
      exact write_ok B w D L wv s no bs ad c hd hB hon' h1 h2 h64 hc hne hs hcap hwr
  · rw [if_pos hbad]
    rw [hon'] at c0
    exact (write_arg w D L s.n s.lc no A m c hd.good.n2 c0 c3 (fun h => hbad ⟨h.1, h.2.1, by omega⟩)).mono fun e w' ⟨he, hw⟩ => ⟨he, by subst hw; exact ⟨wv, hd, Only.refl _ _⟩⟩

end Go.Proofs.YtfkdpndcoegfpaaDoor
end

/-
  A sector's laid bytes as a slice; the laying of a waiting write. Conditions: the disk's block and its laid bytes are known; the sector is there.
-/

section
set_option maxRecDepth 100000
set_option linter.unusedSimpArgs false
set_option linter.unusedVariables false
namespace Go.Proofs.YtfkdpndcoegfpaaDoor
open Go.RowKit

theorem ret_slice {A : Option Addr} {n n' c c' : Nat} (h : n = n') (h2 : c = c') : Ending.returned (.slice A n c) = .returned (.slice A n' c') := by rw [h, h2]

theorem sector_any (w : World) (D L n lc k : Nat) (hlc : 64 * n ≤ lc) (hn : n ≤ 4096) (hk : k < n) (h3 : w.cell? ⟨D, 3, none⟩ = some (.slice (some ⟨L, 0, none⟩) (64 * n) lc)) :
    Calls Tryd.prog 27 #[.pointer (some ⟨D, 0, none⟩), .int .i64 k] w fun e w' => e = .returned (.slice (some ⟨L, k * 64, none⟩) 64 (lc - k * 64)) ∧ w = w' := by
  go_enter Tryd.func27, Tryd.ntmps27
  go_wp2
  go_ret
  exact ⟨ret_slice (by omega) rfl, rfl⟩

set_option maxRecDepth 100000 in
theorem lay_any (w : World) (D L G o n lc k : Nat) (laid bs : List Int) (tl : List Value) (hlc : 64 * n ≤ lc) (hn : n ≤ 4096) (hk : k < n) (h3 : w.cell? ⟨D, 3, none⟩ = some (.slice (some ⟨L, 0, none⟩) (64 * n) lc))
    (hL : Blk w L 5 (U laid ++ tl)) (hl : laid.length = 64 * n) (hb : bs.length = 64) (hno : w.cell? ⟨G, o, none⟩ = some (.int .i64 k)) (hbs : ∀ j x, bs[j]? = some x → w.cell? ⟨G, o + 1 + j, none⟩ = some (.int .u8 x)) :
    Calls Tryd.prog 52 #[.pointer (some ⟨D, 0, none⟩), .pointer (some ⟨G, o, none⟩)] w fun e w' => e = .returned (.tuple #[]) ∧ Blk w' L 5 (U (putS laid k bs) ++ tl) ∧ Only [L] w w' := by
  have Hl := Lib.hid hl
  have Hb := Lib.hid hb
  have HL := Lib.hid hL
  have Hbs := Lib.hid hbs
  clear hl hb hL hbs
  go_enter Tryd.func52, Tryd.ntmps52
  go_wp2_with fail
  refine wp_region_still_tail 10 (by kernel_rfl) (by kernel_rfl) ?_

  simp only [List.take_succ_cons, List.take_zero, List.drop_succ_cons, List.drop_zero]
  still_step
  still_step
  still_step
  still_step
  still_step

  still_call ((sector_any w.drew D L n lc k hlc hn hk h3).mono fun _ _ ⟨he, hw⟩ => ⟨he, hw.symm⟩)
  repeat still_step
  try refine wpStill_nil ?_
  change wpList _ _ _ _ _ w.drew
  refine wpList_copy_own rfl _ _ 23 23 rfl 5 (by kernel_rfl) (by kernel_rfl) L (k * 64) 64 _ ⟨G, o + 1, none⟩ 64 64 rfl rfl _ 5 HL.out.drew (U bs) ?c1 ?c2 ?c3 (U_oneCell bs) ?_
  case c1 => rw [U_length, Hb.out]; rfl
  case c2 =>
    intro j v hv
    rw [U_get] at hv
    cases hx : bs[j]? with
    | none => rw [hx] at hv; simp at hv
    | some x =>
      rw [hx] at hv
      simp at hv
      subst hv
      have := Hbs.out j x hx
      simpa [Addr.add_lit] using this
  case c3 => simp only [U_length, List.size_toArray, List.length_append, Hb.out, Hl.out]; omega
  have E : (((U laid ++ tl).toArray).toList.take (k * 64) ++ (U bs ++ ((U laid ++ tl).toArray).toList.drop (k * 64 + (U bs).length))) = U (putS laid k bs) ++ tl := by
    have hul : (U laid).length = 64 * n := by rw [U_length, Hl.out]
    show (U laid ++ tl).take (k * 64) ++ (U bs ++ (U laid ++ tl).drop (k * 64 + (U bs).length)) = _
    rw [List.take_append_of_le_length (by omega), List.drop_append_of_le_length (by rw [U_length, Hb.out]; omega)]
    simp only [U_length, Hb.out, putS, U_append, ← U_take, ← U_drop, Nat.mul_comm k 64, List.append_assoc]
  rw [E]
  generalize hw' : w.drew.setRow L (U (putS laid k bs) ++ tl).toArray = w'
  have hB : Blk w' L 5 (U (putS laid k bs) ++ tl) := by rw [← hw']; exact setRow_heap _ _ _ _ _ _ HL.out.drew
  have hO : Only [L] w w' := by rw [← hw']; exact ((Only.refl _ w).drew).setRow (.inl (by simp)) _
  have H := Lib.hid (And.intro hB hO)
  clear hB hO hw' E
  go_wp2
  go_end0
  exact ⟨rfl, H.out.1, H.out.2⟩

end Go.Proofs.YtfkdpndcoegfpaaDoor
end

/-
  Of and Hex. Conditions: the texts are known; the constants lie in their variable; at most 2^49 bytes in all.
-/

section
set_option maxRecDepth 100000
set_option linter.unusedSimpArgs false
set_option linter.unusedVariables false
namespace Go.Proofs.YtfkdpndcoegfpaaDoor
open Go.RowKit

theorem Txt.at {w : World} {p q : Nat} {A : Option Addr} {n c : Nat} {bs : List B8} (h : Txt w p A n c bs) (hq : w.heap.size ≤ q) : Txt w q A n c bs := by
  refine ⟨h.len, h.cap, h.capm, fun hn => ?_⟩
  obtain ⟨g, o, hA, hg, hc⟩ := h.cells hn
  have : g < w.heap.size := World.block_lt_of_cell? w _ (hc 0 hn)
  exact ⟨g, o, hA, by omega, hc⟩
theorem Txts.at {w : World} {p q : Nat} {L : Option Addr} {n : Nat} {xs : List (List B8)} (h : Txts w p L n xs) (hq : w.heap.size ≤ q) : Txts w q L n xs := by
  refine ⟨h.len, fun hn => ?_⟩
  obtain ⟨g, o, hL, hg, hc⟩ := h.cells hn
  obtain ⟨A, k, c, h0, ht⟩ := hc 0 (xs[0]'(by have := h.len; omega)) (List.getElem?_eq_getElem _)
  have : g < w.heap.size := World.block_lt_of_cell? w _ h0
  exact ⟨g, o, hL, by omega, fun i x hx => by
    obtain ⟨A, k, c, h0, ht⟩ := hc i x hx
    exact ⟨A, k, c, h0, ht.at hq⟩⟩

/-- Bytes as a string. -/
def strOf (l : List B8) : Value := .string ⟨(l.map UInt8.ofBitVec).toArray⟩

theorem agg_index (d : List B8) (hd : d.length = 32) (k : Nat) (hk : k < 32) (W : World) : (Instr.index 80 (.agg (Vb d).toArray) (.int .i64 k)).run Tryd.prog W = .ok (.int .u8 (nb (d.getD k 0))) W := by
  have hs : (sizeOf 5).run Tryd.prog W = .ok 1 W := by kernel_rfl
  obtain ⟨x, hx⟩ : ∃ x, d[k]? = some x := ⟨_, List.getElem?_eq_getElem (by omega)⟩
  have hv : (Vb d)[k]? = some (.int .u8 (nb x)) := by rw [Vb_get, hx]; rfl
  rw [List.getD_eq_getElem?_getD, hx]
  simp [Instr.index, asIntOf, run_underlying Tryd.underlying80, Go.part, hs, hv, hk]

theorem sign_index (i : Nat) (hi : i < 16) (W : World) : (Instr.index 9 (.string ⟨#[48, 49, 50, 51, 52, 53, 54, 55, 56, 57, 97, 98, 99, 100, 101, 102]⟩) (.int .u8 i)).run Tryd.prog W = .ok (.int .u8 (nb (sign i))) W := by
  match i, hi with
  | 0, _ =>
    have h : (Instr.index 9 (.string ⟨#[48, 49, 50, 51, 52, 53, 54, 55, 56, 57, 97, 98, 99, 100, 101, 102]⟩) (.int .u8 ((0 : Nat) : Int))).run Tryd.prog W = .ok (.int .u8 (nb (sign 0))) W := by kernel_rfl
    exact h
  | 1, _ =>
    have h : (Instr.index 9 (.string ⟨#[48, 49, 50, 51, 52, 53, 54, 55, 56, 57, 97, 98, 99, 100, 101, 102]⟩) (.int .u8 ((1 : Nat) : Int))).run Tryd.prog W = .ok (.int .u8 (nb (sign 1))) W := by kernel_rfl
    exact h
  | 2, _ =>
    have h : (Instr.index 9 (.string ⟨#[48, 49, 50, 51, 52, 53, 54, 55, 56, 57, 97, 98, 99, 100, 101, 102]⟩) (.int .u8 ((2 : Nat) : Int))).run Tryd.prog W = .ok (.int .u8 (nb (sign 2))) W := by kernel_rfl
    exact h
  | 3, _ =>
    have h : (Instr.index 9 (.string ⟨#[48, 49, 50, 51, 52, 53, 54, 55, 56, 57, 97, 98, 99, 100, 101, 102]⟩) (.int .u8 ((3 : Nat) : Int))).run Tryd.prog W = .ok (.int .u8 (nb (sign 3))) W := by kernel_rfl
    exact h
  | 4, _ =>
    have h : (Instr.index 9 (.string ⟨#[48, 49, 50, 51, 52, 53, 54, 55, 56, 57, 97, 98, 99, 100, 101, 102]⟩) (.int .u8 ((4 : Nat) : Int))).run Tryd.prog W = .ok (.int .u8 (nb (sign 4))) W := by kernel_rfl
    exact h
  | 5, _ =>
    have h : (Instr.index 9 (.string ⟨#[48, 49, 50, 51, 52, 53, 54, 55, 56, 57, 97, 98, 99, 100, 101, 102]⟩) (.int .u8 ((5 : Nat) : Int))).run Tryd.prog W = .ok (.int .u8 (nb (sign 5))) W := by kernel_rfl
    exact h
  | 6, _ =>
    have h : (Instr.index 9 (.string ⟨#[48, 49, 50, 51, 52, 53, 54, 55, 56, 57, 97, 98, 99, 100, 101, 102]⟩) (.int .u8 ((6 : Nat) : Int))).run Tryd.prog W = .ok (.int .u8 (nb (sign 6))) W := by kernel_rfl
    exact h
  | 7, _ =>
    have h : (Instr.index 9 (.string ⟨#[48, 49, 50, 51, 52, 53, 54, 55, 56, 57, 97, 98, 99, 100, 101, 102]⟩) (.int .u8 ((7 : Nat) : Int))).run Tryd.prog W = .ok (.int .u8 (nb (sign 7))) W := by kernel_rfl
    exact h
  | 8, _ =>
    have h : (Instr.index 9 (.string ⟨#[48, 49, 50, 51, 52, 53, 54, 55, 56, 57, 97, 98, 99, 100, 101, 102]⟩) (.int .u8 ((8 : Nat) : Int))).run Tryd.prog W = .ok (.int .u8 (nb (sign 8))) W := by kernel_rfl
    exact h
  | 9, _ =>
    have h : (Instr.index 9 (.string ⟨#[48, 49, 50, 51, 52, 53, 54, 55, 56, 57, 97, 98, 99, 100, 101, 102]⟩) (.int .u8 ((9 : Nat) : Int))).run Tryd.prog W = .ok (.int .u8 (nb (sign 9))) W := by kernel_rfl
    exact h
  | 10, _ =>
    have h : (Instr.index 9 (.string ⟨#[48, 49, 50, 51, 52, 53, 54, 55, 56, 57, 97, 98, 99, 100, 101, 102]⟩) (.int .u8 ((10 : Nat) : Int))).run Tryd.prog W = .ok (.int .u8 (nb (sign 10))) W := by kernel_rfl
    exact h
  | 11, _ =>
    have h : (Instr.index 9 (.string ⟨#[48, 49, 50, 51, 52, 53, 54, 55, 56, 57, 97, 98, 99, 100, 101, 102]⟩) (.int .u8 ((11 : Nat) : Int))).run Tryd.prog W = .ok (.int .u8 (nb (sign 11))) W := by kernel_rfl
    exact h
  | 12, _ =>
    have h : (Instr.index 9 (.string ⟨#[48, 49, 50, 51, 52, 53, 54, 55, 56, 57, 97, 98, 99, 100, 101, 102]⟩) (.int .u8 ((12 : Nat) : Int))).run Tryd.prog W = .ok (.int .u8 (nb (sign 12))) W := by kernel_rfl
    exact h
  | 13, _ =>
    have h : (Instr.index 9 (.string ⟨#[48, 49, 50, 51, 52, 53, 54, 55, 56, 57, 97, 98, 99, 100, 101, 102]⟩) (.int .u8 ((13 : Nat) : Int))).run Tryd.prog W = .ok (.int .u8 (nb (sign 13))) W := by kernel_rfl
    exact h
  | 14, _ =>
    have h : (Instr.index 9 (.string ⟨#[48, 49, 50, 51, 52, 53, 54, 55, 56, 57, 97, 98, 99, 100, 101, 102]⟩) (.int .u8 ((14 : Nat) : Int))).run Tryd.prog W = .ok (.int .u8 (nb (sign 14))) W := by kernel_rfl
    exact h
  | 15, _ =>
    have h : (Instr.index 9 (.string ⟨#[48, 49, 50, 51, 52, 53, 54, 55, 56, 57, 97, 98, 99, 100, 101, 102]⟩) (.int .u8 ((15 : Nat) : Int))).run Tryd.prog W = .ok (.int .u8 (nb (sign 15))) W := by kernel_rfl
    exact h
  | k + 16, h => exact absurd h (by omega)

theorem and15 (x : B8) : bits .and .u8 (nb x) 15 = ((x.toNat % 16 : Nat) : Int) := by
  have h : ∀ y : B8, bits .and .u8 (nb y) 15 = ((y.toNat % 16 : Nat) : Int) := by decide +kernel
  exact h x
theorem div16 (x : B8) : nb x / 16 = ((x.toNat / 16 : Nat) : Int) := by
  unfold nb
  omega

theorem sign_nat (i : Nat) (hi : i < 16) (h : i < (⟨#[48, 49, 50, 51, 52, 53, 54, 55, 56, 57, 97, 98, 99, 100, 101, 102]⟩ : ByteArray).size) : (((⟨#[48, 49, 50, 51, 52, 53, 54, 55, 56, 57, 97, 98, 99, 100, 101, 102]⟩ : ByteArray)[i]'h).toNat : Int) = nb (sign i) := by
  match i, hi, h with
  | 0, _, h =>
    have e : (((⟨#[48, 49, 50, 51, 52, 53, 54, 55, 56, 57, 97, 98, 99, 100, 101, 102]⟩ : ByteArray)[0]'h).toNat : Int) = nb (sign 0) := by kernel_rfl
    exact e
  | 1, _, h =>
    have e : (((⟨#[48, 49, 50, 51, 52, 53, 54, 55, 56, 57, 97, 98, 99, 100, 101, 102]⟩ : ByteArray)[1]'h).toNat : Int) = nb (sign 1) := by kernel_rfl
    exact e
  | 2, _, h =>
    have e : (((⟨#[48, 49, 50, 51, 52, 53, 54, 55, 56, 57, 97, 98, 99, 100, 101, 102]⟩ : ByteArray)[2]'h).toNat : Int) = nb (sign 2) := by kernel_rfl
    exact e
  | 3, _, h =>
    have e : (((⟨#[48, 49, 50, 51, 52, 53, 54, 55, 56, 57, 97, 98, 99, 100, 101, 102]⟩ : ByteArray)[3]'h).toNat : Int) = nb (sign 3) := by kernel_rfl
    exact e
  | 4, _, h =>
    have e : (((⟨#[48, 49, 50, 51, 52, 53, 54, 55, 56, 57, 97, 98, 99, 100, 101, 102]⟩ : ByteArray)[4]'h).toNat : Int) = nb (sign 4) := by kernel_rfl
    exact e
  | 5, _, h =>
    have e : (((⟨#[48, 49, 50, 51, 52, 53, 54, 55, 56, 57, 97, 98, 99, 100, 101, 102]⟩ : ByteArray)[5]'h).toNat : Int) = nb (sign 5) := by kernel_rfl
    exact e
  | 6, _, h =>
    have e : (((⟨#[48, 49, 50, 51, 52, 53, 54, 55, 56, 57, 97, 98, 99, 100, 101, 102]⟩ : ByteArray)[6]'h).toNat : Int) = nb (sign 6) := by kernel_rfl
    exact e
  | 7, _, h =>
    have e : (((⟨#[48, 49, 50, 51, 52, 53, 54, 55, 56, 57, 97, 98, 99, 100, 101, 102]⟩ : ByteArray)[7]'h).toNat : Int) = nb (sign 7) := by kernel_rfl
    exact e
  | 8, _, h =>
    have e : (((⟨#[48, 49, 50, 51, 52, 53, 54, 55, 56, 57, 97, 98, 99, 100, 101, 102]⟩ : ByteArray)[8]'h).toNat : Int) = nb (sign 8) := by kernel_rfl
    exact e
  | 9, _, h =>
    have e : (((⟨#[48, 49, 50, 51, 52, 53, 54, 55, 56, 57, 97, 98, 99, 100, 101, 102]⟩ : ByteArray)[9]'h).toNat : Int) = nb (sign 9) := by kernel_rfl
    exact e
  | 10, _, h =>
    have e : (((⟨#[48, 49, 50, 51, 52, 53, 54, 55, 56, 57, 97, 98, 99, 100, 101, 102]⟩ : ByteArray)[10]'h).toNat : Int) = nb (sign 10) := by kernel_rfl
    exact e
  | 11, _, h =>
    have e : (((⟨#[48, 49, 50, 51, 52, 53, 54, 55, 56, 57, 97, 98, 99, 100, 101, 102]⟩ : ByteArray)[11]'h).toNat : Int) = nb (sign 11) := by kernel_rfl
    exact e
  | 12, _, h =>
    have e : (((⟨#[48, 49, 50, 51, 52, 53, 54, 55, 56, 57, 97, 98, 99, 100, 101, 102]⟩ : ByteArray)[12]'h).toNat : Int) = nb (sign 12) := by kernel_rfl
    exact e
  | 13, _, h =>
    have e : (((⟨#[48, 49, 50, 51, 52, 53, 54, 55, 56, 57, 97, 98, 99, 100, 101, 102]⟩ : ByteArray)[13]'h).toNat : Int) = nb (sign 13) := by kernel_rfl
    exact e
  | 14, _, h =>
    have e : (((⟨#[48, 49, 50, 51, 52, 53, 54, 55, 56, 57, 97, 98, 99, 100, 101, 102]⟩ : ByteArray)[14]'h).toNat : Int) = nb (sign 14) := by kernel_rfl
    exact e
  | 15, _, h =>
    have e : (((⟨#[48, 49, 50, 51, 52, 53, 54, 55, 56, 57, 97, 98, 99, 100, 101, 102]⟩ : ByteArray)[15]'h).toNat : Int) = nb (sign 15) := by kernel_rfl
    exact e
  | i + 16, h, _ => exact absurd h (by omega)
theorem sign_at (x : Int) (i : Nat) (hx : x = (i : Int)) (hi : i < 16) (h : x.toNat < (⟨#[48, 49, 50, 51, 52, 53, 54, 55, 56, 57, 97, 98, 99, 100, 101, 102]⟩ : ByteArray).size) : (((⟨#[48, 49, 50, 51, 52, 53, 54, 55, 56, 57, 97, 98, 99, 100, 101, 102]⟩ : ByteArray)[x.toNat]'h).toNat : Int) = nb (sign i) := by
  subst hx
  exact sign_nat i hi h
/-- Bytes, and behind them the rest of N, still nought. -/
def partN (N : Nat) (l : List B8) : List Value := Vb l ++ List.replicate (N - l.length) (.int .u8 0)
theorem partN_length {N : Nat} {l : List B8} (h : l.length ≤ N) : (partN N l).length = N := by simp [partN, Vb_length]; omega
theorem partN_set {N : Nat} {l : List B8} (h : l.length < N) (x : B8) : (partN N l).set l.length (.int .u8 (nb x)) = partN N (l ++ [x]) := by
  unfold partN
  rw [List.set_append_right _ _ (by rw [Vb_length]; omega), Vb_length, Nat.sub_self, Vb_append]
  obtain ⟨m, hm⟩ : ∃ m, N - l.length = m + 1 := ⟨N - l.length - 1, by omega⟩
  rw [hm, List.replicate_succ, List.set_cons_zero, List.append_assoc]
  have : N - (l ++ [x]).length = m := by simp; omega
  rw [this]
  rfl
theorem partN_next {N : Nat} {l : List B8} {j : Nat} (h : l.length + j < N) : (partN N l)[l.length + j]? = some (.int .u8 0) := by
  unfold partN
  rw [List.getElem?_append_right (by rw [Vb_length]; omega), Vb_length, Nat.add_sub_cancel_left, List.getElem?_replicate]
  rw [if_pos (by omega)]
theorem partN_whole {N : Nat} (l : List B8) (h : l.length = N) : partN N l = Vb l := by simp [partN, h]

end Go.Proofs.YtfkdpndcoegfpaaDoor
end

/-
  The law's own 'known': the document's two examples hold. Condition: the constants lie in their variable.
-/

section
set_option maxRecDepth 100000
set_option linter.unusedSimpArgs false
set_option linter.unusedVariables false
namespace Go.Proofs.YtfkdpndcoegfpaaDoor
open Go.RowKit

theorem strA0 : strOf textA = .string ⟨#[101, 51, 98, 48, 99, 52, 52, 50, 57, 56, 102, 99, 49, 99, 49, 52, 57, 97, 102, 98, 102, 52, 99, 56, 57, 57, 54, 102, 98, 57, 50, 52, 50, 55, 97, 101, 52, 49, 101, 52, 54, 52, 57, 98, 57, 51, 52, 99, 97, 52, 57, 53, 57, 57, 49, 98, 55, 56, 53, 50, 98, 56, 53, 53]⟩ := by kernel_rfl
theorem strB0 : strOf textB = .string ⟨#[98, 97, 55, 56, 49, 54, 98, 102, 56, 102, 48, 49, 99, 102, 101, 97, 52, 49, 52, 49, 52, 48, 100, 101, 53, 100, 97, 101, 50, 50, 50, 51, 98, 48, 48, 51, 54, 49, 97, 51, 57, 54, 49, 55, 55, 97, 57, 99, 98, 52, 49, 48, 102, 102, 54, 49, 102, 50, 48, 48, 49, 53, 97, 100]⟩ := by kernel_rfl
theorem strA : strOf (hexS (sha Ks []) 32) = .string ⟨#[101, 51, 98, 48, 99, 52, 52, 50, 57, 56, 102, 99, 49, 99, 49, 52, 57, 97, 102, 98, 102, 52, 99, 56, 57, 57, 54, 102, 98, 57, 50, 52, 50, 55, 97, 101, 52, 49, 101, 52, 54, 52, 57, 98, 57, 51, 52, 99, 97, 52, 57, 53, 57, 57, 49, 98, 55, 56, 53, 50, 98, 56, 53, 53]⟩ := by
  rw [known_none]
  exact strA0
theorem strB : strOf (hexS (sha Ks [97#8, 98#8, 99#8]) 32) = .string ⟨#[98, 97, 55, 56, 49, 54, 98, 102, 56, 102, 48, 49, 99, 102, 101, 97, 52, 49, 52, 49, 52, 48, 100, 101, 53, 100, 97, 101, 50, 50, 50, 51, 98, 48, 48, 51, 54, 49, 97, 51, 57, 54, 49, 55, 55, 97, 57, 99, 98, 52, 49, 48, 102, 102, 54, 49, 102, 50, 48, 48, 49, 53, 97, 100]⟩ := by
  have h : hexS (sha Ks [97#8, 98#8, 99#8]) 32 = textB := known_abc
  rw [h]
  exact strB0

theorem Vb_cells (xs : List B8) : Vb xs = (xs.map UInt8.ofBitVec).map Extern.Stop.cell := by
  unfold Vb
  rw [List.map_map]
  apply List.map_congr_left
  intro x _
  unfold nb
  rfl
/-- '==' of two digests. -/
theorem eql32 (xs ys : List B8) (hx : xs.length = 32) (hy : ys.length = 32) (W : World) : (Op.equalIn 10000 80 (.agg (Vb xs).toArray) (.agg (Vb ys).toArray)).run Tryd.prog W = .ok (decide (xs = ys)) W := by
  rw [Vb_cells, Vb_cells, run_equalIn_bytes W 9998 80 5 32 Tryd.underlying80 Tryd.underlying5 (fun w => by kernel_rfl) _ _ (by simpa using hx) (by simpa using hy)]
  congr 1
  rw [Bool.eq_iff_iff, beq_iff_eq, decide_eq_true_eq]
  exact List.map_inj_right (fun a b h => by injection h)

theorem abc_txts (w : World) (p : Nat) (hp : w.heap.size + 3 ≤ p) :
    Txts (((w.alloc (.cells #[.int .u8 97] 5 (1, 2))).alloc (.cells #[.int .u8 98, .int .u8 99] 5 (2, 3))).alloc (.cells #[.slice (some ⟨w.heap.size, 0, none⟩) 1 1, .slice (some ⟨w.heap.size + 1, 0, none⟩) 2 2] 23)) p (some ⟨w.heap.size + 2, 0, none⟩) 2 [[97], [98, 99]] := by
  have b0 : (((w.alloc (.cells #[.int .u8 97] 5 (1, 2))).alloc (.cells #[.int .u8 98, .int .u8 99] 5 (2, 3))).alloc (.cells #[.slice (some ⟨w.heap.size, 0, none⟩) 1 1, .slice (some ⟨w.heap.size + 1, 0, none⟩) 2 2] 23)).heap[w.heap.size]? = some (.cells #[.int .u8 97] 5 (1, 2)) :=
    (Below.heap_alloc _ _ _ (by simp; omega)).trans ((Below.heap_alloc _ _ _ (by simp)).trans (heap_alloc_new w _))
  have b1 : (((w.alloc (.cells #[.int .u8 97] 5 (1, 2))).alloc (.cells #[.int .u8 98, .int .u8 99] 5 (2, 3))).alloc (.cells #[.slice (some ⟨w.heap.size, 0, none⟩) 1 1, .slice (some ⟨w.heap.size + 1, 0, none⟩) 2 2] 23)).heap[w.heap.size + 1]? = some (.cells #[.int .u8 98, .int .u8 99] 5 (2, 3)) := by
    refine (Below.heap_alloc _ _ _ (by simp)).trans ?_
    have h := heap_alloc_new (w.alloc (.cells #[.int .u8 97] 5 (1, 2))) (.cells #[.int .u8 98, .int .u8 99] 5 (2, 3))
    rw [World.size_alloc] at h
    exact h
  have b2 : (((w.alloc (.cells #[.int .u8 97] 5 (1, 2))).alloc (.cells #[.int .u8 98, .int .u8 99] 5 (2, 3))).alloc (.cells #[.slice (some ⟨w.heap.size, 0, none⟩) 1 1, .slice (some ⟨w.heap.size + 1, 0, none⟩) 2 2] 23)).heap[w.heap.size + 2]? = some (.cells #[.slice (some ⟨w.heap.size, 0, none⟩) 1 1, .slice (some ⟨w.heap.size + 1, 0, none⟩) 2 2] 23 (0, 0)) := by
    have h := heap_alloc_new ((w.alloc (.cells #[.int .u8 97] 5 (1, 2))).alloc (.cells #[.int .u8 98, .int .u8 99] 5 (2, 3))) (.cells #[.slice (some ⟨w.heap.size, 0, none⟩) 1 1, .slice (some ⟨w.heap.size + 1, 0, none⟩) 2 2] 23)
    rw [World.size_alloc, World.size_alloc] at h
    exact h
  have e97 : Value.int .u8 97 = .int .u8 (nb 97) := by unfold nb; rfl
  have e98 : Value.int .u8 98 = .int .u8 (nb 98) := by unfold nb; rfl
  have e99 : Value.int .u8 99 = .int .u8 (nb 99) := by unfold nb; rfl
  refine ⟨rfl, fun _ => ⟨w.heap.size + 2, 0, rfl, by omega, fun i x hx => ?_⟩⟩
  match i, hx with
  | 0, hx =>
    simp only [List.getElem?_cons_zero, Option.some.injEq] at hx
    subst hx
    refine ⟨_, 1, 1, cell_of_row _ _ 0 _ _ _ b2, ⟨rfl, Nat.le_refl _, by unfold maxLen; omega, fun _ => ⟨w.heap.size, 0, rfl, by omega, fun j hj => ?_⟩⟩⟩
    obtain rfl : j = 0 := by omega
    rw [Nat.zero_add, cell_of_row _ _ _ _ _ _ b0]
    exact congrArg some e97
  | 1, hx =>
    simp only [List.getElem?_cons_succ, List.getElem?_cons_zero, Option.some.injEq] at hx
    subst hx
    refine ⟨_, 2, 2, cell_of_row _ _ 1 _ _ _ b2, ⟨rfl, Nat.le_refl _, by unfold maxLen; omega, fun _ => ⟨w.heap.size + 1, 0, rfl, by omega, fun j hj => ?_⟩⟩⟩
    rw [Nat.zero_add, cell_of_row _ _ _ _ _ _ b1]
    match j, hj with
    | 0, _ => exact congrArg some e98
    | 1, _ => exact congrArg some e99

end Go.Proofs.YtfkdpndcoegfpaaDoor
end
