/-
  tell: a stream is told a text more. Conditions: the stream is known; the constants lie in their variable; at most 2^50 bytes in all.
-/
import Derived.Test.YtkblpcegdfhmoaaDoorDStr
import Derived.StillTailTactics
import Derived.Deep.DeepCutAuto
import Derived.Deep.CutBlock
namespace Go.Proofs.YtkblpcegdfhmoaaDoor
open Go.RowKit

theorem info3 : (Tryd.prog.info? 3).map (·.size) = some 1 := by kernel_rfl
theorem cell72 {w : World} {p : Nat} {ws : List B32} {rs : List B8} {n : Nat} (hb : Blk w p 44 (strCells ws rs n)) (hws : ws.length = 8) (hrs : rs.length = 64) : w.cell? ⟨p, 72, none⟩ = some (.int .i64 (n : Nat)) := by
  rw [hb.cell]; unfold strCells
  rw [List.getElem?_append_right (by rw [Wd_length]; omega), List.getElem?_append_right (by rw [Wd_length, Vb_length]; omega)]
  simp [Wd_length, Vb_length, hws, hrs]

theorem slice_rest (p r : Nat) (hr : r < 64) (W : World) : (Instr.sliceAt 42 (.pointer (some ⟨p, 8, none⟩)) (some (.int .i64 r)) none none).run Tryd.prog W = .ok (.slice (some ⟨p, 8 + r, none⟩) (64 - r) (64 - r)) W := by
  have hl : Tryd.prog.arrayLen 42 = 64 := by kernel_rfl
  have he : Tryd.prog.elem 42 = 5 := by kernel_rfl
  have hs : (sizeOf 5).run Tryd.prog W = .ok 1 W := by kernel_rfl
  have h := run_sliceAt_array_l (P := Tryd.prog) W 42 ⟨p, 8, none⟩ (by rw [hl, he]; exact Tryd.underlying42) .i64 r (by omega) (by rw [hl]; omega)
  rw [h, he, hs, hl]
  simp only [Result.andThen_ok, slicedAt, Int.toNat_natCast]
  rw [if_neg (by omega), Addr.add_mid, Nat.mul_one]

theorem slice_all (p : Nat) (W : World) : (Instr.sliceAt 42 (.pointer (some ⟨p, 8, none⟩)) none none none).run Tryd.prog W = .ok (.slice (some ⟨p, 8, none⟩) 64 64) W := by
  have hl : Tryd.prog.arrayLen 42 = 64 := by kernel_rfl
  have he : Tryd.prog.elem 42 = 5 := by kernel_rfl
  have hs : (sizeOf 5).run Tryd.prog W = .ok 1 W := by kernel_rfl
  have h := run_sliceAt_array_all (P := Tryd.prog) W 42 ⟨p, 8, none⟩ (by rw [hl, he]; exact Tryd.underlying42)
  rw [h, he, hs, hl]
  simp only [Result.andThen_ok, slicedAt]
  rw [if_neg (by omega), Addr.add_mid]

theorem slice_64 (g o n c : Nat) (h : 64 ≤ c) (W : World) : (Instr.sliceAt 23 (.slice (some ⟨g, o, none⟩) n c) none (some (.int .i64 64)) none).run Tryd.prog W = .ok (.slice (some ⟨g, o, none⟩) 64 c) W := by
  have he : Tryd.prog.elem 23 = 5 := by kernel_rfl
  have hs : (sizeOf 5).run Tryd.prog W = .ok 1 W := by kernel_rfl
  have hu : Tryd.prog.underlying 23 = some (.slice (Tryd.prog.elem 23)) := by rw [he]; exact Tryd.underlying23
  rw [run_sliceAt_slice _ _ _ _ _ _ hu, run_slice_h _ _ _ _ _ hu .i64 64 (by omega) (by omega), he, hs]
  simp only [Result.andThen_ok, sliced]
  simp [Addr.add_mid]

set_option maxHeartbeats 1000000 in
set_option maxRecDepth 100000 in
theorem tell_any (ks : List B32) (w : World) (p : Nat) (m : List B8) (A : Option Addr) (n c : Nat) (bs : List B8) (hp : 0 < p) (hK : Roots ks w) (hs : IsStr ks w p m) (ht : Txt w p A n c bs) (hlen : m.length + n ≤ 1125899906842624) :
    Calls Tryd.prog 27 #[.pointer (some ⟨p, 0, none⟩), .slice A n c] w fun e w' => e = .returned (.tuple #[]) ∧ IsStr ks w' p (m ++ bs) ∧ Only [p] w w' := by
  obtain ⟨ws, rs, hb, hws, hrs, hm1, hm2⟩ := hs
  have hcm := ht.capm
  have hcap := ht.cap
  have c72 := cell72 hb hws hrs
  unfold maxLen at hcm
  have HB := Lib.hid hb
  have HM1 := Lib.hid hm1
  have HM2 := Lib.hid hm2
  have HK := Lib.hid hK
  have HT := Lib.hid ht
  clear hb hm1 hm2 hK ht
  go_enter Tryd.func27, Tryd.ntmps27
  go_upto_if 10 with fail
  go_cut [] (fun wx => Blk wx p 44 (strCells (foldN ks m (m.length / 64)).list rs m.length) ∧ Only [p] w wx)
  case first =>
    by_cases h0 : m.length = 0
    · have hd : ((m.length : Int) == 0) = true := by simp [h0]
      go_wp2_with (go_at_call 34; refine (begin_any w p ws hws _ HB.out).mono ?_; rintro e w' ⟨rfl, h1, h2⟩)
      go_meet
      refine ⟨?_, h2⟩
      rw [show m.length / 64 = 0 by omega]
      exact h1
    · have hd : ((m.length : Int) == 0) = false := beq_eq_false_iff_ne.2 (by omega)
      go_wp2_with fail
      go_meet
      refine ⟨?_, Only.refl _ _⟩
      rw [← HM1.out (by omega)]
      exact HB.out
  case rest =>
    obtain ⟨hb, ho⟩ := hcut
    obtain ⟨r, hr⟩ : ∃ r, r = m.length % 64 := ⟨_, rfl⟩
    have hri : (m.length : Int) % 64 = (r : Int) := by omega
    have hr64 : r < 64 := by omega
    have c72 : wc.cell? ⟨p, 72, none⟩ = some (.int .i64 (m.length : Nat)) := cell72 hb rfl hrs
    have hfz := hb.frozen 72
    have HR := Lib.hid hr
    have HB2 := Lib.hid hb
    have HO := Lib.hid ho
    clear hb ho hr
    go_upto_if 30 with (refine wpList_store_one rfl 3 (.tmp 28) (.tmp 26) rfl p 72 .i64 _ rfl rfl HB2.out (by rw [strCells_length rfl hrs]; omega) info3 ?_; intro w2 hb2 o2)
    rw [show ((m.length : Int) + (n : Int)) = ((m.length + n : Nat) : Int) by omega, set_str rfl hrs] at hb2
    have HB3 := Lib.hid hb2
    have HO2 := Lib.hid (HO.out.trans o2)
    clear hb2 o2 c72 hfz
    go_cut [1] (fun v wx => TRel ks w p m bs n c v wx)
    case first =>
      by_cases h0 : 0 < r
      · have hd : decide (0 < r) = true := decide_eq_true h0
        have hbl := HT.out.len
        have hsl := slice_rest p r hr64
        by_cases hA : n < 64 - r
        · have hmin : min (64 - r) n = n := by omega
          have htk : bs.take (64 - r) = bs := List.take_of_length_le (by omega)
          go_wp2_with (refine wpList_copy_blk rfl (.tmp 35) (.tmp 36) 23 23 rfl 5 Tryd.underlying23 info5 p (8 + r) (64 - r) (64 - r) rfl rfl HB3.out (HT.out.only HO2.out) (by rw [strCells_length rfl hrs]; omega) ?_; intro w3 hb3 o3)
          rw [htk, over_str rfl (by rw [hrs, hbl]; omega), HR.out] at hb3
          refine bodyPost_ret (results_none rfl _ _ _) rfl ⟨rfl, ?_, HO2.out.trans o3⟩
          exact str_small hbl hrs HM2.out (by have := HR.out; omega) hb3
        · have hmin : min (64 - r) n = 64 - r := by omega
          go_wp2_with (refine wpList_copy_blk rfl (.tmp 35) (.tmp 36) 23 23 rfl 5 Tryd.underlying23 info5 p (8 + r) (64 - r) (64 - r) rfl rfl HB3.out (HT.out.only HO2.out) (by rw [strCells_length rfl hrs]; omega) ?_; intro w3 hb3 o3)
          rw [over_str rfl (by rw [hrs, List.length_take]; omega), chunk_fill rfl HR.out HM2.out hrs (by omega)] at hb3
          have hsa := slice_all p
          have HB4 := Lib.hid hb3.drew
          have HO4 := Lib.hid (HO2.out.trans o3)
          clear hb3 o3
          go_still_tail 7, (by kernel_rfl)
          change wpList _ _ _ _ _ w3.drew
          have hq64 : (chunk (m ++ bs) (m.length / 64)).length = 64 := chunk_length (by rw [List.length_append, hbl]; have := HR.out; omega)
          generalize hw4 : w3.drew = w4 at HB4
          have HO5 : Hid (Only [p] w w4) := by rw [← hw4]; exact HO4.out.drew
          clear HO4 hw4
          obtain ⟨g, o, rfl, hgp, -⟩ := HT.out.cells (by omega)
          go_wp2_with (go_at_call 35; refine (turn_any ks w4 p p 8 64 (foldN ks m (m.length / 64)) (Vb (chunk (m ++ bs) (m.length / 64)) ++ [.int .i64 (m.length + n : Nat)]) (chunk (m ++ bs) (m.length / 64)) hp (HK.out.only HO5.out (by simp; omega)) HB4.out (rest_cell HB4.out rfl hq64)).mono ?_; rintro e w5 ⟨rfl, h5, o5⟩)
          all_goals go_meet
          all_goals first
            | exact tell_mid (by omega) h0 HR.out HT.out (HO5.out.trans o5) h5 _ (fun _ => rfl) _ rfl
            | exact tell_mid (by omega) h0 HR.out HT.out (HO5.out.trans o5) h5 _ (fun h => absurd h (by omega)) _ (by omega)
      · obtain rfl : r = 0 := by omega
        have hd : decide (0 < 0) = false := by decide
        go_wp2_with fail
        go_meet
        refine ⟨0, A, rs, by omega, rfl, by simpa using HT.out.only HO2.out, by have := HR.out; omega, hrs, ?_, HO2.out⟩
        rw [Nat.add_zero, foldN_append ks (by omega)]
        exact HB3.out
    case rest =>
      clear HB2 HO HB3 HO2 c72
      go_wp2_with fail
      go_loopw [1] (fun v wr => TRel ks w p m bs n c v wr) (fun v _ => sliceLen v)
      case atStart => exact hcut
      case round =>
        clear hcut
        obtain ⟨k, A', rs', hk, rfl, hT, hz, hr', hb, hO⟩ := hrel
        have hcap' := hT.cap
        have hlen' := hT.len
        have hbl := HT.out.len
        by_cases h64 : 64 ≤ n - k
        · obtain ⟨g, o, rfl, hgp, hcells⟩ := hT.cells (by omega)
          have HTK := Lib.hid hT
          have HBK := Lib.hid hb
          have HOK := Lib.hid hO
          have HCS := Lib.hid hcells
          clear hT hb hO hcells
          have hs64 := slice_64 g o (n - k) (c - k) (by omega)
          go_wp2_with fail
          go_still_tail 5, (by kernel_rfl)
          change wpList _ _ _ _ _ wr.drew
          have hb4 : Blk wr.drew p 44 (Wd (foldN ks (m ++ bs) ((m.length + k) / 64)).list ++ (Vb rs' ++ [.int .i64 (m.length + n : Nat)])) := HBK.out.drew
          have hc4 : ∀ j, j < 64 → wr.drew.cell? ⟨g, o + j, none⟩ = some (.int .u8 (nb (((bs.drop k).take 64).getD j 0))) := by
            intro j hj
            refine (HCS.out j (by omega)).trans ?_
            simp [List.getD_eq_getElem?_getD, hj]
          have ho4 : Only [p] wr wr.drew := (Only.refl _ _).drew
          have hk4 : Roots ks wr.drew := HK.out.only (HOK.out.trans ho4) (by simp; omega)
          generalize wr.drew = w4 at hb4 hc4 ho4 hk4
          have HB4 := Lib.hid hb4
          have HC4 := Lib.hid hc4
          have HO4 := Lib.hid ho4
          have HK4 := Lib.hid hk4
          clear hb4 hc4 ho4 hk4
          go_wp2_with (go_at_call 35; refine (turn_any ks w4 p g o (c - k) (foldN ks (m ++ bs) ((m.length + k) / 64)) (Vb rs' ++ [.int .i64 (m.length + n : Nat)]) ((bs.drop k).take 64) hp HK4.out HB4.out HC4.out).mono ?_; rintro e w5 ⟨rfl, h5, o5⟩)
          have hcap2 := HTK.out.cap
          go_roundw
          case rel => exact tell_next hk hz h64 hr' HTK.out HOK.out (HO4.out.trans o5) h5 _ (fun h => by rw [if_neg (by omega)]) _ _ rfl rfl
          case measure => simp [sliceLen]; omega
        · have HTK := Lib.hid hT
          have HBK := Lib.hid hb
          have HOK := Lib.hid hO
          clear hT hb hO
          have hsa := slice_all p
          go_wp2_with (refine wpList_copy_blk rfl (.tmp 67) (.tmp 68) 23 23 rfl 5 Tryd.underlying23 info5 p 8 64 64 rfl rfl HBK.out HTK.out (by rw [strCells_length rfl hr']; omega) ?_; intro w3 hb3 o3)
          rw [List.take_of_length_le (by rw [HTK.out.len]; omega)] at hb3
          have hb3 : Blk w3 p 44 (over (strCells (foldN ks (m ++ bs) ((m.length + k) / 64)).list rs' (m.length + n)) (8 + 0) (Vb (bs.drop k))) := hb3
          rw [over_str rfl (by rw [hr', HTK.out.len]; omega)] at hb3
          go_end0
          exact ⟨rfl, str_last hbl hr' hk hz (by omega) hb3, HOK.out.trans o3⟩

end Go.Proofs.YtkblpcegdfhmoaaDoor
