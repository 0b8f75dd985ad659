/-
  The document's Sum, by the document's table: the plain digest. Condition: a text of at most 4000 bytes.
-/
import Derived.Test.YtlpljedacohngaaGreatDoorM9
import Derived.Test.YtlpljedacohngaaGreatDoorM10
import Derived.Test.YtlpljedacohngaaGreatDoorM6
import Derived.StillTailTactics
import Derived.Deep.DeepCutAuto
import Derived.Test.YtlpljedacohngaaGreatDoorM7
import Derived.Test.YtlpljedacohngaaGreatDoorM8
import Derived.Deep.RegionHeld3
section
set_option maxRecDepth 100000
set_option linter.unusedSimpArgs false
set_option linter.unusedVariables false
namespace Go.Proofs.YtlpljedacohngaaGreatDoor
open Go.RowKit

theorem own_shape {w : World} {B e n : Nat} {v : Value} {xs : List Value} (h : w.ownsRow B e 1 v n xs) (hn : 0 < n) : ∃ g c, v = .slice (some ⟨g, 0, none⟩) n c ∧ B ≤ g ∧ n ≤ c ∧ c ≤ maxLen := by
  have h0 := h.1
  rcases h.2 with ⟨rfl, h1⟩ | ⟨g, cap, cur, rfl, h1, _, h2, h3, _, _⟩
  · subst h1
    simp at h0
    omega
  · exact ⟨g, cap, rfl, h1, h2, h3⟩

/-- What the document's Sum keeps in memory. -/
structure SM (w0 w : World) (v : Value) (m : List B8) : Prop where
  tab : Blk w w0.heap.size 33 (Wi start8.list ++ Wi Ks)
  res : Blk w (w0.heap.size + 1) 74 (List.replicate 32 (.int .u8 0))
  own : w.ownsRow (w0.heap.size + 2) 5 1 v m.length (Vb m)
  bel : Below w0.heap.size w0 w
theorem SM.alloc {w0 w : World} {v : Value} {m : List B8} (h : SM w0 w v m) (o : Obj) : SM w0 (w.alloc o) v m :=
  ⟨h.tab.alloc o, h.res.alloc o, h.own.alloc o, h.bel.alloc (by have := h.tab.lt; omega) o⟩
theorem SM.grown {w0 w w' : World} {v v' : Value} {m x : List B8} (h : SM w0 w v m) (hg : w.grownBy w' v.ownBlock) (ho : w'.ownsRow (w0.heap.size + 2) 5 1 v' (m ++ x).length (Vb (m ++ x))) : SM w0 w' v' (m ++ x) := by
  have ge := own_ge h.own
  refine ⟨h.tab.grown hg (fun e => ?_), h.res.grown hg (fun e => ?_), ho, h.bel.grown hg h.bel.size (fun q hq => by have := ge q hq; omega)⟩
  · have := ge _ e.symm; omega
  · have := ge _ e.symm; omega
theorem SM.only {w0 w w' : World} {v : Value} {m : List B8} {S : List Nat} (h : SM w0 w v m) (hO : Only S w w') (hS : ∀ k, k ∈ S → w0.heap.size + 2 ≤ k) (hv : ∀ k, v.ownBlock = some k → k ∉ S) : SM w0 w' v m := by
  have hl := h.res.lt
  refine ⟨h.tab.only hO (fun e => by have := hS _ e; omega), h.res.only hO (fun e => by have := hS _ e; omega), ownsRow_only h.own hO hv, h.bel.trans (hO.below (B := w0.heap.size) (by omega) (fun k hk => by have := hS k hk; omega))⟩
theorem SM.start (w : World) (g : Nat) (h : g = w.heap.size + 2) : SM w (((w.alloc (.cells (Wi start8.list ++ Wi Ks).toArray 33)).alloc (.cells (List.replicate 32 (Value.int .u8 0)).toArray 74)).alloc (.cells #[] 5)) (.slice (some ⟨g, 0, none⟩) 0 0) [] := by
  subst h
  have b0 := Blk.new w 33 (Wi start8.list ++ Wi Ks)
  have b1 := Blk.new (w.alloc (.cells (Wi start8.list ++ Wi Ks).toArray 33)) 74 (List.replicate 32 (Value.int .u8 0))
  have b2 := Blk.new ((w.alloc (.cells (Wi start8.list ++ Wi Ks).toArray 33)).alloc (.cells (List.replicate 32 (Value.int .u8 0)).toArray 74)) 5 []
  simp only [World.size_alloc] at b1 b2
  have ho := owned_of_blk (B := w.heap.size + 2) (k := 0) b2 (by omega) (by simp) (by unfold maxLen; simp)
  exact ⟨(b0.alloc _).alloc _, b1.alloc _, ho, (((Below.refl _ _).alloc (Nat.le_refl _) _).alloc (by simp) _).alloc (by simp; omega) _⟩
theorem gap_full (n : Nat) : (n + 1 + gap n + 8) % 64 = 0 := by unfold gap; omega
theorem gap_not {n z : Nat} (h : z < gap n) : (n + 1 + z + 8) % 64 ≠ 0 := by unfold gap at h; omega
theorem v128 : Vb (128#8 :: List.replicate 0 0#8) = [.int .u8 128] := by simp [Vb, nb]
theorem v0 : Vb [0#8] = [.int .u8 0] := by simp [Vb, nb]
theorem count_here (n i : Nat) (hi : i ≤ 7) : 8 * (n : Int) / 2 ^ (8 * i) % 256 = nb (BitVec.ofNat 8 (n * 8 / 2 ^ (56 - 8 * (7 - i)))) := by
  rw [show 56 - 8 * (7 - i) = 8 * i by omega, Nat.mul_comm n 8]
  unfold nb
  rw [BitVec.toNat_ofNat, Int.natCast_emod, Int.natCast_ediv, Int.natCast_mul, Int.natCast_pow]
  rfl
theorem rep_snoc (z : Nat) (x : B8) : List.replicate (z + 1) x = List.replicate z x ++ [x] := List.replicate_succ'

theorem chunk_cells {w0 w : World} {g cap n i : Nat} {m : List B8} (h : SM w0 w (.slice (some ⟨g, 0, none⟩) n cap) m) (hn : m.length = n) (hi : 64 * (i + 1) ≤ m.length) : ∀ j, j < 64 → w.cell? ⟨g, 64 * i + j, none⟩ = some (.int .u8 (nb ((chunk m i).getD j 0))) := by
  intro j hj
  have ho := h.own
  rw [hn] at ho
  rw [ho.cellAt (64 * i + j) (by omega), Vb_get, List.getElem?_eq_getElem (by omega)]
  unfold chunk
  rw [List.getD_eq_getElem?_getD, List.getElem?_take, if_pos hj, List.getElem?_drop, List.getElem?_eq_getElem (by omega)]
  rfl
theorem b4_byte (x : B32) (k : Nat) (hk : k < 4) : nw x / 2 ^ (24 - 8 * k) % 256 = nb ((b4 x).getD k 0) := by
  rw [div_u32, mod_u8]
  match k, hk with
  | 0, _ | 1, _ | 2, _ | 3, _ => simp [b4]
theorem b4_step (x : B32) (k : Nat) (hk : k < 4) : (b4 x).take (k + 1) = (b4 x).take k ++ [(b4 x).getD k 0] := by
  match k, hk with
  | 0, _ | 1, _ | 2, _ | 3, _ => rfl
theorem wpStill_load_mid {P : Program} {ops : Array Oper} {rest : List Oper} {op : Oper} {a : Act} {w : World} {Q : Act → Prop} (hgd : op.guard = none) (ty : TypeId) (x : Operand) (ho : op.op = .load ty x)
    (b o : Nat) (hx : a.eval x = .pointer (some ⟨b, o, none⟩)) (cs : List Value) (d : TypeDesc) (hc : w.rangeAt b o cs)
    (hu : P.underlying ty = some d) (hd : d.isRow = true) (hi : (P.info? ty).map (·.size) = some cs.length)
    (h : wpStill P ops w Q rest (a.put op.dst (.agg cs.toArray))) : wpStill P ops w Q (op :: rest) a := by
  refine wpStill_step (fun K hK => ?_)
  have hw : Region.wanted op (yielded ops a.tmps) = true := by unfold Region.wanted; rw [hgd]
  rw [if_pos hw]
  have hr : (execOp a.eval op).run P w = .ok (.value (.agg cs.toArray)) w := by
    unfold execOp
    simp only [ho, hx, Instr.loadAt, Instr.sureAddr, Sem.run_bind, Sem.run_pure, Result.andThen_ok, run_loadVar_mid w b o ty cs d hc hu hd hi]
  unfold Oper.still
  rw [hr, Oper.stillUpon_value]
  exact hK _ h
/-- What the last loops keep. -/
structure SO (w0 w : World) (P O : Nat) (s : S8) (l : List B8) : Prop where
  res : Blk w (w0.heap.size + 1) 74 (List.replicate 32 (.int .u8 0))
  wds : Blk w P 30 (Wi s.list)
  out : Blk w O 74 (partB l)
  bel : Below w0.heap.size w0 w
theorem SO.put {w0 w : World} {P O : Nat} {s : S8} {l : List B8} (h : SO w0 w P O s l) (hP : P < O) (hO : w0.heap.size + 1 < O) (hl : l.length < 32) (x : B8) (k : Nat) (hk : k = l.length) : SO w0 (w.setCell ⟨O, k, none⟩ (.int .u8 (nb x))) P O s (l ++ [x]) := by
  subst hk
  refine ⟨h.res.far (p := ⟨O, _, none⟩) (by simp; omega) _, h.wds.far (p := ⟨O, _, none⟩) (by simp; omega) _, ?_, h.bel.setCell (p := ⟨O, _, none⟩) (by simp; omega) _⟩
  rw [← partB_set hl]
  exact h.out.set_ _ _
theorem fullD_length (m : List B8) : (fullD m).length = m.length + 1 + gap m.length + 8 := by
  unfold fullD
  rw [List.length_append, endB_length]
  omega

set_option maxHeartbeats 2000000 in
set_option maxRecDepth 100000 in
theorem refsum_any (w : World) (A : Option Addr) (n c : Nat) (bs : List B8) (ht : Txt w w.heap.size A n c bs) (hn : n ≤ 4000) :
    Calls Tryz.prog 31 #[.agg (Wi start8.list ++ Wi Ks).toArray, .slice A n c] w fun e w' => e = .returned (.agg (Vb (sha Ks bs)).toArray) ∧ Below w.heap.size w w' := by
  obtain ⟨i0, hi, hz0, hz1, hz2⟩ := info_parts (show (Tryz.prog.info? 5).map (fun i => (i.zero, i.size, i.bytes)) = some (some (.int .u8 0), 1, 1) by kernel_rfl)
  have HI := Lib.hid (And.intro hi (And.intro hz0 (And.intro hz1 hz2)))
  have h0 := Lib.hid (SM.start w (w.heap.size + 2) rfl)
  have HT := Lib.hid ht
  clear hi hz0 hz1 hz2 ht
  go_enter Tryz.func31, Tryz.ntmps31
  go_upto_region 1 with fail
  go_cut [5] (fun v wx => SM w wx v bs)
  case first =>
    have hl := HT.out.len
    match A, HT with
    | none, HT =>
      obtain rfl : n = 0 := by
        rcases Nat.eq_zero_or_pos n with h | h
        · exact h
        · obtain ⟨g, o, h', _⟩ := HT.out.cells h
          cases h'
      obtain rfl := List.eq_nil_of_length_eq_zero hl
      go_wp2_with (at_builtin; refine wpList_append_own_none rfl (.tmp 12) (.tmp 13) 22 rfl (w.heap.size + 2) 5 i0 1 Tryz.underlying22 HI.out.1 (.slice (some ⟨w.heap.size + 1 + 1, 0, none⟩) 0 0) 0 [] rfl h0.out.own rfl ?_)
      go_meet
      exact h0.out
    | some a, HT =>
      go_wp2_with (at_builtin; refine wpList_append_own _ rfl (.tmp 12) (.tmp 13) 22 rfl (w.heap.size + 2) 5 i0 (.int .u8 0) 1 1 Tryz.underlying22 HI.out.1 HI.out.2.1 HI.out.2.2.1 HI.out.2.2.2 rfl (by decide) (.slice (some ⟨w.heap.size + 1 + 1, 0, none⟩) 0 0) 0 [] rfl h0.out.own a n c (Vb bs) rfl (by rw [Vb_length]; omega) (txt_cells (HT.out.below h0.out.bel (Nat.le_refl _))) (Vb_oneCell _) (by unfold maxLen; omega) (by omega) (by have := h0.out.res.lt; simp) ?_; intro v2 w2 ho2 hg2 _)
      go_meet
      refine h0.out.grown hg2 ?_
      rw [List.nil_append, hl]
      simpa using ho2
  case rest =>
    have HC := Lib.hid hcut
    clear h0 hcut
    have hl := HT.out.len
    go_wp2_with (at_builtin; refine wpList_append_own _ rfl (.tmp 15) (.tmp 16) 22 rfl (w.heap.size + 2) 5 i0 (.int .u8 0) 1 1 Tryz.underlying22 HI.out.1 HI.out.2.1 HI.out.2.2.1 HI.out.2.2.2 rfl (by decide) u5 bs.length (Vb bs) rfl (HC.out.own.alloc _) ⟨wc.heap.size, 0, none⟩ 1 1 [.int .u8 128] rfl rfl (new_one wc _ 5) (one_one _ _) (by unfold maxLen; omega) (by omega) (by have := HC.out.res.lt; simp; omega) ?_; intro v2 w2 ho2 hg2 _)
    have h2 : SM w w2 v2 (bs ++ 128#8 :: List.replicate 0 0#8) := (HC.out.alloc _).grown hg2 (by rw [Vb_append, List.length_append, v128]; exact ho2)
    obtain ⟨g, cap, rfl, hgB, hcap, hcm⟩ := own_shape h2.own (by simp)
    have H2 := Lib.hid h2
    clear h2 ho2 hg2 HC
    have e1 : (bs ++ 128#8 :: List.replicate 0 0#8).length = n + 1 := by simp [hl]
    rw [e1] at hcap H2 ⊢
    clear e1
    have hgap := gap_lt n
    have hgf := gap_full n
    go_loopw [5] (fun v wr => ∃ z g cap : Nat, z ≤ gap n ∧ v = .slice (some ⟨g, 0, none⟩) (n + 1 + z) cap ∧ n + 1 + z ≤ cap ∧ cap ≤ maxLen ∧ SM w wr v (bs ++ 128#8 :: List.replicate z 0#8)) (fun v _ => n + 1 + gap n - sliceLen v)
    case atStart => exact ⟨0, g, cap, by omega, rfl, hcap, hcm, H2.out⟩
    case round =>
      clear H2 hcap hcm hgB
      obtain ⟨z, g, cap, hz, rfl, hcap, hcm, hsm⟩ := hrel
      have HS := Lib.hid hsm
      clear hsm
      unfold maxLen at hcm
      by_cases hzg : z < gap n
      · have hne := gap_not hzg
        have hm2 : ((((n + 1 + z : Nat) : Int) + 8) % 64 != 0) = true := bne_iff_ne.2 (by omega)
        have hlz : (bs ++ 128#8 :: List.replicate z 0#8).length = n + 1 + z := by simp; omega
        have ho := HS.out.own
        rw [hlz] at ho
        have HO := Lib.hid ho
        have HLZ := Lib.hid hlz
        clear hlz ho
        go_wp2_with (at_builtin; go_loud (refine wpList_append_own _ rfl (.tmp 23) (.tmp 24) 22 rfl (w.heap.size + 2) 5 i0 (.int .u8 0) 1 1 Tryz.underlying22 HI.out.1 HI.out.2.1 HI.out.2.2.1 HI.out.2.2.2 rfl (by decide) (.slice (some ⟨g, 0, none⟩) (n + 1 + z) cap) (n + 1 + z) (Vb (bs ++ 128#8 :: List.replicate z 0#8)) rfl (HO.out.alloc _) ⟨wr.heap.size, 0, none⟩ 1 1 [.int .u8 0] rfl rfl (new_one wr _ 5) (one_one _ _) (by unfold maxLen; omega) (by omega) (by have := HS.out.res.lt; simp; omega) ?_); intro v2 w2 ho2 hg2 _)
        have h2 : SM w w2 v2 (bs ++ 128#8 :: List.replicate (z + 1) 0#8) := by
          have := (HS.out.alloc _).grown (x := [0#8]) hg2 (by rw [Vb_append, List.length_append, HLZ.out, v0]; exact ho2)
          rw [rep_snoc]
          simpa using this
        obtain ⟨g2, cap2, rfl, hgB, hcap2, hcm2⟩ := own_shape h2.own (by simp; omega)
        have hl2 : (bs ++ 128#8 :: List.replicate (z + 1) 0#8).length = n + 1 + (z + 1) := by simp; omega
        have H2 := Lib.hid h2
        rw [hl2] at hcap2 H2 ⊢
        clear h2 ho2 hg2 hl2
        go_wp2_with fail
        go_roundw
        case rel => exact ⟨z + 1, g2, cap2, by omega, rfl, hcap2, hcm2, H2.out⟩
        case measure => simp [sliceLen]; omega
      · obtain rfl : z = gap n := by omega
        have hm2 : (((n : Int) + 1 + (gap n : Int) + 8) % 64 != 0) = false := bne_eq_false_iff_eq.2 (by omega)
        have hpad : bs ++ 128#8 :: List.replicate (gap n) 0#8 = bs ++ pad n := rfl
        rw [hpad] at HS
        clear hpad
        go_wp2_with fail
        clear hm2
        go_loopw [6, 5] (fun iv v wr => ∃ k g cap : Nat, k ≤ 8 ∧ iv = .int .i64 ((k : Int) - 1) ∧ v = .slice (some ⟨g, 0, none⟩) (n + 1 + gap n + (8 - k)) cap ∧ n + 1 + gap n + (8 - k) ≤ cap ∧ SM w wr v (bs ++ pad n ++ count8 n (8 - k))) (fun iv _ _ => (intOf iv + 1).toNat)
        case atStart => exact ⟨8, g, cap, by omega, rfl, rfl, hcap, by simpa [count8] using HS.out⟩
        case round =>
          clear HS hcap hcm
          obtain ⟨k, g, cap, hk, rfl, rfl, hcap, hsm⟩ := hrel
          have HS := Lib.hid hsm
          clear hsm
          rcases Nat.eq_zero_or_pos k with rfl | hk0
          · have hfull : bs ++ pad n ++ count8 n (8 - 0) = fullD bs := by
              unfold fullD endB
              rw [hl, List.append_assoc]
            have hfl := fullD_length bs
            rw [hl] at hfl
            rw [hfull] at HS
            have hsh : n + 1 + gap n + (8 - 0) = (fullD bs).length := by omega
            rw [hsh] at HS hcap ⊢
            obtain ⟨q, hq⟩ : ∃ q, (fullD bs).length = 64 * q := ⟨(fullD bs).length / 64, by omega⟩
            have HFIN := Lib.hid (show sha Ks bs = outB (foldN Ks (fullD bs) q) 8 by unfold sha; rw [hq, Nat.mul_div_cancel_left q (by omega)])
            rw [hq] at HS hcap ⊢
            have HQ := Lib.hid hq
            have hqs : q ≤ 1000 := by omega
            have hq0 : 0 < q := by omega
            clear hfull hfl hsh hq
            generalize fullD bs = m at *
            have hgw : g < wr.heap.size := World.block_lt_of_cell? wr _ (chunk_cells HS.out HQ.out (i := 0) (by have := HQ.out; omega) 0 (by omega))
            have hr26 : wr.rangeAt w.heap.size 0 (Wi start8.list) := by
              have := HS.out.tab.rangeAt 0 8
              simpa [Wi, S8.list] using this
            have HR26 := Lib.hid hr26
            have i26 : (Tryz.prog.info? 30).map (·.size) = some 8 := by kernel_rfl
            have I26 := Lib.hid i26
            have i29 : (Tryz.prog.info? 33).map (·.size) = some 72 := by kernel_rfl
            have I29 := Lib.hid i29
            have hT72 : (Wi start8.list ++ Wi Ks).length = 72 := by simp [Wi_length, S8.list, Ks, rootsZ]
            have HT72 := Lib.hid hT72
            have hneg : ((0 : Nat) : Int) - 1 < 0 := by omega
            clear hr26 i26 i29 hT72
            go_wp2_with (first
              | (refine wpList_load_mid rfl 30 (.tmp 40) rfl w.heap.size 0 rfl _ _ HR26.out Tryz.underlying30 rfl (I26.out.trans (by simp [Wi_length, S8.list])) ?_)
              | (refine wpList_store_blk rfl 30 (.tmp 7) (.tmp 41) rfl wr.heap.size 0 (Wi start8.list) rfl rfl (Blk.new wr 30 (List.replicate 8 (.int .i64 0))) (by simp [Wi_length, S8.list]) (I26.out.trans (by simp [Wi_length, S8.list])) (Wi_oneCell _) ?_; intro w3 hA hO))
            rw [over_whole (by simp [Wi_length, S8.list])] at hA
            have hP2 : w.heap.size + 2 ≤ wr.heap.size := by have := HS.out.res.lt; omega
            have HS3 := Lib.hid ((HS.out.alloc (.cells (List.replicate 8 (Value.int .i64 0)).toArray 30)).only hO (by simp; omega) (by simp [Value.ownBlock]; omega))
            have HA := Lib.hid hA
            clear hA hO HS HR26
            generalize wr.heap.size = P at *
            go_loopw [8] (fun iv wz => ∃ i : Nat, i ≤ q ∧ iv = .int .i64 (64 * i) ∧ SM w wz (.slice (some ⟨g, 0, none⟩) (64 * q) cap) m ∧ Blk wz P 30 (Wi (foldN Ks m i).list)) (fun iv _ => 64 * q - (intOf iv).toNat)
            case atStart => exact ⟨0, by omega, rfl, HS3.out, HA.out⟩
            case round =>
              clear HS3 HA
              obtain ⟨i, hi, rfl, hsm, hbp⟩ := hrel
              have HS := Lib.hid hsm
              have HP := Lib.hid hbp
              clear hsm hbp
              by_cases hiq : i < q
              · have hi1 : 64 * (i : Int) < 64 * (q : Int) := by omega
                have hi2 : (64 * (i : Int) + 64) ≤ (cap : Int) := by omega
                go_wp2_with fail
                refine wp_region_still_tail 7 (by kernel_rfl) (by kernel_rfl) ?_
                simp only [List.take_succ_cons, List.take_zero, List.drop_succ_cons, List.drop_zero]
                refine wpStill_load_mid rfl 33 (.tmp 2) rfl w.heap.size 0 rfl _ _ (HS.out.tab.drew.range) Tryz.underlying33 rfl (I29.out.trans (by rw [HT72.out])) ?_
                refine wpStill_load_mid rfl 30 (.tmp 7) rfl P 0 rfl _ _ (HP.out.drew.range) Tryz.underlying30 rfl (I26.out.trans (by simp [Wi_length, S8.list])) ?_
                have hs1 : IntKind.i64.wrap (64 * (i : Int) + 64) = 64 * (i : Int) + 64 := IntWalk.i64_in _ (by omega)
                have hs2 : (0 : Int) ≤ 64 * (i : Int) + 64 := by omega
                have hs3 : (0 : Int) ≤ 64 * (i : Int) := by omega
                have hs4 : max (64 * (i : Int) + 64) 0 = 64 * (i : Int) + 64 := by omega
                have hs5 : (64 * (i : Int)).toNat = 64 * i := by omega
                have hs6 : (64 * (i : Int) + 64).toNat = 64 * i + 64 := by omega
                have hs7 : ¬ cap = 64 * i := by omega
                have hs8 : 64 * (i : Int) ≤ 64 * (i : Int) + 64 := by omega
                repeat still_step
                try refine wpStill_nil ?_
                change wpList _ _ _ _ _ wr.drew
                clear hs1 hs2 hs3 hs4 hs5 hs6 hs7 hs8
                have HS2 : Hid (SM w wr.drew (.slice (some ⟨g, 0, none⟩) (64 * q) cap) m) := Lib.hid ⟨HS.out.tab.drew, HS.out.res.drew, HS.out.own, HS.out.bel.drew⟩
                have HP2 := Lib.hid HP.out.drew
                clear HS HP
                generalize wr.drew = wd at *
                go_wp2_with fail
                refine (refturn_any wd start8.list Ks rfl rfl (foldN Ks m i) g (64 * i) (cap - 64 * i) (chunk m i) (chunk_cells HS2.out HQ.out (by have := HQ.out; omega))).mono ?_
                rintro e w4 ⟨rfl, hb4⟩
                have hgd := HP2.out.lt
                have hgg : g < wd.heap.size := World.block_lt_of_cell? wd _ (chunk_cells HS2.out HQ.out (i := 0) (by have := HQ.out; omega) 0 (by omega))
                have HS4 := Lib.hid (HS2.out.only (Only.of_below (S := []) hb4) (by simp) (by simp))
                have HP4 := Lib.hid (HP2.out.below hb4 hgd)
                clear hb4 HS2 HP2
                have HSt := Lib.hid (show foldN Ks m (i + 1) = turn8 Ks (foldN Ks m i) (chunk m i) from rfl)
                generalize turn8 Ks (foldN Ks m i) (chunk m i) = s2 at *
                go_wp2_with (refine wpList_store_blk rfl 30 (.tmp 7) (.tmp 55) rfl P 0 (Wi s2.list) rfl rfl HP4.out (by simp [Wi_length, S8.list]) (I26.out.trans (by simp [Wi_length, S8.list])) (Wi_oneCell _) ?_; intro w5 hA hO)
                rw [over_whole (by simp [Wi_length, S8.list])] at hA
                have HS5 := Lib.hid (HS4.out.only hO (by simp; omega) (by simp [Value.ownBlock]; omega))
                have HA := Lib.hid hA
                clear hA hO HS4 HP4
                go_wp2_with fail
                go_roundw
                case rel => exact ⟨i + 1, by omega, by go_num, HS5.out, by rw [HSt.out]; exact HA.out⟩
                case measure => simp [intOf]; omega
              · obtain rfl : i = q := by omega
                obtain ⟨s, hs⟩ : ∃ s, s = foldN Ks m i := ⟨_, rfl⟩
                rw [← hs] at HP HFIN
                have HW := Lib.hid (And.intro HS.out.res HS.out.bel)
                have hsz := HS.out.res.lt
                have hPl := HP.out.lt
                clear hs HS hgw hP2
                go_wp2_with fail
                have hso : SO w (wr.alloc (.cells (List.replicate 32 (Value.int .u8 0)).toArray 74)) P wr.heap.size s (outB s 0) := ⟨HW.out.1.alloc _, HP.out.alloc _, Blk.new wr _ _, HW.out.2.alloc (by omega) _⟩
                have HSO := Lib.hid hso
                clear hso HW HP
                generalize wr.heap.size = O at *
                go_loopw [10] (fun iv wz => ∃ i : Nat, i ≤ 8 ∧ iv = .int .i64 i ∧ SO w wz P O s (outB s i)) (fun iv _ => 8 - (intOf iv).toNat)
                case atStart => exact ⟨0, by omega, rfl, HSO.out⟩
                case round =>
                  clear HSO
                  obtain ⟨j, hj, rfl, hso⟩ := hrel
                  have HSO := Lib.hid hso
                  clear hso
                  by_cases hj8 : j < 8
                  · have hol := outB_length s j
                    have hws : s.list.length = 8 := rfl
                    obtain ⟨x, hx⟩ : ∃ x, x = s.list.getD j 0 := ⟨_, rfl⟩
                    have HO1 := Lib.hid (show outB s (j + 1) = outB s j ++ b4 x by rw [hx]; rfl)
                    have HX := Lib.hid hx
                    have nx := nw_bound x
                    have hj0 : (0 : Int) ≤ (j : Int) := by omega
                    have hji : (j : Int) < 8 := by omega
                    clear hx
                    go_wp2_with fail
                    go_loopw [11] (fun kv wz => ∃ k : Nat, k ≤ 4 ∧ kv = .int .i64 k ∧ SO w wz P O s (outB s j ++ (b4 x).take k)) (fun kv _ => 4 - (intOf kv).toNat)
                    case atStart => exact ⟨0, by omega, rfl, by simpa using HSO.out⟩
                    case round =>
                      clear HSO
                      obtain ⟨k, hk, rfl, hso⟩ := hrel
                      by_cases hk4 : k < 4
                      · have cw := hso.wds.cell j
                        rw [Wi_getD (by omega), ← HX.out] at cw
                        have hlk : (outB s j ++ (b4 x).take k).length = 4 * j + k := by rw [List.length_append, hol, List.length_take, show (b4 x).length = 4 from rfl]; omega
                        have hfz := hso.out.frozen (4 * j + k)
                        have cz := hso.out.cell (4 * j + k)
                        rw [show (partB (outB s j ++ (b4 x).take k))[4 * j + k]? = some (.int .u8 0) by rw [← hlk]; exact partB_next (j := 0) (by omega)] at cz
                        have HB := Lib.hid (b4_byte x k hk4)
                        have HPUT := Lib.hid (hso.put (by omega) (by omega) (by rw [hlk]; omega) ((b4 x).getD k 0) (4 * j + k) hlk.symm)
                        have hk0 : (0 : Int) ≤ (k : Int) := by omega
                        have hki : (k : Int) < 4 := by omega
                        clear hso hlk
                        go_wp2_with fail
                        go_roundw
                        case rel =>
                          refine ⟨k + 1, by omega, by go_num, ?_⟩
                          rw [HB.out, b4_step x k hk4, ← List.append_assoc]
                          exact HPUT.out
                        case measure => simp [intOf]; omega
                      · obtain rfl : k = 4 := by omega
                        have h4 : outB s j ++ (b4 x).take 4 = outB s (j + 1) := by rw [HO1.out]; rfl
                        rw [h4] at hso
                        have HSO := Lib.hid hso
                        clear hso h4
                        go_wp2_with fail
                        go_roundw
                        case rel => exact ⟨j + 1, by omega, by go_num, HSO.out⟩
                        case measure => simp [intOf]; omega
                  · obtain rfl : j = 8 := by omega
                    have hpl : (partB (outB s 8)).length = 32 := partB_length (by rw [outB_length]; omega)
                    go_wp2_with (first
                      | (refine wpList_load_mid rfl 74 (.tmp 9) rfl O 0 rfl _ _ HSO.out.out.range Tryz.underlying74 rfl (info31.trans (by rw [hpl])) ?_)
                      | (refine wpList_store_blk rfl 74 (.tmp 4) (.tmp 77) rfl (w.heap.size + 1) 0 _ rfl rfl HSO.out.res (by simp [hpl]) (info31.trans (by rw [hpl])) (partB_oneCell _) ?_; intro W2 hA hO))
                    rw [over_whole (by simp [hpl]), partB_whole _ (outB_length s 8)] at hA
                    refine bodyPost_ret (v := .agg (Vb (outB s 8)).toArray) ?_ rfl ⟨by rw [HFIN.out], ?_⟩
                    · exact ret_cell rfl rfl (run_loadVar_mid _ _ 0 74 _ _ hA.range Tryz.underlying74 rfl (info31.trans (by simp [Vb_length, outB_length])))
                    · exact HSO.out.bel.trans (hO.below (B := w.heap.size) (by have := HSO.out.res.lt; omega) (by simp))
          · obtain ⟨i, rfl⟩ : ∃ i, k = i + 1 := ⟨k - 1, by omega⟩
            have hii : (((i + 1 : Nat) : Int) - 1) = (i : Int) := by omega
            rw [hii]
            have e7 : 8 - (i + 1) = 7 - i := by omega
            rw [e7] at HS hcap ⊢
            have hlz : (bs ++ pad n ++ count8 n (7 - i)).length = n + 1 + gap n + (7 - i) := by simp [pad_length, count8_length]; omega
            have ho := HS.out.own
            rw [hlz] at ho
            have HO := Lib.hid ho
            have HLZ := Lib.hid hlz
            clear hlz ho hii e7
            go_wp2_with (at_builtin; go_loud (refine wpList_append_own _ rfl (.tmp 30) (.tmp 38) 22 rfl (w.heap.size + 2) 5 i0 (.int .u8 0) 1 1 Tryz.underlying22 HI.out.1 HI.out.2.1 HI.out.2.2.1 HI.out.2.2.2 rfl (by decide) (.slice (some ⟨g, 0, none⟩) (n + 1 + gap n + (7 - i)) cap) (n + 1 + gap n + (7 - i)) (Vb (bs ++ pad n ++ count8 n (7 - i))) rfl (HO.out.alloc _) ⟨wr.heap.size, 0, none⟩ 1 1 [.int .u8 (8 * (n : Int) / 2 ^ (8 * i) % 256)] rfl rfl (new_one wr _ 5) (one_one _ _) (by unfold maxLen; omega) (by omega) (by have := HS.out.res.lt; simp; omega) ?_); intro v2 w2 ho2 hg2 _)
            have h2 : SM w w2 v2 (bs ++ pad n ++ count8 n (8 - i)) := by
              have := (HS.out.alloc _).grown (x := [BitVec.ofNat 8 (n * 8 / 2 ^ (56 - 8 * (7 - i)))]) hg2 (by rw [Vb_append, List.length_append, HLZ.out]; rw [count_here n i (by omega)] at ho2; exact ho2)
              rw [show 8 - i = (7 - i) + 1 by omega, count8, ← List.append_assoc]
              exact this
            have hl2 : (bs ++ pad n ++ count8 n (8 - i)).length = n + 1 + gap n + (8 - i) := by simp [pad_length, count8_length]; omega
            obtain ⟨g2, cap2, rfl, hgB, hcap2, hcm2⟩ := own_shape h2.own (by rw [hl2]; omega)
            have H2 := Lib.hid h2
            rw [hl2] at hcap2 H2 ⊢
            clear h2 ho2 hg2 hl2
            go_wp2_with fail
            go_roundw
            case rel =>
              exact ⟨i, g2, cap2, by omega, by go_num, rfl, hcap2, H2.out⟩
            case measure => simp [intOf]

end Go.Proofs.YtlpljedacohngaaGreatDoor
end

/-
  Short: the first eight bytes of the framed digest as a number. Conditions: those of Framed.
-/

section
set_option maxRecDepth 100000
set_option linter.unusedSimpArgs false
set_option linter.unusedVariables false
namespace Go.Proofs.YtlpljedacohngaaGreatDoor
open Go.RowKit

/-- The number of the first k bytes, the highest first. -/
def beN (d : List B8) : Nat → Nat
  | 0 => 0
  | k + 1 => 256 * beN d k + (d.getD k 0).toNat
theorem beN_small (d : List B8) : ∀ k, beN d k < 256 ^ k
  | 0 => by simp [beN]
  | k + 1 => by
    have h1 := beN_small d k
    have h2 := (d.getD k 0).isLt
    simp only [beN]
    rw [Nat.pow_succ]
    omega
theorem beN_7 (d : List B8) (k : Nat) (hk : k < 8) : beN d k < 72057594037927936 :=
  Nat.lt_of_lt_of_le (beN_small d k) (by
    have := Nat.pow_le_pow_right (n := 256) (by omega) (show k ≤ 7 by omega)
    exact Nat.le_trans this (by decide))
theorem or_u64 (n b : Nat) (hn : n < 72057594037927936) (hb : b < 256) : bits .or .u64 ((n : Int) * 256) (b : Int) = ((256 * n + b : Nat) : Int) := by
  have e1 : BitVec.ofInt 64 ((n : Int) * 256) = BitVec.ofNat 64 (n * 256) := by
    rw [show (n : Int) * 256 = ((n * 256 : Nat) : Int) by simp]
    exact BitVec.ofInt_natCast ..
  have e2 : BitVec.ofInt 64 (b : Int) = BitVec.ofNat 64 b := BitVec.ofInt_natCast ..
  have e3 : (BitVec.ofNat 64 (n * 256) ||| BitVec.ofNat 64 b).toNat = 256 * n + b := by
    rw [BitVec.toNat_or, BitVec.toNat_ofNat, BitVec.toNat_ofNat, Nat.mod_eq_of_lt (by omega), Nat.mod_eq_of_lt (by omega), Nat.mul_comm n]
    exact (Nat.two_pow_add_eq_or_of_lt (i := 8) (b := b) (by omega) n).symm
  unfold bits
  simp only [IntKind.bits, e1, e2]
  exact (congrArg (fun x : Nat => IntKind.u64.wrap (x : Int)) e3).trans (IntWalk.u64_in ((256 * n + b : Nat) : Int) ⟨by omega, by omega⟩)

end Go.Proofs.YtlpljedacohngaaGreatDoor
end

/-
  DigestPieces' walk. Conditions: the texts are known; the constants lie in their variable.
-/

section
set_option maxRecDepth 100000
set_option linter.unusedSimpArgs false
set_option linter.unusedVariables false
namespace Go.Proofs.YtlpljedacohngaaGreatDoor
open Go.RowKit

theorem own_formD {w : World} {B n : Nat} {v : Value} {bs : List B8} (h : w.ownsRow B 5 1 v n (Vb bs)) : ∃ A c, v = .slice A n c ∧ TxtN w w.heap.size A n c bs := by
  have hl : bs.length = n := by have := h.1; rw [Vb_length] at this; omega
  rcases h.2 with ⟨rfl, h0⟩ | ⟨g, cap, cur, rfl, h1, hg, h2, h3, hs, ht⟩
  · subst h0
    exact ⟨none, 0, rfl, ⟨⟨hl, Nat.le_refl _, Nat.zero_le _, fun h => absurd h (by omega)⟩, fun _ => ⟨rfl, rfl⟩⟩⟩
  · have hgs : g < w.heap.size := (Array.getElem?_eq_some_iff.1 hg).1
    refine ⟨_, _, rfl, ⟨⟨hl, h2, h3, fun _ => ⟨g, 0, rfl, by omega, fun j hj => ?_⟩⟩, fun h => by cases h⟩⟩
    rw [Nat.zero_add, h.cellAt j (by omega), Vb_get, List.getD_eq_getElem?_getD, List.getElem?_eq_getElem (by omega)]
    rfl
theorem OTexts.below {B : Nat} {w w' : World} {v : Value} {X : List (List B8)} (h : OTexts B w v X) (hb : Below w.heap.size w w') : OTexts B w' v X := by
  obtain ⟨cells, ho, hc⟩ := h
  refine ⟨cells, ownsRow_only (S := []) ho (Only.of_below hb) (by simp), fun j x hx => ?_⟩
  obtain ⟨A, k, c, h1, h2⟩ := hc j x hx
  exact ⟨A, k, c, h1, (h2.below hb (Nat.le_refl _)).at (Nat.le_refl _)⟩
theorem OTexts.form {B : Nat} {w : World} {v : Value} {X : List (List B8)} (h : OTexts B w v X) : ∃ A c, v = .slice A X.length c ∧ TxtsN w w.heap.size A X.length X ∧ (A = none → c = 0) := by
  obtain ⟨cells, ho, hc⟩ := h
  have hcl : cells.length = X.length := by have := ho.1; omega
  rcases ho.2 with ⟨rfl, h0⟩ | ⟨g, cap, cur, rfl, h1, hg, h2, h3, hs, ht⟩
  · rw [h0]
    exact ⟨none, 0, rfl, ⟨h0, fun h => absurd h (by omega)⟩, fun _ => rfl⟩
  · have hgs : g < w.heap.size := (Array.getElem?_eq_some_iff.1 hg).1
    refine ⟨_, _, rfl, ⟨rfl, fun _ => ⟨g, 0, rfl, by omega, fun j x hx => ?_⟩⟩, fun h => by cases h⟩
    obtain ⟨A, k, c, hj, ht⟩ := hc j x hx
    have hjl : j < X.length := (List.getElem?_eq_some_iff.1 hx).1
    exact ⟨A, k, c, by rw [Nat.zero_add, ho.cellAt j (by omega)]; exact hj, ht⟩
theorem OTexts.txtsN {B n c : Nat} {w : World} {A : Option Addr} {X : List (List B8)} (h : OTexts B w (.slice A n c) X) : TxtsN w w.heap.size A n X := by
  obtain ⟨A', c', e, ht, _⟩ := h.form
  simp only [Value.slice.injEq] at e
  obtain ⟨rfl, rfl, rfl⟩ := e
  exact ht
theorem own_txt {w : World} {B n c k : Nat} {A : Option Addr} {bs : List B8} (h : w.ownsRow B 5 1 (.slice A n c) k (Vb bs)) : TxtN w w.heap.size A n c bs := by
  obtain ⟨A', c', e, ht⟩ := own_formD h
  simp only [Value.slice.injEq] at e
  obtain ⟨rfl, rfl, rfl⟩ := e
  exact ht
theorem one_flat (m : List B8) : [m].flatten = m := by simp
theorem snoc_small {X : List (List B8)} (h : ∀ x ∈ X, x.length ≤ 300) : ∀ x ∈ X ++ [[]], x.length ≤ 300 := by
  intro x hx
  rcases List.mem_append.1 hx with h1 | h1
  · exact h x h1
  · simp at h1; subst h1; simp
/-- What the law keeps in memory. -/
structure St7 (B B1 N : Nat) (w0 w : World) (vx va vy : Value) (X : List (List B8)) : Prop where
  roots : Roots Ks w
  x : OTexts B w vx X
  a : w.ownsRow B 5 1 va N (Vb X.flatten)
  y : OTexts B1 w vy (X ++ [[]])
  below' : Below w0.heap.size w0 w
theorem St7.below {B B1 N : Nat} {w0 w w' : World} {vx va vy : Value} {X : List (List B8)} (h : St7 B B1 N w0 w vx va vy X) (hb : Below w.heap.size w w') : St7 B B1 N w0 w' vx va vy X :=
  ⟨h.roots.below hb h.roots.pos, h.x.below hb, ownsRow_only (S := []) h.a (Only.of_below hb) (by simp), h.y.below hb, h.below'.trans (hb.mono h.below'.size)⟩
/-- One text, alone in a slice of the call's own. -/
theorem one_txts {w : World} {A : Option Addr} {n c : Nat} {bs : List B8} (h : TxtN w w.heap.size A n c bs) : Txts (w.alloc (.cells #[.slice A n c] 22)) (w.heap.size + 1) (some ⟨w.heap.size, 0, none⟩) 1 [bs] := by
  have hb := Blk.new w 22 [.slice A n c]
  refine ⟨rfl, fun _ => ⟨w.heap.size, 0, rfl, by omega, fun i x hx => ?_⟩⟩
  match i, hx with
  | 0, hx =>
    simp only [List.getElem?_cons_zero, Option.some.injEq] at hx
    subst hx
    exact ⟨A, n, c, hb.cell 0, ((h.at (q := w.heap.size + 1) (by omega)).txt.below ((Below.refl _ _).alloc (Nat.le_refl _) _) (Nat.le_refl _))⟩
theorem cut_len (xs : List (List B8)) : (cutT xs).length ≤ 12 := by unfold cutT; simp; omega
theorem cut_each (xs : List (List B8)) : ∀ x ∈ cutT xs, x.length ≤ 300 := by
  intro x hx
  unfold cutT at hx
  obtain ⟨y, _, rfl⟩ := List.mem_map.1 hx
  rw [List.length_take]
  omega
theorem cut_all (xs : List (List B8)) : (cutT xs).flatten.length ≤ 3600 := by
  have := cut_small xs 12 (Nat.le_refl _)
  rw [List.take_of_length_le (cut_len xs)] at this
  omega

theorem cells_one {w : World} {X : List (List B8)} {cells : List Value} (h : ∀ (j : Nat) (x : List B8), X[j]? = some x → ∃ A k c, cells[j]? = some (Value.slice A k c) ∧ TxtN w w.heap.size A k c x) (hl : cells.length = X.length) : ∀ u ∈ cells, u.oneCell' = true := by
  intro u hu
  obtain ⟨j, hj, rfl⟩ := List.getElem_of_mem hu
  obtain ⟨A, k, c, h1, _⟩ := h j (X[j]'(by omega)) (List.getElem?_eq_getElem _)
  rw [List.getElem?_eq_getElem hj] at h1
  injection h1 with h1
  rw [h1]
  rfl
theorem cells_at {w w' : World} {B n c : Nat} {a : Addr} {cells : List Value} (h : w.ownsRow B 22 1 (.slice (some a) n c) n cells) (hb : Below w.heap.size w w') : ∀ j u, cells[j]? = some u → w'.cell? (a.add j) = some u := by
  intro j u hu
  have hl := h.1
  have hj : j < n := by have := (List.getElem?_eq_some_iff.1 hu).1; omega
  rcases h.2 with ⟨h', _⟩ | ⟨g, cap, cur, h', _, hg, _⟩
  · simp at h'
  · simp only [Value.slice.injEq, Option.some.injEq] at h'
    obtain ⟨rfl, _, rfl⟩ := h'
    rw [Addr.add_mid, Nat.zero_add]
    have hc := h.cellAt j (by omega)
    have hgs : g < w.heap.size := (Array.getElem?_eq_some_iff.1 hg).1
    exact (hb.cell (p := ⟨g, j, none⟩) hgs).trans (hc.trans hu)
theorem otexts_snoc {w w' : World} {B : Nat} {v : Value} {X : List (List B8)} {cells : List Value} (h : ∀ (j : Nat) (x : List B8), X[j]? = some x → ∃ A k c, cells[j]? = some (Value.slice A k c) ∧ TxtN w w.heap.size A k c x) (hl : cells.length = X.length)
    (ho : w'.ownsRow B 22 1 v (X.length + 1) (cells ++ [Value.slice none 0 0])) (hb : Below w.heap.size w w') : OTexts B w' v (X ++ [[]]) := by
  refine ⟨_, by rw [List.length_append]; exact ho, fun j x hx => ?_⟩
  by_cases hj : j < X.length
  · rw [List.getElem?_append_left hj] at hx
    obtain ⟨A, k, c, h1, h2⟩ := h j x hx
    exact ⟨A, k, c, by rw [List.getElem?_append_left (by omega)]; exact h1, (h2.below hb (Nat.le_refl _)).at (Nat.le_refl _)⟩
  · have hjl : j < (X ++ [[]]).length := (List.getElem?_eq_some_iff.1 hx).1
    rw [List.length_append, List.length_singleton] at hjl
    obtain rfl : j = X.length := by omega
    rw [List.getElem?_append_right (Nat.le_refl _), Nat.sub_self] at hx
    simp only [List.getElem?_cons_zero, Option.some.injEq] at hx
    subst hx
    exact ⟨none, 0, 0, by rw [List.getElem?_append_right (by omega), hl, Nat.sub_self]; rfl, ⟨⟨rfl, Nat.le_refl _, Nat.zero_le _, fun h => absurd h (by omega)⟩, fun _ => ⟨rfl, rfl⟩⟩⟩

end Go.Proofs.YtlpljedacohngaaGreatDoor
end

/-
  DigestTexts, walked: it returns true. Conditions: the argument's texts are known; the constants lie in their variable.
-/

section
set_option maxRecDepth 100000
set_option linter.unusedSimpArgs false
set_option linter.unusedVariables false
namespace Go.Proofs.YtlpljedacohngaaGreatDoor
open Go.RowKit

def Tbl : List Value := Wi start8.list ++ Wi Ks
theorem Tbl_length : Tbl.length = 72 := by simp [Tbl, Wi_length, S8.list, Ks, rootsZ]
theorem Tbl_one : ∀ u ∈ Tbl, u.oneCell' = true := by
  intro u hu
  rcases List.mem_append.1 hu with hu | hu
  · exact Wi_oneCell _ u hu
  · exact Wi_oneCell _ u hu
theorem make_tbl (w : World) : Calls Tryz.prog 6 #[] w fun e w' => e = .returned (.agg Tbl.toArray) ∧ Below w.heap.size w w' := make_any w
theorem sum_tbl (w : World) (A : Option Addr) (n c : Nat) (bs : List B8) (ht : TxtN w w.heap.size A n c bs) (hn : n ≤ 4000) :
    Calls Tryz.prog 31 #[.agg Tbl.toArray, .slice A n c] w fun e w' => e = .returned (.agg (Vb (sha Ks bs)).toArray) ∧ Below w.heap.size w w' := refsum_any w A n c bs ht.txt hn

/-- What the law keeps: the texts, all of them, the table. -/
structure DT (w0 : World) (X : List (List B8)) (N : Nat) (vx va : Value) (p : Nat) (w : World) : Prop where
  roots : Roots Ks w
  x : OTexts w0.heap.size w vx X
  a : w.ownsRow w0.heap.size 5 1 va N (Vb X.flatten)
  tab : Blk w p 33 Tbl
  bel : Below w0.heap.size w0 w
theorem DT.below {w0 w w' : World} {X : List (List B8)} {N p : Nat} {vx va : Value} (h : DT w0 X N vx va p w) (hb : Below w.heap.size w w') : DT w0 X N vx va p w' :=
  ⟨h.roots.below hb h.roots.pos, h.x.below hb, ownsRow_only (S := []) h.a (Only.of_below hb) (by simp), h.tab.below hb h.tab.lt, h.bel.trans (hb.mono h.bel.size)⟩
theorem DT.drew {w0 w : World} {X : List (List B8)} {N p : Nat} {vx va : Value} (h : DT w0 X N vx va p w) : DT w0 X N vx va p w.drew := h.below ⟨rfl, rfl, rfl, Nat.le_refl _, fun _ _ => rfl⟩
structure DF (w0 : World) (X : List (List B8)) (N : Nat) (vx va : Value) (p q : Nat) (d : List B8) (w : World) : Prop where
  dt : DT w0 X N vx va p w
  f : Blk w q 74 (Vb d)
theorem DF.below {w0 w w' : World} {X : List (List B8)} {N p q : Nat} {vx va : Value} {d : List B8} (h : DF w0 X N vx va p q d w) (hb : Below w.heap.size w w') : DF w0 X N vx va p q d w' := ⟨h.dt.below hb, h.f.below hb h.f.lt⟩
theorem DF.drew {w0 w : World} {X : List (List B8)} {N p q : Nat} {vx va : Value} {d : List B8} (h : DF w0 X N vx va p q d w) : DF w0 X N vx va p q d w.drew := h.below ⟨rfl, rfl, rfl, Nat.le_refl _, fun _ _ => rfl⟩
theorem below_new (w : World) (o : Obj) : Below w.heap.size w (w.alloc o) := (Below.refl _ _).alloc (Nat.le_refl _) _
theorem TxtN.later {w w' : World} {A : Option Addr} {n c : Nat} {bs : List B8} (h : TxtN w w.heap.size A n c bs) (hb : Below w.heap.size w w') : TxtN w' w'.heap.size A n c bs := (h.below hb (Nat.le_refl _)).at (Nat.le_refl _)

theorem fin_store {w0 wA wB : World} {X : List (List B8)} {N p : Nat} {vx va : Value} {d : List B8} (hA : DT w0 X N vx va p wA) (hb : Below wA.heap.size wA wB) (hq : Blk wB wA.heap.size 74 (List.replicate 32 (.int .u8 0))) (hd : d.length = 32) :
    DF w0 X N vx va p wA.heap.size d (wB.setCells wA.heap.size 0 (Vb d)) := by
  have hB := hq.setCells (Vb d) 0 (by simp [Vb_length, hd])
  rw [over_whole (by simp [Vb_length, hd])] at hB
  have hO := Only.setCells (S := [wA.heap.size]) (Vb d) wA.heap.size 0 (Only.refl _ wB) (.inl (by simp))
  exact ⟨hA.below (hb.trans (hO.below (B := wA.heap.size) hb.size (by simp))), hB⟩

end Go.Proofs.YtlpljedacohngaaGreatDoor
end

/-
  The document's Refusal and Can. Condition of Can: what is wanted is a number of 64 bits.
-/

section
set_option linter.unusedSimpArgs false
set_option linter.unusedVariables false
set_option maxRecDepth 100000
namespace Go.Proofs.YtlpljedacohngaaGreatDoor
open Go.RowKit

theorem rr_bad {k m o g : Int} (h : chk k m o g ≠ 0) : refuse k m o g = chk k m o g := by unfold refuse; rw [if_pos h]
theorem rr_type {k m o g : Int} (h : chk k m o g = 0) (h2 : 2 < k) : refuse k m o g = 17 := by unfold refuse; rw [if_neg (by omega), if_pos h2]
theorem rr_set {k m o g : Int} (h : chk k m o g = 0) (h2 : ¬ 2 < k) (hs : 1 < m / 512 % 8) : refuse k m o g = 11 := by
  unfold refuse setB
  rw [if_neg (by omega), if_neg h2, decide_eq_true (show m / 512 % 8 > 1 from hs)]
  rfl
theorem rr_link {k m o g : Int} (h : chk k m o g = 0) (h2 : k = 2) (hs : ¬ 1 < m / 512 % 8) : refuse k m o g = 0 := by
  unfold refuse setB
  rw [if_neg (by omega), if_neg (by omega), decide_eq_false (show ¬ m / 512 % 8 > 1 from hs), decide_eq_false (show ¬ k < 2 by omega)]
  rfl
theorem rr_file {k m o g : Int} (h : chk k m o g = 0) (h2 : k < 2) (hs : ¬ 1 < m / 512 % 8) : refuse k m o g = if hasB (m / 8 % 8) 2 || hasB (m % 8) 2 then 11 else 0 := by
  have e : m / 1 % 8 = m % 8 := by omega
  unfold refuse setB wrB
  rw [if_neg (by omega), if_neg (by omega), decide_eq_false (show ¬ m / 512 % 8 > 1 from hs), decide_eq_true h2, e]
  rfl

set_option maxHeartbeats 4000000 in
theorem rrefusal_any (w : World) (k m o g : Int) : Calls Tryz.prog 29 #[stv k m o g] w fun e w' => e = .returned (.int .i64 (refuse k m o g)) ∧ Below w.heap.size w w' := by
  have HB := Lib.hid (mnew w (.cells #[.int .i64 k, .int .i64 m, .int .i64 o, .int .i64 g] 72))
  by_cases hc : chk k m o g = 0
  · have hm := (chk_zero hc).2.1
    have hk := (chk_zero hc).1
    have HC := Lib.hid (And.intro hc (And.intro hm hk))
    by_cases h2 : 2 < k
    · rw [rr_type hc h2]
      clear hc hm hk
      go_enter Tryz.func29, Tryz.ntmps29
      go_wp2_with fail
      with_reducible refine (rcheck_ok _ HC.out.1).mono ?_
      rintro e w1 ⟨rfl, h1⟩
      obtain ⟨e0, e1, e2, e3⟩ := ((Box.new w 72 _ m o g).below h1).cells
      have H1 := Lib.hid (mthen HB.out h1)
      clear h1
      go_wp2_with fail
      go_ret
      exact ⟨rfl, H1.out⟩
    · by_cases hs : 1 < m / 512 % 8
      · rw [rr_set hc h2 hs]
        clear hc hm hk
        go_enter Tryz.func29, Tryz.ntmps29
        go_wp2_with fail
        with_reducible refine (rcheck_ok _ HC.out.1).mono ?_
        rintro e w1 ⟨rfl, h1⟩
        obtain ⟨e0, e1, e2, e3⟩ := ((Box.new w 72 _ m o g).below h1).cells
        have H1 := Lib.hid (mthen HB.out h1)
        clear h1
        go_wp2_with fail
        with_reducible refine (digit0_any _ m HC.out.2.1.1 HC.out.2.1.2).mono ?_
        rintro e w2 ⟨rfl, h2⟩
        have H2 := Lib.hid (mthen H1.out h2)
        clear h2 e0 e1 e2 e3
        go_wp2_with fail
        go_ret
        exact ⟨rfl, H2.out⟩
      · by_cases hl : k = 2
        · rw [rr_link hc hl hs]
          have hk2 : decide (k < 2) = false := by simp; omega
          have hs2 : decide (1 < m / 512 % 8) = false := by simpa using hs
          clear hc hm hk hl hs
          go_enter Tryz.func29, Tryz.ntmps29
          go_wp2_with fail
          with_reducible refine (rcheck_ok _ HC.out.1).mono ?_
          rintro e w1 ⟨rfl, h1⟩
          have X1 := (Box.new w 72 k m o g).below h1
          obtain ⟨e0, e1, e2, e3⟩ := X1.cells
          have H1 := Lib.hid (And.intro (mthen HB.out h1) X1)
          clear h1 X1
          go_wp2_with fail
          with_reducible refine (digit0_any _ m HC.out.2.1.1 HC.out.2.1.2).mono ?_
          rintro e w2 ⟨rfl, h2⟩
          obtain ⟨f0, f1, f2, f3⟩ := (H1.out.2.below h2).cells
          have H2 := Lib.hid (mthen H1.out.1 h2)
          clear h2 e0 e1 e2 e3
          go_wp2_with fail
          go_ret
          exact ⟨rfl, H2.out⟩
        · have hlt : k < 2 := by omega
          rw [rr_file hc hlt hs]
          have hs2 : decide (1 < m / 512 % 8) = false := by simpa using hs
          have HD : Hid ((0 ≤ m / 8 % 8 ∧ m / 8 % 8 ≤ 7) ∧ 0 ≤ m % 8 ∧ m % 8 ≤ 7) := Lib.hid (by omega)
          clear hc hm hk hl hs
          cases hv : hasB (m / 8 % 8) 2 with
          | true =>
            rw [Bool.true_or]
            have HV := Lib.hid hv
            clear hv
            rw [if_pos rfl]
            go_enter Tryz.func29, Tryz.ntmps29
            go_wp2_with fail
            with_reducible refine (rcheck_ok _ HC.out.1).mono ?_
            rintro e w1 ⟨rfl, h1⟩
            have X1 := (Box.new w 72 k m o g).below h1
            obtain ⟨e0, e1, e2, e3⟩ := X1.cells
            have H1 := Lib.hid (And.intro (mthen HB.out h1) X1)
            clear h1 X1
            go_wp2_with fail
            with_reducible refine (digit0_any _ m HC.out.2.1.1 HC.out.2.1.2).mono ?_
            rintro e w2 ⟨rfl, h2⟩
            have X2 := H1.out.2.below h2
            obtain ⟨f0, f1, f2, f3⟩ := X2.cells
            have H2 := Lib.hid (And.intro (mthen H1.out.1 h2) X2)
            clear h2 e0 e1 e2 e3 X2
            go_wp2_with fail
            with_reducible refine (digit2_any _ m HC.out.2.1.1 HC.out.2.1.2).mono ?_
            rintro e w3 ⟨rfl, h3⟩
            have H3 := Lib.hid (mthen H2.out.1 h3)
            clear h3 f0 f1 f2 f3
            go_wp2_with fail
            with_reducible refine (mhas_any _ (m / 8 % 8) 2 HD.out.1.1 HD.out.1.2 (by omega) (by omega)).mono ?_
            rintro e w' ⟨rfl, rfl⟩
            rw [HV.out]
            go_wp2_with fail
            go_ret
            exact ⟨rfl, H3.out⟩
          | false =>
            rw [Bool.false_or]
            have HV := Lib.hid hv
            clear hv
            obtain ⟨b, hbb⟩ : ∃ b, hasB (m % 8) 2 = b := ⟨_, rfl⟩
            rw [hbb]
            have HW := Lib.hid hbb
            clear hbb
            cases b
            all_goals
              first | rw [if_pos rfl] | rw [if_neg (by decide)]
              go_enter Tryz.func29, Tryz.ntmps29
              go_wp2_with fail
              with_reducible refine (rcheck_ok _ HC.out.1).mono ?_
              rintro e w1 ⟨rfl, h1⟩
              have X1 := (Box.new w 72 k m o g).below h1
              obtain ⟨e0, e1, e2, e3⟩ := X1.cells
              have H1 := Lib.hid (And.intro (mthen HB.out h1) X1)
              clear h1 X1
              go_wp2_with fail
              with_reducible refine (digit0_any _ m HC.out.2.1.1 HC.out.2.1.2).mono ?_
              rintro e w2 ⟨rfl, h2⟩
              have X2 := H1.out.2.below h2
              obtain ⟨f0, f1, f2, f3⟩ := X2.cells
              have H2 := Lib.hid (And.intro (mthen H1.out.1 h2) X2)
              clear h2 e0 e1 e2 e3 X2
              go_wp2_with fail
              with_reducible refine (digit2_any _ m HC.out.2.1.1 HC.out.2.1.2).mono ?_
              rintro e w3 ⟨rfl, h3⟩
              have X3 := H2.out.2.below h3
              obtain ⟨e0, e1, e2, e3⟩ := X3.cells
              have H3 := Lib.hid (And.intro (mthen H2.out.1 h3) X3)
              clear h3 f0 f1 f2 f3 X3
              go_wp2_with fail
              with_reducible refine (mhas_any _ (m / 8 % 8) 2 HD.out.1.1 HD.out.1.2 (by omega) (by omega)).mono ?_
              rintro e w' ⟨rfl, rfl⟩
              rw [HV.out]
              go_wp2_with fail
              with_reducible refine (digit3_any _ m HC.out.2.1.1 HC.out.2.1.2).mono ?_
              rintro e w4 ⟨rfl, h4⟩
              have H4 := Lib.hid (mthen H3.out.1 h4)
              clear h4 e0 e1 e2 e3
              go_wp2_with fail
              with_reducible refine (mhas_any _ (m % 8) 2 HD.out.2.1 HD.out.2.2 (by omega) (by omega)).mono ?_
              rintro e w' ⟨rfl, rfl⟩
              rw [HW.out]
              go_wp2_with fail
              go_ret
              exact ⟨rfl, H4.out⟩
  · rw [rr_bad hc]
    have HC := Lib.hid hc
    clear hc
    go_enter Tryz.func29, Tryz.ntmps29
    go_wp2_with fail
    with_reducible refine (rcheck_bad _ HC.out).mono ?_
    rintro e w1 ⟨z, rfl, hz, h1⟩
    obtain ⟨q1, q2, q3⟩ := eqB_false (show ¬ z = 0 by rw [hz]; exact HC.out)
    have HZ := Lib.hid hz
    have H1 := Lib.hid (mthen HB.out h1)
    clear h1 hz
    go_wp2_with fail
    go_ret
    exact ⟨ret_num HZ.out, H1.out⟩
theorem rc_bad {k m o g who group x : Int} (h : chk k m o g ≠ 0) : refCanB k m o g who group x = false := by unfold refCanB; simp [h]
theorem rc_out {k m o g who group x : Int} (h : (who < 0 ∨ 65535 < who) ∨ (group < 0 ∨ 65535 < group) ∨ x < 0 ∨ 7 < x) : refCanB k m o g who group x = false := by
  unfold refCanB whoB
  rcases h with h | h | h
  · have : (decide (0 ≤ who) && decide (who ≤ 65535)) = false := by rw [Bool.and_eq_false_iff, decide_eq_false_iff_not, decide_eq_false_iff_not]; omega
    rw [this]
    simp
  · have : (decide (0 ≤ group) && decide (group ≤ 65535)) = false := by rw [Bool.and_eq_false_iff, decide_eq_false_iff_not, decide_eq_false_iff_not]; omega
    rw [this]
    simp
  · rw [decide_eq_false (show ¬ (0 ≤ x ∧ x ≤ 7) by omega)]
    simp
theorem rc_all {k m o g group x : Int} (h : chk k m o g = 0) (h2 : 0 ≤ group) (h3 : group ≤ 65535) (h4 : 0 ≤ x) (h5 : x ≤ 7) : refCanB k m o g 0 group x = true := by
  unfold refCanB whoB
  simp [h, h2, h3, h4, h5]
theorem rc_in {k m o g who group x d : Int} (h : chk k m o g = 0) (h0 : 0 ≤ who) (h1 : who ≤ 65535) (hw : ¬ who = 0) (h2 : 0 ≤ group) (h3 : group ≤ 65535) (h4 : 0 ≤ x) (h5 : x ≤ 7) (hd : gr m o g who group = d) : refCanB k m o g who group x = hasB d x := by
  unfold refCanB whoB
  simp [h, h0, h1, h2, h3, h4, h5, hw, hd]
end Go.Proofs.YtlpljedacohngaaGreatDoor
end
