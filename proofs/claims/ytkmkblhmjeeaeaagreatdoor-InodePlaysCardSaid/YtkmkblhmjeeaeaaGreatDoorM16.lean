/-
  The library's generic contracts at this program's numbers. Conditions: those of each contract.
-/
import Derived.Ground.SlmcProg
import Derived.Shelf.SlMaps.Clone
import Derived.Test.YtkmkblhmjeeaeaaGreatDoorProg
import Derived.Test.YtkmkblhmjeeaeaaGreatDoorM13
import Derived.Test.YtkmkblhmjeeaeaaGreatDoorM12
import Derived.Test.YtkmkblhmjeeaeaaGreatDoorM4
import Derived.LoopIn
section
namespace Go.Proofs
open Go.Shelf
def Tryz.cloneM_ren : Go.Shelf.Ren := ⟨fun | 5 => 52 | 7 => 83 | n => n, fun | 23 => 78 | 25 => 3 | 3 => 98 | 4 => 4 | 20 => 20 | n => n, fun | n => n⟩
theorem Tryz.cloneM : Go.Proofs.SlLaysW.n5 Tryz.prog Tryz.cloneM_ren := {
  mixed := by kernel_rfl
  f5 := ⟨Tryz.f52.name, by decide, Tryz.func52.trans (congrArg some (by kernel_rfl))⟩
  f7 := Tryz.func83.trans (congrArg some (by kernel_rfl))
  t4 := Tryz.underlying4
  a4 := Tryz.isAgg4
  z4 := Tryz.sizeOf4
  v4 := Tryz.zeroValue4
  t20 := Tryz.underlying20
  a20 := Tryz.isAgg20
  z20 := Tryz.sizeOf20
  v20 := Tryz.zeroValue20
  t23 := Tryz.underlying78
  a23 := Tryz.isAgg78
  z23 := Tryz.sizeOf78
  v23 := Tryz.zeroValue78 }
end Go.Proofs
end

/-
  behind: the table that changes make. Conditions: the log is at rest; the nodes lie in a map; the changes are right.
-/

section
set_option linter.unusedSimpArgs false
set_option linter.unusedVariables false
set_option maxRecDepth 100000
namespace Go.Proofs.YtkmkblhmjeeaeaaGreatDoor
open Go.RowKit Go.Maps Go.Shelf

/-- What the operations that put a change's node leave. -/
def PutV (M bx b0 : Nat) (x : Cv) (PB : Option Addr) (LB QB : Nat) (data : List B8) (i : Nat) (u : Value) (w : World) : Prop := match i with
  | 0 => u = .map (some M)
  | 1 => u = .pointer (some ⟨bx, 0, none⟩)
  | 2 => u = .int .i64 x.no
  | 3 => u = .pointer (some ⟨bx, 1, none⟩)
  | 4 => u = nodeV x.k x.m x.o x.g x.A x.n x.c
  | 5 => ∃ P' c', u = nodeV x.k x.m x.o x.g P' x.n c' ∧ Bts (fun q => b0 ≤ q) w (.slice P' x.n c') data
  | 6 => u = .slice PB LB QB
  | 7 => ∃ P' c', u = hval ⟨x.k, x.m, x.o, x.g, P', x.n, c', PB, LB, QB⟩ ∧ Bts (fun q => b0 ≤ q) w (.slice P' x.n c') data
  | _ => True
theorem PutV.st {M bx b0 : Nat} {x : Cv} {PB : Option Addr} {LB QB : Nat} {data : List B8} : ∀ i u w w', PutV M bx b0 x PB LB QB data i u w → Below w.heap.size w w' → PutV M bx b0 x PB LB QB data i u w' := by
  intro i u w w' h hr
  match i, h with
  | 0, h => exact h
  | 1, h => exact h
  | 2, h => exact h
  | 3, h => exact h
  | 4, h => exact h
  | 5, h => obtain ⟨P', c', h1, h2⟩ := h; exact ⟨P', c', h1, h2.below hr⟩
  | 6, h => exact h
  | 7, h => obtain ⟨P', c', h1, h2⟩ := h; exact ⟨P', c', h1, h2.below hr⟩
  | i + 8, _ => trivial
theorem TakePost.get_yes {p q K n : Nat} {fr : List Nat} {w w' : World} {e : Ending} (h : TakePost p q K fr n w e w') (hn : n ≤ fr.length) : ∃ P' l' q', e = .returned (.tuple #[.slice P' l' q', .int .i64 0]) ∧ Ns (fun g => w.heap.size ≤ g) w' (.slice P' l' q') (fr.take n) ∧ TakeIs w' p q K (fr.drop n) ∧ Only [p] w w' := by
  obtain ⟨h1, h2⟩ := h
  rw [if_pos hn] at h1
  obtain ⟨v, rfl, h3, h4⟩ := h1
  obtain ⟨P', q', rfl, _⟩ := h3.form
  exact ⟨P', _, q', rfl, h3, h4, h2⟩
theorem TakePost.get_no {p q K n : Nat} {fr : List Nat} {w w' : World} {e : Ending} (h : TakePost p q K fr n w e w') (hn : ¬ n ≤ fr.length) : e = .returned (.tuple #[.slice none 0 0, .int .i64 6]) ∧ Only [p] w w' := by
  obtain ⟨h1, h2⟩ := h
  rw [if_neg hn] at h1
  exact ⟨h1, h2⟩
theorem TakeIs.lt {w : World} {p q K : Nat} {fr : List Nat} (h : TakeIs w p q K fr) : p < w.heap.size := by
  obtain ⟨g, i, ow, h1, _⟩ := h
  exact h1.lt
theorem PutV.five {M bx b0 : Nat} {x : Cv} {PB : Option Addr} {LB QB : Nat} {data : List B8} {u : Value} {w : World} (h : PutV M bx b0 x PB LB QB data 5 u w) : ∃ P' c', u = nodeV x.k x.m x.o x.g P' x.n c' ∧ Bts (fun q => b0 ≤ q) w (.slice P' x.n c') data := h
theorem PutV.seven {M bx b0 : Nat} {x : Cv} {PB : Option Addr} {LB QB : Nat} {data : List B8} {u : Value} {w : World} (h : PutV M bx b0 x PB LB QB data 7 u w) : ∃ P' c', u = hval ⟨x.k, x.m, x.o, x.g, P', x.n, c', PB, LB, QB⟩ ∧ Bts (fun q => b0 ≤ q) w (.slice P' x.n c') data := h

/-- 'm[i] = v', the last operation of a drawn region. -/
theorem op_put_fill {A : Nat → Prop} {w : World} {M c : Nat} {f : Tab} {o : Oper} {Q : Exit → Act → World → Prop} {K : Act → World → Prop} {ds : List (Option Tmp)} {v : Nat → Value} {a0 : Act} (hap : apartR ds = true) (tm tx tv im ix iv : Nat)
    (em : ds[im]? = some (some tm)) (ex : ds[ix]? = some (some tx)) (ev : ds[iv]? = some (some tv)) (sm : decide (tm < a0.tmps.size) = true) (sx : decide (tx < a0.tmps.size) = true) (sv : decide (tv < a0.tmps.size) = true)
    (hop : o.op = Op.mapUpdate 78 (.tmp tm) (.tmp tx) (.tmp tv)) (h : TabIn A w M c f) (hc : c ≤ 1000000) (i : Nat) (hi : (i : Int) ≤ 9223372036854775807) (y : Hv) (hd : Hd) (hy : HIn A w y hd) (hm : v im = .map (some M)) (hx : v ix = .int .i64 i) (hv : v iv = hval y)
    (hK : ∀ w', TabIn A w' M (c + 1) (tset f i (some hd)) → w.mapTurned w' M → K ((fillR ds v 0 a0).put o.dst undef) w') : Oper.wp Tryz.prog o (fillR ds v 0 a0) w K Q :=
  op_put_tab (.tmp tm) (.tmp tx) (.tmp tv) hop h hc i hi y hd hy ((fill_eval ds v 0 a0 im tm hap em (of_decide_eq_true sm)).trans (by rw [Nat.zero_add]; exact hm)) ((fill_eval ds v 0 a0 ix tx hap ex (of_decide_eq_true sx)).trans (by rw [Nat.zero_add]; exact hx)) ((fill_eval ds v 0 a0 iv tv hap ev (of_decide_eq_true sv)).trans (by rw [Nat.zero_add]; exact hv)) hK
/-- How far the second round is: what is free yet, and the table. -/
def BhAt (A : Nat → Prop) (b0 p q K M c N : Nat) (f : Tab) (lc : List Ch) (i : Nat) (w : World) : Prop :=
  ∃ fr t, bfold (frees (cleared f lc) N K, cleared f lc) (lc.take i) = some (fr, t) ∧ TakeIs w p q K fr ∧ TabIn (fun g => g ≠ p ∧ (A g ∨ b0 ≤ g)) w M (c + i) t

/-- What behind answers. -/
def BehindPost (A : Nat → Prop) (w0 : World) (f : Tab) (N K c : Nat) (lc : List Ch) (e : Ending) (w : World) : Prop :=
  Below w0.heap.size w0 w ∧ match tabBehind f N K lc with
  | some g => ∃ M, e = .returned (.tuple #[.map (some M), .int .i64 0]) ∧ w0.heap.size ≤ M ∧ TabIn (fun q => A q ∨ w0.heap.size ≤ q) w M (c + lc.length) g
  | none => e = .returned (.tuple #[.map none, .int .i64 6])

set_option maxRecDepth 100000 in
set_option maxHeartbeats 16000000 in
theorem behind_any {ks : List B32} {B D0 L G n j N K : Nat} {S : Nat → List B8} {c0 : Nat} {w : World} {A : Nat → Prop} {A2 : Nat → Prop} {M c t : Nat} {f : Tab} (hL : Lg ks B D0 L G n j S c0 w) (hg : Geo n j N K) (hT : TabIn A w M c f) (hw : Wf f N K) (hA : ∀ q, A q → q < w.heap.size) (hc : c ≤ 1000)
    (ht : Blk w t 80 [.pointer (some ⟨G, 0, none⟩), .int .i64 (N : Int), .map (some M)]) {P : Option Addr} {len cap : Nat} {l : List Cv} {lc : List Ch} (hl : CvIn w P len l) (hlc : ChsIn A2 w l lc) (hgood : Good7 N lc) (hlen : len ≤ 1000) :
    Calls Tryz.prog 27 #[.pointer (some ⟨t, 0, none⟩), .slice P len cap] w fun e w' => BehindPost A w f N K c lc e w' := by
  obtain ⟨F, ⟨nn, D, hown, hnc, hD⟩, hF⟩ := hT
  have e0 : w.cell? ⟨t, 0, none⟩ = some (.pointer (some ⟨G, 0, none⟩)) := ht.cell 0
  have e1 : w.cell? ⟨t, 1, none⟩ = some (.int .i64 (N : Int)) := ht.cell 1
  have e2 : w.cell? ⟨t, 2, none⟩ = some (.map (some M)) := ht.cell 2
  have hN := hg.N1
  have hK1 : K ≤ 4096 := by have := hg.nn; have := hg.n1; omega
  have htl := ht.lt
  have HL := Lib.hid (And.intro hL (And.intro hg (And.intro ht (And.intro hl (And.intro hlc (And.intro hgood (And.intro hw (And.intro hl.len hA))))))))
  have HF := Lib.hid (And.intro hF (And.intro hD hnc))
  have HC := Lib.hid (AnyW.maps_Clone_owns Tryz.cloneM 3 RH M nn D w hown)
  clear hL hg ht hl hlc hgood hw hF hD hnc hown hA
  go_enter Tryz.func27, Tryz.ntmps27
  go_wp2_with (first
    | (go_at_call 52; refine HC.out.mono ?_; rintro e w1 ⟨rfl, h1, h2, h3⟩; have H1 := Lib.hid (And.intro (TabIn.copied (A := A) HF.out.1 HF.out.2.1 HF.out.2.2 h1 h3) h3); have hs1 := h1.lt; clear h1 h2 h3)
    | go_in)
  go_loopw [21] (fun iv wr => ∃ i : Nat, i ≤ len ∧ iv = .int .i64 i ∧ TabIn A wr w.heap.size c (cleared f (lc.take i)) ∧ Below w.heap.size w wr) (fun iv _ => len - (intOf iv).toNat)
  case atStart =>
    refine ⟨0, Nat.zero_le _, rfl, ?_, H1.out.2⟩
    have : cleared f (lc.take 0) = f := by funext i; simp [cleared]
    rw [this]
    exact H1.out.1
  case round =>
    clear H1 hs1
    obtain ⟨i, hi, rfl, htab, hbel⟩ := hrel
    have hs := hbel.size
    by_cases hlt : i < len
    · obtain ⟨g, o, rfl, hgl, hcc⟩ := (HL.out.2.2.2.1.below hbel).cells (by omega)
      obtain ⟨x, hx⟩ : ∃ x, l[i]? = some x := ⟨_, List.getElem?_eq_getElem (by have := HL.out.2.2.2.2.2.2.2.1; omega)⟩
      obtain ⟨c0, c1, c2, c3, c4, c5, c6⟩ := hcc i x hx
      obtain ⟨ch, hch, hci⟩ := HL.out.2.2.2.2.1.at_ hx
      have hno := HL.out.2.2.2.2.2.1.no ch (List.mem_of_getElem? hch)
      obtain ⟨q, hq⟩ : ∃ q : Nat, ch.no = q := ⟨ch.no.toNat, by omega⟩
      have hxq := hci.no.trans hq
      have hb1 := new_below wr (.cells #[.int .i64 x.no, .int .i64 x.k, .int .i64 x.m, .int .i64 x.o, .int .i64 x.g, .slice x.A x.n x.c, .bool x.drop] 44)
      have HX := Lib.hid (And.intro hch (And.intro hq (And.intro (htab.below hb1) (hbel.trans (hb1.mono hbel.size)))))
      have hqN : q < N := by omega
      clear hcc hx hci htab hbel hb1 hch hq hno
      obtain ⟨no, xk, xm, xo, xg, xA, xn, xc, xd⟩ := x
      dsimp only at c0 c1 c2 c3 c4 c5 c6 HX hxq
      subst hxq
      go_wp2_with (first
        | (at_delete; refine wp_del_tab rfl (.tmp 25) (.tmp 27) rfl HX.out.2.2.1 q (by omega) rfl rfl ?_; intro w5 h5 ht5; have H5 := Lib.hid (And.intro h5 (HX.out.2.2.2.trans (turned_below ht5 (Nat.le_refl _) HX.out.2.2.2.size))); clear h5 ht5)
        | go_in)
      go_roundw
      case rel =>
        refine ⟨i + 1, by omega, by go_num, ?_, H5.out.2⟩
        have h6 := HX.out.2.1
        rw [cleared_snoc HX.out.1 (by omega), show ch.no.toNat = q by omega]
        exact H5.out.1
      case measure => simp [intOf]; omega
    · obtain rfl : i = len := by omega
      rw [List.take_of_length_le (by have := HL.out.2.2.2.2.1.1; have := HL.out.2.2.2.2.2.2.2.1; omega)] at htab
      have H1 := Lib.hid (And.intro htab (And.intro hbel htab.lt))
      have HK := Lib.hid (taking_any (HL.out.1.below hbel) HL.out.2.1 htab (cleared_wf HL.out.2.2.2.2.2.2.1 lc))
      have e0' := cell_below e0 hbel
      have e1' := cell_below e1 hbel
      have e2' := cell_below e2 hbel
      clear htab hbel e0 e1 e2
      go_wp2_with (first
        | (go_at_call 53; refine HK.out.mono ?_; rintro e w2 ⟨p, q, rfl, hp, hT2, hB2⟩; have hs2 := hB2.size; have H2 := Lib.hid (And.intro hT2 (And.intro (H1.out.1.below hB2) (H1.out.2.1.trans (hB2.mono hs)))); clear hT2 hB2)
        | go_in)
      clear HK HF HC e0' e1' e2'
      generalize wr = w3 at *
      go_loopw [37] (fun iv wx => ∃ z : Nat, z ≤ i ∧ iv = .int .i64 z ∧ BhAt A w.heap.size p q K w.heap.size c N f lc z wx ∧ Below w.heap.size w wx) (fun iv _ => i - (intOf iv).toNat)
      case atStart =>
        exact ⟨0, Nat.zero_le _, rfl, ⟨_, _, by rw [List.take_zero]; rfl, H2.out.1, H2.out.2.1.mono (fun g hg _ => ⟨by have := HL.out.2.2.2.2.2.2.2.2 g hg; omega, .inl hg⟩) (by omega)⟩, H2.out.2.2⟩
      case round =>
        have hpw := H1.out.2.2
        clear H1 H2 hs2
        obtain ⟨z, hz, rfl, ⟨fr, tt, hfo, htk, htb⟩, hbel⟩ := hrel
        have hs := hbel.size
        by_cases hlt : z < i
        · obtain ⟨g, o, rfl, hgl, hcc⟩ := (HL.out.2.2.2.1.below hbel).cells (by omega)
          obtain ⟨x, hx⟩ : ∃ x, l[z]? = some x := ⟨_, List.getElem?_eq_getElem (by have := HL.out.2.2.2.2.2.2.2.1; omega)⟩
          obtain ⟨c0, c1, c2, c3, c4, c5, c6⟩ := hcc z x hx
          obtain ⟨ch, hch, hci⟩ := HL.out.2.2.2.2.1.at_ hx
          have hno := HL.out.2.2.2.2.2.1.no ch (List.mem_of_getElem? hch)
          have hok := HL.out.2.2.2.2.2.1.ok ch (List.mem_of_getElem? hch)
          obtain ⟨qn, hq⟩ : ∃ qn : Nat, ch.no = qn := ⟨ch.no.toNat, by omega⟩
          have hxq := hci.no.trans hq
          have hb1 := new_below wr (.cells #[.int .i64 x.no, .int .i64 x.k, .int .i64 x.m, .int .i64 x.o, .int .i64 x.g, .slice x.A x.n x.c, .bool x.drop] 44)
          have hk1 := Blk.new wr 44 [.int .i64 x.no, .int .i64 x.k, .int .i64 x.m, .int .i64 x.o, .int .i64 x.g, .slice x.A x.n x.c, .bool x.drop]
          have HX := Lib.hid (And.intro hch (And.intro hq (And.intro (htb.below hb1) (And.intro (hbel.trans (hb1.mono hbel.size)) (And.intro (htk.below hb1) (And.intro hfo (And.intro hci hk1)))))))
          have hqN : qn < N := by omega
          have hpl := htk.lt
          clear hcc hx htb hbel hb1 hk1 hch hq hno htk hfo
          cases hxd : x.drop with
          | true =>
            have hstep : Hid (bfold (frees (cleared f lc) N K, cleared f lc) (lc.take (z + 1)) = some (fr, tt)) := Lib.hid (by
              rw [bfold_snoc HX.out.1 HX.out.2.2.2.2.2.1]
              unfold bstep
              rw [if_pos (by rw [← hci.drop, hxd])])
            clear hci hok
            obtain ⟨no, xk, xm, xo, xg, xA, xn, xc, xd⟩ := x
            dsimp only at c0 c1 c2 c3 c4 c5 c6 HX hxq hxd
            subst hxq
            subst hxd
            go_wp2_with fail
            go_roundw
            case rel => exact ⟨z + 1, by omega, by go_num, ⟨_, _, hstep.out, HX.out.2.2.2.2.1, HX.out.2.2.1.mono (fun _ h _ => h) (by omega)⟩, HX.out.2.2.2.1⟩
            case measure => simp [intOf]; omega
          | false =>
            have hdr : ch.drop = false := by rw [← hci.drop, hxd]
            obtain ⟨hchk, hdl⟩ := hok hdr
            have hxn : ch.data.length = x.n := hci.data.cells.1
            have HD := Lib.hid (And.intro hci.data hdr)
            have HI := Lib.hid hci
            clear hci hok
            have hb2 := new_below wr (.cells #[.int .i64 x.no, .int .i64 x.k, .int .i64 x.m, .int .i64 x.o, .int .i64 x.g, .slice x.A x.n x.c, .bool x.drop] 44)
            have hxn3 : x.n ≤ 1073741824 := by omega
            have hblk : blks x.n ≤ 1000000 := by have := blks_8 (n := x.n) (by omega); omega
            by_cases hfit : blks x.n ≤ fr.length
            · have hstep : Hid (bfold (frees (cleared f lc) N K, cleared f lc) (lc.take (z + 1)) = some (fr.drop (blks x.n), tset tt ch.no.toNat (some (ch.hd (fr.take (blks x.n)))))) := Lib.hid (by
                rw [bfold_snoc HX.out.1 HX.out.2.2.2.2.2.1]
                unfold bstep
                rw [if_neg (by rw [HD.out.2]; decide), hxn, if_neg (by simp only; omega)])
              have hfitH := Lib.hid hfit
              clear hfit
              obtain ⟨no, xk, xm, xo, xg, xA, xn, xc, xd⟩ := x
              dsimp only at c0 c1 c2 c3 c4 c5 c6 HX hxq hxd hxn HD HI hb2 hxn3 hblk hfitH hstep
              subst hxq
              subst hxd
              have HT := Lib.hid (take_any _ p q K fr (blks xn) HX.out.2.2.2.2.1 hblk (by omega))
              clear hb2
              go_wp2_with (first
                | (go_at_call 38; refine (iblocks_any _ xn hxn3).mono ?_; rintro e w5 ⟨rfl, rfl⟩)
                | (go_at_call 84; refine HT.out.mono ?_; intro e w6 hTP; obtain ⟨PB, LB, QB, rfl, hns, htk6, ho6⟩ := hTP.get_yes hfitH.out; have H6 := Lib.hid (And.intro hns (And.intro htk6 ho6)); clear hTP hns htk6 ho6)
                | go_in)
              have hk6 := HX.out.2.2.2.2.2.2.2.only H6.out.2.2 (by simp; omega)
              obtain ⟨d0, d1, d2, d3, d4, d5, d6⟩ : w6.cell? ⟨wr.heap.size, 0, none⟩ = some (.int .i64 (qn : Int)) ∧ w6.cell? ⟨wr.heap.size, 1, none⟩ = some (.int .i64 xk) ∧ w6.cell? ⟨wr.heap.size, 2, none⟩ = some (.int .i64 xm) ∧ w6.cell? ⟨wr.heap.size, 3, none⟩ = some (.int .i64 xo) ∧ w6.cell? ⟨wr.heap.size, 4, none⟩ = some (.int .i64 xg) ∧ w6.cell? ⟨wr.heap.size, 5, none⟩ = some (.slice xA xn xc) ∧ w6.cell? ⟨wr.heap.size, 6, none⟩ = some (.bool false) := ⟨hk6.cell 0, hk6.cell 1, hk6.cell 2, hk6.cell 3, hk6.cell 4, hk6.cell 5, hk6.cell 6⟩
              have htab6 := Lib.hid (HX.out.2.2.1.only H6.out.2.2 (by simp; omega) (fun g hg => by simpa using hg.1))
              have hbel6 := Lib.hid (HX.out.2.2.2.1.trans (H6.out.2.2.below (B := w.heap.size) (by simp; omega) (by simp; omega)))
              have HC6 := Lib.hid hk6
              clear c0 c1 c2 c3 c4 c5 c6 HT hk6
              refine wp_hideQ ?_
              intro QQ hQQ
              refine wp_region_last [some 56, some 57, some 58, some 59, some 60, some 61, some 62, some 63, none] (fun i v wx => PutV w.heap.size wr.heap.size w6.heap.size ⟨(qn : Int), xk, xm, xo, xg, xA, xn, xc, false⟩ PB LB QB ch.data i (v i) wx) (fun wx => Below w6.heap.size w6 wx) (fun _ a b => Below a.heap.size a b) 8 (by kernel_rfl) rfl rfl rfl (by kernel_rfl) ?_ (drew_below w6) ?_ ?_ ?_ ?_
              · exact (by decide +kernel)
              · intro i v j u wx hV hj
                show PutV _ _ _ _ _ _ _ _ i (setV v j u i) wx
                unfold setV
                rw [if_neg (Ne.symm hj)]
                exact hV
              · intro i k v a b hk hV hr
                exact PutV.st _ _ _ _ hV hr
              · intro i hi
                match i, hi with
                | 0, _ =>
                  refine StepL.of rfl [] (by decide +kernel) ?_
                  intro v wx hR hd K hK
                  clear hd
                  simp only [List.getElem_toArray, List.getElem_cons_zero, List.getElem_cons_succ, fillR, Act.put, List.setIfInBounds_toArray, List.set_cons_zero, List.set_cons_succ] at hK ⊢
                  go_simp
                  exact hK.out _ _ hR (Below.refl _ _) rfl
                | 1, _ =>
                  refine StepL.of rfl [] (by decide +kernel) ?_
                  intro v wx hR hd K hK
                  clear hd
                  simp only [List.getElem_toArray, List.getElem_cons_zero, List.getElem_cons_succ, fillR, Act.put, List.setIfInBounds_toArray, List.set_cons_zero, List.set_cons_succ] at hK ⊢
                  go_simp
                  exact hK.out _ _ hR (Below.refl _ _) rfl
                | 2, _ =>
                  refine StepL.of rfl [1] (by decide +kernel) ?_
                  intro v wx hR hd K hK
                  have h1 : v 1 = _ := hd 1 (by simp)
                  have b0 := cell_below d0 hR
                  clear hd
                  simp only [List.getElem_toArray, List.getElem_cons_zero, List.getElem_cons_succ, fillR, Act.put, List.setIfInBounds_toArray, List.set_cons_zero, List.set_cons_succ, h1] at hK ⊢
                  go_simp
                  exact hK.out _ _ hR (Below.refl _ _) rfl
                | 3, _ =>
                  refine StepL.of rfl [] (by decide +kernel) ?_
                  intro v wx hR hd K hK
                  clear hd
                  simp only [List.getElem_toArray, List.getElem_cons_zero, List.getElem_cons_succ, fillR, Act.put, List.setIfInBounds_toArray, List.set_cons_zero, List.set_cons_succ] at hK ⊢
                  go_simp
                  exact hK.out _ _ hR (Below.refl _ _) rfl
                | 4, _ =>
                  refine StepL.of rfl [3] (by decide +kernel) ?_
                  intro v wx hR hd K hK
                  have h3 : v 3 = _ := hd 3 (by simp)
                  have b1 := cell_below d1 hR
                  have b2 := cell_below d2 hR
                  have b3 := cell_below d3 hR
                  have b4 := cell_below d4 hR
                  have b5 := cell_below d5 hR
                  clear hd
                  simp only [List.getElem_toArray, List.getElem_cons_zero, List.getElem_cons_succ, fillR, Act.put, List.setIfInBounds_toArray, List.set_cons_zero, List.set_cons_succ, h3] at hK ⊢
                  go_simp
                  exact hK.out _ _ hR (Below.refl _ _) rfl
                | 5, _ =>
                  refine StepL.of rfl [4] (by decide +kernel) ?_
                  intro v wx hR hd K hK
                  have h4 : v 4 = _ := hd 4 (by simp)
                  have HB := Lib.hid ((HD.out.1.below hbel6.out).below hR)
                  clear hd
                  simp only [List.getElem_toArray, List.getElem_cons_zero, List.getElem_cons_succ, fillR, Act.put, List.setIfInBounds_toArray, List.set_cons_zero, List.set_cons_succ, h4] at hK ⊢
                  go_simp
                  refine (copied_any _ A2 xk xm xo xg xA xn xc ch.data HB.out (by omega)).mono ?_
                  rintro e w' ⟨P', c', rfl, hBt, hnil, hW⟩
                  have hq := hK.out (nodeV xk xm xo xg P' xn c') w' (hR.trans (hW.mono hR.size)) hW ⟨P', c', rfl, hBt.mono (fun q hq _ => Nat.le_trans hR.size hq)⟩
                  clear hK hW hBt hnil
                  go_wp2_with fail
                  exact hq
                | 6, _ =>
                  refine StepL.of rfl [] (by decide +kernel) ?_
                  intro v wx hR hd K hK
                  clear hd
                  simp only [List.getElem_toArray, List.getElem_cons_zero, List.getElem_cons_succ, fillR, Act.put, List.setIfInBounds_toArray, List.set_cons_zero, List.set_cons_succ] at hK ⊢
                  go_simp
                  exact hK.out _ _ hR (Below.refl _ _) rfl
                | 7, _ =>
                  refine StepL.of rfl [5, 6] (by decide +kernel) ?_
                  intro v wx hR hd K hK
                  have hq5 : PutV w.heap.size wr.heap.size w6.heap.size ⟨(qn : Int), xk, xm, xo, xg, xA, xn, xc, false⟩ PB LB QB ch.data 5 (v 5) wx := hd 5 List.mem_cons_self
                  obtain ⟨P', c', h5, hB5⟩ := hq5.five
                  have h6 : v 6 = _ := hd 6 (by simp)
                  have HV := Lib.hid hB5
                  clear hd hq5 hB5
                  simp only [List.getElem_toArray, List.getElem_cons_zero, List.getElem_cons_succ, fillR, Act.put, List.setIfInBounds_toArray, List.set_cons_zero, List.set_cons_succ, h5, h6] at hK ⊢
                  go_simp
                  exact hK.out _ _ hR (Below.refl _ _) ⟨P', c', rfl, HV.out⟩
                | i + 8, h => omega
              · refine LastL.plain (fun o ho => by simp only [List.getElem?_toArray, List.getElem?_cons_succ, List.getElem?_cons_zero, Option.some.injEq] at ho; subst ho; rfl) ?_
                intro o9 ho v wx hR hV K hK
                have h0 : v 0 = _ := hV 0 (by omega)
                have h2 : v 2 = _ := hV 2 (by omega)
                have hq7 : PutV w.heap.size wr.heap.size w6.heap.size ⟨(qn : Int), xk, xm, xo, xg, xA, xn, xc, false⟩ PB LB QB ch.data 7 (v 7) wx := hV 7 (by omega)
                obtain ⟨P', c', h7, hB7⟩ := hq7.seven
                have HV := Lib.hid (And.intro hB7 hR)
                have hszx := hR.size
                clear hq7 hB7 hV hR
                simp only [List.getElem?_toArray, List.getElem?_cons_succ, List.getElem?_cons_zero, Option.some.injEq] at ho
                subst ho
                have hs6 := H6.out.2.2.size
                simp only [World.size_alloc] at hs6
                have hin : HIn (fun g => g ≠ p ∧ (A g ∨ w.heap.size ≤ g)) wx ⟨xk, xm, xo, xg, P', xn, c', PB, LB, QB⟩ (ch.hd (fr.take (blks xn))) :=
                  ⟨HI.out.k, HI.out.m, HI.out.o, HI.out.g, HV.out.1.mono (fun q hq _ => ⟨by omega, .inr (by omega)⟩), (H6.out.1.mono (fun q hq _ => ⟨by simp at hq; omega, .inr (by simp at hq; omega)⟩)).below HV.out.2⟩
                have hcz : c + z ≤ 1000000 := by omega
                have hqb : (qn : Int) ≤ 9223372036854775807 := by omega
                have htb8 := htab6.out.below HV.out.2
                with_reducible refine op_put_fill (A := fun g => g ≠ p ∧ (A g ∨ w.heap.size ≤ g)) (M := w.heap.size) (c := c + z) (f := tt) ?_ 56 58 63 0 2 7 ?_ ?_ ?_ ?_ ?_ ?_ ?_ htb8 hcz qn hqb ⟨xk, xm, xo, xg, P', xn, c', PB, LB, QB⟩ (ch.hd (fr.take (blks xn))) hin ?_ ?_ ?_ ?_
                · kernel_rfl
                · rfl
                · rfl
                · rfl
                · kernel_rfl
                · kernel_rfl
                · kernel_rfl
                · rfl
                · exact h0
                · exact h2
                · exact h7
                intro w8 h8 ht8
                have H8 := Lib.hid (And.intro h8 ((hbel6.out.trans (HV.out.2.mono (by have := hbel6.out.size; omega))).trans (turned_below ht8 (Nat.le_refl _) (by have := hbel6.out.size; omega))))
                have HT8 := Lib.hid (TakeIs.keep H6.out.2.1 (w' := w8) fun g t cs hb => (hb.below HV.out.2 hb.lt).turned ht8)
                clear h8 ht8 hin
                refine hK.out undef w8 (hQQ _ _ _ ?_)
                clear hK h0 h2 h7
                simp only [fillR, Act.put, List.setIfInBounds_toArray, List.set_cons_zero, List.set_cons_succ]
                go_wp2_with fail
                go_roundw
                case rel => exact ⟨z + 1, by omega, by go_num, ⟨_, _, hstep.out, HT8.out, by rw [show ch.no.toNat = qn by have := HX.out.2.1; omega]; exact H8.out.1⟩, H8.out.2⟩
                case measure => simp [intOf]; omega
            · have hnone : Hid (tabBehind f N K lc = none) := Lib.hid (by
                unfold tabBehind
                rw [bfold_none HX.out.1 HX.out.2.2.2.2.2.1 (by
                  unfold bstep
                  rw [if_neg (by rw [HD.out.2]; decide), hxn, if_pos (by simp only; omega)])]
                rfl)
              have hfitH := Lib.hid hfit
              clear hfit
              obtain ⟨no, xk, xm, xo, xg, xA, xn, xc, xd⟩ := x
              dsimp only at c0 c1 c2 c3 c4 c5 c6 HX hxq hxd hxn HD HI hb2 hxn3 hblk hfitH
              subst hxq
              subst hxd
              have HT := Lib.hid (take_any _ p q K fr (blks xn) HX.out.2.2.2.2.1 hblk (by omega))
              clear hb2
              go_wp2_with (first
                | (go_at_call 38; refine (iblocks_any _ xn hxn3).mono ?_; rintro e w5 ⟨rfl, rfl⟩)
                | (go_at_call 84; refine HT.out.mono ?_; intro e w6 hTP; obtain ⟨rfl, ho6⟩ := hTP.get_no hfitH.out; have H6 := Lib.hid ho6; clear hTP ho6)
                | go_in)
              go_ret2
              refine ⟨HX.out.2.2.2.1.trans (H6.out.below (B := w.heap.size) (by simp; omega) (by simp; omega)), ?_⟩
              rw [hnone.out]
              rfl
        · obtain rfl : z = i := by omega
          have hall : tabBehind f N K lc = some tt := by
            unfold tabBehind
            rw [List.take_of_length_le (by have := HL.out.2.2.2.2.1.1; have := HL.out.2.2.2.2.2.2.2.1; omega)] at hfo
            rw [hfo]
            rfl
          have hz' : z = lc.length := by have := HL.out.2.2.2.2.1.1; have := HL.out.2.2.2.2.2.2.2.1; omega
          have HE := Lib.hid (And.intro hall (And.intro hbel (And.intro htb hz')))
          clear hall hbel htb htk hfo hz'
          go_wp2_with fail
          go_ret2
          refine ⟨HE.out.2.1, ?_⟩
          rw [HE.out.1]
          exact ⟨_, rfl, Nat.le_refl _, HE.out.2.2.1.mono (fun g h _ => h.2) (by have := HE.out.2.2.2; omega)⟩
end Go.Proofs.YtkmkblhmjeeaeaaGreatDoor
end

/-
  A table of nodes: what it is, and what Get and Nodes tell. Conditions: the log is at rest; the nodes lie in a map.
-/

section
set_option linter.unusedSimpArgs false
set_option linter.unusedVariables false
set_option maxRecDepth 100000
namespace Go.Proofs.YtkmkblhmjeeaeaaGreatDoor
open Go.RowKit Go.Maps

/-- A table: its log, its nodes, and where they lie. -/
structure Tb (ks : List B32) (B D L G n j N K : Nat) (S : Nat → List B8) (c : Nat) (A : Nat → Prop) (t M cm : Nat) (f : Tab) (w : World) : Prop where
  lg : Lg ks B D L G n j S c w
  geo : Geo n j N K
  tab : TabIn A w M cm f
  wf : Wf f N K
  blk : Blk w t 80 [.pointer (some ⟨G, 0, none⟩), .int .i64 (N : Int), .map (some M)]
section
variable {ks : List B32} {B D L G n j N K : Nat} {S : Nat → List B8} {c : Nat} {A : Nat → Prop} {t M cm : Nat} {f : Tab} {w w' : World}
theorem Tb.below (h : Tb ks B D L G n j N K S c A t M cm f w) (hs : Below w.heap.size w w') : Tb ks B D L G n j N K S c A t M cm f w' := ⟨h.lg.below hs, h.geo, h.tab.below hs, h.wf, h.blk.below hs h.blk.lt⟩
end

theorem Bts.only {A : Nat → Prop} {w w' : World} {v : Value} {xs : List B8} {S : List Nat} (h : Bts A w v xs) (ho : Only S w w') (hA : ∀ g, A g → g ∉ S) : Bts A w' v xs := by
  rcases h with h | ⟨g, o, cap, t, cs, e, hg, hn, hb, hx, h1, h2⟩
  · exact .inl h
  · exact .inr ⟨g, o, cap, t, cs, e, hg, hn, hb.only ho (hA g hg), hx, h1, h2⟩
set_option maxRecDepth 100000 in
set_option maxHeartbeats 1000000 in
theorem get_yes {A : Nat → Prop} {w : World} {t M cm N G : Nat} {f : Tab} (hT : TabIn A w M cm f) (ht : Blk w t 80 [.pointer (some ⟨G, 0, none⟩), .int .i64 (N : Int), .map (some M)]) {i : Nat} {h : Hd} (hi : i ≤ 1000000) (hf : f i = some h) (hd : h.data.length ≤ 512) :
    Calls Tryz.prog 14 #[.pointer (some ⟨t, 0, none⟩), .int .i64 i] w fun e w' => ∃ P' c', e = .returned (.tuple #[nodeV h.k h.m h.o h.g P' h.data.length c', .int .i64 0]) ∧ Bts (fun q => w.heap.size ≤ q) w' (.slice P' h.data.length c') h.data ∧ (h.data = [] → P' = none ∧ c' = 0) ∧ Below w.heap.size w w' := by
  have e2 : w.cell? ⟨t, 2, none⟩ = some (.map (some M)) := ht.cell 2
  have htl := ht.lt
  obtain ⟨F, hM, hF⟩ := hT
  have hFi := hF i
  rw [hf] at hFi
  obtain ⟨x, hx, hin⟩ := hFi
  obtain ⟨xk, xm, xo, xg, xA, xn, xc, xP, xl, xq⟩ := x
  obtain rfl : xk = h.k := hin.k
  obtain rfl : xm = h.m := hin.m
  obtain rfl : xo = h.o := hin.o
  obtain rfl : xg = h.g := hin.g
  have hlen : h.data.length = xn := hin.data.cells.1
  have hdt : Bts A w (.slice xA xn xc) h.data := hin.data
  rw [hlen] at hd ⊢
  obtain ⟨hk, hm, ho, hg, hdat, hbl⟩ := h
  dsimp only at hdt hx ⊢
  have hb1 := new_below w (.cells #[.int .i64 0, .int .i64 0, .int .i64 0, .int .i64 0, .slice none 0 0] 42)
  have hk1 := Blk.new w 42 [.int .i64 0, .int .i64 0, .int .i64 0, .int .i64 0, .slice none 0 0]
  have hb2 := below_of hb1 (new_below (w.alloc (.cells #[.int .i64 0, .int .i64 0, .int .i64 0, .int .i64 0, .slice none 0 0] 42)) (.cells #[.int .i64 hk, .int .i64 hm, .int .i64 ho, .int .i64 hg, .slice xA xn xc, .slice xP xl xq] 98))
  have hk2 := hk1.alloc (.cells #[.int .i64 hk, .int .i64 hm, .int .i64 ho, .int .i64 hg, .slice xA xn xc, .slice xP xl xq] 98)
  have HX := Lib.hid (And.intro hM (And.intro hx (And.intro (hdt.below hb2) (And.intro hb2 hk2))))
  have hm1 : MapIs (w.alloc (.cells #[.int .i64 0, .int .i64 0, .int .i64 0, .int .i64 0, .slice none 0 0] 42)) M cm F := hM.below hb1
  have HM := Lib.hid hm1
  clear hM hF hx hin hlen hdt hb1 hk1 hb2 hk2 ht hm1
  go_enter Tryz.func14, Tryz.ntmps14
  go_wp2_with (first
    | (at_lookup; refine wp_look_yes rfl (.tmp 15) (.tmp 16) rfl HM.out i (by omega) ⟨hk, hm, ho, hg, xA, xn, xc, xP, xl, xq⟩ HX.out.2.1 rfl rfl ?_)
    | (go_at_call 39; refine (copied_any _ A hk hm ho hg xA xn xc hdat HX.out.2.2.1 (by omega)).mono ?_; rintro e w5 ⟨P', c', rfl, hB, hnil, hW⟩; have H5 := Lib.hid (And.intro hB (And.intro hnil (And.intro (HX.out.2.2.2.2.below hW HX.out.2.2.2.2.lt) (below_of HX.out.2.2.2.1 hW)))); clear hB hnil hW)
    | (refine wpList_store_blk rfl 42 (.tmp 4) (.tmp 25) rfl w.heap.size 0 [.int .i64 hk, .int .i64 hm, .int .i64 ho, .int .i64 hg, .slice P' xn c'] rfl rfl H5.out.2.2.1 (by simp) node_size (node_cells _ _ _ _ _ _ _) ?_; intro w6 hA6 hO6)
    | go_in)
  rw [over_whole (by simp)] at hA6
  obtain ⟨d0, d1, d2, d3, d4⟩ := five_cells hA6
  have hb6 := hO6.below (B := w.heap.size) (by have := H5.out.2.2.2.size; omega) (by simp)
  have hbt := Bts.only H5.out.1 hO6 (fun g hg => by simp; intro e; subst e; have := H5.out.2.2.2.size; simp at hg; omega)
  refine bodyPost_ret (v := .tuple #[nodeV hk hm ho hg P' xn c', .int .i64 0]) (by simp [results, Tryz.results14, go_sem, d0, d1, d2, d3, d4]) rfl ⟨P', c', rfl, hbt.mono (fun q hq _ => by simp at hq; omega), H5.out.2.1, H5.out.2.2.2.trans hb6⟩

set_option maxRecDepth 100000 in
set_option maxHeartbeats 1000000 in
theorem get_no {A : Nat → Prop} {w : World} {t M cm N G : Nat} {f : Tab} (hT : TabIn A w M cm f) (ht : Blk w t 80 [.pointer (some ⟨G, 0, none⟩), .int .i64 (N : Int), .map (some M)]) (no : Int) (h0 : -9223372036854775808 ≤ no) (h1 : no ≤ 9223372036854775807) (hf : ∀ i : Nat, no = (i : Int) → f i = none) :
    Calls Tryz.prog 14 #[.pointer (some ⟨t, 0, none⟩), .int .i64 no] w fun e w' => e = .returned (.tuple #[nodeV 0 0 0 0 none 0 0, .int .i64 7]) ∧ Below w.heap.size w w' := by
  have e2 : w.cell? ⟨t, 2, none⟩ = some (.map (some M)) := ht.cell 2
  have htl := ht.lt
  obtain ⟨F, hM, hF⟩ := hT
  have hFn : ∀ i : Nat, no = (i : Int) → F i = none := fun i hi => by
    have := hF i
    rw [hf i hi] at this
    exact this
  have hb1 := new_below w (.cells #[.int .i64 0, .int .i64 0, .int .i64 0, .int .i64 0, .slice none 0 0] 42)
  have hb2 := below_of hb1 (new_below (w.alloc (.cells #[.int .i64 0, .int .i64 0, .int .i64 0, .int .i64 0, .slice none 0 0] 42)) (.cells #[.int .i64 0, .int .i64 0, .int .i64 0, .int .i64 0, .slice none 0 0, .slice none 0 0] 98))
  have hk2 := (Blk.new w 42 [.int .i64 0, .int .i64 0, .int .i64 0, .int .i64 0, .slice none 0 0]).alloc (.cells #[.int .i64 0, .int .i64 0, .int .i64 0, .int .i64 0, .slice none 0 0, .slice none 0 0] 98)
  have HM := Lib.hid (And.intro (hM.below hb1) (And.intro hFn hb2))
  clear hM hF ht hf hFn hb1 hb2
  go_enter Tryz.func14, Tryz.ntmps14
  go_wp2_with (first
    | (at_lookup; refine wp_look_no rfl (.tmp 15) (.tmp 16) rfl HM.out.1 no h0 h1 HM.out.2.1 rfl rfl ?_; unfold hv0)
    | go_in)
  obtain ⟨d0, d1, d2, d3, d4⟩ := five_cells hk2
  refine bodyPost_ret (v := .tuple #[nodeV 0 0 0 0 none 0 0, .int .i64 7]) (by simp [results, Tryz.results14, go_sem, d0, d1, d2, d3, d4]) rfl ⟨rfl, HM.out.2.2⟩

/-- A step of a range over nodes. -/
theorem wp_next_held {w : World} {ops : Array Oper} {rest : List Oper} {o : Oper} {a : Act} {Q : Exit → Act → World → Prop} {A : Nat → Prop} {w0 : World} {r M : Nat} {D : DataW Hv} {left : Lit → Bool} {cnt n : Nat} {F : Nat → Option Hv} {f : Tab} {N K : Nat}
    (hg : o.guard = none) (it : Operand) (hop : o.op = Op.next it false) (hit : a.eval it = .pointer (some ⟨r, 0, none⟩)) (h1 : w.ranges Tryz.prog 3 RH M r n D left cnt) (h5 : Below w0.heap.size w0 w) (hD : Reads D F) (hF : ∀ i, match f i with | none => F i = none | some h => ∃ x, F i = some x ∧ HIn A w0 x h) (hw : Wf f N K) (hr : w0.heap.size ≤ r)
    (hDone : (∀ kl, left kl = false) → wpList Tryz.prog ops Q rest (a.put o.dst (.tuple #[.bool false])) w)
    (hMore : ∀ (i : Nat) (x : Hv) (hd : Hd) (w' : World) (cnt' : Nat), i < N → f i = some hd → left (.int .i64 (i : Int)) = true → HIn A w0 x hd → w'.ranges Tryz.prog 3 RH M r n D (fun z => left z && !z.sameKey (.int .i64 (i : Int))) cnt' → Below w0.heap.size w0 w' → cnt' < cnt → (Instr.entry (.pointer (some ⟨r, 0, none⟩))).run Tryz.prog w' = .ok (.tuple #[.int .i64 (i : Int), hval x]) w' → w'.rangeLeft M r < w.rangeLeft M r → wpList Tryz.prog ops Q rest (a.put o.dst (.tuple #[.bool true, .int .i64 (i : Int), hval x])) w') :
    wpList Tryz.prog ops Q (o :: rest) a w := by
  refine wpList_next_ranges w hg it hop 3 ikey RH (Value.int .i64) hval (fun key kl hk => by obtain ⟨x, e, _⟩ := Maps.keyOf_int_inv Tryz.underlying3 hk; exact ⟨x, e⟩) (fun v y hv => by obtain ⟨x, e, _⟩ := RH_inv hv; exact ⟨x, e⟩) M r n D left cnt hit h1 (fun _ hl => hDone hl) ?_
  intro x z kl y w' cnt' hkey hlk hv hat hrg hlt hgr hsz hen
  obtain ⟨x', ex, rfl, hwf⟩ := Maps.keyOf_int_inv Tryz.underlying3 hkey
  cases ex
  obtain ⟨z', ez, hy⟩ := RH_inv hv
  have hzz : z' = z := by
    obtain ⟨k1, k2, k3, k4, k5, k6, k7, k8, k9, k10⟩ := z
    obtain ⟨j1, j2, j3, j4, j5, j6, j7, j8, j9, j10⟩ := z'
    simp only [hval, Value.agg.injEq] at ez
    simp at ez
    obtain ⟨rfl, rfl, rfl, rfl, ⟨rfl, rfl, rfl⟩, rfl, rfl, rfl⟩ := ez
    rfl
  subst hzz
  have hhas : Maps.has D (.int .i64 x) = true := has_true_of_atKey hat
  obtain ⟨i, rfl, v, hFi⟩ := (hD.has x).1 hhas
  have hvz : v = z' := by
    have e1 := hD.at_ i v (.held v) hFi
    have e2 := hat (.held v)
    rw [e1, hy] at e2
    cases e2
    rfl
  subst hvz
  obtain ⟨hd, hfi, hin⟩ := TabIn.some_ hF hFi
  have hiN : i < N := by
    rcases Nat.lt_or_ge i N with h | h
    · exact h
    · rw [hw.out i h] at hfi
      cases hfi
  exact hMore i v hd w' cnt' hiN hfi hlk hin hrg (h5.grown hgr h5.size (fun q hq => by cases hq; exact hr)) hlt hen (by rw [hrg.left_eq, h1.left_eq]; exact hlt)

/-- The blocks of the nodes that have come. -/
def cameN (f : Tab) (left : Lit → Bool) : Nat → Nat
  | 0 => 0
  | N + 1 => cameN f left N + match f N with
    | some h => if left (.int .i64 (N : Int)) = true then 0 else blks h.data.length
    | none => 0
theorem cameN_all {f : Tab} {left : Lit → Bool} (hl : ∀ k, left k = false) : ∀ N, cameN f left N = usedN f N
  | 0 => rfl
  | N + 1 => by
    unfold cameN usedN
    rw [cameN_all hl N]
    cases f N with
    | none => rfl
    | some h => simp [hl]
theorem cameN_none {f : Tab} {left : Lit → Bool} (hl : ∀ (i : Nat) h, f i = some h → left (.int .i64 (i : Int)) = true) : ∀ N, cameN f left N = 0
  | 0 => rfl
  | N + 1 => by
    unfold cameN
    rw [cameN_none hl N]
    cases hf : f N with
    | none => rfl
    | some h => simp [hl N h hf]
theorem cameN_step {f : Tab} {left : Lit → Bool} {i : Nat} {h : Hd} (hf : f i = some h) (hl : left (.int .i64 (i : Int)) = true) : ∀ N, cameN f (fun z => left z && !z.sameKey (.int .i64 (i : Int))) N = cameN f left N + if i < N then blks h.data.length else 0
  | 0 => by simp [cameN]
  | N + 1 => by
    unfold cameN
    rw [cameN_step hf hl N]
    by_cases hi : i = N
    · subst hi
      rw [hf]
      simp [hl, Lit.sameKey]
    · have hk : (Lit.int .i64 (N : Int)).sameKey (.int .i64 (i : Int)) = false := sameKey_ne (lit_ne (by omega))
      simp only [hk, Bool.not_false, Bool.and_true]
      by_cases h1 : i < N
      · rw [if_pos h1, if_pos (by omega)]; omega
      · rw [if_neg h1, if_neg (by omega)]; omega
theorem cameN_le {f : Tab} {left : Lit → Bool} : ∀ N, cameN f left N ≤ usedN f N
  | 0 => Nat.le_refl _
  | N + 1 => by
    unfold cameN usedN
    have := cameN_le (f := f) (left := left) N
    cases f N with
    | none => omega
    | some h => simp only; split <;> omega

/-- Where Room's range stands. -/
def RmAt (w : World) (r M nn K N : Nat) (D : DataW Hv) (f : Tab) (v : Value) (wr : World) : Prop := ∃ left cnt, wr.ranges Tryz.prog 3 RH M r nn D left cnt ∧ Below w.heap.size w wr ∧ v = .int .i64 ((K : Int) - (cameN f left N : Int))

set_option maxRecDepth 100000 in
set_option maxHeartbeats 2000000 in
theorem troom_any {ks : List B32} {B D0 L G n j N K : Nat} {S : Nat → List B8} {c0 : Nat} {w : World} {A : Nat → Prop} {M c t : Nat} {f : Tab} (hT : Tb ks B D0 L G n j N K S c0 A t M c f w) :
    Calls Tryz.prog 19 #[.pointer (some ⟨t, 0, none⟩)] w fun e w' => e = .returned (.int .i64 ((K : Int) - (usedN f N : Int))) ∧ Below w.heap.size w w' := by
  have e0 : w.cell? ⟨t, 0, none⟩ = some (.pointer (some ⟨G, 0, none⟩)) := hT.blk.cell 0
  have e1 : w.cell? ⟨t, 1, none⟩ = some (.int .i64 (N : Int)) := hT.blk.cell 1
  have e2 : w.cell? ⟨t, 2, none⟩ = some (.map (some M)) := hT.blk.cell 2
  have htl := hT.blk.lt
  have HK := Lib.hid (lblocks_any hT.lg hT.geo)
  have hle := frees_length hT.wf
  have hK1 : K ≤ 4096 := by have := hT.geo.nn; have := hT.geo.n1; omega
  have hu : usedN f N ≤ K := by omega
  obtain ⟨F, ⟨nn, D, hown, hnc, hD⟩, hF⟩ := hT.tab
  have hMl := hown.lt
  have HT := Lib.hid (And.intro hF (And.intro hD (And.intro hT.wf hown)))
  clear hT hle hF hD hown hnc
  go_enter Tryz.func19, Tryz.ntmps19
  go_wp2_with (first
    | (go_at_call 44; refine HK.out.mono ?_; rintro e w2 ⟨rfl, hW⟩; have d2 := cell_below e2 hW; have hs2 := hW.size; have H3 := Lib.hid hW; clear hW e0 e1 e2)
    | (at_range; refine wpList_range_own _ rfl _ _ rfl 3 98 ikey Tryz.underlying78 RH M nn D rfl (ownsMap_block HT.out.2.2.2 (H3.out.block M hMl)) ?_; intro w4 hrg hg4 hs4; have H4 := Lib.hid (And.intro hrg (H3.out.grown hg4 H3.out.size (fun q hq => by cases hq))); clear hrg hg4 hs4 H3)
    | go_in)
  go_frame
  obtain ⟨r, hrz⟩ : ∃ r, w2.heap.size = r := ⟨_, rfl⟩
  rw [hrz] at H4 hs2 ⊢
  clear hrz
  go_loopw [3] (fun v wr => RmAt w r M nn K N D f v wr) (fun _ wr => wr.rangeLeft M r)
  case atStart =>
    refine ⟨_, _, H4.out.1, H4.out.2, ?_⟩
    rw [cameN_none (fun i h hf => ?_)]
    · simp
    · have := HT.out.1 i
      rw [hf] at this
      obtain ⟨x, hx, _⟩ := this
      exact HT.out.2.1.has_yes hx
  case round =>
    obtain ⟨left, cnt, hk, hb, rfl⟩ := hrel
    clear H4
    go_wp2_with (first
      | (at_next; refine wp_next_held rfl (.tmp 17) rfl rfl hk hb HT.out.2.1 HT.out.1 HT.out.2.2.1 hs2 ?_ ?_)
      | go_in)
    · intro hl0
      have HE := Lib.hid (And.intro hb hl0)
      clear hk hb hl0
      go_wp2_with fail
      go_ret
      exact ⟨by rw [cameN_all HE.out.2]; rfl, HE.out.1⟩
    · intro i x hd w5 cnt5 hi hfi hli hin hk5 hb5 hlt5 hen hms
      have hbl := HT.out.2.2.1.ok i hd hfi
      have hxl := hin.bl.len
      have hstep := cameN_step (left := left) hfi hli N
      rw [if_pos hi] at hstep
      have hle1 := cameN_le (f := f) (left := fun z => left z && !z.sameKey (.int .i64 (i : Int))) N
      have hblen := hbl.2.2.1
      have HE := Lib.hid (And.intro hk5 (And.intro hb5 (And.intro hms hstep)))
      have hq : cameN f left N + x.l ≤ 4096 := by omega
      have hxq : x.l = blks hd.data.length := by omega
      have HQ := Lib.hid hxq
      generalize hz : cameN f left N = z at *
      have HZ := Lib.hid hz
      clear hk hb hfi hli hk5 hb5 hlt5 hms hbl hstep hle1 hblen hin hxl hxq hz
      obtain ⟨xk, xm, xo, xg, xA, xn, xc, xP, xl, xq⟩ := x
      dsimp only at hen hq HQ
      go_wp2_with fail
      refine ⟨⟨_, _, HE.out.1.alloc _, HE.out.2.1.trans ((new_below w5 _).mono HE.out.2.1.size), ?_⟩, ?_⟩
      · have h1 := HE.out.2.2.2
        have h2 := HQ.out
        rw [h1]
        go_num
      · rw [(HE.out.1.alloc _).left_eq, ← HE.out.1.left_eq]
        exact HE.out.2.2.1

theorem tnodes_any {w : World} {t G N : Nat} {m : Value} (ht : Blk w t 80 [.pointer (some ⟨G, 0, none⟩), .int .i64 (N : Int), m]) :
    Calls Tryz.prog 17 #[.pointer (some ⟨t, 0, none⟩)] w fun e w' => e = .returned (.int .i64 (N : Int)) ∧ w = w' := by
  have e1 : w.cell? ⟨t, 1, none⟩ = some (.int .i64 (N : Int)) := ht.cell 1
  clear ht
  go_enter Tryz.func17, Tryz.ntmps17
  go_wp2_with fail
  go_ret
  exact ⟨rfl, rfl⟩
theorem tnodes_nil (w : World) : Calls Tryz.prog 17 #[.pointer none] w fun e w' => e = .returned (.int .i64 0) ∧ w = w' := by
  go_enter Tryz.func17, Tryz.ntmps17
  go_wp2_with fail
  go_ret
  exact ⟨rfl, rfl⟩
theorem troom_nil (w : World) : Calls Tryz.prog 19 #[.pointer none] w fun e w' => e = .returned (.int .i64 0) ∧ w = w' := by
  go_enter Tryz.func19, Tryz.ntmps19
  go_wp2_with fail
  go_ret
  exact ⟨rfl, rfl⟩
theorem tused_nil (w : World) : Calls Tryz.prog 18 #[.pointer none] w fun e w' => e = .returned (.slice none 0 0) ∧ w = w' := by
  go_enter Tryz.func18, Tryz.ntmps18
  go_wp2_with fail
  go_ret
  exact ⟨rfl, rfl⟩
theorem tfree_nil (w : World) (v : Value) : Calls Tryz.prog 15 #[.pointer none, v] w fun e w' => e = .returned (.tuple #[.int .i64 0, .int .i64 16]) ∧ w = w' := by
  go_enter Tryz.func15, Tryz.ntmps15
  go_wp2_with fail
  go_ret2
  exact ⟨rfl, rfl⟩
theorem tapply_nil (w : World) (v : Value) : Calls Tryz.prog 9 #[.pointer none, v] w fun e w' => e = .returned (.int .i64 16) ∧ w = w' := by
  go_enter Tryz.func9, Tryz.ntmps9
  go_wp2_with fail
  go_ret
  exact ⟨rfl, rfl⟩
theorem tget_nil (w : World) (no : Int) : Calls Tryz.prog 14 #[.pointer none, .int .i64 no] w fun e w' => e = .returned (.tuple #[nodeV 0 0 0 0 none 0 0, .int .i64 16]) ∧ Below w.heap.size w w' := by
  have hb1 := new_below w (.cells #[.int .i64 0, .int .i64 0, .int .i64 0, .int .i64 0, .slice none 0 0] 42)
  obtain ⟨d0, d1, d2, d3, d4⟩ := five_cells (Blk.new w 42 [.int .i64 0, .int .i64 0, .int .i64 0, .int .i64 0, .slice none 0 0])
  have HB := Lib.hid hb1
  clear hb1
  go_enter Tryz.func14, Tryz.ntmps14
  go_wp2_with fail
  refine bodyPost_ret (v := .tuple #[nodeV 0 0 0 0 none 0 0, .int .i64 16]) (by simp [results, Tryz.results14, go_sem, d0, d1, d2, d3, d4]) rfl ⟨rfl, HB.out⟩
end Go.Proofs.YtkmkblhmjeeaeaaGreatDoor
end

/-
  Free of no numbers: the lowest node that is free. Conditions: the nodes lie in a map; at most 400 nodes.
-/

section
set_option linter.unusedSimpArgs false
set_option linter.unusedVariables false
set_option maxRecDepth 100000
namespace Go.Proofs.YtkmkblhmjeeaeaaGreatDoor
open Go.RowKit Go.Maps

theorem nsindex_nil (w : World) (no : Int) : Calls Tryz.prog 73 #[.slice none 0 0, .int .i64 no] w fun e w' => e = .returned (.int .i64 (-1)) ∧ w = w' := by
  go_enter Tryz.func73, Tryz.ntmps73
  go_wp2_with fail
  go_loopw [8] (fun i wr => i = .int .i64 0 ∧ wr = w) (fun _ _ => 0)
  case atStart => exact ⟨rfl, rfl⟩
  case round =>
    obtain ⟨rfl, rfl⟩ := hrel
    go_wp2_with fail
    go_ret
    exact ⟨rfl, rfl⟩
theorem nshas_nil (w : World) (no : Int) : Calls Tryz.prog 40 #[.slice none 0 0, .int .i64 no] w fun e w' => e = .returned (.bool false) ∧ w = w' := by
  go_enter Tryz.func40, Tryz.ntmps40
  go_wp2_with (first
    | (go_at_call 73; refine (nsindex_nil _ _).mono ?_; rintro e w1 ⟨rfl, rfl⟩)
    | go_in)
  go_ret
  exact ⟨rfl, rfl⟩

/-- The lowest node from i on that is free, below N. -/
def FreeIs (f : Tab) (N : Nat) (e : Ending) : Prop :=
  (∃ i : Nat, i < N ∧ f i = none ∧ (∀ j, j < i → f j ≠ none) ∧ e = .returned (.tuple #[.int .i64 (i : Int), .int .i64 0])) ∨
  ((∀ j, j < N → f j ≠ none) ∧ e = .returned (.tuple #[.int .i64 0, .int .i64 6]))

set_option maxRecDepth 100000 in
set_option maxHeartbeats 2000000 in
theorem tfree_any {A : Nat → Prop} {w : World} {t M cm N G : Nat} {f : Tab} (hT : TabIn A w M cm f) (hN : N ≤ 400) (ht : Blk w t 80 [.pointer (some ⟨G, 0, none⟩), .int .i64 (N : Int), .map (some M)]) :
    Calls Tryz.prog 15 #[.pointer (some ⟨t, 0, none⟩), .slice none 0 0] w fun e w' => FreeIs f N e ∧ Below w.heap.size w w' := by
  have e1 : w.cell? ⟨t, 1, none⟩ = some (.int .i64 (N : Int)) := ht.cell 1
  have e2 : w.cell? ⟨t, 2, none⟩ = some (.map (some M)) := ht.cell 2
  obtain ⟨F, hM0, hF0⟩ := hT
  have HM0 := Lib.hid (And.intro hM0 hF0)
  clear ht hM0 hF0
  go_enter Tryz.func15, Tryz.ntmps15
  go_wp2_with fail
  go_loopw [16] (fun i wr => ∃ k : Nat, k ≤ N ∧ i = .int .i64 k ∧ (∀ j, j < k → f j ≠ none) ∧ Below w.heap.size w wr) (fun i _ => N - (intOf i).toNat)
  case atStart => exact ⟨0, Nat.zero_le _, rfl, fun j hj => by omega, Below.refl _ _⟩
  case round =>
    obtain ⟨k, hk, rfl, hno, hbel⟩ := hrel
    have HN := Lib.hid hno
    have d2 := cell_below e2 hbel
    have hM1 := HM0.out.1.below hbel
    have hFk := HM0.out.2 k
    have HB := Lib.hid hbel
    clear hno hbel e1 e2
    by_cases hkn : k < N
    · cases hfk : f k with
      | none =>
        rw [hfk] at hFk
        have hFn : ∀ j : Nat, ((k : Nat) : Int) = (j : Int) → F j = none := fun j hj => by rw [show j = k by omega]; exact hFk
        have HM := Lib.hid (And.intro hM1 (And.intro hFn hfk))
        clear hM1 hFk hFn hfk
        go_wp2_with (first
          | (at_lookup; refine wp_look_no rfl (.tmp 23) (.tmp 24) rfl HM.out.1 k (by omega) (by omega) HM.out.2.1 rfl rfl ?_; unfold hv0)
          | (go_at_call 40; refine (nshas_nil _ _).mono ?_; rintro e w1 ⟨rfl, rfl⟩)
          | go_in)
        go_ret2
        exact ⟨.inl ⟨k, hkn, HM.out.2.2, HN.out, rfl⟩, below_of HB.out (new_below wr _)⟩
      | some h =>
        rw [hfk] at hFk
        obtain ⟨y, hy, _⟩ := hFk
        obtain ⟨yk, ym, yo, yg, yA, yn, yc, yP, yl, yq⟩ := y
        have HM := Lib.hid (And.intro hM1 (And.intro hy hfk))
        clear hM1 hy hfk
        go_wp2_with (first
          | (at_lookup; refine wp_look_yes rfl (.tmp 23) (.tmp 24) rfl HM.out.1 k (by omega) ⟨yk, ym, yo, yg, yA, yn, yc, yP, yl, yq⟩ HM.out.2.1 rfl rfl ?_)
          | go_in)
        go_roundw
        case rel =>
          refine ⟨k + 1, by omega, by go_num, fun j hj => ?_, below_of HB.out (new_below wr _)⟩
          rcases Nat.lt_or_ge j k with h1 | h1
          · exact HN.out j h1
          · rw [show j = k by omega, HM.out.2.2]
            exact fun h => by cases h
        case measure => simp [intOf]; omega
    · clear hM1 hFk
      go_wp2_with fail
      go_ret2
      exact ⟨.inr ⟨fun j hj => HN.out j (by omega), rfl⟩, HB.out⟩
end Go.Proofs.YtkmkblhmjeeaeaaGreatDoor
end
