/-
  Reading one token: walked. Conditions: the reader's cells lie in memory; sizes.
-/
import Derived.Test.YtammomjnigalbaaLPlace
import Derived.Test.YtammomjnigalbaaDWhole
set_option linter.unusedSimpArgs false
set_option linter.unusedVariables false
set_option maxRecDepth 100000
namespace Go.Proofs.Ytammomjnigalbaa
open Go.RowKit

/-- A text of these bytes. -/
def baL (l : By) : ByteArray := ⟨l.toArray⟩
theorem bs_ba (l : By) : bsL (baL l) = l := rfl
theorem ba_bs (t : ByteArray) : baL (bsL t) = t := ba_ext.2 rfl
theorem ba_take (t : ByteArray) (k : Nat) : t.extract 0 k = baL ((bsL t).take k) := ba_ext.2 (bs_take t k)
theorem ba_drop (t : ByteArray) (k : Nat) : t.extract k t.size = baL ((bsL t).drop k) := ba_ext.2 (bs_drop t k)
theorem ba_size (l : By) : (baL l).size = l.length := (bs_len (baL l)).symm
/-- A token's cells. -/
def tkC (x : Tk) : List Value := [.int .i64 (x.kind : Int), .string (baL x.text), .int .i64 (x.line : Int)]
def tkZ : Tk := ⟨0, [], 0⟩
theorem tkZ_c : tkC tkZ = [.int .i64 0, .string ⟨#[]⟩, .int .i64 0] := rfl
theorem tkC_one (x : Tk) : ∀ u ∈ tkC x, u.oneCell' = true := by intro u hu; simp [tkC] at hu; rcases hu with rfl | rfl | rfl <;> rfl
theorem tk_info : (Try.prog.info? 37).map (fun i => (i.zero, i.size, i.bytes)) = some (some (.agg (tkC tkZ).toArray), 3, 32) := by kernel_rfl
theorem tk_size : (Try.prog.info? 37).map (·.size) = some 3 := by kernel_rfl
theorem rd_size : (Try.prog.info? 46).map (·.size) = some 3 := by kernel_rfl
theorem r_storeB {P : Program} {t b x tt : Nat} {vs cs : List Value} {w : World} (hi : (P.info? t).map (·.size) = some vs.length) (h1 : ∀ u ∈ vs, u.oneCell' = true) (hb : Blk w b tt cs) (hx : x + vs.length ≤ cs.length) : (Instr.storeAt t (.pointer (some ⟨b, x, none⟩)) (.agg vs.toArray)).run P w = .ok () (w.setCells b x vs) := by
  simp only [Instr.storeAt, Instr.sureAddr, Sem.run_bind, Sem.run_pure, Result.andThen_ok]
  have h := run_storeVar_mid (P := P) w b x t vs.toArray (hb.there (by simpa using hx)) (by simpa using hi) (all_oneCell_toArray h1)
  rw [h]
/-- Results, the first of which lies in a cell of the call's own. -/
theorem ret_cell2 {P : Program} {fn : Func} {p q : Tmp} {ty : TypeId} (h : fn.results = #[.cell p ty, .tmp q]) {tmps : Array Value} {w : World} {a : Addr} {v u : Value} (ht : tmps.getD p undef = .pointer (some a)) (hu : tmps.getD q undef = u) (hl : (loadVar ty a).run P w = .ok v w) :
    (results fn tmps).run P w = .ok (.tuple #[v, u]) w := by
  have ht' : tmps[p]?.getD undef = .pointer (some a) := by simpa using ht
  have hu' : tmps[q]?.getD undef = u := by simpa using hu
  simp only [results, h]
  simp [ht', hu', asAddr, hl]
theorem ret_cell3 {P : Program} {fn : Func} {p q r : Tmp} {ty : TypeId} (h : fn.results = #[.cell p ty, .tmp q, .tmp r]) {tmps : Array Value} {w : World} {a : Addr} {v u x : Value} (ht : tmps.getD p undef = .pointer (some a)) (hu : tmps.getD q undef = u) (hx : tmps.getD r undef = x) (hl : (loadVar ty a).run P w = .ok v w) :
    (results fn tmps).run P w = .ok (.tuple #[v, u, x]) w := by
  have ht' : tmps[p]?.getD undef = .pointer (some a) := by simpa using ht
  have hu' : tmps[q]?.getD undef = u := by simpa using hu
  have hx' : tmps[r]?.getD undef = x := by simpa using hx
  simp only [results, h]
  simp [ht', hu', hx', asAddr, hl]
theorem tk_load {w : World} {b : Nat} {x : Tk} (h : Blk w b 37 (tkC x)) : (loadVar 37 ⟨b, 0, none⟩).run Try.prog w = .ok (.agg (tkC x).toArray) w :=
  run_loadVar_mid _ _ 0 37 _ _ h.range Try.underlying37 rfl tk_size
set_option maxHeartbeats 1000000 in
theorem read_any (w : World) (s : ByteArray) : Calls Try.prog 14 #[.string s] w fun e w' => e = .returned (.agg #[.string s, .int .i64 1, .slice none 0 0]) ∧ Below w.heap.size w w' := by
  have HZ := Lib.hid (Blk.new w 46 [.string ⟨#[]⟩, .int .i64 0, .slice none 0 0])
  go_enter Try.func14, Try.ntmps14
  go_wp2_with (refine wpList_store_blk rfl 46 (.tmp 2) (.tmp 5) rfl w.heap.size 0 [.string s, .int .i64 1, .slice none 0 0] rfl rfl HZ.out (by simp) rd_size (by intro u hu; simp at hu; rcases hu with rfl | rfl | rfl <;> rfl) ?_; intro w2 hA hO; rw [over_whole (by simp)] at hA)
  refine bodyPost_ret (v := .agg #[.string s, .int .i64 1, .slice none 0 0]) ?_ rfl ⟨rfl, ?_⟩
  · exact ret_cell rfl rfl (run_loadVar_mid _ _ 0 46 _ _ hA.range Try.underlying46 rfl rd_size)
  · exact (pnew w _).trans (hO.below (B := w.heap.size) (pnew w (.cells #[.string ⟨#[]⟩, .int .i64 0, .slice none 0 0] 46)).size (by simp))
/-! One token. -/
theorem only_and {S T : List Nat} {a w w' : World} (h : Only S a w) (k : Only T w w') (hT : ∀ j ∈ T, a.heap.size ≤ j ∨ j ∈ S) : Only S a w' :=
  ⟨k.os.trans h.os, k.tape.trans h.tape, k.output.trans h.output, Nat.le_trans h.size k.size, fun i hi hs => (k.block i (Nat.lt_of_lt_of_le hi h.size) (fun hm => (hT i hm).elim (fun h => by omega) hs)).trans (h.block i hi hs)⟩
theorem only_own {S : List Nat} {a w w' : World} (h : Only S a w) (k : Only [a.heap.size] w w') : Only S a w' := only_and h k (by simp)
/-- What reading a token answers, and where reading stands then. -/
structure Tn where
  tk : Tk
  err : Nat
  left : By
  line : Nat
def tokB (l : By) (n : Nat) : Tn := match l with
  | [] => ⟨tkZ, 4, [], n⟩
  | c :: r => match tokL (c :: r) with
    | none => ⟨tkZ, 3, c :: r, n⟩
    | some (k, m) => if longL k m then ⟨tkZ, 2, c :: r, n⟩ else ⟨⟨k, (c :: r).take m, n⟩, 0, (c :: r).drop m, n⟩
def tokN (n : Nat) (l : By) : Tn := tokB (skp n l).1 (skp n l).2
theorem tokB_bad {c : UInt8} {r : By} {n : Nat} (h : tokL (c :: r) = none) : tokB (c :: r) n = ⟨tkZ, 3, c :: r, n⟩ := by
  unfold tokB; dsimp only; rw [h]
theorem tokB_long {c : UInt8} {r : By} {n k m : Nat} (h : tokL (c :: r) = some (k, m)) (hl : longL k m = true) : tokB (c :: r) n = ⟨tkZ, 2, c :: r, n⟩ := by
  unfold tokB; dsimp only; rw [h]; dsimp only; rw [if_pos hl]
theorem tokB_tok {c : UInt8} {r : By} {n k m : Nat} (h : tokL (c :: r) = some (k, m)) (hl : longL k m = false) : tokB (c :: r) n = ⟨⟨k, (c :: r).take m, n⟩, 0, (c :: r).drop m, n⟩ := by
  unfold tokB; dsimp only; rw [h]; dsimp only; rw [hl]; rfl
/-- How far the last of it is. -/
def tokR (w0 : World) (g b : Nat) (t : ByteArray) (n m : Nat) (lv : Value) (x : Tk) : Nat → World → Prop
  | 0, w => RdB w g t n lv ∧ Blk w b 37 (tkC tkZ) ∧ Only [g] w0 w
  | 1, w => RdB w g (t.extract m t.size) n lv ∧ Blk w b 37 (tkC tkZ) ∧ Only [g] w0 w
  | _ + 2, w => RdB w g (t.extract m t.size) n lv ∧ Blk w b 37 (tkC x) ∧ Only [g] w0 w
theorem tokR_line {w0 w : World} {g b n m : Nat} {t : ByteArray} {lv : Value} {x : Tk} : ∀ {p : Nat}, tokR w0 g b t n m lv x p w → w.cell? ⟨g, 1, none⟩ = some (.int .i64 (n : Int))
  | 0, h => (h.1.cell 1).trans rfl
  | 1, h => (h.1.cell 1).trans rfl
  | _ + 2, h => (h.1.cell 1).trans rfl
theorem tok_build (W : World) (k n : Nat) (s : ByteArray) : (Instr.build 37 #[(0, .int .i64 (k : Int)), (1, .string s), (2, .int .i64 (n : Int))]).run Try.prog W = .ok (.agg #[.int .i64 (k : Int), .string s, .int .i64 (n : Int)]) W := by kernel_rfl
set_option maxHeartbeats 4000000 in
theorem token_any (w : World) (g : Nat) (t : ByteArray) (n : Nat) (lv : Value) (h : RdB w g t n lv) (hbig : t.size ≤ 1000000) (hn : n ≤ 1000000) :
    Calls Try.prog 18 #[.pointer (some ⟨g, 0, none⟩)] w fun e w' => e = .returned (.tuple #[.agg (tkC (tokN n (bsL t)).tk).toArray, .int .i64 ((tokN n (bsL t)).err : Nat)]) ∧ Only [g] w w' ∧ RdB w' g (baL (tokN n (bsL t)).left) (tokN n (bsL t)).line lv := by
  have hg := h.lt
  have hgb : g ≠ w.heap.size := by omega
  obtain ⟨l', n', hF⟩ : ∃ l' n', skp n (bsL t) = (l', n') := ⟨_, _, rfl⟩
  have HT : Hid (tokN n (bsL t) = tokB l' n') := Lib.hid (by unfold tokN; rw [hF])
  have HK := skip_any (w.alloc (.cells (tkC tkZ).toArray 37)) g t n lv (h.alloc _) hbig hn
  rw [hF] at HK
  have HS := Lib.hid HK
  obtain ⟨w0, hw0⟩ : ∃ w0, w0 = w.alloc (.cells (tkC tkZ).toArray 37) := ⟨_, rfl⟩
  have HA : Hid (Blk w0 w.heap.size 37 (tkC tkZ) ∧ Only [g] w w0) := Lib.hid (by rw [hw0]; exact ⟨Blk.new w 37 (tkC tkZ), Only.of_below (pnew w _)⟩)
  rw [← hw0] at HS
  have HW := Lib.hid hw0
  obtain ⟨R, hR⟩ : ∃ R, tokN n (bsL t) = R := ⟨_, rfl⟩
  rw [hR] at HT ⊢
  clear h HK hF hw0 hR
  go_enter Try.func18, Try.ntmps18
  go_wp2_with fail
  rw [show w.alloc (.cells #[Value.int .i64 0, .string ⟨#[]⟩, .int .i64 0] 37) = w0 from HW.out.symm]
  refine HS.out.mono ?_
  rintro e w1 ⟨rfl, hO, s, hs, hsz, hB⟩
  try dsimp only at hs hB
  have hA1 : Blk w1 w.heap.size 37 (tkC tkZ) := HA.out.1.only hO (by simp; omega)
  have H1 := Lib.hid (And.intro hB (And.intro hA1 (HA.out.2.trans (hO.mono (by simp)))))
  have HL := Lib.hid (And.intro hs hsz)
  clear hO hB hA1 hs
  go_wp2_with fail
  refine (ended_any w1 g s n' lv H1.out.1).mono ?_
  rintro e w2 ⟨rfl, rfl⟩
  by_cases hz : s.size = 0
  · have hd : decide (s.size = 0) = true := decide_eq_true hz
    have HG : Hid (R = ⟨tkZ, 4, [], n'⟩ ∧ s = baL []) := Lib.hid (by
      have he : bsL s = [] := List.eq_nil_of_length_eq_zero (by rw [bs_len]; exact hz)
      rw [HT.out, ← HL.out.1, he]
      exact ⟨rfl, ba_ext.2 he⟩)
    rw [hd]
    clear hz hd
    go_wp2_with (refine wpList_store_blk rfl 37 (.tmp 2) (.tmp 14) rfl w.heap.size 0 (tkC tkZ) rfl rfl H1.out.2.1 (by simp [tkC]) (tk_size.trans (by simp [tkC])) (tkC_one _) ?_; intro w3 hA hO; rw [over_whole (by simp [tkC])] at hA; have H3 := Lib.hid (And.intro hA (And.intro (H1.out.1.only hO (by simp; omega)) (only_own H1.out.2.2 hO))); clear hA hO)
    refine bodyPost_ret (v := .tuple #[.agg (tkC tkZ).toArray, .int .i64 4]) (ret_cell2 rfl rfl rfl (tk_load H3.out.1)) rfl ?_
    rw [HG.out.1, ← HG.out.2]
    exact ⟨rfl, H3.out.2.2, H3.out.2.1⟩
  · have hd : decide (s.size = 0) = false := decide_eq_false hz
    obtain ⟨c, r, hc⟩ : ∃ c r, bsL s = c :: r := by
      cases hb : bsL s with
      | nil => exact absurd (by rw [← bs_len, hb]; rfl) hz
      | cons c r => exact ⟨c, r, rfl⟩
    have HM := Lib.hid (meas_any w2 s (by omega) c r hc)
    have hR : R = tokB (c :: r) n' := by rw [HT.out, ← HL.out.1, hc]
    obtain ⟨k, m, hkm⟩ : ∃ k m, measL (bsL s) = (k, m) := ⟨_, _, rfl⟩
    rw [hkm] at HM
    have y0 : w2.cell? ⟨g, 0, none⟩ = some (.string s) := (H1.out.1.cell 0).trans rfl
    have HC := Lib.hid (And.intro hc (And.intro hR hkm))
    rw [hd]
    clear hz hd hc hR hkm
    go_wp2_with fail
    clear y0
    refine HM.out.mono ?_
    rintro e w3 ⟨rfl, hb⟩
    try dsimp only
    have H3 := Lib.hid (And.intro (H1.out.1.below hb H1.out.1.lt) (And.intro (H1.out.2.1.below hb H1.out.2.1.lt) (H1.out.2.2.trans (Only.of_below hb))))
    clear hb
    cases htk : tokL (c :: r) with
    | none =>
      have HG : Hid (R = ⟨tkZ, 3, c :: r, n'⟩ ∧ s = baL (c :: r)) := Lib.hid ⟨by rw [HC.out.2.1, tokB_bad htk], by rw [← HC.out.1, ba_bs]⟩
      have hm := HC.out.2.2
      rw [HC.out.1, measL_none htk] at hm
      cases hm
      clear htk
      go_wp2_with (refine wpList_store_blk rfl 37 (.tmp 2) (.tmp 27) rfl w.heap.size 0 (tkC tkZ) rfl rfl H3.out.2.1 (by simp [tkC]) (tk_size.trans (by simp [tkC])) (tkC_one _) ?_; intro w4 hA hO; rw [over_whole (by simp [tkC])] at hA; have H4 := Lib.hid (And.intro hA (And.intro (H3.out.1.only hO (by simp; omega)) (only_own H3.out.2.2 hO))); clear hA hO)
      refine bodyPost_ret (v := .tuple #[.agg (tkC tkZ).toArray, .int .i64 3]) (ret_cell2 rfl rfl rfl (tk_load H4.out.1)) rfl ?_
      rw [HG.out.1, ← HG.out.2]
      exact ⟨rfl, H4.out.2.2, H4.out.2.1⟩
    | some p =>
      obtain ⟨k', m'⟩ := p
      have hm := HC.out.2.2
      rw [HC.out.1, measL_some htk] at hm
      obtain ⟨rfl, rfl⟩ : k' = k ∧ m' = m := by cases hm; exact ⟨rfl, rfl⟩
      clear hm
      have hlen := tokL_len htk
      have hml : m' ≤ s.size := by rw [← bs_len, HC.out.1]; exact hlen.2
      have hmp : ¬ (m' : Int) = 0 := by omega
      obtain ⟨f1, f2, f3, f4⟩ := ne_facts m' 0 hmp
      have HTK := Lib.hid htk
      clear htk hlen hmp
      cases hlg : longL k' m' with
      | true =>
        have HG : Hid (R = ⟨tkZ, 2, c :: r, n'⟩ ∧ s = baL (c :: r)) := Lib.hid ⟨by rw [HC.out.2.1, tokB_long HTK.out hlg], by rw [← HC.out.1, ba_bs]⟩
        by_cases h60 : 60 < m'
        · have e1 : ((60 : Int) < (m' : Int)) = True := eq_true (by omega)
          have e2 : decide ((60 : Int) < (m' : Int)) = true := decide_eq_true (by omega)
          clear h60 hlg
          go_wp2_with (refine wpList_store_blk rfl 37 (.tmp 2) (.tmp 37) rfl w.heap.size 0 (tkC tkZ) rfl rfl H3.out.2.1 (by simp [tkC]) (tk_size.trans (by simp [tkC])) (tkC_one _) ?_; intro w4 hA hO; rw [over_whole (by simp [tkC])] at hA; have H4 := Lib.hid (And.intro hA (And.intro (H3.out.1.only hO (by simp; omega)) (only_own H3.out.2.2 hO))); clear hA hO)
          refine bodyPost_ret (v := .tuple #[.agg (tkC tkZ).toArray, .int .i64 2]) (ret_cell2 rfl rfl rfl (tk_load H4.out.1)) rfl ?_
          rw [HG.out.1, ← HG.out.2]
          exact ⟨rfl, H4.out.2.2, H4.out.2.1⟩
        · have e1 : ((60 : Int) < (m' : Int)) = False := eq_false (by omega)
          have e2 : decide ((60 : Int) < (m' : Int)) = false := decide_eq_false (by omega)
          have hk1 : (k' : Int) = 1 := by
            unfold longL at hlg
            simp at hlg
            omega
          have h9 : 9 < m' := by
            unfold longL at hlg
            simp at hlg
            omega
          obtain ⟨g1, g2, g3, g4⟩ := eq_facts k' 1 hk1
          have e3 : ((9 : Int) < (m' : Int)) = True := eq_true (by omega)
          have e4 : decide ((9 : Int) < (m' : Int)) = true := decide_eq_true (by omega)
          clear h60 hlg hk1 h9
          go_wp2_with (refine wpList_store_blk rfl 37 (.tmp 2) (.tmp 37) rfl w.heap.size 0 (tkC tkZ) rfl rfl H3.out.2.1 (by simp [tkC]) (tk_size.trans (by simp [tkC])) (tkC_one _) ?_; intro w4 hA hO; rw [over_whole (by simp [tkC])] at hA; have H4 := Lib.hid (And.intro hA (And.intro (H3.out.1.only hO (by simp; omega)) (only_own H3.out.2.2 hO))); clear hA hO)
          refine bodyPost_ret (v := .tuple #[.agg (tkC tkZ).toArray, .int .i64 2]) (ret_cell2 rfl rfl rfl (tk_load H4.out.1)) rfl ?_
          rw [HG.out.1, ← HG.out.2]
          exact ⟨rfl, H4.out.2.2, H4.out.2.1⟩
      | false =>
        have hm60 : m' ≤ 60 := by unfold longL at hlg; simp at hlg; omega
        have HG : Hid (R = ⟨⟨k', (c :: r).take m', n'⟩, 0, (c :: r).drop m', n'⟩) := Lib.hid (by rw [HC.out.2.1, tokB_tok HTK.out hlg])
        have HX : Hid (s.extract 0 m' = baL ((c :: r).take m') ∧ s.extract m' s.size = baL ((c :: r).drop m')) := Lib.hid ⟨by rw [ba_take, HC.out.1], by rw [ba_drop, HC.out.1]⟩
        have e1 : ((60 : Int) < (m' : Int)) = False := eq_false (by omega)
        have e2 : decide ((60 : Int) < (m' : Int)) = false := decide_eq_false (by omega)
        have hbs := H3.out.2.1.lt
        have hgs := H3.out.1.lt
        by_cases hk1 : (k' : Int) = 1
        · obtain ⟨g1, g2, g3, g4⟩ := eq_facts k' 1 hk1
          have h9 : ¬ 9 < m' := by unfold longL at hlg; simp at hlg; omega
          have e3 : ((9 : Int) < (m' : Int)) = False := eq_false (by omega)
          have e4 : decide ((9 : Int) < (m' : Int)) = false := decide_eq_false (by omega)
          clear hlg hk1 h9
          go_wp2_with fail
          refine wp_hideQ ?_
          intro QQ hQQ
          refine wp_region_chainQ [5, 12] [some 38, some 39, some 40, some 41, some 42, some 43, some 44, some 45, some 46, some 47, some 48, some 49, none, some 3] [isV (.int .i64 (k' : Int)), isV (.pointer (some ⟨g, 0, none⟩)), isV (.pointer (some ⟨g, 0, none⟩)), isV (.pointer (some ⟨g, 0, none⟩)), isV (.int .i64 (m' : Int)), isV (.string (baL ((c :: r).take m'))), isV (.pointer (some ⟨g, 0, none⟩)), isV (.pointer (some ⟨g, 0, none⟩)), isV (.pointer (some ⟨g, 0, none⟩)), isV (.pointer (some ⟨g, 1, none⟩)), isV (.int .i64 (n' : Int)), isV (.agg #[.int .i64 (k' : Int), .string (baL ((c :: r).take m')), .int .i64 (n' : Int)]), isV undef, isV (.int .i64 0)] (fun k => if k = 5 then [g] else if k = 12 then [w.heap.size] else []) (tokR w g w.heap.size s n' m' lv ⟨k', (c :: r).take m', n'⟩) 14 (by kernel_rfl) rfl rfl rfl (by kernel_rfl) (by kernel_rfl) (⟨H3.out.1.drew, H3.out.2.1.drew, H3.out.2.2.drew⟩) ?_ ?_ ?_
          · intro i k v wy wz hki hv ho
            match i, hv with
            | 0, hv => exact hv
            | 1, hv => exact hv
            | 2, hv => exact hv
            | 3, hv => exact hv
            | 4, hv => exact hv
            | 5, hv => exact hv
            | 6, hv => exact hv
            | 7, hv => exact hv
            | 8, hv => exact hv
            | 9, hv => exact hv
            | 10, hv => exact hv
            | 11, hv => exact hv
            | 12, hv => exact hv
            | 13, hv => exact hv
            | i + 14, hv => exact hv
          · intro hq rz hz
            match rz, hz with
            | 0, _ =>
              refine StepP.val rfl rfl [] (by decide +kernel) ?_
              intro p hhi hlo v wy hR hd
              exact ⟨wanted_plain rfl _, _, _, x_move rfl (fill_off rfl rfl), hR, Only.refl _ _, rfl⟩
            | 1, _ =>
              refine StepP.val rfl rfl [] (by decide +kernel) ?_
              intro p hhi hlo v wy hR hd
              exact ⟨wanted_plain rfl _, _, _, x_move rfl (fill_off rfl rfl), hR, Only.refl _ _, rfl⟩
            | 2, _ =>
              refine StepP.val rfl rfl [1] (by decide +kernel) ?_
              intro p hhi hlo v wy hR hd
              have h1 : v 1 = _ := hd 1 (by simp)
              exact ⟨wanted_plain rfl _, _, _, x_nil rfl (hq.at_ rfl h1), hR, Only.refl _ _, rfl⟩
            | 3, _ =>
              refine StepP.val rfl rfl [2] (by decide +kernel) ?_
              intro p hhi hlo v wy hR hd
              have h2 : v 2 = _ := hd 2 (by simp)
              exact ⟨wanted_plain rfl _, _, _, x_field rfl (hq.at_ rfl h2) (r_field (off := 0) (by kernel_rfl)), hR, Only.refl _ _, rfl⟩
            | 4, _ =>
              refine StepP.val rfl rfl [] (by decide +kernel) ?_
              intro p hhi hlo v wy hR hd
              exact ⟨wanted_plain rfl _, _, _, x_move rfl (fill_off rfl rfl), hR, Only.refl _ _, rfl⟩
            | 5, _ =>
              refine StepP.ccall 0 rfl rfl rfl [3, 4] (by decide +kernel) ?_
              intro v wy hR hd
              have h3 : v 3 = _ := hd 3 (by simp)
              have h4 : v 4 = _ := hd 4 (by simp)
              refine ⟨wanted_plain rfl _, 22, _, _, x_call rfl rfl (args_2 (hq.at_ rfl h3) (hq.at_ rfl h4)) (by kernel_rfl) rfl, ?_⟩
              refine (pass_any wy g s n' lv hR.1 m' hml (by omega)).mono ?_
              rintro e w7 ⟨he, hO, hB⟩
              rw [HX.out.1] at he
              subst he
              exact ⟨_, rfl, ⟨hB, hR.2.1.only hO (by simp; omega), hR.2.2.trans (hO.mono (by simp))⟩, hO, rfl⟩
            | 6, _ =>
              refine StepP.val rfl rfl [] (by decide +kernel) ?_
              intro p hhi hlo v wy hR hd
              exact ⟨wanted_plain rfl _, _, _, x_move rfl (fill_off rfl rfl), hR, Only.refl _ _, rfl⟩
            | 7, _ =>
              refine StepP.val rfl rfl [6] (by decide +kernel) ?_
              intro p hhi hlo v wy hR hd
              have h6 : v 6 = _ := hd 6 (by simp)
              exact ⟨wanted_plain rfl _, _, _, x_nil rfl (hq.at_ rfl h6), hR, Only.refl _ _, rfl⟩
            | 8, _ =>
              refine StepP.val rfl rfl [7] (by decide +kernel) ?_
              intro p hhi hlo v wy hR hd
              have h7 : v 7 = _ := hd 7 (by simp)
              exact ⟨wanted_plain rfl _, _, _, x_field rfl (hq.at_ rfl h7) (r_field (off := 0) (by kernel_rfl)), hR, Only.refl _ _, rfl⟩
            | 9, _ =>
              refine StepP.val rfl rfl [8] (by decide +kernel) ?_
              intro p hhi hlo v wy hR hd
              have h8 : v 8 = _ := hd 8 (by simp)
              exact ⟨wanted_plain rfl _, _, _, x_field rfl (hq.at_ rfl h8) (r_field (off := 1) (by kernel_rfl)), hR, Only.refl _ _, rfl⟩
            | 10, _ =>
              refine StepP.val rfl rfl [9] (by decide +kernel) ?_
              intro p hhi hlo v wy hR hd
              have h9 : v 9 = _ := hd 9 (by simp)
              exact ⟨wanted_plain rfl _, _, _, x_load rfl (hq.at_ rfl h9) (r_load (by kernel_rfl) (tokR_line hR)), hR, Only.refl _ _, rfl⟩
            | 11, _ =>
              refine StepP.val rfl rfl [0, 5, 10] (by decide +kernel) ?_
              intro p hhi hlo v wy hR hd
              have h0 : v 0 = _ := hd 0 (by simp)
              have h5 : v 5 = _ := hd 5 (by simp)
              have h10 : v 10 = _ := hd 10 (by simp)
              exact ⟨wanted_plain rfl _, _, _, x_build rfl (pairs_3 (hq.at_ rfl h0) (hq.at_ rfl h5) (hq.at_ rfl h10)) (tok_build wy _ _ _), hR, Only.refl _ _, rfl⟩
            | 12, _ =>
              refine StepP.cskip 1 rfl rfl rfl [11] (by decide +kernel) ?_
              intro v wy hR hd
              have h11 : v 11 = _ := hd 11 (by simp)
              refine ⟨wanted_plain rfl _, _, x_store rfl (fill_off rfl rfl) (hq.at_ rfl h11) (r_storeB (vs := tkC ⟨k', (c :: r).take m', n'⟩) (cs := tkC tkZ) (tk_size.trans rfl) (tkC_one _) hR.2.1 (by simp [tkC])), ⟨hR.1.only (Only.setCells _ _ _ (Only.refl [w.heap.size] _) (.inl (by simp))) (by simp; omega), ?_, only_own hR.2.2 (Only.setCells _ _ _ (Only.refl [w.heap.size] _) (.inl (by simp)))⟩, Only.setCells _ _ _ (Only.refl [w.heap.size] _) (.inl (by simp)), rfl⟩
              have h5 := hR.2.1.setCells (tkC ⟨k', (c :: r).take m', n'⟩) 0 (by simp [tkC])
              rw [over_whole (by simp [tkC])] at h5
              exact h5
            | 13, _ =>
              refine StepP.val rfl rfl [12] (by decide +kernel) ?_
              intro p hhi hlo v wy hR hd
              have h12 : v 12 = _ := hd 12 (by simp)
              exact ⟨wanted_plain rfl _, _, _, x_assign rfl rfl, hR, Only.refl _ _, rfl⟩
            | rz + 14, h => omega
          · intro v wx hR hV
            have h13 : v 13 = _ := hV 13 (by omega)
            have HQ := Lib.hid hR
            clear hR hV
            simp only [fillR, Act.put, List.setIfInBounds_toArray, List.set_cons_zero, List.set_cons_succ, h13]
            go_wp2_with fail
            refine bodyPost_ret (v := .tuple #[.agg (tkC ⟨k', (c :: r).take m', n'⟩).toArray, .int .i64 0]) (ret_cell2 rfl rfl rfl (tk_load HQ.out.2.1)) rfl ?_
            rw [HG.out]
            refine ⟨rfl, HQ.out.2.2, ?_⟩
            have := HQ.out.1
            rw [HX.out.2] at this
            exact this
        · obtain ⟨g1, g2, g3, g4⟩ := ne_facts k' 1 hk1
          clear hlg hk1
          go_wp2_with fail
          refine wp_hideQ ?_
          intro QQ hQQ
          refine wp_region_chainQ [5, 12] [some 38, some 39, some 40, some 41, some 42, some 43, some 44, some 45, some 46, some 47, some 48, some 49, none, some 3] [isV (.int .i64 (k' : Int)), isV (.pointer (some ⟨g, 0, none⟩)), isV (.pointer (some ⟨g, 0, none⟩)), isV (.pointer (some ⟨g, 0, none⟩)), isV (.int .i64 (m' : Int)), isV (.string (baL ((c :: r).take m'))), isV (.pointer (some ⟨g, 0, none⟩)), isV (.pointer (some ⟨g, 0, none⟩)), isV (.pointer (some ⟨g, 0, none⟩)), isV (.pointer (some ⟨g, 1, none⟩)), isV (.int .i64 (n' : Int)), isV (.agg #[.int .i64 (k' : Int), .string (baL ((c :: r).take m')), .int .i64 (n' : Int)]), isV undef, isV (.int .i64 0)] (fun k => if k = 5 then [g] else if k = 12 then [w.heap.size] else []) (tokR w g w.heap.size s n' m' lv ⟨k', (c :: r).take m', n'⟩) 14 (by kernel_rfl) rfl rfl rfl (by kernel_rfl) (by kernel_rfl) (⟨H3.out.1.drew, H3.out.2.1.drew, H3.out.2.2.drew⟩) ?_ ?_ ?_
          · intro i k v wy wz hki hv ho
            match i, hv with
            | 0, hv => exact hv
            | 1, hv => exact hv
            | 2, hv => exact hv
            | 3, hv => exact hv
            | 4, hv => exact hv
            | 5, hv => exact hv
            | 6, hv => exact hv
            | 7, hv => exact hv
            | 8, hv => exact hv
            | 9, hv => exact hv
            | 10, hv => exact hv
            | 11, hv => exact hv
            | 12, hv => exact hv
            | 13, hv => exact hv
            | i + 14, hv => exact hv
          · intro hq rz hz
            match rz, hz with
            | 0, _ =>
              refine StepP.val rfl rfl [] (by decide +kernel) ?_
              intro p hhi hlo v wy hR hd
              exact ⟨wanted_plain rfl _, _, _, x_move rfl (fill_off rfl rfl), hR, Only.refl _ _, rfl⟩
            | 1, _ =>
              refine StepP.val rfl rfl [] (by decide +kernel) ?_
              intro p hhi hlo v wy hR hd
              exact ⟨wanted_plain rfl _, _, _, x_move rfl (fill_off rfl rfl), hR, Only.refl _ _, rfl⟩
            | 2, _ =>
              refine StepP.val rfl rfl [1] (by decide +kernel) ?_
              intro p hhi hlo v wy hR hd
              have h1 : v 1 = _ := hd 1 (by simp)
              exact ⟨wanted_plain rfl _, _, _, x_nil rfl (hq.at_ rfl h1), hR, Only.refl _ _, rfl⟩
            | 3, _ =>
              refine StepP.val rfl rfl [2] (by decide +kernel) ?_
              intro p hhi hlo v wy hR hd
              have h2 : v 2 = _ := hd 2 (by simp)
              exact ⟨wanted_plain rfl _, _, _, x_field rfl (hq.at_ rfl h2) (r_field (off := 0) (by kernel_rfl)), hR, Only.refl _ _, rfl⟩
            | 4, _ =>
              refine StepP.val rfl rfl [] (by decide +kernel) ?_
              intro p hhi hlo v wy hR hd
              exact ⟨wanted_plain rfl _, _, _, x_move rfl (fill_off rfl rfl), hR, Only.refl _ _, rfl⟩
            | 5, _ =>
              refine StepP.ccall 0 rfl rfl rfl [3, 4] (by decide +kernel) ?_
              intro v wy hR hd
              have h3 : v 3 = _ := hd 3 (by simp)
              have h4 : v 4 = _ := hd 4 (by simp)
              refine ⟨wanted_plain rfl _, 22, _, _, x_call rfl rfl (args_2 (hq.at_ rfl h3) (hq.at_ rfl h4)) (by kernel_rfl) rfl, ?_⟩
              refine (pass_any wy g s n' lv hR.1 m' hml (by omega)).mono ?_
              rintro e w7 ⟨he, hO, hB⟩
              rw [HX.out.1] at he
              subst he
              exact ⟨_, rfl, ⟨hB, hR.2.1.only hO (by simp; omega), hR.2.2.trans (hO.mono (by simp))⟩, hO, rfl⟩
            | 6, _ =>
              refine StepP.val rfl rfl [] (by decide +kernel) ?_
              intro p hhi hlo v wy hR hd
              exact ⟨wanted_plain rfl _, _, _, x_move rfl (fill_off rfl rfl), hR, Only.refl _ _, rfl⟩
            | 7, _ =>
              refine StepP.val rfl rfl [6] (by decide +kernel) ?_
              intro p hhi hlo v wy hR hd
              have h6 : v 6 = _ := hd 6 (by simp)
              exact ⟨wanted_plain rfl _, _, _, x_nil rfl (hq.at_ rfl h6), hR, Only.refl _ _, rfl⟩
            | 8, _ =>
              refine StepP.val rfl rfl [7] (by decide +kernel) ?_
              intro p hhi hlo v wy hR hd
              have h7 : v 7 = _ := hd 7 (by simp)
              exact ⟨wanted_plain rfl _, _, _, x_field rfl (hq.at_ rfl h7) (r_field (off := 0) (by kernel_rfl)), hR, Only.refl _ _, rfl⟩
            | 9, _ =>
              refine StepP.val rfl rfl [8] (by decide +kernel) ?_
              intro p hhi hlo v wy hR hd
              have h8 : v 8 = _ := hd 8 (by simp)
              exact ⟨wanted_plain rfl _, _, _, x_field rfl (hq.at_ rfl h8) (r_field (off := 1) (by kernel_rfl)), hR, Only.refl _ _, rfl⟩
            | 10, _ =>
              refine StepP.val rfl rfl [9] (by decide +kernel) ?_
              intro p hhi hlo v wy hR hd
              have h9 : v 9 = _ := hd 9 (by simp)
              exact ⟨wanted_plain rfl _, _, _, x_load rfl (hq.at_ rfl h9) (r_load (by kernel_rfl) (tokR_line hR)), hR, Only.refl _ _, rfl⟩
            | 11, _ =>
              refine StepP.val rfl rfl [0, 5, 10] (by decide +kernel) ?_
              intro p hhi hlo v wy hR hd
              have h0 : v 0 = _ := hd 0 (by simp)
              have h5 : v 5 = _ := hd 5 (by simp)
              have h10 : v 10 = _ := hd 10 (by simp)
              exact ⟨wanted_plain rfl _, _, _, x_build rfl (pairs_3 (hq.at_ rfl h0) (hq.at_ rfl h5) (hq.at_ rfl h10)) (tok_build wy _ _ _), hR, Only.refl _ _, rfl⟩
            | 12, _ =>
              refine StepP.cskip 1 rfl rfl rfl [11] (by decide +kernel) ?_
              intro v wy hR hd
              have h11 : v 11 = _ := hd 11 (by simp)
              refine ⟨wanted_plain rfl _, _, x_store rfl (fill_off rfl rfl) (hq.at_ rfl h11) (r_storeB (vs := tkC ⟨k', (c :: r).take m', n'⟩) (cs := tkC tkZ) (tk_size.trans rfl) (tkC_one _) hR.2.1 (by simp [tkC])), ⟨hR.1.only (Only.setCells _ _ _ (Only.refl [w.heap.size] _) (.inl (by simp))) (by simp; omega), ?_, only_own hR.2.2 (Only.setCells _ _ _ (Only.refl [w.heap.size] _) (.inl (by simp)))⟩, Only.setCells _ _ _ (Only.refl [w.heap.size] _) (.inl (by simp)), rfl⟩
              have h5 := hR.2.1.setCells (tkC ⟨k', (c :: r).take m', n'⟩) 0 (by simp [tkC])
              rw [over_whole (by simp [tkC])] at h5
              exact h5
            | 13, _ =>
              refine StepP.val rfl rfl [12] (by decide +kernel) ?_
              intro p hhi hlo v wy hR hd
              have h12 : v 12 = _ := hd 12 (by simp)
              exact ⟨wanted_plain rfl _, _, _, x_assign rfl rfl, hR, Only.refl _ _, rfl⟩
            | rz + 14, h => omega
          · intro v wx hR hV
            have h13 : v 13 = _ := hV 13 (by omega)
            have HQ := Lib.hid hR
            clear hR hV
            simp only [fillR, Act.put, List.setIfInBounds_toArray, List.set_cons_zero, List.set_cons_succ, h13]
            go_wp2_with fail
            refine bodyPost_ret (v := .tuple #[.agg (tkC ⟨k', (c :: r).take m', n'⟩).toArray, .int .i64 0]) (ret_cell2 rfl rfl rfl (tk_load HQ.out.2.1)) rfl ?_
            rw [HG.out]
            refine ⟨rfl, HQ.out.2.2, ?_⟩
            have := HQ.out.1
            rw [HX.out.2] at this
            exact this
end Go.Proofs.Ytammomjnigalbaa
