/-
  Reading all tokens: walked. Conditions: the reader's cells lie in memory of the call's own; sizes.
-/
import Derived.Test.YtammomjnigalbaaLAllP
set_option linter.unusedSimpArgs false
set_option linter.unusedVariables false
set_option maxRecDepth 100000
namespace Go.Proofs.Ytammomjnigalbaa
open Go.RowKit

/-- Tokens' cells. -/
def rowK (ts : List Tk) : List Value := ts.flatMap tkC
theorem rowK_snoc (ts : List Tk) (x : Tk) : rowK (ts ++ [x]) = rowK ts ++ tkC x := by simp [rowK]
theorem rowK_one (ts : List Tk) : ∀ u ∈ rowK ts, u.oneCell' = true := by
  intro u hu
  obtain ⟨x, _, hx⟩ := List.mem_flatMap.1 hu
  exact tkC_one x u hx
/-- Where reading stands: the reader's cells, the tokens that were read, in rows of the call's own. -/
structure AlS (N : Nat) (wS w : World) (g : Nat) (ts : List Tk) (l : By) (n : Nat) (lv : Value) : Prop where
  rd : RdB w g (baL l) n lv
  row : w.ownsRow N 37 3 lv ts.length (rowK ts)
  b : Below N wS w
section
variable {N : Nat} {wS w w' : World} {g n n' : Nat} {ts : List Tk} {l l' : By} {lv : Value}
theorem AlS.below (hM : N ≤ w.heap.size) (h : AlS N wS w g ts l n lv) (hb : Below w.heap.size w w') : AlS N wS w' g ts l n lv :=
  ⟨h.rd.below hb h.rd.lt, ownsRow_only (S := []) h.row (Only.of_below hb) (by simp), h.b.trans (hb.mono hM)⟩
theorem AlS.turn (hS : N ≤ w.heap.size) (hg : N ≤ g) (h : AlS N wS w g ts l n lv) (ho : Only [g] w w') (hr : RdB w' g (baL l') n' lv) : AlS N wS w' g ts l' n' lv := by
  refine ⟨hr, ownsRow_only h.row ho (fun q hq hm => ?_), h.b.trans (ho.below hS (by simpa using hg))⟩
  simp at hm
  subst hm
  exact own_blk_ne h.row h.rd (by decide) hq
end
theorem AlS.quiet {N : Nat} {wS w w' : World} {g n : Nat} {ts : List Tk} {l : By} {lv : Value} (h : AlS N wS w g ts l n lv) (hM : N ≤ w.heap.size) (ho : Only [] w w') : AlS N wS w' g ts l n lv :=
  ⟨h.rd.only ho (by simp), ownsRow_only h.row ho (by simp), h.b.trans (ho.below hM (by simp))⟩
theorem slice_tk (W : World) (x : Tk) : (Instr.buildSlice 22 1 #[(0, .agg (tkC x).toArray)]).run Try.prog W = .ok (.slice (some ⟨W.heap.size, 0, none⟩) 1 1) (W.alloc (.cells (tkC x).toArray 37)) := by kernel_rfl
/-- A row of one token. -/
def oneT (N : Nat) (x : Tk) : Value → World → Prop := fun u w => ∃ p, u = .slice (some ⟨p, 0, none⟩) 1 1 ∧ N ≤ p ∧ Blk w p 37 (tkC x)
/-- The rows behind an append, apart from the reader. -/
def rowTW (N g : Nat) (ts : List Tk) : Value → World → Prop := fun u w => w.ownsRow N 37 3 u ts.length (rowK ts) ∧ u.ownBlock ≠ some g
def allR (N : Nat) (wS wx : World) (g : Nat) (ts : List Tk) (x : Tk) (l : By) (n : Nat) (lv : Value) : Nat → World → Prop
  | 0, w => Below wx.heap.size wx w
  | 1, w => RdB w g (baL l) n lv ∧ Below N wS w
  | _ + 2, w => ∃ lv', AlS N wS w g (ts ++ [x]) l n lv'
theorem all_store {N : Nat} {wS w : World} {g n : Nat} {ts : List Tk} {l : By} {lv u : Value} (hM : N ≤ w.heap.size) (hg : N ≤ g) (hB : RdB w g (baL l) n lv) (hb : Below N wS w) (h : rowTW N g ts u w) : ∃ lv', AlS N wS (w.setCells g 2 [u]) g ts l n lv' := by
  have ho := store_only w g 2 u
  refine ⟨u, (show Blk (w.setCells g 2 [u]) g 46 [.string (baL l), .int .i64 (n : Int), u] from by have h5 := hB.setCells [u] 2 (by simp); rw [over_one (by simp)] at h5; exact h5), ownsRow_only h.1 ho (fun q hq hm => by simp at hm; subst hm; exact h.2 hq), hb.trans (ho.below hM (by simpa using hg))⟩
set_option maxHeartbeats 8000000 in
theorem all_any (N : Nat) (wS w : World) (g : Nat) (hS : wS.heap.size = N) (hg : N ≤ g) (l : By) (hl : l.length ≤ 10000) (h : AlS N wS w g [] l 1 (.slice none 0 0)) :
    Calls Try.prog 15 #[.pointer (some ⟨g, 0, none⟩)] w fun e w' => e = .returned (.int .i64 (allE (lexL 1 l) : Nat)) ∧ ∃ ts l' lv, AlS N wS w' g ts l' (allN (lexL 1 l)) lv ∧ (allE (lexL 1 l) = 0 → ts = (lexL 1 l).ts) := by
  obtain ⟨X, hX⟩ : ∃ X, lexL 1 l = X := ⟨_, rfl⟩
  have h4 := lexL_err 1 l
  rw [hX] at h4 ⊢
  have H := Lib.hid (And.intro h (And.intro hX h4))
  have HS := Lib.hid hS
  have hnl := nlsL_le l
  clear h hX hS h4
  go_enter Try.func15, Try.ntmps15
  go_wp2_with fail
  go_loopw [] (fun wr => ∃ (ts : List Tk) (m : By) (n : Nat) (lv : Value), ts.length ≤ 800 ∧ m.length ≤ l.length ∧ n + nlsL m ≤ 1 + nlsL l ∧ Hid (AlS N wS wr g ts m n lv ∧ X = ⟨ts ++ (lexL n m).ts, (lexL n m).line, (lexL n m).err⟩)) (fun wr => lftM g wr)
  case atStart => exact ⟨[], l, 1, _, by simp, Nat.le_refl _, Nat.le_refl _, Lib.hid ⟨H.out.1, by rw [H.out.2.1]; rfl⟩⟩
  case round =>
    obtain ⟨ts, m, n, lv, hts, hm, hn, HI⟩ := hrel
    have hNw : N ≤ wr.heap.size := by rw [← HS.out]; exact HI.out.1.b.size
    have HM : Hid (lftM g wr = m.length) := Lib.hid (by rw [lftM_is HI.out.1.rd, ba_size])
    have HT := token_any wr g (baL m) n lv HI.out.1.rd (by rw [ba_size]; omega) (by omega)
    rw [bs_ba] at HT
    obtain ⟨R, hR⟩ : ∃ R, tokN n m = R := ⟨_, rfl⟩
    have hroom := tokN_room n m
    have hline := tokN_line n m
    have hlex := lexL_tokN n m
    rw [hR] at HT hlex hroom hline
    have HC := Lib.hid HT
    have HL := Lib.hid hlex
    clear HT hlex hR
    go_wp2_with fail
    refine HC.out.mono ?_
    rintro e w2 ⟨rfl, hO, hB⟩
    have hA2 := HI.out.1.turn hNw hg hO hB
    have hN2 : N ≤ w2.heap.size := Nat.le_trans hNw hO.size
    have HA2 := Lib.hid (And.intro hA2 hN2)
    have HZ := Lib.hid (Blk.new w2 37 (tkC tkZ))
    clear hO hB hA2 hN2
    by_cases h4 : R.err = 4
    · have HF : Hid (allE X = 0 ∧ allN X = R.line ∧ ts = X.ts) := Lib.hid (by
        rcases HL.out with ⟨h0, _⟩ | ⟨_, hx, _⟩
        · omega
        · have e := HI.out.2
          rw [hx] at e
          subst e
          refine ⟨allE_end (by simpa using hts) h4, allN_line (by simpa using hts), by simp⟩)
      rw [h4]
      clear h4
      go_wp2_with (refine wpList_store_blk rfl 37 (.tmp 3) (.tmp 8) rfl w2.heap.size 0 (tkC R.tk) rfl rfl HZ.out (by simp [tkC]) (tk_size.trans (by simp [tkC])) (tkC_one _) ?_; intro wx hA hO; rw [over_whole (by simp [tkC])] at hA; have H3 := Lib.hid (And.intro hA (HA2.out.1.quiet HA2.out.2 (only_own (Only.of_below (pnew w2 _)) hO))); clear hA hO)
      go_ret
      rw [HF.out.1, HF.out.2.1]
      exact ⟨rfl, _, _, _, H3.out.2, fun _ => HF.out.2.2⟩
    · by_cases h0 : R.err = 0
      · have HE : Hid (X = ⟨ts ++ R.tk :: (lexL R.line R.left).ts, (lexL R.line R.left).line, (lexL R.line R.left).err⟩ ∧ R.left.length < m.length ∧ R.tk.line = R.line) := Lib.hid (by
          rcases HL.out with ⟨_, hx, hlt, hln, _⟩ | ⟨h1, _⟩
          · have e := HI.out.2
            rw [hx] at e
            exact ⟨e, hlt, hln⟩
          · exact absurd h0 h1)
        obtain ⟨P, c, hlv⟩ := own_slice HA2.out.1.row
        subst hlv
        have y2 : w2.cell? ⟨g, 2, none⟩ = some (.slice P ts.length c) := (HA2.out.1.rd.cell 2).trans rfl
        rw [h0]
        clear h4 h0
        by_cases h8 : ts.length = 800
        · have HF : Hid (allE X = 6 ∧ allN X = R.line) := Lib.hid (by
            have e := HE.out.1
            refine ⟨allE_full (by rw [e]; simp; omega), ?_⟩
            rw [← HE.out.2.2]
            refine allN_full ?_
            rw [e]
            dsimp only
            rw [List.getElem?_append_right (by omega), h8]
            rfl)
          have e1 : ((ts.length : Int) = 800) = True := eq_true (by omega)
          have e2 : decide ((ts.length : Int) = 800) = true := decide_eq_true (by omega)
          have e3 : ((ts.length : Int) == 800) = true := by simp; omega
          clear h8
          go_wp2_with (refine wpList_store_blk rfl 37 (.tmp 3) (.tmp 8) rfl w2.heap.size 0 (tkC R.tk) rfl rfl HZ.out (by simp [tkC]) (tk_size.trans (by simp [tkC])) (tkC_one _) ?_; intro wx hA hO; rw [over_whole (by simp [tkC])] at hA; have H3 := Lib.hid (And.intro hA (HA2.out.1.quiet HA2.out.2 (only_own (Only.of_below (pnew w2 _)) hO))); have y3 := (H3.out.2.rd.cell 2).trans (show _ = some (Value.slice P ts.length c) from rfl); clear hA hO)
          go_ret
          rw [HF.out.1, HF.out.2]
          exact ⟨rfl, _, _, _, H3.out.2, fun h => absurd h (by decide)⟩
        · have e1 : ((ts.length : Int) = 800) = False := eq_false (by omega)
          have e2 : decide ((ts.length : Int) = 800) = false := decide_eq_false (by omega)
          have e3 : ((ts.length : Int) == 800) = false := by simp; omega
          go_wp2_with (refine wpList_store_blk rfl 37 (.tmp 3) (.tmp 8) rfl w2.heap.size 0 (tkC R.tk) rfl rfl HZ.out (by simp [tkC]) (tk_size.trans (by simp [tkC])) (tkC_one _) ?_; intro wx hA hO; rw [over_whole (by simp [tkC])] at hA; have H3 := Lib.hid (And.intro hA (HA2.out.1.quiet HA2.out.2 (only_own (Only.of_below (pnew w2 _)) hO))); have y3 := (H3.out.2.rd.cell 2).trans (show _ = some (Value.slice P ts.length c) from rfl); clear hA hO)
          have HNX : Hid (N ≤ wx.heap.size) := Lib.hid (by rw [← HS.out]; exact H3.out.2.b.size)
          have hXX : ∀ {k j : Nat}, j ∈ (if k = 7 then (Value.slice P ts.length c).ownBlock.toList else if k = 10 then [g] else []) → j < wx.heap.size := by
            intro k j hj
            split at hj
            · exact (H3.out.2.row.lt j (by simpa using hj)).2
            · split at hj
              · simp at hj
                rw [hj]
                exact H3.out.2.rd.lt
              · cases hj
          have h7X : ∀ {k j : Nat}, k ≠ 7 → j ∈ (if k = 7 then (Value.slice P ts.length c).ownBlock.toList else if k = 10 then [g] else []) → j = g := by
            intro k j hk hj
            rw [if_neg hk] at hj
            split at hj
            · simpa using hj
            · cases hj
          refine wp_hideQ ?_
          intro QQ hQQ
          refine wp_region_chainQ [7, 10] [some 24, some 25, some 26, some 27, some 28, some 29, some 30, some 31, some 32, some 33, none] [isV (.pointer (some ⟨g, 0, none⟩)), isV (.pointer (some ⟨g, 0, none⟩)), isV (.pointer (some ⟨g, 0, none⟩)), isV (.pointer (some ⟨g, 2, none⟩)), isV (.slice P ts.length c), isV (.agg (tkC R.tk).toArray), oneT wx.heap.size R.tk, rowTW N g (ts ++ [R.tk]), isV (.pointer (some ⟨g, 0, none⟩)), isV (.pointer (some ⟨g, 2, none⟩)), isV undef] (fun k => if k = 7 then (Value.slice P ts.length c).ownBlock.toList else if k = 10 then [g] else []) (allR N wS wx g ts R.tk R.left R.line (.slice P ts.length c)) 11 (by kernel_rfl) rfl rfl rfl (by kernel_rfl) (by kernel_rfl) (pdrew wx) ?_ ?_ ?_
          · intro i k v wy wz hki hv ho
            match i, hv with
            | 0, hv => exact hv
            | 1, hv => exact hv
            | 2, hv => exact hv
            | 3, hv => exact hv
            | 4, hv => exact hv
            | 5, hv => exact hv
            | 6, hv =>
              obtain ⟨p, h1, h2, h3⟩ : oneT wx.heap.size R.tk _ wy := hv
              exact ⟨p, h1, h2, h3.only ho (fun hm => by have := hXX hm; omega)⟩
            | 7, hv =>
              obtain ⟨h1, h2⟩ : rowTW N g (ts ++ [R.tk]) _ wy := hv
              exact ⟨ownsRow_only h1 ho (fun q hq hm => h2 (by rw [hq]; rw [h7X hki hm])), h2⟩
            | 8, hv => exact hv
            | 9, hv => exact hv
            | 10, hv => exact hv
            | i + 11, hv => exact hv
          · intro hq rz hz
            match rz, hz with
            | 0, _ =>
              refine StepP.val rfl rfl [] (by decide +kernel) ?_
              intro p hhi hlo v wy hR hd
              exact ⟨wanted_plain rfl _, _, _, x_move rfl (fill_off rfl rfl), hR, Only.refl _ _, rfl⟩
            | 1, _ =>
              refine StepP.val rfl rfl [] (by decide +kernel) ?_
              intro p hhi hlo v wy hR hd
              exact ⟨wanted_plain rfl _, _, _, x_move rfl (fill_off rfl rfl), hR, Only.refl _ _, rfl⟩
            | 2, _ =>
              refine StepP.val rfl rfl [1] (by decide +kernel) ?_
              intro p hhi hlo v wy hR hd
              have h1 : v 1 = _ := hd 1 (by simp)
              exact ⟨wanted_plain rfl _, _, _, x_nil rfl (hq.at_ rfl h1), hR, Only.refl _ _, rfl⟩
            | 3, _ =>
              refine StepP.val rfl rfl [2] (by decide +kernel) ?_
              intro p hhi hlo v wy hR hd
              have h2 : v 2 = _ := hd 2 (by simp)
              exact ⟨wanted_plain rfl _, _, _, x_field rfl (hq.at_ rfl h2) (r_field (off := 2) (by kernel_rfl)), hR, Only.refl _ _, rfl⟩
            | 4, _ =>
              refine StepP.val rfl rfl [3] (by decide +kernel) ?_
              intro p hhi hlo v wy hR hd
              obtain rfl : p = 0 := by have := hhi 0 7 rfl (by decide +kernel); omega
              have hR : Below wx.heap.size wx wy := hR
              have h3 : v 3 = _ := hd 3 (by simp)
              exact ⟨wanted_plain rfl _, _, _, x_load rfl (hq.at_ rfl h3) (r_load (by kernel_rfl) (pcell_below y3 hR)), hR, Only.refl _ _, rfl⟩
            | 5, _ =>
              refine StepP.val rfl rfl [] (by decide +kernel) ?_
              intro p hhi hlo v wy hR hd
              obtain rfl : p = 0 := by have := hhi 0 7 rfl (by decide +kernel); omega
              have hR : Below wx.heap.size wx wy := hR
              exact ⟨wanted_plain rfl _, _, _, x_load rfl (fill_off rfl rfl) (r_loadR (cs := tkC R.tk) (by kernel_rfl) ((H3.out.1.below hR H3.out.1.lt).range)), hR, Only.refl _ _, rfl⟩
            | 6, _ =>
              refine StepP.val rfl rfl [5] (by decide +kernel) ?_
              intro p hhi hlo v wy hR hd
              obtain rfl : p = 0 := by have := hhi 0 7 rfl (by decide +kernel); omega
              have hR : Below wx.heap.size wx wy := hR
              have h5 : v 5 = _ := hd 5 (by simp)
              have hb := pnew wy (.cells (tkC R.tk).toArray 37)
              exact ⟨wanted_plain rfl _, xe_ex (x_slice rfl (pairs_1 (hq.at_ rfl h5)) (slice_tk wy R.tk)) ⟨hR.trans (hb.mono hR.size), Only.of_below hb, wy.heap.size, rfl, hR.size, Blk.new wy 37 (tkC R.tk)⟩⟩
            | 7, _ =>
              refine StepP.cval 0 rfl rfl rfl [4, 6] (by decide +kernel) ?_
              intro v wy hR hd
              have hR : Below wx.heap.size wx wy := hR
              have h4 : v 4 = _ := hd 4 (by simp)
              obtain ⟨p6, h6, hp6, hk6⟩ : (oneT wx.heap.size R.tk) (v 6) wy := hd 6 (by simp)
              have hSy := H3.out.2.below HNX.out hR
              refine ⟨wanted_plain rfl _, xe_app_own rfl Try.underlying22 tk_info rfl (by omega) (hq.at_ rfl h4) hSy.row (hq.at_ rfl h6) (tkC R.tk) rfl (fun j u hu => by rw [Nat.zero_add, hk6.cell]; exact hu) (tkC_one _) (by omega) (by omega) (by omega) (Nat.le_trans HNX.out hR.size) ?_⟩
              intro g' cap w' g1 g2 g3
              have hgo : g ∉ (Value.slice P ts.length c).ownBlock.toList := fun hm => own_blk_ne hSy.row hSy.rd (by decide) (by simpa using hm)
              have hrd := hSy.rd.only g2 hgo
              have hrow : w'.ownsRow N 37 3 (.slice (some ⟨g', 0, none⟩) (ts.length + 1) cap) (ts ++ [R.tk]).length (rowK (ts ++ [R.tk])) := by
                rw [rowK_snoc, List.length_append]
                exact g1
              exact ⟨⟨hrd, hSy.b.trans (g2.below (Nat.le_trans HNX.out hR.size) (fun k hk => (hSy.row.lt k (by simpa using hk)).1))⟩, g2, hrow, own_blk_ne hrow hrd (by decide)⟩
            | 8, _ =>
              refine StepP.val rfl rfl [0] (by decide +kernel) ?_
              intro p hhi hlo v wy hR hd
              have h0 : v 0 = _ := hd 0 (by simp)
              exact ⟨wanted_plain rfl _, _, _, x_nil rfl (hq.at_ rfl h0), hR, Only.refl _ _, rfl⟩
            | 9, _ =>
              refine StepP.val rfl rfl [8] (by decide +kernel) ?_
              intro p hhi hlo v wy hR hd
              have h8 : v 8 = _ := hd 8 (by simp)
              exact ⟨wanted_plain rfl _, _, _, x_field rfl (hq.at_ rfl h8) (r_field (off := 2) (by kernel_rfl)), hR, Only.refl _ _, rfl⟩
            | 10, _ =>
              refine StepP.cskip 1 rfl rfl rfl [9, 7] (by decide +kernel) ?_
              intro v wy hR hd
              have hR : RdB wy g (baL R.left) R.line (.slice P ts.length c) ∧ Below N wS wy := hR
              have h9 : v 9 = _ := hd 9 (by simp)
              have hv7 : rowTW N g (ts ++ [R.tk]) (v 7) wy := hd 7 (by simp)
              obtain ⟨P7, c7, h7⟩ := own_slice hv7.1
              rw [h7] at hv7
              have hMy : N ≤ wy.heap.size := by rw [← HS.out]; exact hR.2.size
              exact ⟨wanted_plain rfl _, _, x_store rfl (hq.at_ rfl h9) (hq.at_ rfl h7) (r_store1 (v := .slice P7 (ts ++ [R.tk]).length c7) (by kernel_rfl) rfl rfl hR.1 (by simp)), all_store hMy hg hR.1 hR.2 hv7, store_only _ _ _ _, rfl⟩
            | rz + 11, h => omega
          · intro v wz hR hV
            obtain ⟨lv', hE⟩ := hR
            have HE2 := Lib.hid hE
            clear hE hV
            simp only [fillR, Act.put, List.setIfInBounds_toArray, List.set_cons_zero, List.set_cons_succ]
            go_wp2_with fail
            exact ⟨⟨ts ++ [R.tk], R.left, R.line, lv', by simp; omega, by omega, by omega, Lib.hid ⟨HE2.out, by rw [HE.out.1]; simp⟩⟩, by rw [lftM_is HE2.out.rd, HM.out, ba_size]; exact HE.out.2.1⟩
      · have HF : Hid (allE X = R.err ∧ allN X = R.line) := Lib.hid (by
          rcases HL.out with ⟨h1, _⟩ | ⟨_, hx, _⟩
          · exact absurd h1 h0
          · have e := HI.out.2
            rw [hx] at e
            subst e
            exact ⟨allE_err (by simpa using hts) h4, allN_line (by simpa using hts)⟩)
        have HQ : Hid (R.err ≠ 0) := Lib.hid h0
        obtain ⟨z, hz⟩ : ∃ z, z = R.err := ⟨_, rfl⟩
        rw [← hz] at h4 h0 HF HQ ⊢
        obtain ⟨e1, e2, e3, e4⟩ := ne_facts z 4 (by omega)
        obtain ⟨f1, f2, f3, f4⟩ := ne_facts z 0 (by omega)
        have HZZ := Lib.hid hz
        clear h4 h0 hz
        go_wp2_with (refine wpList_store_blk rfl 37 (.tmp 3) (.tmp 8) rfl w2.heap.size 0 (tkC R.tk) rfl rfl HZ.out (by simp [tkC]) (tk_size.trans (by simp [tkC])) (tkC_one _) ?_; intro wx hA hO; rw [over_whole (by simp [tkC])] at hA; have H3 := Lib.hid (And.intro hA (HA2.out.1.quiet HA2.out.2 (only_own (Only.of_below (pnew w2 _)) hO))); clear hA hO)
        go_ret
        rw [HF.out.1, HF.out.2]
        exact ⟨rfl, _, _, _, H3.out.2, fun h => absurd h HQ.out⟩
end Go.Proofs.Ytammomjnigalbaa
