/-
  Tokens, and Next: walked. Conditions: sizes.
-/
import Derived.Test.YtammomjnigalbaaLAll
set_option linter.unusedSimpArgs false
set_option linter.unusedVariables false
set_option maxRecDepth 100000
namespace Go.Proofs.Ytammomjnigalbaa
open Go.RowKit

/-- Tokens that lie in memory. -/
structure TIn (w : World) (A : Option Addr) (n c : Nat) (ts : List Tk) : Prop where
  len : ts.length = n
  cap : n ≤ c
  big : c ≤ 9223372036854775807
  nil : A = none → c = 0
  cells : 0 < n → ∃ g o, A = some ⟨g, o, none⟩ ∧ g < w.heap.size ∧ ∀ (i : Nat) x, ts[i]? = some x → ∀ (j : Nat) u, (tkC x)[j]? = some u → w.cell? ⟨g, o + i * 3 + j, none⟩ = some u
theorem TIn.below {w w' : World} {A : Option Addr} {n c : Nat} {ts : List Tk} (h : TIn w A n c ts) (hb : Below w.heap.size w w') : TIn w' A n c ts := by
  refine ⟨h.len, h.cap, h.big, h.nil, fun hn => ?_⟩
  obtain ⟨g, o, hA, hg, hc⟩ := h.cells hn
  exact ⟨g, o, hA, Nat.lt_of_lt_of_le hg hb.size, fun i x hx j u hu => (hb.cell (p := ⟨g, _, none⟩) hg).trans (hc i x hx j u hu)⟩
theorem TIn.none (w : World) : TIn w Option.none 0 0 [] := ⟨rfl, Nat.le_refl _, by omega, fun _ => rfl, fun h => absurd h (by omega)⟩
theorem TIn.row {w : World} {A : Option Addr} {n c : Nat} {ts : List Tk} (h : TIn w A n c ts) {i : Nat} (hi : i < n) : ∃ g o x, A = some ⟨g, o, Option.none⟩ ∧ g < w.heap.size ∧ ts[i]? = some x ∧ w.cell? ⟨g, o + i * 3, Option.none⟩ = some (.int .i64 (x.kind : Int)) ∧ w.cell? ⟨g, o + i * 3 + 1, Option.none⟩ = some (.string (baL x.text)) ∧ w.cell? ⟨g, o + i * 3 + 2, Option.none⟩ = some (.int .i64 (x.line : Int)) := by
  obtain ⟨g, o, hA, hg, hc⟩ := h.cells (by omega)
  have hx := List.getElem?_eq_getElem (l := ts) (i := i) (by rw [h.len]; exact hi)
  exact ⟨g, o, _, hA, hg, hx, hc i _ hx 0 _ rfl, hc i _ hx 1 _ rfl, hc i _ hx 2 _ rfl⟩
theorem rowK_len (ts : List Tk) : (rowK ts).length = ts.length * 3 := by
  induction ts with
  | nil => rfl
  | cons x r ih =>
    have : rowK (x :: r) = tkC x ++ rowK r := rfl
    rw [this, List.length_append, ih, List.length_cons]
    simp [tkC]
    omega
theorem rowK_get {ts : List Tk} {i : Nat} {x : Tk} (h : ts[i]? = some x) {j : Nat} {u : Value} (hu : (tkC x)[j]? = some u) : (rowK ts)[i * 3 + j]? = some u := by
  have hj : j < 3 := by
    have := (List.getElem?_eq_some_iff.1 hu).1
    simpa [tkC] using this
  induction ts generalizing i with
  | nil => simp at h
  | cons y r ih =>
    have e : rowK (y :: r) = tkC y ++ rowK r := rfl
    rw [e]
    cases i with
    | zero =>
      simp only [List.getElem?_cons_zero, Option.some.injEq] at h
      subst h
      rw [Nat.zero_mul, Nat.zero_add, List.getElem?_append_left (by simp [tkC]; omega)]
      exact hu
    | succ i =>
      rw [List.getElem?_append_right (by simp [tkC]; omega)]
      have := ih (i := i) (by simpa using h)
      rw [show (i + 1) * 3 + j - (tkC y).length = i * 3 + j by simp [tkC]; omega]
      exact this
theorem TIn.of_own {w : World} {N : Nat} {v : Value} {ts : List Tk} (h : w.ownsRow N 37 3 v ts.length (rowK ts)) : ∃ A c, v = .slice A ts.length c ∧ TIn w A ts.length c ts := by
  rcases h.2 with ⟨rfl, h0⟩ | ⟨g, cap, cur, rfl, hg, hb, h1, h2, h3, h4⟩
  · have he : ts = [] := List.eq_nil_of_length_eq_zero h0
    subst he
    exact ⟨_, _, rfl, TIn.none w⟩
  · refine ⟨_, _, rfl, rfl, h1, by unfold maxLen at h2; omega, (fun ha => by cases ha), fun hp => ⟨g, 0, rfl, (Array.getElem?_eq_some_iff.1 hb).1, fun i x hx j u hu => ?_⟩⟩
    have hk : Blk w g 37 cur.toList := by simpa [Blk] using hb
    rw [hk.cell, Nat.zero_add]
    have h5 := rowK_get hx hu
    rw [← h4, List.getElem?_take] at h5
    split at h5
    · exact h5
    · cases h5
/-- What Tokens answers: the error, and the line. -/
def toksE (l : By) : Nat := if 8192 < l.length then 2 else allE (lexL 1 l)
def toksN (l : By) : Nat := if 8192 < l.length then 0 else allN (lexL 1 l)
theorem toksE_long {l : By} (h : 8192 < l.length) : toksE l = 2 ∧ toksN l = 0 := by unfold toksE toksN; simp [h]
theorem toksE_is {l : By} (h : ¬ 8192 < l.length) : toksE l = allE (lexL 1 l) ∧ toksN l = allN (lexL 1 l) := by unfold toksE toksN; simp [h]
/-- What is known of what Tokens answers. -/
def ToksOut (w : World) (s : ByteArray) (e : Ending) (w' : World) : Prop := Below w.heap.size w w' ∧ ((toksE (bsL s) = 0 ∧ ∃ A c, e = .returned (.tuple #[.slice A (lexL 1 (bsL s)).ts.length c, .int .i64 0, .int .i64 0]) ∧ TIn w' A (lexL 1 (bsL s)).ts.length c (lexL 1 (bsL s)).ts) ∨
  (toksE (bsL s) ≠ 0 ∧ e = .returned (.tuple #[.slice none 0 0, .int .i64 (toksN (bsL s) : Nat), .int .i64 (toksE (bsL s) : Nat)])))
set_option maxHeartbeats 4000000 in
theorem tokens_any (w : World) (s : ByteArray) (hbig : s.size ≤ 9223372036854775807) : Calls Try.prog 6 #[.string s] w (ToksOut w s) := by
  by_cases hl : 8192 < s.size
  · have HF := Lib.hid (toksE_long (l := bsL s) (by rw [bs_len]; exact hl))
    have e1 : ((8192 : Int) < (s.size : Int)) = True := eq_true (by omega)
    have e2 : decide ((8192 : Int) < (s.size : Int)) = true := decide_eq_true (by omega)
    clear hl
    go_enter Try.func6, Try.ntmps6
    go_wp2_with fail
    go_ret3
    unfold ToksOut
    rw [HF.out.1, HF.out.2]
    exact ⟨Below.refl _ _, .inr ⟨by decide, rfl⟩⟩
  · have e1 : ((8192 : Int) < (s.size : Int)) = False := eq_false (by omega)
    have e2 : decide ((8192 : Int) < (s.size : Int)) = false := decide_eq_false (by omega)
    have HF := Lib.hid (toksE_is (l := bsL s) (by rw [bs_len]; exact hl))
    have HSZ : Hid ((bsL s).length ≤ 10000) := Lib.hid (by rw [bs_len]; omega)
    have HBS := Lib.hid (ba_bs s)
    obtain ⟨l, hbl⟩ : ∃ l, l = bsL s := ⟨_, rfl⟩
    obtain ⟨X, hX⟩ : ∃ X, X = lexL 1 (bsL s) := ⟨_, rfl⟩
    have HX := Lib.hid (And.intro hX hbl)
    have HR := Lib.hid (read_any w s)
    clear hl hX hbl
    go_enter Try.func6, Try.ntmps6
    go_wp2_with fail
    refine HR.out.mono ?_
    rintro e w1 ⟨rfl, h1⟩
    have H1 := Lib.hid h1
    have HZ := Lib.hid (Blk.new w1 46 [.string ⟨#[]⟩, .int .i64 0, .slice none 0 0])
    clear h1
    go_wp2_with (refine wpList_store_blk rfl 46 (.tmp 5) (.tmp 11) rfl w1.heap.size 0 [.string s, .int .i64 1, .slice none 0 0] rfl rfl HZ.out (by simp) rd_size (by intro u hu; simp at hu; rcases hu with rfl | rfl | rfl <;> rfl) ?_; intro w2 hA hO; rw [over_whole (by simp)] at hA; have hO2 := only_own (Only.of_below (S := []) (pnew w1 _)) hO; have H2 := Lib.hid (And.intro hA (H1.out.trans (hO2.below H1.out.size (by simp)))); clear hA hO hO2)
    have hE : AlS w.heap.size w w2 w1.heap.size [] (bsL s) 1 (.slice none 0 0) := ⟨by rw [HBS.out]; exact H2.out.1, World.ownsRow_nil _ _ _ _, H2.out.2⟩
    have HAll := Lib.hid (all_any w.heap.size w w2 w1.heap.size rfl H1.out.size (bsL s) HSZ.out hE)
    clear hE
    refine HAll.out.mono ?_
    rw [← HF.out.1, ← HF.out.2, ← HX.out.1]
    rintro e w3 ⟨rfl, ts, l', lv, hS, hts⟩
    obtain ⟨A, c, rfl, hT⟩ := TIn.of_own hS.row
    have y1 : w3.cell? ⟨w1.heap.size, 1, none⟩ = some (.int .i64 ((toksN (bsL s) : Nat) : Int)) := (hS.rd.cell 1).trans rfl
    have y2 : w3.cell? ⟨w1.heap.size, 2, none⟩ = some (.slice A ts.length c) := (hS.rd.cell 2).trans rfl
    have H3 := Lib.hid (And.intro hT (And.intro hS.b hts))
    clear hT hS hts
    obtain ⟨E, hE⟩ : ∃ E, E = toksE (bsL s) := ⟨_, rfl⟩
    obtain ⟨L, hL⟩ : ∃ E, E = toksN (bsL s) := ⟨_, rfl⟩
    rw [← hE] at H3 ⊢
    rw [← hL] at y1
    have HE := Lib.hid (And.intro hE hL)
    clear hE hL
    by_cases h0 : E = 0
    · have HT : Hid (ts = X.ts) := Lib.hid (H3.out.2.2 h0)
      subst h0
      go_wp2_with fail
      go_ret3
      have h5 := H3.out.1
      rw [HT.out] at h5 ⊢
      unfold ToksOut
      rw [← HE.out.1, ← HX.out.1]
      exact ⟨H3.out.2.1, .inl ⟨rfl, A, c, rfl, h5⟩⟩
    · obtain ⟨f1, f2, f3, f4⟩ := ne_facts E 0 (by omega)
      have HQ := Lib.hid h0
      clear h0 y2
      go_wp2_with fail
      go_region_held3 (fun w' => w'.cell? ⟨w1.heap.size, 1, none⟩ = some (.int .i64 (L : Int))) (first | exact y1) (first | go_in)
      all_goals (go_wp2_with fail)
      all_goals go_ret3
      all_goals unfold ToksOut
      all_goals rw [← HE.out.1, ← HE.out.2]
      all_goals exact ⟨H3.out.2.1.trans ((pdrew w3).mono H3.out.2.1.size), .inr ⟨HQ.out, rfl⟩⟩
theorem x_lens {P : Program} {ρ : Operand → Value} {o : Oper} {w : World} {t : TypeId} {c : Call} {y : Operand} {s : ByteArray} (ho : o.op = .call c) (hc : c.callee = .builtin .len) (ha : c.args = #[y]) (ht : c.argTypes = #[t]) (hp : P.underlying t = some .string) (hy : ρ y = .string s) : (execOp ρ o).run P w = .ok (.value (.int .i64 s.size)) w := by
  unfold execOp resolve
  rw [ho]
  simp only [hc, ha, ht, Sem.run_bind, Sem.run_pure, Result.andThen_ok]
  simp [invoke, builtin, Builtin.len_, hy, run_underlying hp w, goInt]
def nextR (w0 wx : World) (g : Nat) (R : Tn) : Nat → World → Prop
  | 0, w => Below wx.heap.size wx w
  | _ + 1, w => Blk w w0.heap.size 37 (tkC R.tk) ∧ Below w0.heap.size w0 w ∧ w.cell? ⟨g, 0, none⟩ = some (.string (baL R.left))
theorem nextR_left {w0 wx w : World} {g : Nat} {R : Tn} (hy : wx.cell? ⟨g, 0, none⟩ = some (.string (baL R.left))) : ∀ {p : Nat}, nextR w0 wx g R p w → w.cell? ⟨g, 0, none⟩ = some (.string (baL R.left))
  | 0, h => pcell_below hy h
  | _ + 1, h => h.2.2
set_option maxHeartbeats 4000000 in
theorem next_any (w : World) (s : ByteArray) (hbig : s.size ≤ 1000000) : Calls Try.prog 13 #[.string s] w fun e w' => e = .returned (.tuple #[.agg (tkC (tokN 1 (bsL s)).tk).toArray, .int .i64 ((s.size : Int) - ((tokN 1 (bsL s)).left.length : Nat)), .int .i64 ((tokN 1 (bsL s)).err : Nat)]) ∧ Below w.heap.size w w' := by
  have hll := (tokN_line 1 (bsL s)).2.1
  rw [bs_len] at hll
  have HK := fun w2 g lv (h : RdB w2 g s 1 lv) => token_any w2 g s 1 lv h hbig (by omega)
  obtain ⟨R, hR⟩ : ∃ R, R = tokN 1 (bsL s) := ⟨_, rfl⟩
  rw [← hR] at hll HK ⊢
  have HT := Lib.hid HK
  obtain ⟨wa, hwa⟩ : ∃ wa, wa = w.alloc (.cells (tkC tkZ).toArray 37) := ⟨_, rfl⟩
  have HA : Hid (Blk wa w.heap.size 37 (tkC tkZ) ∧ Below w.heap.size w wa ∧ w.heap.size < wa.heap.size) := Lib.hid (by rw [hwa]; exact ⟨Blk.new w 37 (tkC tkZ), pnew w _, by simp⟩)
  have HW := Lib.hid hwa
  have HR := Lib.hid (read_any wa s)
  clear hR HK hwa
  go_enter Try.func13, Try.ntmps13
  go_wp2_with fail
  rw [show w.alloc (.cells #[Value.int .i64 0, .string ⟨#[]⟩, .int .i64 0] 37) = wa from HW.out.symm]
  refine HR.out.mono ?_
  rintro e w1 ⟨rfl, h1⟩
  have H1 := Lib.hid (And.intro (HA.out.1.below h1 HA.out.2.2) (And.intro (HA.out.2.1.trans (h1.mono HA.out.2.1.size)) (Nat.lt_of_lt_of_le HA.out.2.2 h1.size)))
  have HZ := Lib.hid (Blk.new w1 46 [.string ⟨#[]⟩, .int .i64 0, .slice none 0 0])
  clear h1
  go_wp2_with (refine wpList_store_blk rfl 46 (.tmp 5) (.tmp 9) rfl w1.heap.size 0 [.string s, .int .i64 1, .slice none 0 0] rfl rfl HZ.out (by simp) rd_size (by intro u hu; simp at hu; rcases hu with rfl | rfl | rfl <;> rfl) ?_; intro w2 hA hO; rw [over_whole (by simp)] at hA; have hO2 := only_own (Only.of_below (S := []) (pnew w1 _)) hO; have H2 := Lib.hid (And.intro hA (And.intro (H1.out.1.only hO2 (by simp)) (H1.out.2.1.trans (hO2.below H1.out.2.1.size (by simp))))); clear hA hO hO2)
  refine (HT.out w2 w1.heap.size (.slice none 0 0) H2.out.1).mono ?_
  rintro e w3 ⟨rfl, hO, hB⟩
  have H3 := Lib.hid (And.intro hB (And.intro (H2.out.2.1.only hO (by have := H1.out.2.2; simp; omega)) (H2.out.2.2.trans (hO.below H2.out.2.2.size (by have := H1.out.2.1.size; simp; omega)))))
  have HZ3 := Lib.hid (Blk.new w3 37 (tkC tkZ))
  clear hO hB
  go_wp2_with (refine wpList_store_blk rfl 37 (.tmp 6) (.tmp 12) rfl w3.heap.size 0 (tkC R.tk) rfl rfl HZ3.out (by simp [tkC]) (tk_size.trans (by simp [tkC])) (tkC_one _) ?_; intro wx hA hO; rw [over_whole (by simp [tkC])] at hA; have hO2 := only_own (Only.of_below (S := []) (pnew w3 _)) hO; have H4 := Lib.hid (And.intro hA (And.intro (H3.out.1.only hO2 (by simp)) (And.intro (H3.out.2.1.only hO2 (by simp)) (H3.out.2.2.trans (hO2.below H3.out.2.2.size (by simp)))))); clear hA hO hO2)
  have y0 : wx.cell? ⟨w1.heap.size, 0, none⟩ = some (.string (baL R.left)) := (H4.out.2.1.cell 0).trans rfl
  have hls : (baL R.left).size = R.left.length := ba_size _
  refine wp_hideQ ?_
  intro QQ hQQ
  refine wp_region_chainQ [9] [some 14, some 15, some 16, some 17, some 18, some 19, some 20, some 21, some 22, none, some 3, some 4] [isV (.agg (tkC R.tk).toArray), isV (.string s), isV (.int .i64 (s.size : Int)), isV (.pointer (some ⟨w1.heap.size, 0, none⟩)), isV (.pointer (some ⟨w1.heap.size, 0, none⟩)), isV (.string (baL R.left)), isV (.int .i64 (R.left.length : Int)), isV (.int .i64 ((s.size : Int) - (R.left.length : Int))), isV (.int .i64 (R.err : Int)), isV undef, isV (.int .i64 ((s.size : Int) - (R.left.length : Int))), isV (.int .i64 (R.err : Int))] (fun k => if k = 9 then [w.heap.size] else []) (nextR w wx w1.heap.size R) 12 (by kernel_rfl) rfl rfl rfl (by kernel_rfl) (by kernel_rfl) (pdrew wx) ?_ ?_ ?_
  · intro i k v wy wz hki hv ho
    match i, hv with
    | 0, hv => exact hv
    | 1, hv => exact hv
    | 2, hv => exact hv
    | 3, hv => exact hv
    | 4, hv => exact hv
    | 5, hv => exact hv
    | 6, hv => exact hv
    | 7, hv => exact hv
    | 8, hv => exact hv
    | 9, hv => exact hv
    | 10, hv => exact hv
    | 11, hv => exact hv
    | i + 12, hv => exact hv
  · intro hq rz hz
    match rz, hz with
    | 0, _ =>
      refine StepP.val rfl rfl [] (by decide +kernel) ?_
      intro p hhi hlo v wy hR hd
      obtain rfl : p = 0 := by have := hhi 0 9 rfl (by decide +kernel); omega
      have hR : Below wx.heap.size wx wy := hR
      exact ⟨wanted_plain rfl _, _, _, x_load rfl (fill_off rfl rfl) (r_loadR (cs := tkC R.tk) (by kernel_rfl) ((H4.out.1.below hR H4.out.1.lt).range)), hR, Only.refl _ _, rfl⟩
    | 1, _ =>
      refine StepP.val rfl rfl [] (by decide +kernel) ?_
      intro p hhi hlo v wy hR hd
      exact ⟨wanted_plain rfl _, _, _, x_move rfl (fill_off rfl rfl), hR, Only.refl _ _, rfl⟩
    | 2, _ =>
      refine StepP.val rfl rfl [1] (by decide +kernel) ?_
      intro p hhi hlo v wy hR hd
      have h1 : v 1 = _ := hd 1 (by simp)
      exact ⟨wanted_plain rfl _, _, _, x_lens rfl rfl rfl rfl Try.underlying9 (hq.at_ rfl h1), hR, Only.refl _ _, rfl⟩
    | 3, _ =>
      refine StepP.val rfl rfl [] (by decide +kernel) ?_
      intro p hhi hlo v wy hR hd
      exact ⟨wanted_plain rfl _, _, _, x_field rfl (fill_off rfl rfl) (r_field (off := 0) (by kernel_rfl)), hR, Only.refl _ _, rfl⟩
    | 4, _ =>
      refine StepP.val rfl rfl [3] (by decide +kernel) ?_
      intro p hhi hlo v wy hR hd
      have h3 : v 3 = _ := hd 3 (by simp)
      exact ⟨wanted_plain rfl _, _, _, x_field rfl (hq.at_ rfl h3) (r_field (off := 0) (by kernel_rfl)), hR, Only.refl _ _, rfl⟩
    | 5, _ =>
      refine StepP.val rfl rfl [4] (by decide +kernel) ?_
      intro p hhi hlo v wy hR hd
      have h4 : v 4 = _ := hd 4 (by simp)
      exact ⟨wanted_plain rfl _, _, _, x_load rfl (hq.at_ rfl h4) (r_load (by kernel_rfl) (nextR_left y0 hR)), hR, Only.refl _ _, rfl⟩
    | 6, _ =>
      refine StepP.val rfl rfl [5] (by decide +kernel) ?_
      intro p hhi hlo v wy hR hd
      have h5 : v 5 = _ := hd 5 (by simp)
      exact ⟨wanted_plain rfl _, _, _, (hls ▸ x_lens rfl rfl rfl rfl Try.underlying9 (hq.at_ rfl h5)), hR, Only.refl _ _, rfl⟩
    | 7, _ =>
      refine StepP.val rfl rfl [2, 6] (by decide +kernel) ?_
      intro p hhi hlo v wy hR hd
      have h2 : v 2 = _ := hd 2 (by simp)
      have h6 : v 6 = _ := hd 6 (by simp)
      exact ⟨wanted_plain rfl _, _, _, x_bin rfl (hq.at_ rfl h2) (hq.at_ rfl h6) (r_sub rfl (by omega) (by omega)), hR, Only.refl _ _, rfl⟩
    | 8, _ =>
      refine StepP.val rfl rfl [] (by decide +kernel) ?_
      intro p hhi hlo v wy hR hd
      exact ⟨wanted_plain rfl _, _, _, x_move rfl (fill_off rfl rfl), hR, Only.refl _ _, rfl⟩
    | 9, _ =>
      refine StepP.cskip 0 rfl rfl rfl [0] (by decide +kernel) ?_
      intro v wy hR hd
      have hR : Below wx.heap.size wx wy := hR
      have h0 : v 0 = _ := hd 0 (by simp)
      have hB := H4.out.2.2.1.below hR H4.out.2.2.1.lt
      have hO : Only [w.heap.size] wy (wy.setCells w.heap.size 0 (tkC R.tk)) := Only.setCells _ _ _ (Only.refl [w.heap.size] _) (.inl (by simp))
      have h5 := hB.setCells (tkC R.tk) 0 (by simp [tkC])
      rw [over_whole (by simp [tkC])] at h5
      refine ⟨wanted_plain rfl _, _, x_store rfl (fill_off rfl rfl) (hq.at_ rfl h0) (r_storeB (vs := tkC R.tk) (cs := tkC tkZ) (tk_size.trans rfl) (tkC_one _) hB (by simp [tkC])), ⟨h5, (H4.out.2.2.2.trans (hR.mono H4.out.2.2.2.size)).trans (hO.below (Nat.le_trans H4.out.2.2.2.size hR.size) (by simp)), ?_⟩, hO, rfl⟩
      exact only_cell hO (pcell_below y0 hR) (by have := H1.out.2.2; simp; omega)
    | 10, _ =>
      refine StepP.val rfl rfl [7, 9] (by decide +kernel) ?_
      intro p hhi hlo v wy hR hd
      have h7 : v 7 = _ := hd 7 (by simp)
      have h9 : v 9 = _ := hd 9 (by simp)
      exact ⟨wanted_plain rfl _, _, _, x_assign rfl (hq.at_ rfl h7), hR, Only.refl _ _, rfl⟩
    | 11, _ =>
      refine StepP.val rfl rfl [8, 10] (by decide +kernel) ?_
      intro p hhi hlo v wy hR hd
      have h8 : v 8 = _ := hd 8 (by simp)
      have h10 : v 10 = _ := hd 10 (by simp)
      exact ⟨wanted_plain rfl _, _, _, x_assign rfl (hq.at_ rfl h8), hR, Only.refl _ _, rfl⟩
    | rz + 12, h => omega
  · intro v wz hR hV
    have h10 : v 10 = _ := hV 10 (by omega)
    have h11 : v 11 = _ := hV 11 (by omega)
    obtain ⟨r1, r2, r3⟩ := hR
    have H6 := Lib.hid (And.intro r1 r2)
    clear r1 r2 r3 hV
    simp only [fillR, Act.put, List.setIfInBounds_toArray, List.set_cons_zero, List.set_cons_succ, h10, h11]
    go_wp2_with fail
    refine bodyPost_ret (v := .tuple #[.agg (tkC R.tk).toArray, .int .i64 ((s.size : Int) - (R.left.length : Int)), .int .i64 (R.err : Int)]) (ret_cell3 rfl rfl rfl rfl (tk_load H6.out.1)) rfl ?_
    exact ⟨rfl, H6.out.2⟩
end Go.Proofs.Ytammomjnigalbaa
