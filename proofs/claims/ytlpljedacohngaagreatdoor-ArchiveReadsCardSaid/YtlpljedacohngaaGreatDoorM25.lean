/-
  Reading: the parts of the next entry. Conditions: what is left lies in memory, and not in the reader; the variables that paths' calls read hold what they must.
-/
import Derived.Test.YtlpljedacohngaaGreatDoorM24
import Derived.Test.YtlpljedacohngaaGreatDoorM16
import Derived.Deep.RegionHeld3
import Derived.Test.YtlpljedacohngaaGreatDoorM15
import Derived.Test.YtlpljedacohngaaGreatDoorM18
section
set_option linter.unusedSimpArgs false
set_option linter.unusedVariables false
set_option maxRecDepth 100000
namespace Go.Proofs.YtlpljedacohngaaGreatDoor
open Go.RowKit

theorem SIn.only {w w' : World} {A : Option Addr} {n c : Nat} {p : Pa} {S : List Nat} (h : SIn w A n c p) (ho : Only S w w') (hf : ∀ a, A = some a → a.block ∉ S) : SIn w' A n c p := by
  refine ⟨h.len, h.cap, h.big, h.nil, fun hn => ?_⟩
  obtain ⟨b, o, hA, hb, hc⟩ := h.cells hn
  exact ⟨b, o, hA, Nat.lt_of_lt_of_le hb ho.size, fun i t ht => only_cell ho (hc i t ht) (hf _ hA)⟩
theorem numR_lt {k z : Nat} {s s' : Rs} (hk : k ≤ 2) (h : numR k s = (z, s')) : z < 65536 := by
  have e : z = fromB (takeR k s).1 := (congrArg Prod.fst h).symm
  have hl := take_len (k := k) (s := s)
  have hf := fromB_lt (takeR k s).1
  have hq : 256 ^ (takeR k s).1.length ≤ 256 ^ 2 := Nat.pow_le_pow_right (by omega) (by omega)
  omega
theorem number12_is (M : Nat) (w : World) (g k : Nat) (hg : M ≤ g) (s : Rs) (lv : Value) (h : RdAt M w g s lv) (hk : k ≤ 2) (z : Nat) (s' : Rs) (hz : numR k s = (z, s')) :
    Calls Tryz.prog 26 #[.pointer (some ⟨g, 0, none⟩), .int .i64 k] w fun e w' => Only [g] w w' ∧ e = .returned (.int .i64 (z : Nat)) ∧ RdAt M w' g s' lv := by
  have := number12_any M w g k hg s lv h hk
  rw [hz] at this
  exact this
theorem take12_is (M : Nat) (w : World) (g k : Nat) (hg : M ≤ g) (s : Rs) (lv : Value) (h : RdAt M w g s lv) (hk : k ≤ 9223372036854775807) (xs : List B8) (s' : Rs) (hz : takeR k s = (xs, s')) :
    Calls Tryz.prog 41 #[.pointer (some ⟨g, 0, none⟩), .int .i64 k] w fun e w' => Only [g] w w' ∧ (∃ A c, e = .returned (.slice A xs.length c) ∧ DIn w' A xs.length c xs ∧ ∀ a, A = some a → a.block < M) ∧ RdAt M w' g s' lv := by
  have := take12_at M w g k hg s lv h hk
  rw [hz] at this
  refine this.mono ?_
  rintro e w' ⟨h1, ⟨u, rfl, A, c, rfl, h2, h3⟩, h4⟩
  exact ⟨h1, ⟨A, c, rfl, h2, h3⟩, h4⟩
/-- While the parts are read: where reading stands, the candidate's box, the result's. -/
structure CAt (M : Nat) (w0 w : World) (g b r : Nat) (s : Rs) (lv : Value) (cs : List Value) : Prop where
  rd : RdAt M w g s lv
  box : Blk w b 82 cs
  res : Blk w r 82 [.slice none 0 0, .int .i64 0, .int .i64 0, .slice none 0 0, .slice none 0 0, .slice none 0 0]
  only : Only [g] w0 w
section
variable {M : Nat} {w0 w w' : World} {g b r : Nat} {s s' : Rs} {lv : Value} {cs cs' : List Value}
theorem CAt.below (h : CAt M w0 w g b r s lv cs) (hb : Below w.heap.size w w') : CAt M w0 w' g b r s lv cs := ⟨h.rd.below hb, h.box.below hb h.box.lt, h.res.below hb h.res.lt, h.only.trans (Only.of_below hb)⟩
theorem CAt.turn (h : CAt M w0 w g b r s lv cs) (hbg : b ≠ g) (hrg : r ≠ g) (ho : Only [g] w w') (hr : RdAt M w' g s' lv) : CAt M w0 w' g b r s' lv cs := ⟨hr, h.box.only ho (by simpa using hbg), h.res.only ho (by simpa using hrg), h.only.trans ho⟩
theorem only_far {S : List Nat} (h : Only S w0 w) (hb0 : w0.heap.size ≤ b) (ho : Only [b] w w') : Only S w0 w' :=
  ⟨ho.os.trans h.os, ho.tape.trans h.tape, ho.output.trans h.output, Nat.le_trans h.size ho.size, fun i hi hs => (ho.block i (Nat.lt_of_lt_of_le hi h.size) (by simp; omega)).trans (h.block i hi hs)⟩
theorem CAt.put (h : CAt M w0 w g b r s lv cs) (hbg : g ≠ b) (hrb : r ≠ b) (hM : M ≤ b) (hb0 : w0.heap.size ≤ b) (ho : Only [b] w w') (hB : Blk w' b 82 cs') : CAt M w0 w' g b r s lv cs' :=
  ⟨h.rd.only ho (by simpa using hbg) (fun k hk => by simp at hk; omega), hB, h.res.only ho (by simpa using hrb), only_far h.only hb0 ho⟩
end
theorem pv_keep {M g : Nat} {wS w w8 : World} (hS : wS.heap.size = M) (hV : PV wS) (hW : Below M wS w) (ho : Only [g] w w8) (hg : M ≤ g) : PV w8 := by
  subst hS
  exact hV.to (hW.trans (ho.below hW.size (by simpa using hg)))
/-- Words: what was taken; what Parse answered; its path. -/
def tkW (M : Nat) (xs : List B8) : Value → World → Prop := fun u w => ∃ A c, u = .slice A xs.length c ∧ DIn w A xs.length c xs ∧ ∀ a, A = some a → a.block < M
def paT (p : Pa) (z : Int) (bad : List Nat) : Value → World → Prop := fun u w => ∃ A c, u = .tuple #[.slice A p.length c, .int .i64 z] ∧ SIn w A p.length c p ∧ ∀ a, A = some a → a.block ∉ bad
def paS (p : Pa) (z : Int) (bad : List Nat) : Value → World → Prop := fun u w => ∃ A c, u = .slice A p.length c ∧ SIn w A p.length c p ∧ ∀ a, A = some a → a.block ∉ bad
/-- How far the reading of a path is. -/
def cdR (M : Nat) (w0 : World) (g b r : Nat) (s2 s3 s4 : Rs) (lv : Value) (cs : List Value) (p : Pa) : Nat → World → Prop
  | 0, w => CAt M w0 w g b r s2 lv cs
  | 1, w => CAt M w0 w g b r s3 lv cs
  | 2, w => CAt M w0 w g b r s4 lv cs
  | 3, w => CAt M w0 w g b r s4 lv cs
  | _ + 4, w => ∃ A c, CAt M w0 w g b r s4 lv (cs.set 0 (.slice A p.length c)) ∧ SIn w A p.length c p ∧ ∀ a, A = some a → a.block ∉ [g, b, r]
def cdR5 (M : Nat) (w0 : World) (g b r : Nat) (s2 s3 s4 : Rs) (lv : Value) (cs : List Value) (d : List B8) : Nat → World → Prop
  | 0, w => CAt M w0 w g b r s2 lv cs
  | 1, w => CAt M w0 w g b r s3 lv cs
  | 2, w => CAt M w0 w g b r s4 lv cs
  | _ + 3, w => ∃ A c, CAt M w0 w g b r s4 lv (cs.set 3 (.slice A d.length c)) ∧ DIn w A d.length c d ∧ ∀ a, A = some a → a.block < M
theorem cd_put {M : Nat} {w0 w : World} {g b r : Nat} {s : Rs} {lv : Value} {cs : List Value} (h : CAt M w0 w g b r s lv cs) (hb : b ≠ g ∧ r ≠ g ∧ g ≠ b ∧ r ≠ b ∧ M ≤ b ∧ w0.heap.size ≤ b ∧ M ≤ g) (x : Nat) (v : Value) (hx : x < cs.length) : CAt M w0 (w.setCells b x [v]) g b r s lv (cs.set x v) :=
  h.put hb.2.2.1 hb.2.2.2.1 hb.2.2.2.2.1 hb.2.2.2.2.2.1 (store_only _ _ _ _) (over_one hx ▸ h.box.setCells [v] x (by simp; omega))
theorem cdR_last {M : Nat} {w0 w : World} {g b r : Nat} {s4 : Rs} {lv : Value} {u0 u1 u2 u3 u4 u5 : Value} (h : CAt M w0 w g b r s4 lv [u0, u1, u2, u3, u4, u5]) (hb : b ≠ g ∧ r ≠ g ∧ g ≠ b ∧ r ≠ b ∧ M ≤ b ∧ w0.heap.size ≤ b ∧ M ≤ g) {p : Pa} {A : Option Addr} {c : Nat} (hs : SIn w A p.length c p) (hf : ∀ a, A = some a → a.block ∉ [g, b, r]) :
    ∃ A' c', CAt M w0 (w.setCells b 0 [.slice A p.length c]) g b r s4 lv ([u0, u1, u2, u3, u4, u5].set 0 (.slice A' p.length c')) ∧ SIn (w.setCells b 0 [.slice A p.length c]) A' p.length c' p ∧ ∀ a, A' = some a → a.block ∉ [g, b, r] :=
  ⟨A, c, cd_put h hb 0 _ (by simp), hs.only (store_only _ _ _ _) (fun a ha hm => hf a ha (by simp at hm; simp [hm])), hf⟩
theorem cdR5_last {M : Nat} {w0 w : World} {g b r : Nat} {s4 : Rs} {lv : Value} {u0 u1 u2 u3 u4 u5 : Value} (h : CAt M w0 w g b r s4 lv [u0, u1, u2, u3, u4, u5]) (hb : b ≠ g ∧ r ≠ g ∧ g ≠ b ∧ r ≠ b ∧ M ≤ b ∧ w0.heap.size ≤ b ∧ M ≤ g) {d : List B8} {A : Option Addr} {c : Nat} (hs : DIn w A d.length c d) (hf : ∀ a, A = some a → a.block < M) :
    ∃ A' c', CAt M w0 (w.setCells b 3 [.slice A d.length c]) g b r s4 lv ([u0, u1, u2, u3, u4, u5].set 3 (.slice A' d.length c')) ∧ DIn (w.setCells b 3 [.slice A d.length c]) A' d.length c' d ∧ ∀ a, A' = some a → a.block < M :=
  ⟨A, c, cd_put h hb 3 _ (by simp), hs.only (store_only _ _ _ _) (fun a ha hm => by have := hf a ha; simp at hm; omega), hf⟩
theorem cd_info : (Tryz.prog.info? 82).map (·.size) = some 6 := by kernel_rfl
theorem build_cand0 (W : World) (u : Value) (AH : Option Addr) (an ac : Nat) (hu : u = .slice AH an ac) : (Instr.build 82 #[(1, u)]).run Tryz.prog W = .ok (cdV ⟨none, 0, 0, 0, 0, none, 0, 0⟩ AH an ac none 0 0) W := by subst hu; kernel_rfl
theorem cdC_one (x : Ev) (AH : Option Addr) (an ac : Nat) (SA : Option Addr) (sn sc : Nat) : ∀ u ∈ cdC x AH an ac SA sn sc, u.oneCell' = true := by
  intro u hu
  simp at hu
  rcases hu with rfl | rfl | rfl | rfl | rfl | rfl <;> rfl
set_option maxHeartbeats 4000000 in
theorem cand12_any (M : Nat) (wS : World) (hS : wS.heap.size = M) (hV : PV wS) (w : World) (hW : Below M wS w) (g : Nat) (hg : M ≤ g) (s : Rs) (AH : Option Addr) (an ac : Nat) (h : RdAt M w g s (.slice AH an ac)) :
    Calls Tryz.prog 42 #[.pointer (some ⟨g, 0, none⟩)] w fun e w' => ∃ x SA sc, e = .returned (cdV x AH an ac SA (candS s).length sc) ∧ EvOk w' x (candE s) ∧ DIn w' SA (candS s).length sc (candS s) ∧ RdAt M w' g (rs7 s) (.slice AH an ac) ∧ Only [g] w w' := by
  obtain ⟨k, s1, E1⟩ : ∃ k s1, numR 1 s = (k, s1) := ⟨_, _, rfl⟩
  obtain ⟨m, s2, E2⟩ : ∃ k s', numR 2 s1 = (k, s') := ⟨_, _, rfl⟩
  obtain ⟨tl, s3, E3⟩ : ∃ k s', numR 1 s2 = (k, s') := ⟨_, _, rfl⟩
  obtain ⟨tx, s4, E4⟩ : ∃ k s', takeR tl s3 = (k, s') := ⟨_, _, rfl⟩
  obtain ⟨dl, s5, E5⟩ : ∃ k s', numR 2 s4 = (k, s') := ⟨_, _, rfl⟩
  obtain ⟨dt, s6, E6⟩ : ∃ k s', takeR dl s5 = (k, s') := ⟨_, _, rfl⟩
  obtain ⟨sm, s7, E7⟩ : ∃ k s', takeR 8 s6 = (k, s') := ⟨_, _, rfl⟩
  have f1 : rs1 s = s1 := congrArg Prod.snd E1
  have f2 : rs2 s = s2 := by unfold rs2; rw [f1, E2]
  have f3 : rs3 s = s3 := by unfold rs3; rw [f2, E3]
  have g3 : len1 s = tl := by unfold len1; rw [f2, E3]
  have f4 : rs4 s = s4 := by unfold rs4; rw [f3, g3, E4]
  have f5 : rs5 s = s5 := by unfold rs5; rw [f4, E5]
  have g5 : len2 s = dl := by unfold len2; rw [f4, E5]
  have f6 : rs6 s = s6 := by unfold rs6; rw [f5, g5, E6]
  have f7 : rs7 s = s7 := by unfold rs7; rw [f6, E7]
  have fS : candS s = sm := by unfold candS; rw [f6, E7]
  have fE : candE s = { path := (parseB (txtB tx)).1, kind := (k : Int), mode := (m : Int), data := dt } := by unfold candE; rw [E1, f1, E2, f3, g3, E4, f5, g5, E6]
  have hdl : dt.length ≤ 65535 := by
    have h1 : dt.length ≤ dl := by have := take_len (k := dl) (s := s5); rw [E6] at this; exact this
    have := numR_lt (by omega) E5
    omega
  have hps := parse_small (txtB tx)
  rw [f7, fS, fE]
  have HEQ := Lib.hid (And.intro E1 (And.intro E2 (And.intro E3 (And.intro E4 (And.intro E5 (And.intro E6 E7))))))
  have HSM := Lib.hid (And.intro hdl hps)
  have htl : tl < 65536 := numR_lt (by omega) E3
  have hdl2 : dl < 65536 := numR_lt (by omega) E5
  clear f1 f2 f3 g3 f4 f5 g5 f6 f7 fS fE E1 E2 E3 E4 E5 E6 E7 hps
  have hgl := h.lt
  have hM : M ≤ w.heap.size := by rw [← hS]; exact hW.size
  have hb1 := pnew w (.cells #[.slice none 0 0, .int .i64 0, .int .i64 0, .slice none 0 0, .slice none 0 0, .slice none 0 0] 82)
  have hr1 := Blk.new w 82 [.slice none 0 0, .int .i64 0, .int .i64 0, .slice none 0 0, .slice none 0 0, .slice none 0 0]
  obtain ⟨w1, hw1⟩ : ∃ w1, w1 = w.alloc (.cells #[.slice none 0 0, .int .i64 0, .int .i64 0, .slice none 0 0, .slice none 0 0, .slice none 0 0] 82) := ⟨_, rfl⟩
  have hsz : w1.heap.size = w.heap.size + 1 := by rw [hw1]; simp
  have hr1' : Blk w1 w.heap.size 82 [.slice none 0 0, .int .i64 0, .int .i64 0, .slice none 0 0, .slice none 0 0, .slice none 0 0] := by rw [hw1]; exact hr1
  have hb1' : Below w.heap.size w w1 := by rw [hw1]; exact hb1
  have hrd1 := h.below hb1'
  have H1 := Lib.hid (And.intro hrd1 (And.intro hr1' (And.intro hb1' (And.intro hgl (And.intro hW (And.intro hsz (And.intro hg hM)))))))
  have HV := Lib.hid (And.intro hS hV)
  obtain ⟨L, n, c, hB, hL⟩ := hrd1
  have y2 : w1.cell? ⟨g, 2, none⟩ = some (.slice AH an ac) := hB.cell 2
  have hbd := fun (W : World) => build_cand0 W (.slice AH an ac) AH an ac rfl
  clear h hb1 hr1 hr1' hb1' hB hL hV hg hM hgl hsz hS hW
  go_enter Tryz.func42, Tryz.ntmps42
  go_upto_region 1 with fail
  rw [← hw1]
  clear hw1
  go_wp2_with (refine wpList_store_blk rfl 82 (.tmp 3) (.tmp 8) rfl w1.heap.size 0 (cdC ⟨none, 0, 0, 0, 0, none, 0, 0⟩ AH an ac none 0 0) rfl rfl (Blk.new w1 _ [.slice none 0 0, .int .i64 0, .int .i64 0, .slice none 0 0, .slice none 0 0, .slice none 0 0]) (by simp) cd_info (cdC_one _ _ _ _ _ _ _) ?_; intro w2 hA hO; rw [over_whole (by simp)] at hA; have hb2 : Below w1.heap.size w1 w2 := (pnew w1 _).trans (hO.below (B := w1.heap.size) (by simp) (by simp)); have HC2 : Hid (CAt M w w2 g w1.heap.size w.heap.size s (.slice AH an ac) (cdC ⟨none, 0, 0, 0, 0, none, 0, 0⟩ AH an ac none 0 0)) := Lib.hid ⟨H1.out.1.below hb2, hA, H1.out.2.1.below hb2 H1.out.2.1.lt, (Only.of_below H1.out.2.2.1).trans (Only.of_below hb2)⟩; clear hA hO hb2)
  have hbg : Hid (w1.heap.size ≠ g ∧ w.heap.size ≠ g ∧ g ≠ w1.heap.size ∧ w.heap.size ≠ w1.heap.size ∧ M ≤ w1.heap.size ∧ w.heap.size ≤ w1.heap.size ∧ M ≤ g) := Lib.hid (by have h1 := H1.out.2.2.2.1; have h2 := H1.out.2.2.2.2.2.1; have h3 := H1.out.2.2.2.2.2.2.1; have h4 := H1.out.2.2.2.2.2.2.2; exact ⟨by omega, by omega, by omega, by omega, by omega, by omega, h3⟩)
  clear y2 hbd
  obtain ⟨b, hb⟩ : ∃ b, b = w1.heap.size := ⟨_, rfl⟩
  rw [← hb] at HC2 hbg ⊢
  clear hb
  refine (number12_is M w2 g 1 hbg.out.2.2.2.2.2.2 s _ HC2.out.rd (by omega) k s1 HEQ.out.1).mono ?_
  rintro e w3 ⟨hO, rfl, hR⟩
  have HC3 := Lib.hid (HC2.out.turn hbg.out.1 hbg.out.2.1 hO hR)
  clear hO hR
  go_wp2_with (refine wpList_store_v rfl 3 (.tmp 14) (.tmp 12) rfl b 1 (.int .i64 (k : Int)) rfl rfl HC3.out.box (by simp) (by kernel_rfl) rfl rfl ?_; intro w4 hA hO; have HC4 := Lib.hid (HC3.out.put hbg.out.2.2.1 hbg.out.2.2.2.1 hbg.out.2.2.2.2.1 hbg.out.2.2.2.2.2.1 hO hA); clear hA hO)
  refine (number12_is M w4 g 2 hbg.out.2.2.2.2.2.2 s1 _ HC4.out.rd (by omega) m s2 HEQ.out.2.1).mono ?_
  rintro e w5 ⟨hO, rfl, hR⟩
  have HC5 := Lib.hid (HC4.out.turn hbg.out.1 hbg.out.2.1 hO hR)
  clear hO hR
  go_wp2_with (refine wpList_store_v rfl 3 (.tmp 20) (.tmp 18) rfl b 2 (.int .i64 (m : Int)) rfl rfl HC5.out.box (by simp) (by kernel_rfl) rfl rfl ?_; intro w6 hA hO; have HC6 := Lib.hid ((HC5.out.put hbg.out.2.2.1 hbg.out.2.2.2.1 hbg.out.2.2.2.2.1 hbg.out.2.2.2.2.2.1 hO hA).below (pdrew w6)); clear hA hO)
  have hX : ∀ {k j : Nat}, j ∈ (if k = 6 ∨ k = 7 then [g] else if k = 15 then [b] else []) → j = g ∨ j = b := by
    intro k j hj
    split at hj
    · exact .inl (by simpa using hj)
    · split at hj
      · exact .inr (by simpa using hj)
      · cases hj
  have hMg := hbg.out.2.2.2.2.2.2
  have hMb := hbg.out.2.2.2.2.1
  refine wp_hideQ ?_
  intro QQ hQQ
  refine wp_region_chainQ [6, 7, 9, 15] [some 22, some 23, some 24, some 25, some 26, some 27, some 28, some 29, some 30, some 31, some 21, some 32, some 33, some 34, some 35, none] [isV (.pointer (some ⟨g, 0, none⟩)), isV (.pointer (some ⟨g, 0, none⟩)), isV (.pointer (some ⟨g, 0, none⟩)), isV (.pointer (some ⟨g, 0, none⟩)), isV (.pointer (some ⟨g, 0, none⟩)), isV (.pointer (some ⟨g, 0, none⟩)), isV (.int .i64 (tl : Int)), tkW M tx, isV (.string (txtB tx)), paT (parseB (txtB tx)).1 (parseB (txtB tx)).2 [g, b, w.heap.size], paT (parseB (txtB tx)).1 (parseB (txtB tx)).2 [g, b, w.heap.size], paS (parseB (txtB tx)).1 (parseB (txtB tx)).2 [g, b, w.heap.size], isV (.int .i64 (parseB (txtB tx)).2), isV (.pointer (some ⟨b, 0, none⟩)), isV (.pointer (some ⟨b, 0, none⟩)), isV undef] (fun k => if k = 6 ∨ k = 7 then [g] else if k = 15 then [b] else []) (cdR M w g b w.heap.size s2 s3 s4 (.slice AH an ac) [.slice none 0 0, .int .i64 (k : Int), .int .i64 (m : Int), .slice none 0 0, .slice AH an ac, .slice none 0 0] (parseB (txtB tx)).1) 16 (by kernel_rfl) rfl rfl rfl (by kernel_rfl) (by kernel_rfl) (HC6.out) ?_ ?_ ?_
  · intro i k v wy wz hki hv ho
    match i, hv with
    | 0, hv => exact hv
    | 1, hv => exact hv
    | 2, hv => exact hv
    | 3, hv => exact hv
    | 4, hv => exact hv
    | 5, hv => exact hv
    | 6, hv => exact hv
    | 7, hv =>
      have hMg := hbg.out.2.2.2.2.2.2
      have hMb := hbg.out.2.2.2.2.1
      obtain ⟨A, c, h1, h2, h3⟩ : tkW M tx _ wy := hv
      exact ⟨A, c, h1, h2.only ho (fun a ha hm => by have := h3 a ha; rcases hX (k := k) hm with hx | hx <;> omega), h3⟩
    | 8, hv => exact hv
    | 9, hv =>
      have hMg := hbg.out.2.2.2.2.2.2
      have hMb := hbg.out.2.2.2.2.1
      obtain ⟨A, c, h1, h2, h3⟩ : paT (parseB (txtB tx)).1 (parseB (txtB tx)).2 [g, b, w.heap.size] _ wy := hv
      exact ⟨A, c, h1, h2.only ho (fun a ha hm => h3 a ha (by rcases hX (k := k) hm with hx | hx <;> simp [hx])), h3⟩
    | 10, hv =>
      have hMg := hbg.out.2.2.2.2.2.2
      have hMb := hbg.out.2.2.2.2.1
      obtain ⟨A, c, h1, h2, h3⟩ : paT (parseB (txtB tx)).1 (parseB (txtB tx)).2 [g, b, w.heap.size] _ wy := hv
      exact ⟨A, c, h1, h2.only ho (fun a ha hm => h3 a ha (by rcases hX (k := k) hm with hx | hx <;> simp [hx])), h3⟩
    | 11, hv =>
      have hMg := hbg.out.2.2.2.2.2.2
      have hMb := hbg.out.2.2.2.2.1
      obtain ⟨A, c, h1, h2, h3⟩ : paS (parseB (txtB tx)).1 (parseB (txtB tx)).2 [g, b, w.heap.size] _ wy := hv
      exact ⟨A, c, h1, h2.only ho (fun a ha hm => h3 a ha (by rcases hX (k := k) hm with hx | hx <;> simp [hx])), h3⟩
    | 12, hv => exact hv
    | 13, hv => exact hv
    | 14, hv => exact hv
    | 15, hv => exact hv
    | i + 16, hv => exact hv
  · intro hq rz hz
    match rz, hz with
    | 0, _ =>
      refine StepP.val rfl rfl [] (by decide +kernel) ?_
      intro p hhi hlo v wy hR hd
      exact ⟨wanted_plain rfl _, _, _, x_move rfl (fill_off rfl rfl), hR, Only.refl _ _, rfl⟩
    | 1, _ =>
      refine StepP.val rfl rfl [0] (by decide +kernel) ?_
      intro p hhi hlo v wy hR hd
      have h0 : v 0 = _ := hd 0 (by simp)
      exact ⟨wanted_plain rfl _, _, _, x_nil rfl (hq.at_ rfl h0), hR, Only.refl _ _, rfl⟩
    | 2, _ =>
      refine StepP.val rfl rfl [1] (by decide +kernel) ?_
      intro p hhi hlo v wy hR hd
      have h1 : v 1 = _ := hd 1 (by simp)
      exact ⟨wanted_plain rfl _, _, _, x_field rfl (hq.at_ rfl h1) (r_field (off := 0) (by kernel_rfl)), hR, Only.refl _ _, rfl⟩
    | 3, _ =>
      refine StepP.val rfl rfl [] (by decide +kernel) ?_
      intro p hhi hlo v wy hR hd
      exact ⟨wanted_plain rfl _, _, _, x_move rfl (fill_off rfl rfl), hR, Only.refl _ _, rfl⟩
    | 4, _ =>
      refine StepP.val rfl rfl [3] (by decide +kernel) ?_
      intro p hhi hlo v wy hR hd
      have h3 : v 3 = _ := hd 3 (by simp)
      exact ⟨wanted_plain rfl _, _, _, x_nil rfl (hq.at_ rfl h3), hR, Only.refl _ _, rfl⟩
    | 5, _ =>
      refine StepP.val rfl rfl [4] (by decide +kernel) ?_
      intro p hhi hlo v wy hR hd
      have h4 : v 4 = _ := hd 4 (by simp)
      exact ⟨wanted_plain rfl _, _, _, x_field rfl (hq.at_ rfl h4) (r_field (off := 0) (by kernel_rfl)), hR, Only.refl _ _, rfl⟩
    | 6, _ =>
      refine StepP.ccall 0 rfl rfl rfl [5] (by decide +kernel) ?_
      intro v wy hR hd
      have h5 : v 5 = _ := hd 5 (by simp)
      refine ⟨wanted_plain rfl _, 26, _, _, x_call rfl rfl (args_2 (hq.at_ rfl h5) rfl) (by kernel_rfl) rfl, ?_⟩
      have hR : CAt M w wy g b w.heap.size s2 (.slice AH an ac) [.slice none 0 0, .int .i64 (k : Int), .int .i64 (m : Int), .slice none 0 0, .slice AH an ac, .slice none 0 0] := hR
      refine (number12_is M wy g 1 hbg.out.2.2.2.2.2.2 s2 _ hR.rd (by omega) tl s3 HEQ.out.2.2.1).mono ?_
      rintro e w7 ⟨hO, rfl, hR7⟩
      exact ⟨_, rfl, hR.turn hbg.out.1 hbg.out.2.1 hO hR7, hO, rfl⟩
    | 7, _ =>
      refine StepP.ccall 1 rfl rfl rfl [2, 6] (by decide +kernel) ?_
      intro v wy hR hd
      have h2 : v 2 = _ := hd 2 (by simp)
      have h6 : v 6 = _ := hd 6 (by simp)
      refine ⟨wanted_plain rfl _, 41, _, _, x_call rfl rfl (args_2 (hq.at_ rfl h2) (hq.at_ rfl h6)) (by kernel_rfl) rfl, ?_⟩
      have hR : CAt M w wy g b w.heap.size s3 (.slice AH an ac) [.slice none 0 0, .int .i64 (k : Int), .int .i64 (m : Int), .slice none 0 0, .slice AH an ac, .slice none 0 0] := hR
      refine (take12_is M wy g tl hbg.out.2.2.2.2.2.2 s3 _ hR.rd (by omega) tx s4 HEQ.out.2.2.2.1).mono ?_
      rintro e w8 ⟨hO, ⟨TA, tc, rfl, hd8, hf8⟩, hR8⟩
      exact ⟨_, rfl, hR.turn hbg.out.1 hbg.out.2.1 hO hR8, hO, TA, tc, rfl, hd8, hf8⟩
    | 8, _ =>
      refine StepP.val rfl rfl [7] (by decide +kernel) ?_
      intro p hhi hlo v wy hR hd
      obtain ⟨A7, c7, h7, d7, f7⟩ : (tkW M tx) (v 7) wy := hd 7 (by simp)
      exact ⟨wanted_plain rfl _, _, _, x_conv rfl (hq.at_ rfl h7) (conv_txt d7), hR, Only.refl _ _, rfl⟩
    | 9, _ =>
      refine StepP.ccall 2 rfl rfl rfl [8] (by decide +kernel) ?_
      intro v wy hR hd
      have h8 : v 8 = _ := hd 8 (by simp)
      refine ⟨wanted_plain rfl _, 51, _, _, x_call rfl rfl (args_1 (hq.at_ rfl h8)) (by kernel_rfl) rfl, ?_⟩
      have hR : CAt M w wy g b w.heap.size s4 (.slice AH an ac) [.slice none 0 0, .int .i64 (k : Int), .int .i64 (m : Int), .slice none 0 0, .slice AH an ac, .slice none 0 0] := hR
      have hpv : PV wy := pv_keep HV.out.1 HV.out.2 H1.out.2.2.2.2.1 hR.only hbg.out.2.2.2.2.2.2
      have hgw := hR.rd.lt
      have hbw := hR.box.lt
      have hrw := hR.res.lt
      refine (parse_path wy hpv (txtB tx)).mono ?_
      rintro e w9 ⟨PA, pc, rfl, hs, hf, hb⟩
      exact ⟨_, rfl, hR.below hb, Only.of_below hb, PA, pc, rfl, hs, fun a ha hm => by have := hf a ha; simp at hm; omega⟩
    | 10, _ =>
      refine StepP.val rfl rfl [9] (by decide +kernel) ?_
      intro p hhi hlo v wy hR hd
      obtain ⟨A9, c9, h9, d9, f9⟩ : (paT (parseB (txtB tx)).1 (parseB (txtB tx)).2 [g, b, w.heap.size]) (v 9) wy := hd 9 (by simp)
      exact ⟨wanted_plain rfl _, _, _, x_move rfl (hq.at_ rfl h9), hR, Only.refl _ _, A9, c9, rfl, d9, f9⟩
    | 11, _ =>
      refine StepP.val rfl rfl [10] (by decide +kernel) ?_
      intro p hhi hlo v wy hR hd
      obtain ⟨A10, c10, h10, d10, f10⟩ : (paT (parseB (txtB tx)).1 (parseB (txtB tx)).2 [g, b, w.heap.size]) (v 10) wy := hd 10 (by simp)
      exact ⟨wanted_plain rfl _, _, _, x_extract rfl (hq.at_ rfl h10) rfl, hR, Only.refl _ _, A10, c10, rfl, d10, f10⟩
    | 12, _ =>
      refine StepP.val rfl rfl [10] (by decide +kernel) ?_
      intro p hhi hlo v wy hR hd
      obtain ⟨A10, c10, h10, d10, f10⟩ : (paT (parseB (txtB tx)).1 (parseB (txtB tx)).2 [g, b, w.heap.size]) (v 10) wy := hd 10 (by simp)
      exact ⟨wanted_plain rfl _, _, _, x_extract rfl (hq.at_ rfl h10) rfl, hR, Only.refl _ _, rfl⟩
    | 13, _ =>
      refine StepP.val rfl rfl [] (by decide +kernel) ?_
      intro p hhi hlo v wy hR hd
      exact ⟨wanted_plain rfl _, _, _, x_field rfl (fill_off rfl rfl) (r_field (off := 0) (by kernel_rfl)), hR, Only.refl _ _, rfl⟩
    | 14, _ =>
      refine StepP.val rfl rfl [13] (by decide +kernel) ?_
      intro p hhi hlo v wy hR hd
      have h13 : v 13 = _ := hd 13 (by simp)
      exact ⟨wanted_plain rfl _, _, _, x_field rfl (hq.at_ rfl h13) (r_field (off := 0) (by kernel_rfl)), hR, Only.refl _ _, rfl⟩
    | 15, _ =>
      refine StepP.cskip 3 rfl rfl rfl [14, 11] (by decide +kernel) ?_
      intro v wy hR hd
      have h14 : v 14 = _ := hd 14 (by simp)
      obtain ⟨A11, c11, h11, d11, f11⟩ : (paS (parseB (txtB tx)).1 (parseB (txtB tx)).2 [g, b, w.heap.size]) (v 11) wy := hd 11 (by simp)
      have hR : CAt M w wy g b w.heap.size s4 (.slice AH an ac) [.slice none 0 0, .int .i64 (k : Int), .int .i64 (m : Int), .slice none 0 0, .slice AH an ac, .slice none 0 0] := hR
      exact ⟨wanted_plain rfl _, _, x_store rfl (hq.at_ rfl h14) (hq.at_ rfl h11) (r_store1 (v := .slice A11 (parseB (txtB tx)).1.length c11) (by kernel_rfl) rfl rfl hR.box (by simp)), cdR_last hR hbg.out d11 f11, store_only _ _ _ _, rfl⟩
    | rz + 16, h => omega
  · intro v wx hR hV
    obtain ⟨PA, pc, hC, hs, hf⟩ := hR
    have HC10 := Lib.hid hC
    have HP10 := Lib.hid (And.intro hs hf)
    clear hC hs hf hV hX hMg hMb
    simp only [fillR, Act.put, List.setIfInBounds_toArray, List.set_cons_zero, List.set_cons_succ]
    go_wp2_with fail
    have HC11 := Lib.hid (HC10.out.below (pdrew wx))
    have hX : ∀ {k j : Nat}, j ∈ (if k = 6 ∨ k = 7 then [g] else if k = 10 then [b] else []) → j = g ∨ j = b := by
      intro k j hj
      split at hj
      · exact .inl (by simpa using hj)
      · split at hj
        · exact .inr (by simpa using hj)
        · cases hj
    have hMg := hbg.out.2.2.2.2.2.2
    have hMb := hbg.out.2.2.2.2.1
    refine wp_hideQ ?_
    intro QQ hQQ
    refine wp_region_chainQ [6, 7, 10] [some 36, some 37, some 38, some 39, some 40, some 41, some 42, some 43, some 44, some 45, none] [isV (.pointer (some ⟨g, 0, none⟩)), isV (.pointer (some ⟨g, 0, none⟩)), isV (.pointer (some ⟨g, 0, none⟩)), isV (.pointer (some ⟨g, 0, none⟩)), isV (.pointer (some ⟨g, 0, none⟩)), isV (.pointer (some ⟨g, 0, none⟩)), isV (.int .i64 (dl : Int)), tkW M dt, isV (.pointer (some ⟨b, 0, none⟩)), isV (.pointer (some ⟨b, 3, none⟩)), isV undef] (fun k => if k = 6 ∨ k = 7 then [g] else if k = 10 then [b] else []) (fun iz wz => cdR5 M w g b w.heap.size s4 s5 s6 (.slice AH an ac) [.slice PA (parseB (txtB tx)).1.length pc, .int .i64 (k : Int), .int .i64 (m : Int), .slice none 0 0, .slice AH an ac, .slice none 0 0] dt iz wz ∧ SIn wz PA (parseB (txtB tx)).1.length pc (parseB (txtB tx)).1) 11 (by kernel_rfl) rfl rfl rfl (by kernel_rfl) (by kernel_rfl) (⟨HC11.out, HP10.out.1.below (pdrew wx)⟩) ?_ ?_ ?_
    · intro i k v wy wz hki hv ho
      match i, hv with
      | 0, hv => exact hv
      | 1, hv => exact hv
      | 2, hv => exact hv
      | 3, hv => exact hv
      | 4, hv => exact hv
      | 5, hv => exact hv
      | 6, hv => exact hv
      | 7, hv =>
        have hMg := hbg.out.2.2.2.2.2.2
        have hMb := hbg.out.2.2.2.2.1
        obtain ⟨A, c, h1, h2, h3⟩ : tkW M dt _ wy := hv
        exact ⟨A, c, h1, h2.only ho (fun a ha hm => by have := h3 a ha; rcases hX (k := k) hm with hx | hx <;> omega), h3⟩
      | 8, hv => exact hv
      | 9, hv => exact hv
      | 10, hv => exact hv
      | i + 11, hv => exact hv
    · intro hq rz hz
      match rz, hz with
      | 0, _ =>
        refine StepP.val rfl rfl [] (by decide +kernel) ?_
        intro p hhi hlo v wy hR hd
        exact ⟨wanted_plain rfl _, _, _, x_move rfl (fill_off rfl rfl), hR, Only.refl _ _, rfl⟩
      | 1, _ =>
        refine StepP.val rfl rfl [0] (by decide +kernel) ?_
        intro p hhi hlo v wy hR hd
        have h0 : v 0 = _ := hd 0 (by simp)
        exact ⟨wanted_plain rfl _, _, _, x_nil rfl (hq.at_ rfl h0), hR, Only.refl _ _, rfl⟩
      | 2, _ =>
        refine StepP.val rfl rfl [1] (by decide +kernel) ?_
        intro p hhi hlo v wy hR hd
        have h1 : v 1 = _ := hd 1 (by simp)
        exact ⟨wanted_plain rfl _, _, _, x_field rfl (hq.at_ rfl h1) (r_field (off := 0) (by kernel_rfl)), hR, Only.refl _ _, rfl⟩
      | 3, _ =>
        refine StepP.val rfl rfl [] (by decide +kernel) ?_
        intro p hhi hlo v wy hR hd
        exact ⟨wanted_plain rfl _, _, _, x_move rfl (fill_off rfl rfl), hR, Only.refl _ _, rfl⟩
      | 4, _ =>
        refine StepP.val rfl rfl [3] (by decide +kernel) ?_
        intro p hhi hlo v wy hR hd
        have h3 : v 3 = _ := hd 3 (by simp)
        exact ⟨wanted_plain rfl _, _, _, x_nil rfl (hq.at_ rfl h3), hR, Only.refl _ _, rfl⟩
      | 5, _ =>
        refine StepP.val rfl rfl [4] (by decide +kernel) ?_
        intro p hhi hlo v wy hR hd
        have h4 : v 4 = _ := hd 4 (by simp)
        exact ⟨wanted_plain rfl _, _, _, x_field rfl (hq.at_ rfl h4) (r_field (off := 0) (by kernel_rfl)), hR, Only.refl _ _, rfl⟩
      | 6, _ =>
        refine StepP.ccall 0 rfl rfl rfl [5] (by decide +kernel) ?_
        intro v wy hR hd
        have h5 : v 5 = _ := hd 5 (by simp)
        refine ⟨wanted_plain rfl _, 26, _, _, x_call rfl rfl (args_2 (hq.at_ rfl h5) rfl) (by kernel_rfl) rfl, ?_⟩
        have hP : SIn wy PA (parseB (txtB tx)).1.length pc (parseB (txtB tx)).1 := hR.2
        have hR : CAt M w wy g b w.heap.size s4 (.slice AH an ac) [.slice PA (parseB (txtB tx)).1.length pc, .int .i64 (k : Int), .int .i64 (m : Int), .slice none 0 0, .slice AH an ac, .slice none 0 0] := hR.1
        refine (number12_is M wy g 2 hbg.out.2.2.2.2.2.2 s4 _ hR.rd (by omega) dl s5 HEQ.out.2.2.2.2.1).mono ?_
        rintro e w7 ⟨hO, rfl, hR7⟩
        exact ⟨_, rfl, ⟨hR.turn hbg.out.1 hbg.out.2.1 hO hR7, hP.only hO (fun a ha hm => HP10.out.2 a ha (by simp at hm; simp [hm]))⟩, hO, rfl⟩
      | 7, _ =>
        refine StepP.ccall 1 rfl rfl rfl [2, 6] (by decide +kernel) ?_
        intro v wy hR hd
        have h2 : v 2 = _ := hd 2 (by simp)
        have h6 : v 6 = _ := hd 6 (by simp)
        refine ⟨wanted_plain rfl _, 41, _, _, x_call rfl rfl (args_2 (hq.at_ rfl h2) (hq.at_ rfl h6)) (by kernel_rfl) rfl, ?_⟩
        have hP : SIn wy PA (parseB (txtB tx)).1.length pc (parseB (txtB tx)).1 := hR.2
        have hR : CAt M w wy g b w.heap.size s5 (.slice AH an ac) [.slice PA (parseB (txtB tx)).1.length pc, .int .i64 (k : Int), .int .i64 (m : Int), .slice none 0 0, .slice AH an ac, .slice none 0 0] := hR.1
        refine (take12_is M wy g dl hbg.out.2.2.2.2.2.2 s5 _ hR.rd (by omega) dt s6 HEQ.out.2.2.2.2.2.1).mono ?_
        rintro e w8 ⟨hO, ⟨TA, tc, rfl, hd8, hf8⟩, hR8⟩
        exact ⟨_, rfl, ⟨hR.turn hbg.out.1 hbg.out.2.1 hO hR8, hP.only hO (fun a ha hm => HP10.out.2 a ha (by simp at hm; simp [hm]))⟩, hO, TA, tc, rfl, hd8, hf8⟩
      | 8, _ =>
        refine StepP.val rfl rfl [] (by decide +kernel) ?_
        intro p hhi hlo v wy hR hd
        exact ⟨wanted_plain rfl _, _, _, x_field rfl (fill_off rfl rfl) (r_field (off := 0) (by kernel_rfl)), hR, Only.refl _ _, rfl⟩
      | 9, _ =>
        refine StepP.val rfl rfl [8] (by decide +kernel) ?_
        intro p hhi hlo v wy hR hd
        have h8 : v 8 = _ := hd 8 (by simp)
        exact ⟨wanted_plain rfl _, _, _, x_field rfl (hq.at_ rfl h8) (r_field (off := 3) (by kernel_rfl)), hR, Only.refl _ _, rfl⟩
      | 10, _ =>
        refine StepP.cskip 2 rfl rfl rfl [9, 7] (by decide +kernel) ?_
        intro v wy hR hd
        have h9 : v 9 = _ := hd 9 (by simp)
        obtain ⟨A7, c7, h7, d7, f7⟩ : (tkW M dt) (v 7) wy := hd 7 (by simp)
        have hP : SIn wy PA (parseB (txtB tx)).1.length pc (parseB (txtB tx)).1 := hR.2
        have hR : CAt M w wy g b w.heap.size s6 (.slice AH an ac) [.slice PA (parseB (txtB tx)).1.length pc, .int .i64 (k : Int), .int .i64 (m : Int), .slice none 0 0, .slice AH an ac, .slice none 0 0] := hR.1
        exact ⟨wanted_plain rfl _, _, x_store rfl (hq.at_ rfl h9) (hq.at_ rfl h7) (r_store1 (v := .slice A7 dt.length c7) (by kernel_rfl) rfl rfl hR.box (by simp)), ⟨cdR5_last hR hbg.out d7 f7, hP.only (store_only _ _ _ _) (fun a ha hm => HP10.out.2 a ha (by simp at hm; simp [hm]))⟩, store_only _ _ _ _, rfl⟩
      | rz + 11, h => omega
    · intro v wx5 hR hV
      obtain ⟨⟨DA, dc, hC, hd, hf⟩, hP⟩ := hR
      have HC14 := Lib.hid hC
      have HD14 := Lib.hid (And.intro hd (And.intro hf hP))
      clear hC hd hf hV hX hP
      simp only [fillR, Act.put, List.setIfInBounds_toArray, List.set_cons_zero, List.set_cons_succ]
      have hfl : ∀ a, DA = some a → a.block ∉ [g, b, w.heap.size] := fun a ha hm => by
        have h1 := HD14.out.2.1 a ha
        have h2 := hbg.out.2.2.2.2.1
        have h3 := hbg.out.2.2.2.2.2.2
        have h4 := H1.out.2.2.2.2.2.2.2
        simp at hm
        omega
      have HFL := Lib.hid hfl
      clear hfl
      go_wp2_with fail
      refine (take12_is M wx5 g 8 hbg.out.2.2.2.2.2.2 s6 _ HC14.out.rd (by omega) sm s7 HEQ.out.2.2.2.2.2.2).mono ?_
      rintro e w15 ⟨hO, ⟨SA, sc, rfl, hd, hf⟩, hR⟩
      have HC15 := Lib.hid (HC14.out.turn hbg.out.1 hbg.out.2.1 hO hR)
      have HK15 := Lib.hid (And.intro (HD14.out.2.2.only hO (fun a ha hm => HP10.out.2 a ha (by simp at hm; simp [hm]))) (And.intro (HD14.out.1.only hO (fun a ha hm => HFL.out a ha (by simp at hm; simp [hm]))) (And.intro hd hf)))
      clear hO hd hf hR
      go_wp2_with (first
        | (refine wpList_store_v (v := .slice _ _ _) rfl 22 (.tmp 50) (.tmp 49) rfl b 5 rfl rfl HC15.out.box (by simp) (by kernel_rfl) rfl rfl ?_; intro w16 hA hO; have HC16 := Lib.hid (HC15.out.put hbg.out.2.2.1 hbg.out.2.2.2.1 hbg.out.2.2.2.2.1 hbg.out.2.2.2.2.2.1 hO hA); have HK16 := Lib.hid (And.intro (HK15.out.1.only hO (fun a ha hm => HP10.out.2 a ha (by simp at hm; simp [hm]))) (And.intro (HK15.out.2.1.only hO (fun a ha hm => HFL.out a ha (by simp at hm; simp [hm]))) (HK15.out.2.2.1.only hO (fun a ha hm => by have h1 := HK15.out.2.2.2 a ha; have h2 := hbg.out.2.2.2.2.1; simp at hm; omega)))); clear hA hO)
        | (refine wpList_load_mid rfl 82 (.tmp 3) rfl b 0 rfl _ _ HC16.out.box.range Tryz.underlying82 rfl cd_info ?_)
        | (refine wpList_store_blk rfl 82 (.tmp 2) (.tmp 51) rfl w.heap.size 0 (cdC ⟨PA, (parseB (txtB tx)).1.length, pc, (k : Int), (m : Int), DA, dt.length, dc⟩ AH an ac SA sm.length sc) rfl rfl HC16.out.res (by simp) cd_info (cdC_one _ _ _ _ _ _ _) ?_; intro w17 hA hO; rw [over_whole (by simp)] at hA))
      obtain ⟨d0, d1, d2, d3, d4, d5⟩ := BoxAt.of hA
      have hsml := HSM.out
      have hMr := H1.out.2.2.2.2.2.2.2
      refine bodyPost_ret (v := cdV ⟨PA, (parseB (txtB tx)).1.length, pc, (k : Int), (m : Int), DA, dt.length, dc⟩ AH an ac SA sm.length sc) (by simp [results, Tryz.results42, go_sem, d0, d1, d2, d3, d4, d5]) rfl ?_
      refine ⟨⟨PA, (parseB (txtB tx)).1.length, pc, (k : Int), (m : Int), DA, dt.length, dc⟩, SA, sc, rfl, ⟨HK16.out.1.only hO (fun a ha hm => HP10.out.2 a ha (by simp at hm; simp [hm])), rfl, rfl, HK16.out.2.1.only hO (fun a ha hm => HFL.out a ha (by simp at hm; simp [hm])), ⟨?_, ?_, ?_⟩⟩, HK16.out.2.2.only hO (fun a ha hm => by have h1 := HK15.out.2.2.2 a ha; simp at hm; omega), HC16.out.rd.only hO (by have := hbg.out.2.1; simp; omega) (fun k hk => by simp at hk; omega), only_far HC16.out.only (Nat.le_refl _) hO⟩
      · show (parseB (txtB tx)).1.length ≤ _; omega
      · show (joinP (parseB (txtB tx)).1).size ≤ _; omega
      · show dt.length ≤ _; omega
end Go.Proofs.YtlpljedacohngaaGreatDoor
end

/-
  Whether the digest that is told is another one; why an entry that was read is refused. Conditions: the entry lies in memory, and is no longer than what is read; the constants lie in their variables.
-/

section
set_option linter.unusedSimpArgs false
set_option linter.unusedVariables false
set_option maxRecDepth 100000
namespace Go.Proofs.YtlpljedacohngaaGreatDoor
open Go.RowKit

def dinW8 (d : List B8) : Value → World → Prop := fun u w => ∃ A, u = .slice A 8 32 ∧ DIn w A 8 32 d
theorem dinW8.st (d : List B8) : StV (dinW8 d) := fun _ _ _ ⟨A, h1, h2⟩ hb => ⟨A, h1, h2.below hb⟩
set_option maxHeartbeats 2000000 in
theorem bent_some (w : World) (hK : Roots Ks w) (x : Ev) (AH : Option Addr) (an ac : Nat) (sg so sn sc : Nat) (e : En) (hx : EvOk w x e) (sum : List B8) (hs : DIn w (some ⟨sg, so, none⟩) sn sc sum) (hj : (joinP e.path).size ≤ 900) (hdn : e.data.length ≤ 1000) :
    Calls Tryz.prog 61 #[cdV x AH an ac (some ⟨sg, so, none⟩) sn sc] w fun en w' => en = .returned (.bool (!(decide (sum = sumE e)))) ∧ Below w.heap.size w w' := by
  have hb := pnew w (.cells (cdC x AH an ac (some ⟨sg, so, none⟩) sn sc).toArray 82)
  obtain ⟨y0, y1, y2, y3, y4, y5⟩ := BoxAt.of (Blk.new w 82 (cdC x AH an ac (some ⟨sg, so, none⟩) sn sc))
  have HB := Lib.hid hb
  have HX := Lib.hid (And.intro (hK.below hb hK.pos) (And.intro (hx.below hb) (And.intro hj (And.intro hdn (hs.below hb)))))
  clear hb hx hs hj hdn hK
  obtain ⟨PA, pn, pc, k, m, DA, dn, dc⟩ := x
  go_enter Tryz.func61, Tryz.ntmps61
  go_wp2_with fail
  refine wp_hideQ ?_
  intro QQ hQQ
  refine wp_region_quick [some 3, some 4, some 5, some 6, some 7, some 8, some 9, some 10, some 11, some 12, some 13, some 14, some 2] [isV (.pointer (some ⟨w.heap.size, 5, none⟩)), isV (.slice (some ⟨sg, so, none⟩) sn sc), isV (.bool true), isV (.bool true), isV (.pointer (some ⟨w.heap.size, 5, none⟩)), isV (.slice (some ⟨sg, so, none⟩) sn sc), isV (.pointer (some ⟨w.heap.size, 0, none⟩)), isV (evV ⟨PA, pn, pc, k, m, DA, dn, dc⟩), dinW8 (sumE e), isV (.bool (decide (sum = sumE e))), isV (.bool (!(decide (sum = sumE e)))), isV (.bool (!(decide (sum = sumE e)))), isV (.bool (!(decide (sum = sumE e))))] 13 (by kernel_rfl) rfl rfl rfl (by kernel_rfl) (by simp [isV.st, dinW8.st]) ?_ ?_
  · intro hq rz hz
    match rz, hz with
    | 0, _ =>
      refine StepL.val rfl [] (by decide +kernel) ?_
      intro v wx hR hd
      exact ⟨wanted_plain rfl _, _, _, x_field rfl (fill_off rfl rfl) (r_field (off := 5) (by kernel_rfl)), hR, Below.refl _ _, rfl⟩
    | 1, _ =>
      refine StepL.val rfl [0] (by decide +kernel) ?_
      intro v wx hR hd
      have h0 : v 0 = _ := hd 0 (by simp)
      exact ⟨wanted_plain rfl _, _, _, x_load rfl (hq.at_ rfl h0) (r_load (by kernel_rfl) (pcell_below y5 hR)), hR, Below.refl _ _, rfl⟩
    | 2, _ =>
      refine StepL.val rfl [1] (by decide +kernel) ?_
      intro v wx hR hd
      have h1 : v 1 = _ := hd 1 (by simp)
      exact ⟨wanted_plain rfl _, _, _, x_bin rfl (hq.at_ rfl h1) rfl (by kernel_rfl), hR, Below.refl _ _, rfl⟩
    | 3, _ =>
      refine StepL.val rfl [2] (by decide +kernel) ?_
      intro v wx hR hd
      have h2 : v 2 = _ := hd 2 (by simp)
      exact ⟨wanted_plain rfl _, _, _, x_move rfl (hq.at_ rfl h2), hR, Below.refl _ _, rfl⟩
    | 4, _ =>
      refine StepL.val rfl [3] (by decide +kernel) ?_
      intro v wx hR hd
      have h3 : v 3 = _ := hd 3 (by simp)
      exact ⟨hq.yes rfl rfl rfl h3, _, _, x_field rfl (fill_off rfl rfl) (r_field (off := 5) (by kernel_rfl)), hR, Below.refl _ _, rfl⟩
    | 5, _ =>
      refine StepL.val rfl [4, 3] (by decide +kernel) ?_
      intro v wx hR hd
      have h4 : v 4 = _ := hd 4 (by simp)
      have h3 : v 3 = _ := hd 3 (by simp)
      exact ⟨hq.yes rfl rfl rfl h3, _, _, x_load rfl (hq.at_ rfl h4) (r_load (by kernel_rfl) (pcell_below y5 hR)), hR, Below.refl _ _, rfl⟩
    | 6, _ =>
      refine StepL.val rfl [3] (by decide +kernel) ?_
      intro v wx hR hd
      have h3 : v 3 = _ := hd 3 (by simp)
      exact ⟨hq.yes rfl rfl rfl h3, _, _, x_field rfl (fill_off rfl rfl) (r_field (off := 0) (by kernel_rfl)), hR, Below.refl _ _, rfl⟩
    | 7, _ =>
      refine StepL.val rfl [6, 3] (by decide +kernel) ?_
      intro v wx hR hd
      have h6 : v 6 = _ := hd 6 (by simp)
      have h3 : v 3 = _ := hd 3 (by simp)
      exact ⟨hq.yes rfl rfl rfl h3, _, _, x_load rfl (hq.at_ rfl h6) (r_loadR (cs := evC ⟨PA, pn, pc, k, m, DA, dn, dc⟩) (by kernel_rfl) (range_four (pcell_below y0 hR) (pcell_below y1 hR) (pcell_below y2 hR) (pcell_below y3 hR))), hR, Below.refl _ _, rfl⟩
    | 8, _ =>
      refine StepL.call rfl [7, 3] (by decide +kernel) ?_
      intro v wx hR hd
      have h7 : v 7 = _ := hd 7 (by simp)
      have h3 : v 3 = _ := hd 3 (by simp)
      refine ⟨hq.yes rfl rfl rfl h3, 38, _, _, x_call rfl rfl (args_1 (hq.at_ rfl h7)) (by kernel_rfl) rfl, ?_⟩
      refine (sumof_any wx (HX.out.1.below hR HX.out.1.pos) ⟨PA, pn, pc, k, m, DA, dn, dc⟩ e (HX.out.2.1.below hR) HX.out.2.2.1 HX.out.2.2.2.1).mono ?_
      rintro en w8 ⟨A8, rfl, hd8, hb8⟩
      exact ⟨_, rfl, hR.trans (hb8.mono hR.size), hb8, A8, rfl, hd8⟩
    | 9, _ =>
      refine StepL.call rfl [5, 8, 3] (by decide +kernel) ?_
      intro v wx hR hd
      have h5 : v 5 = _ := hd 5 (by simp)
      obtain ⟨A8, h8, d8⟩ : (dinW8 (sumE e)) (v 8) wx := hd 8 (by simp)
      have h3 : v 3 = _ := hd 3 (by simp)
      refine ⟨hq.yes rfl rfl rfl h3, 39, _, _, x_call rfl rfl (args_2 (hq.at_ rfl h5) (hq.at_ rfl h8)) (by kernel_rfl) rfl, ?_⟩
      refine (bequal_din wx (some ⟨sg, so, none⟩) A8 sn sc 8 32 sum (sumE e) (HX.out.2.2.2.2.below hR) d8).mono ?_
      rintro en w9 ⟨rfl, rfl⟩
      exact ⟨_, rfl, hR, Below.refl _ _, rfl⟩
    | 10, _ =>
      refine StepL.val rfl [9, 3] (by decide +kernel) ?_
      intro v wx hR hd
      have h9 : v 9 = _ := hd 9 (by simp)
      have h3 : v 3 = _ := hd 3 (by simp)
      exact ⟨hq.yes rfl rfl rfl h3, _, _, x_un rfl (hq.at_ rfl h9) (r_not rfl), hR, Below.refl _ _, rfl⟩
    | 11, _ =>
      refine StepL.val rfl [3, 10] (by decide +kernel) ?_
      intro v wx hR hd
      have h3 : v 3 = _ := hd 3 (by simp)
      have h10 : v 10 = _ := hd 10 (by simp)
      exact ⟨wanted_plain rfl _, _, _, x_pick_yes rfl (hq.at_ rfl h3) (hq.at_ rfl h10), hR, Below.refl _ _, rfl⟩
    | 12, _ =>
      refine StepL.val rfl [11] (by decide +kernel) ?_
      intro v wx hR hd
      have h11 : v 11 = _ := hd 11 (by simp)
      exact ⟨wanted_plain rfl _, _, _, x_assign rfl (hq.at_ rfl h11), hR, Below.refl _ _, rfl⟩
    | rz + 13, h => omega
  · intro v wx hR hV
    have h12 : v 12 = _ := hV 12 (by omega)
    simp only [fillR, Act.put, List.setIfInBounds_toArray, List.set_cons_zero, List.set_cons_succ, h12]
    have HR := Lib.hid (HB.out.trans (hR.mono HB.out.size))
    clear hV hR y0 y1 y2 y3 y5
    go_wp2_with fail
    go_ret
    exact ⟨rfl, HR.out⟩
end Go.Proofs.YtlpljedacohngaaGreatDoor
end
