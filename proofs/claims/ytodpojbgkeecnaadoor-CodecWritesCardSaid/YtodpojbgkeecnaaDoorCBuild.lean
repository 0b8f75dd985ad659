/-
  Build, walked. Conditions: the tokens lie in memory; the library's table is as laid.
-/
import Derived.Test.YtodpojbgkeecnaaDoorCRounds
import Derived.Test.YtodpojbgkeecnaaDoorCR14
import Derived.Test.YtodpojbgkeecnaaDoorCR16
import Derived.Test.YtodpojbgkeecnaaDoorCR26
import Derived.Test.YtodpojbgkeecnaaDoorCR25
import Derived.Test.YtodpojbgkeecnaaDoorCR27
import Derived.Test.YtodpojbgkeecnaaDoorCR31
import Derived.Test.YtodpojbgkeecnaaDoorCR33
import Derived.Test.YtodpojbgkeecnaaDoorCR32
import Derived.Test.YtodpojbgkeecnaaDoorCR34
import Derived.Test.YtodpojbgkeecnaaDoorCR24
import Derived.Test.YtodpojbgkeecnaaDoorCR18
import Derived.Deep.DeepCutAuto
set_option linter.unusedSimpArgs false
set_option linter.unusedVariables false
namespace Go.Proofs.YtodpojbgkeecnaaDoor
open Go.RowKit

set_option maxRecDepth 100000 in
set_option maxHeartbeats 40000000 in
theorem build_any (w : World) (A : Option Addr) (n c : Nat) (ts : List Tok) (hk : KIn w A n c ts) : Calls Tryd.prog 6 #[.slice A n c] w (BuildPost ts w) := by
  have HK := Lib.hid hk
  have hbig := hk.big
  obtain ⟨i0, hi, hz0, hz1, hz2⟩ := info_parts binfo
  obtain ⟨i1, hj, hy0, hy1, hy2⟩ := info_parts tinfo
  have HI := Lib.hid (And.intro hi (And.intro hz0 (And.intro hz1 hz2)))
  have HJ := Lib.hid (And.intro hj (And.intro hy0 (And.intro hy1 hy2)))
  clear hi hz0 hz1 hz2 hj hy0 hy1 hy2 hk
  go_enter Tryd.func6, Tryd.ntmps6
  go_wp2_with fail
  refine (of_nil _).mono ?_
  rintro e w1 ⟨rfl, hb1⟩
  rw [World.size_alloc] at hb1
  have HS := Lib.hid (build_start (ts := ts) hb1)
  clear hb1
  go_wp2_with fail
  go_loopw [5, 6, 7, 8] (fun v right deep i wr => BRel w ts v right deep i wr) (fun _ _ _ i _ => n - (intOf i).toNat)
  case atStart => exact HS.out
  case round =>
    clear HS
    obtain ⟨k, fs, hkt, hk60, rfl, rfl, rfl, hfs, hst, hz, hbel⟩ := hrel
    have hlen := HK.out.len
    have hf := builtN_ok (fun t ht => (HK.out.fits t ht).1) k (by omega)
    obtain ⟨ini, f, rfl⟩ : ∃ ini f, fs = ini ++ [f] := by
      rcases List.eq_nil_or_concat fs with e | ⟨ini, f, e⟩
      · rw [e] at hfs; exact absurd hfs.symm hf.ne
      · exact ⟨ini, f, by rw [e, List.concat_eq_append]⟩
    obtain ⟨gs, cs, rfl, hgB, hglt, hgcap⟩ := hst.form (by simp)
    obtain ⟨fv, fl, fx⟩ := f
    obtain ⟨Af, cf, hfv⟩ : ∃ Af cf, fv = .slice Af fl.length cf := by
      obtain ⟨A, c, h, _⟩ := own_shape (hst.each ⟨fv, fl, fx⟩ (by simp)).1
      exact ⟨A, c, h⟩
    subst hfv
    have hfl : fl.length ≤ 60 := by
      have := okOf_last hfs hf.ok
      omega
    have hil : ini.length ≤ 60 := by
      have := hf.many
      rw [← hfs] at this
      simp at this
      omega
    simp only [List.length_append, List.length_cons, List.length_nil, Nat.zero_add] at hst hgcap ⊢
    have hdp : (builtN ts k).deep ≤ 200 := by have := builtN_deep ts k; omega
    by_cases hkn : k < n ∧ k < 60
    · obtain ⟨hkn1, hkn2⟩ := hkn
      obtain ⟨g, o, rfl, hg, hc⟩ := HK.out.cells (by omega)
      have htk : ts[k]? = some (ts[k]'(by omega)) := List.getElem?_eq_getElem _
      have hmem : (ts[k]'(by omega)) ∈ ts := List.getElem_mem _
      generalize (ts[k]'(by omega)) = t at htk hmem
      obtain ⟨Ab, nb, cb, e0, e1, e2, hbi⟩ := hc k t htk
      have d0 := (hbel.cell (p := ⟨g, o + k * 3, none⟩) hg).trans e0
      have d1 := (hbel.cell (p := ⟨g, o + k * 3 + 1, none⟩) hg).trans e1
      have d2 := (hbel.cell (p := ⟨g, o + k * 3 + 2, none⟩) hg).trans e2
      have hbr := hbi.below hbel
      have hfit := HK.out.fits t hmem
      have HO := Lib.hid (And.intro hst (And.intro hz (And.intro hbel (And.intro hbr (And.intro hfit (And.intro htk (And.intro hfs hf)))))))
      clear hst hz hbel hbr hfit htk hfs hf hc e0 e1 e2 hbi hmem
      have hcap := HO.out.2.2.2.1.cap
      have hlb := HO.out.2.2.2.1.len
      have hmn : (min (nb : Int) 100).toNat = (t.b.take 100).length ∧ (min (nb : Int) 100).toNat ≤ 100 ∧ (min (nb : Int) 100).toNat ≤ nb := by rw [List.length_take]; omega
      have hbt : BIn ((wr.alloc (.cells #[.int .i64 t.kind, .int .i64 t.n, .slice Ab nb cb] 51)).alloc (.cells #[] 5)) (fun _ => True) Ab (min (nb : Int) 100).toNat cb (t.b.take 100) := by
        have h1 := (HO.out.2.2.2.1.take (min (nb : Int) 100).toNat hmn.2.2).below (((Below.refl _ _).alloc (Nat.le_refl _) (.cells #[.int .i64 t.kind, .int .i64 t.n, .slice Ab nb cb] 51)).alloc (by simp) (.cells #[] 5))
        have h2 : t.b.take (min (nb : Int) 100).toNat = t.b.take 100 := by
          rcases Nat.lt_or_ge 100 nb with hm | hm
          · congr 1; omega
          · rw [List.take_of_length_le (by omega), List.take_of_length_le (by omega)]
        rw [h2] at h1
        exact h1
      have HBT := Lib.hid (And.intro hbt hmn)
      have hm1 := hmn.2.1
      clear hbt hmn hlb
      go_upto_region 9 with (at_builtin; go_loud (refine wpList_append_bin rfl (.tmp 30) (.tmp 37) rfl (wr.heap.size + 1) (.slice (some ⟨wr.heap.size + 1, 0, none⟩) 0 0) 0 [] rfl (tok_made wr _) (fun _ => True) Ab (min (nb : Int) 100).toNat cb (t.b.take 100) rfl HBT.out.1 (by omega) (by simp) ?_); intro v2 w2 ho2 hg2 _; obtain ⟨A2, c2, rfl, hb2, hbl2⟩ := tok_bytes (by rw [List.nil_append, Nat.zero_add] at ho2; exact ho2) HBT.out.1.len hg2; obtain ⟨x0, x1, x2⟩ := tok_box hbl2; have H2 := Lib.hid (And.intro hb2 hbl2); clear ho2 hg2 hb2 hbl2)
      have hst2 := HO.out.1.below ((below_new wr _).trans (H2.out.2.mono (Nat.le_succ _)))
      have hW2 := (below_new wr (.cells #[.int .i64 t.kind, .int .i64 t.n, .slice Ab nb cb] 51)).trans (H2.out.2.mono (Nat.le_succ _))
      have hz2 := HO.out.2.1.below hW2 HO.out.2.1.lt
      have hbel2 := HO.out.2.2.1.trans (hW2.mono HO.out.2.2.1.size)
      have hls : (builtN ts k).ls = ini.map Fr.l ++ [fl] := by rw [← HO.out.2.2.2.2.2.2.1]; simp
      have htk := HO.out.2.2.2.2.2.1
      have HST := Lib.hid (And.intro hst2 (And.intro hz2 hbel2))
      clear hst2 hz2 hbel2 hW2
      have h45 := sort45 t
      rcases sort_five t with hs | hs | hs | hs | hs
      · rw [hs] at h45
        go_upto_region 16 with fail
        refine wp_of_then (region16 HST.out.1 HST.out.2.1 HST.out.2.2 hfl hil t.n x1 _ _ _ _ _ _ _ _ _ _ _ _ _ _ _ _ _ _ _ _ _ _ _ _ _ _ _ _ _ _ _ _ _ _ _ _ _ _ _ _ _ _ _ _ _ _ _ _ _ _ _ _ _ _ _ _ _ _ _ _ _ _ _ _ _ _ _ _ _ _ _ _ _ _ _ _ _ _ _ _ _ _ _ _ _ _ _ _ _ _ _ _ _ _ _ _ _ _ _ _ _ _ _ _ _ _ _ _ _ _ _ _ _ _ _ _ _ _ _ _ _ _ _ _ _ _ _ _ _ _ _ _ _ _ _ _ _ _ _ _ _ _ _ _ _ _ _ _ _ _ _ _ _ _ _ _ _ _ _ _ _ _ _ _ _ _ _ _ _ _ _ _ _ _ _ _ _ _ _ _ _ _ _ _ _ _ _ _ _ _ _ _ _ _ _ _ _ _ _ _ _ _ _ _ _ _ _ _ _ _ _ _ _ _ _ _ _ _ _ _ ?_)
        intro _ _ _ _ _ _ _ _ _ _ _ _ _ _ wx ⟨v4, xs4, hp1, hp2, hp3⟩
        dsimp only
        have HP := Lib.hid (And.intro hp1 (And.intro hp2 hp3))
        clear hp1 hp2 hp3
        go_wp2_with fail
        go_roundw
        case rel => exact brel_of htk hkn2 HP.out.1 HP.out.2.1 HP.out.2.2 (by rw [step_int hs, hls, pushTop_snoc]; simp) (by rw [step_int hs]) (by rw [step_int hs]) rfl
        case measure => simp [intOf]; omega
      · rw [hs] at h45
        have hb2 : BIn w2 (fun g => wr.heap.size < g) A2 (min 100 t.b.length) c2 (t.b.take 100) := by rw [← List.length_take]; exact H2.out.1
        have HB2 := Lib.hid hb2
        clear hb2
        go_upto_region 18 with fail
        refine wp_of_then (region18 HST.out.1 HST.out.2.1 HST.out.2.2 hfl hil (HB2.out.keep fun g _ _ => ⟨rfl, trivial⟩) (by rw [List.length_take]; omega) _ _ _ _ _ _ _ _ _ _ _ _ _ _ _ _ _ _ _ _ _ _ _ _ _ _ _ _ _ _ _ _ _ _ _ _ _ _ _ _ _ _ _ _ _ _ _ _ _ _ _ _ _ _ _ _ _ _ _ _ _ _ _ _ _ _ _ _ _ _ _ _ _ _ _ _ _ _ _ _ _ _ _ _ _ _ _ _ _ _ _ _ _ _ _ _ _ _ _ _ _ _ _ _ _ _ _ _ _ _ _ _ _ _ _ _ _ _ _ _ _ _ _ _ _ _ _ _ _ _ _ _ _ _ _ _ _ _ _ _ _ _ _ _ _ _ _ _ _ _ _ _ _ _ _ _ _ _ _ _ _ _ _ _ _ _ _ _ _ _ _ _ _ _ _ _ _ _ _ _ _ _ _ _ _ _ _ _ _ _ _ _ _ _ _ _ _ _ _ _ _ _ _ _ _ _ _ _ _ _ _ _ _ _ _ _ _ _ _ _ ?_)
        intro _ _ _ _ _ _ _ _ _ _ _ _ _ _ wx ⟨v4, xs4, hp1, hp2, hp3⟩
        dsimp only
        have HP := Lib.hid (And.intro hp1 (And.intro hp2 hp3))
        clear hp1 hp2 hp3
        go_wp2_with fail
        go_roundw
        case rel => exact brel_of htk hkn2 HP.out.1 HP.out.2.1 HP.out.2.2 (by rw [step_text hs, hls, pushTop_snoc]; simp) (by rw [step_text hs]) (by rw [step_text hs]) rfl
        case measure => simp [intOf]; omega
      · rw [hs] at h45
        go_wp2_with fail
        refine (of_nil _).mono ?_
        rintro e w3 ⟨rfl, hb3⟩
        have HS3 := Lib.hid (And.intro (HST.out.1.below hb3) (And.intro (HST.out.2.1.below hb3 HST.out.2.1.lt) (HST.out.2.2.trans (hb3.mono HST.out.2.2.size))))
        clear hb3
        go_wp2_with (at_builtin; go_loud (refine wpList_append_lies _ rfl (.tmp 117) (.tmp 119) 24 rfl (w.heap.size + 1) 26 i1 (.agg #[.int .i64 0, .int .i64 0, .slice none 0 0, .slice none 0 0]) 4 64 Tryd.underlying24 HJ.out.1 HJ.out.2.1 HJ.out.2.2.1 HJ.out.2.2.2 rfl (by decide) (.slice (some ⟨gs, 0, none⟩) (ini.length + 1) cs) (ini.length + 1) (cellsOf (ini ++ [⟨.slice Af fl.length cf, fl, fx⟩])) rfl (row_one (HS3.out.1.alloc (.cells #[.int .i64 2, .int .i64 0, .slice none 0 0, .slice none 0 0] 26)).row) ⟨w3.heap.size, 0, none⟩ 1 1 [.int .i64 2, .int .i64 0, .slice none 0 0, .slice none 0 0] rfl rfl (new_four w3 _ _ _ _ _) (by simp [Value.oneCell']) (by decide) (by unfold maxLen; omega) (by omega) (by have := HS3.out.1.row.lt gs rfl; simp; omega) _ rfl ?_); intro gg cap w4 ho4 hg4 hat hlt4; have HP := Lib.hid (push_frame HS3.out.1 (by have := HS3.out.1.row.lt gs rfl; omega) (two_one ho4) hg4 (hat.imp Eq.symm (congrArg some))); clear ho4 hg4 hat hlt4)
        go_roundw
        case rel => exact brel_of htk hkn2 HP.out.1 (HS3.out.2.1.below HP.out.2 (Nat.lt_succ_self _)) (HS3.out.2.2.trans (HP.out.2.mono (Nat.le_succ _))) (by rw [step_open hs, hls]; simp) (by rw [step_open hs]) (by rw [step_open hs, hls]; simp; omega) rfl
        case measure => simp [intOf]; omega
      · rw [hs] at h45
        rcases List.eq_nil_or_concat ini with hn | ⟨ini', p, hn⟩
        · subst hn
          go_wp2_with fail
          go_roundw
          case rel => exact brel_of htk hkn2 HST.out.1 HST.out.2.1 HST.out.2.2 (by rw [step_shut hs, hls]; simp [popTop]) (by rw [step_shut hs]) (by rw [step_shut hs]) rfl
          case measure => simp [intOf]; omega
        · rw [List.concat_eq_append] at hn
          obtain ⟨pv, pl, px⟩ := p
          obtain ⟨Ap, cp, hpv⟩ : ∃ A c, pv = .slice A pl.length c := by
            obtain ⟨A, c, h, _⟩ := own_shape (HST.out.1.each ⟨pv, pl, px⟩ (by simp [hn])).1
            exact ⟨A, c, h⟩
          subst hpv
          have hpl : pl.length ≤ 60 := by
            have := okOf_get HO.out.2.2.2.2.2.2.2.ok (l := pl) (by rw [hls, hn]; simp)
            omega
          have hl2 : ini.length = ini'.length + 1 := by rw [hn]; simp
          have hst2 := HST.out.1
          obtain ⟨e0, e1, e2, e3⟩ := cellsOf_top ini ⟨.slice Af fl.length cf, fl, fx⟩
          have g0 := ownsRow_cell hst2.row (g := gs) rfl e0
          have g1 := ownsRow_cell hst2.row (g := gs) rfl e1
          have g2 := ownsRow_cell hst2.row (g := gs) rfl e2
          have g3 := ownsRow_cell hst2.row (g := gs) rfl e3
          clear e0 e1 e2 e3
          have hpop := Stack.pop hst2
          rw [hl2] at g0 g1 g2 g3 hpop
          rw [hn] at hpop
          have hgc : ini'.length + 2 ≤ cs := by omega
          have hlt2 : ((ini.length : Nat) : Int) = (ini'.length : Int) + 1 := by omega
          have hls2 : (builtN ts k).ls = ini'.map Fr.l ++ [pl, fl] := by rw [hls, hn]; simp
          have HPO := Lib.hid (And.intro hpop (And.intro (And.intro g0 (And.intro g1 (And.intro g2 g3))) (And.intro HST.out.2.1 HST.out.2.2)))
          have hil2 : ini'.length ≤ 60 := by omega
          rw [hlt2, hl2]
          clear hpop g0 g1 g2 g3 hst2 HST HO hn hl2 hlt2 hls
          have hgt : (0 : Int) < (ini'.length : Int) + 1 := by omega
          go_upto_region 24 with fail
          refine wp_of_then (region24 _ _ _ _ _ _ _ _ _ _ _ _ _ _ _ _ _ _ _ _ _ _ _ _ _ _ _ _ _ _ _ _ _ _ _ _ _ _ _ _ _ _ _ _ _ _ _ _ _ _ _ _ _ _ _ _ _ _ _ _ _ _ _ _ _ _ _ _ _ _ _ _ _ _ _ _ _ _ _ _ _ _ _ _ _ _ _ _ _ _ _ _ _ _ _ _ _ _ _ _ _ _ _ _ _ _ _ _ _ _ _ _ _ _ _ _ _ _ _ _ _ _ _ _ _ _ _ _ _ _ _ _ _ _ _ _ _ _ _ _ _ _ _ _ _ _ _ _ _ _ _ _ _ _ _ _ _ _ _ _ _ _ _ _ _ _ _ _ _ _ _ _ _ _ _ _ _ _ _ _ _ _ _ _ _ _ _ _ _ _ _ _ _ _ _ _ _ _ _ _ _ _ _ _ _ _ _ _ _ _ _ _ _ _ _ _ _ _ _ _ _ _ _ ?_)
          intro _ b3 w3 hb3
          dsimp only
          have HS3 := Lib.hid (And.intro (HPO.out.1.1.below hb3) (And.intro (HPO.out.1.2.below hb3) (And.intro (HPO.out.2.2.1.below hb3 HPO.out.2.2.1.lt) (HPO.out.2.2.2.trans (hb3.mono HPO.out.2.2.2.size)))))
          have hgl := (HPO.out.1.1.row.lt gs rfl).2
          have k0 := (hb3.cell (p := ⟨gs, (ini'.length + 1) * 4, none⟩) hgl).trans HPO.out.2.1.1
          have k1 := (hb3.cell (p := ⟨gs, (ini'.length + 1) * 4 + 1, none⟩) hgl).trans HPO.out.2.1.2.1
          have k2 := (hb3.cell (p := ⟨gs, (ini'.length + 1) * 4 + 2, none⟩) hgl).trans HPO.out.2.1.2.2.1
          have k3 := (hb3.cell (p := ⟨gs, (ini'.length + 1) * 4 + 3, none⟩) hgl).trans HPO.out.2.1.2.2.2
          clear hb3
          cases b3
          · go_upto_region 27 with fail
            refine wp_of_then (region27 HS3.out.1 HS3.out.2.2.1 HS3.out.2.2.2 hpl hil2 HS3.out.2.1 k0 k1 k2 k3 _ _ _ _ _ _ _ _ _ _ _ _ _ _ _ _ _ _ _ _ _ _ _ _ _ _ _ _ _ _ _ _ _ _ _ _ _ _ _ _ _ _ _ _ _ _ _ _ _ _ _ _ _ _ _ _ _ _ _ _ _ _ _ _ _ _ _ _ _ _ _ _ _ _ _ _ _ _ _ _ _ _ _ _ _ _ _ _ _ _ _ _ _ _ _ _ _ _ _ _ _ _ _ _ _ _ _ _ _ _ _ _ _ _ _ _ _ _ _ _ _ _ _ _ _ _ _ _ _ _ _ _ _ _ _ _ _ _ _ _ _ _ _ _ _ _ _ _ _ _ _ _ _ _ _ _ _ _ _ _ _ _ _ _ _ _ _ _ _ _ _ _ _ _ _ _ _ _ _ _ _ _ _ _ _ _ _ _ _ _ _ _ _ _ _ _ _ _ _ _ _ _ _ _ _ _ _ _ _ _ _ _ _ _ _ _ _ _ _ _ _ ?_)
            intro _ _ _ _ _ _ _ _ _ _ _ _ _ _ _ _ _ wx ⟨v4, xs4, hp1, hp2, hp3⟩
            dsimp only
            have HP := Lib.hid (And.intro hp1 (And.intro hp2 hp3))
            clear hp1 hp2 hp3 k0 k1 k2 k3
            go_wp2_with fail
            go_roundw
            case rel => exact brel_of htk hkn2 HP.out.1 HP.out.2.1 HP.out.2.2 (by rw [step_shut hs, hls2, popTop_snoc]; simp) (by rw [step_shut hs]) (by rw [step_shut hs]) rfl
            case measure => simp [intOf]; omega
          · go_upto_region 25 with fail
            refine wp_of_then (region25 HS3.out.1 HS3.out.2.2.1 HS3.out.2.2.2 hpl hil2 HS3.out.2.1 k0 k1 k2 k3 _ _ _ _ _ _ _ _ _ _ _ _ _ _ _ _ _ _ _ _ _ _ _ _ _ _ _ _ _ _ _ _ _ _ _ _ _ _ _ _ _ _ _ _ _ _ _ _ _ _ _ _ _ _ _ _ _ _ _ _ _ _ _ _ _ _ _ _ _ _ _ _ _ _ _ _ _ _ _ _ _ _ _ _ _ _ _ _ _ _ _ _ _ _ _ _ _ _ _ _ _ _ _ _ _ _ _ _ _ _ _ _ _ _ _ _ _ _ _ _ _ _ _ _ _ _ _ _ _ _ _ _ _ _ _ _ _ _ _ _ _ _ _ _ _ _ _ _ _ _ _ _ _ _ _ _ _ _ _ _ _ _ _ _ _ _ _ _ _ _ _ _ _ _ _ _ _ _ _ _ _ _ _ _ _ _ _ _ _ _ _ _ _ _ _ _ _ _ _ _ _ _ _ _ _ _ _ _ _ _ _ _ _ _ _ _ _ _ _ _ _ ?_)
            intro _ _ _ _ _ _ _ _ _ _ _ _ _ _ _ gg cap wx hh
            dsimp only
            have HH := Lib.hid hh
            clear hh k0 k1 k2 k3
            go_upto_region 26 with fail
            refine wp_of_then (region26 HH.out _ _ _ _ _ _ _ _ _ _ _ _ _ _ _ _ _ _ _ _ _ _ _ _ _ _ _ _ _ _ _ _ _ _ _ _ _ _ _ _ _ _ _ _ _ _ _ _ _ _ _ _ _ _ _ _ _ _ _ _ _ _ _ _ _ _ _ _ _ _ _ _ _ _ _ _ _ _ _ _ _ _ _ _ _ _ _ _ _ _ _ _ _ _ _ _ _ _ _ _ _ _ _ _ _ _ _ _ _ _ _ _ _ _ _ _ _ _ _ _ _ _ _ _ _ _ _ _ _ _ _ _ _ _ _ _ _ _ _ _ _ _ _ _ _ _ _ _ _ _ _ _ _ _ _ _ _ _ _ _ _ _ _ _ _ _ _ _ _ _ _ _ _ _ _ _ _ _ _ _ _ _ _ _ _ _ _ _ _ _ _ _ _ _ _ _ _ _ _ _ _ _ _ _ _ _ _ _ _ _ _ _ _ _ _ _ _ _ _ _ ?_)
            intro _ wy ⟨v4, xs4, hp1, hp2, hp3⟩
            dsimp only
            have HP := Lib.hid (And.intro hp1 (And.intro hp2 hp3))
            clear hp1 hp2 hp3
            go_wp2_with fail
            go_roundw
            case rel => exact brel_of htk hkn2 HP.out.1 HP.out.2.1 HP.out.2.2 (by rw [step_shut hs, hls2, popTop_snoc]; simp) (by rw [step_shut hs]) (by rw [step_shut hs]) rfl
            case measure => simp [intOf]; omega
      · rw [hs] at h45
        have x1x := later_cell (.cells #[.int .i64 t.n, .int .i64 t.n, .slice A2 (min 100 t.b.length) c2, .slice none 0 0] 26) x1
        have hb2 : BIn w2 (fun g => wr.heap.size < g) A2 (min 100 t.b.length) c2 (t.b.take 100) := by rw [← List.length_take]; exact H2.out.1
        have hin2 : In w2 (fun g => w.heap.size + 1 ≤ g ∧ ¬ Live (.slice (some ⟨gs, 0, none⟩) (ini.length + 1) cs) (ini ++ [⟨.slice Af fl.length cf, fl, fx⟩]) g) (.mk t.n t.n (t.b.take 100) []) (.agg #[.int .i64 t.n, .int .i64 t.n, .slice A2 (min 100 t.b.length) c2, .slice none 0 0]) :=
          in_fresh HO.out.1 (by have := HO.out.1.row.lt gs rfl; omega) (In.shut (hb2.keep fun g hg _ => ⟨rfl, Nat.le_of_lt hg⟩) (LIn.none _ _))
        have hbn := below_new w2 (.cells #[.int .i64 t.n, .int .i64 t.n, .slice A2 (min 100 t.b.length) c2, .slice none 0 0] 26)
        have HS3 := Lib.hid (And.intro (HST.out.1.below hbn) (And.intro (HST.out.2.1.below hbn HST.out.2.1.lt) (And.intro (HST.out.2.2.trans (hbn.mono HST.out.2.2.size)) (And.intro (hin2.below hbn) (Blk.new w2 26 [.int .i64 t.n, .int .i64 t.n, .slice A2 (min 100 t.b.length) c2, .slice none 0 0])))))
        clear hb2 hin2 hbn
        generalize hR : (builtN ts k).right = R
        have hrs : ((builtN ts k).step t).right = (R && (decide (t.n = 0) && (t.b.take 100).isEmpty)) := by rw [step_own hs, ← hR]
        have hds : ((builtN ts k).step t).deep = if t.n = 2 then max (builtN ts k).deep (ini.length + 2) else (builtN ts k).deep := by rw [step_own hs, hls]; simp
        generalize hq2 : (t.n == 2) = q2
        generalize hq0 : (t.n == 0) = q0
        cases R
        all_goals cases q2
        all_goals cases q0
        all_goals
          go_upto_region 14 with fail
          refine wp_of_then (region14 HS3.out.1 HS3.out.2.1 HS3.out.2.2.1 hfl hil HS3.out.2.2.2.1 (HS3.out.2.2.2.2.cell 0) (HS3.out.2.2.2.2.cell 1) (HS3.out.2.2.2.2.cell 2) (HS3.out.2.2.2.2.cell 3) _ _ _ _ _ _ _ _ _ _ _ _ _ _ _ _ _ _ _ _ _ _ _ _ _ _ _ _ _ _ _ _ _ _ _ _ _ _ _ _ _ _ _ _ _ _ _ _ _ _ _ _ _ _ _ _ _ _ _ _ _ _ _ _ _ _ _ _ _ _ _ _ _ _ _ _ _ _ _ _ _ _ _ _ _ _ _ _ _ _ _ _ _ _ _ _ _ _ _ _ _ _ _ _ _ _ _ _ _ _ _ _ _ _ _ _ _ _ _ _ _ _ _ _ _ _ _ _ _ _ _ _ _ _ _ _ _ _ _ _ _ _ _ _ _ _ _ _ _ _ _ _ _ _ _ _ _ _ _ _ _ _ _ _ _ _ _ _ _ _ _ _ _ _ _ _ _ _ _ _ _ _ _ _ _ _ _ _ _ _ _ _ _ _ _ _ _ _ _ _ _ _ _ _ _ _ _ _ _ _ _ _ _ _ _ _ _ _ _ _ ?_)
          intro _ _ _ _ _ _ _ _ _ _ _ _ wx ⟨v4, xs4, hp1, hp2, hp3⟩
          dsimp only
          have HP := Lib.hid (And.intro hp1 (And.intro hp2 hp3))
          clear hp1 hp2 hp3
          go_wp2_with fail
          go_roundw
          case rel =>
            refine brel_of htk hkn2 HP.out.1 HP.out.2.1 HP.out.2.2 (by rw [step_own hs, hls, pushTop_snoc]; simp) ?_ ?_ rfl
            · rw [hrs]; first | rfl | (rw [empty_take, show decide (t.n = 0) = (t.n == 0) from rfl, hq0]; rfl) | (simp_all; done)
            · rw [hds]; first | rfl | (simp_all; done) | (simp_all; omega) | trace_state
          case measure => simp [intOf]; omega
    · have hend := built_end (ts := ts) (k := k) hkt hk60 (by rw [hlen]; exact hkn)
      have hall : ∀ g ∈ ini, g.l.length ≤ 60 := by
        intro g hg
        have := okOf_get hf.ok (l := g.l) (by rw [← hfs]; simp; exact .inl ⟨g, hg, rfl⟩)
        omega
      have HR := Lib.hid (show BRel2 w ts (.slice (some ⟨gs, 0, none⟩) (ini.length + 1) cs) wr from ⟨ini, ⟨.slice Af fl.length cf, fl, fx⟩, hst, hil, hall, by rw [← hend, ← hfs]; simp, hz, hbel⟩)
      rw [hend]
      have hkl : ¬((k : Int) < (n : Int) ∧ (k : Int) < 60) := by omega
      have hdp2 : (builtN ts 60).deep ≤ 200 := by have := builtN_deep ts 60; omega
      clear hst hz hbel hfs hf hall hend hgB hglt hgcap hdp hkt hfl hil
      go_wp2_with fail
      all_goals
        go_loopw [5] (fun v wr => BRel2 w ts v wr) (fun v _ => lenOf v)
        case atStart => exact HR.out
        case round =>
          clear HR
          obtain ⟨ini2, ⟨fv2, fl2, fx2⟩, hst, hil, hall, hsh, hz, hbel⟩ := hrel
          obtain ⟨gs2, cs2, rfl, hgB, hglt, hgcap⟩ := hst.form (by simp)
          obtain ⟨Af2, cf2, hfv⟩ : ∃ Af cf, fv2 = .slice Af fl2.length cf := by
            obtain ⟨A, c, h, _⟩ := own_shape (hst.each ⟨fv2, fl2, fx2⟩ (by simp)).1
            exact ⟨A, c, h⟩
          subst hfv
          simp only [List.length_append, List.length_cons, List.length_nil, Nat.zero_add] at hst hgcap ⊢
          obtain ⟨e0, e1, e2, e3⟩ := cellsOf_top ini2 ⟨.slice Af2 fl2.length cf2, fl2, fx2⟩
          have g0 := ownsRow_cell hst.row (g := gs2) rfl e0
          have g1 := ownsRow_cell hst.row (g := gs2) rfl e1
          have g2 := ownsRow_cell hst.row (g := gs2) rfl e2
          have g3 := ownsRow_cell hst.row (g := gs2) rfl e3
          clear e0 e1 e2 e3
          rcases List.eq_nil_or_concat ini2 with hn | ⟨ini', p, hn⟩
          · subst hn
            have z0 := hz.frozen 0
            have z1 := hz.frozen 1
            have z2 := hz.frozen 2
            have z3 := hz.frozen 3
            have y0 := hz.cell 0
            have y1 := hz.cell 1
            have y2 := hz.cell 2
            have y3 := hz.cell 3
            simp only [List.getElem?_cons_succ, List.getElem?_cons_zero] at y0 y1 y2 y3
            simp only [List.length_nil, Nat.zero_mul, Nat.zero_add] at g0 g1 g2 g3 hst ⊢
            have HF := Lib.hid (And.intro hst (And.intro hsh hbel))
            clear hst hsh hbel hz
            go_wp2_with fail
            refine bodyPost_ret (v := .tuple #[.agg #[.int .i64 2, .int .i64 0, .slice none 0 0, .slice Af2 fl2.length cf2], .bool (builtN ts 60).right, .int .i64 ((builtN ts 60).deep : Nat)]) (by simp [results, Tryd.results6, go_sem, y0, y1, y2, y3]) rfl ?_
            exact build_end HF.out.1 HF.out.2.1 HF.out.2.2 (put4_only wr w.heap.size _ _ _ _)
          · rw [List.concat_eq_append] at hn
            obtain ⟨pv, pl, px⟩ := p
            obtain ⟨Ap, cp, hpv⟩ : ∃ A c, pv = .slice A pl.length c := by
              obtain ⟨A, c, h, _⟩ := own_shape (hst.each ⟨pv, pl, px⟩ (by simp [hn])).1
              exact ⟨A, c, h⟩
            subst hpv
            have hpl : pl.length ≤ 60 := hall ⟨.slice Ap pl.length cp, pl, px⟩ (by simp [hn])
            have hall2 : ∀ g ∈ ini', g.l.length ≤ 60 := fun g hg => hall g (by simp [hn, hg])
            have hl2 : ini2.length = ini'.length + 1 := by rw [hn]; simp
            have hpop := Stack.pop hst
            rw [hl2] at g0 g1 g2 g3 hpop
            rw [hn] at hpop
            have hgc : ini'.length + 2 ≤ cs2 := by omega
            have hsh2 : shutAll (ini'.map Fr.l ++ [pl ++ [.mk 2 0 [] fl2]]) = shutAll (builtN ts 60).ls := by
              rw [← popTop_snoc, shutAll_pop, ← hsh, hn]; simp
            have HPO := Lib.hid (And.intro hpop (And.intro (And.intro g0 (And.intro g1 (And.intro g2 g3))) (And.intro hz (And.intro hbel (And.intro hall2 hsh2)))))
            have hil2 : ini'.length ≤ 60 := by omega
            rw [hl2]
            clear hpop g0 g1 g2 g3 hst hz hbel hall hsh hall2 hsh2 hn hl2 hil hgB hglt
            have hgt : (1 : Int) < (ini'.length : Int) + 2 := by omega
            have hgt2 : (1 : Int) < (ini'.length : Int) + 1 + 1 := by omega
            have hsb : (ini'.length : Int) + 2 - 1 = (ini'.length : Int) + 1 := by omega
            go_upto_region 31 with fail
            refine wp_of_then (region31 _ _ _ _ _ _ _ _ _ _ _ _ _ _ _ _ _ _ _ _ _ _ _ _ _ _ _ _ _ _ _ _ _ _ _ _ _ _ _ _ _ _ _ _ _ _ _ _ _ _ _ _ _ _ _ _ _ _ _ _ _ _ _ _ _ _ _ _ _ _ _ _ _ _ _ _ _ _ _ _ _ _ _ _ _ _ _ _ _ _ _ _ _ _ _ _ _ _ _ _ _ _ _ _ _ _ _ _ _ _ _ _ _ _ _ _ _ _ _ _ _ _ _ _ _ _ _ _ _ _ _ _ _ _ _ _ _ _ _ _ _ _ _ _ _ _ _ _ _ _ _ _ _ _ _ _ _ _ _ _ _ _ _ _ _ _ _ _ _ _ _ _ _ _ _ _ _ _ _ _ _ _ _ _ _ _ _ _ _ _ _ _ _ _ _ _ _ _ _ _ _ _ _ _ _ _ _ _ _ _ _ _ _ _ _ _ _ _ _ _ _ _ _ ?_)
            intro _ b3 w3 hb3
            dsimp only
            have HS3 := Lib.hid (And.intro (HPO.out.1.1.below hb3) (And.intro (HPO.out.1.2.below hb3) (And.intro (HPO.out.2.2.1.below hb3 HPO.out.2.2.1.lt) (HPO.out.2.2.2.1.trans (hb3.mono HPO.out.2.2.2.1.size)))))
            have hgl := (HPO.out.1.1.row.lt gs2 rfl).2
            have k0 := (hb3.cell (p := ⟨gs2, (ini'.length + 1) * 4, none⟩) hgl).trans HPO.out.2.1.1
            have k1 := (hb3.cell (p := ⟨gs2, (ini'.length + 1) * 4 + 1, none⟩) hgl).trans HPO.out.2.1.2.1
            have k2 := (hb3.cell (p := ⟨gs2, (ini'.length + 1) * 4 + 2, none⟩) hgl).trans HPO.out.2.1.2.2.1
            have k3 := (hb3.cell (p := ⟨gs2, (ini'.length + 1) * 4 + 3, none⟩) hgl).trans HPO.out.2.1.2.2.2
            clear hb3
            cases b3
            · go_upto_region 34 with fail
              refine wp_of_then (region34 HS3.out.1 HS3.out.2.2.1 HS3.out.2.2.2 hpl hil2 HS3.out.2.1 k0 k1 k2 k3 _ _ _ _ _ _ _ _ _ _ _ _ _ _ _ _ _ _ _ _ _ _ _ _ _ _ _ _ _ _ _ _ _ _ _ _ _ _ _ _ _ _ _ _ _ _ _ _ _ _ _ _ _ _ _ _ _ _ _ _ _ _ _ _ _ _ _ _ _ _ _ _ _ _ _ _ _ _ _ _ _ _ _ _ _ _ _ _ _ _ _ _ _ _ _ _ _ _ _ _ _ _ _ _ _ _ _ _ _ _ _ _ _ _ _ _ _ _ _ _ _ _ _ _ _ _ _ _ _ _ _ _ _ _ _ _ _ _ _ _ _ _ _ _ _ _ _ _ _ _ _ _ _ _ _ _ _ _ _ _ _ _ _ _ _ _ _ _ _ _ _ _ _ _ _ _ _ _ _ _ _ _ _ _ _ _ _ _ _ _ _ _ _ _ _ _ _ _ _ _ _ _ _ _ _ _ _ _ _ _ _ _ _ _ _ _ _ _ _ _ _ ?_)
              intro _ _ _ _ _ _ _ _ _ _ _ _ _ _ _ _ _ wx ⟨v4, xs4, hp1, hp2, hp3⟩
              dsimp only
              have HP := Lib.hid (And.intro hp1 (And.intro hp2 hp3))
              clear hp1 hp2 hp3 k0 k1 k2 k3
              go_wp2_with fail
              go_roundw
              case rel => exact ⟨ini', ⟨v4, _, xs4⟩, HP.out.1, hil2, HPO.out.2.2.2.2.1, HPO.out.2.2.2.2.2, HP.out.2.1, HP.out.2.2⟩
              case measure => simp [lenOf]
            · go_upto_region 32 with fail
              refine wp_of_then (region32 HS3.out.1 HS3.out.2.2.1 HS3.out.2.2.2 hpl hil2 HS3.out.2.1 k0 k1 k2 k3 _ _ _ _ _ _ _ _ _ _ _ _ _ _ _ _ _ _ _ _ _ _ _ _ _ _ _ _ _ _ _ _ _ _ _ _ _ _ _ _ _ _ _ _ _ _ _ _ _ _ _ _ _ _ _ _ _ _ _ _ _ _ _ _ _ _ _ _ _ _ _ _ _ _ _ _ _ _ _ _ _ _ _ _ _ _ _ _ _ _ _ _ _ _ _ _ _ _ _ _ _ _ _ _ _ _ _ _ _ _ _ _ _ _ _ _ _ _ _ _ _ _ _ _ _ _ _ _ _ _ _ _ _ _ _ _ _ _ _ _ _ _ _ _ _ _ _ _ _ _ _ _ _ _ _ _ _ _ _ _ _ _ _ _ _ _ _ _ _ _ _ _ _ _ _ _ _ _ _ _ _ _ _ _ _ _ _ _ _ _ _ _ _ _ _ _ _ _ _ _ _ _ _ _ _ _ _ _ _ _ _ _ _ _ _ _ _ _ _ _ _ ?_)
              intro _ _ _ _ _ _ _ _ _ _ _ _ _ _ _ gg cap wx hh
              dsimp only
              have HH := Lib.hid hh
              clear hh k0 k1 k2 k3
              go_upto_region 33 with fail
              refine wp_of_then (region33 HH.out _ _ _ _ _ _ _ _ _ _ _ _ _ _ _ _ _ _ _ _ _ _ _ _ _ _ _ _ _ _ _ _ _ _ _ _ _ _ _ _ _ _ _ _ _ _ _ _ _ _ _ _ _ _ _ _ _ _ _ _ _ _ _ _ _ _ _ _ _ _ _ _ _ _ _ _ _ _ _ _ _ _ _ _ _ _ _ _ _ _ _ _ _ _ _ _ _ _ _ _ _ _ _ _ _ _ _ _ _ _ _ _ _ _ _ _ _ _ _ _ _ _ _ _ _ _ _ _ _ _ _ _ _ _ _ _ _ _ _ _ _ _ _ _ _ _ _ _ _ _ _ _ _ _ _ _ _ _ _ _ _ _ _ _ _ _ _ _ _ _ _ _ _ _ _ _ _ _ _ _ _ _ _ _ _ _ _ _ _ _ _ _ _ _ _ _ _ _ _ _ _ _ _ _ _ _ _ _ _ _ _ _ _ _ _ _ _ _ _ _ ?_)
              intro _ wy ⟨v4, xs4, hp1, hp2, hp3⟩
              dsimp only
              have HP := Lib.hid (And.intro hp1 (And.intro hp2 hp3))
              clear hp1 hp2 hp3
              go_wp2_with fail
              go_roundw
              case rel => exact ⟨ini', ⟨v4, _, xs4⟩, HP.out.1, hil2, HPO.out.2.2.2.2.1, HPO.out.2.2.2.2.2, HP.out.2.1, HP.out.2.2⟩
              case measure => simp [lenOf]

end Go.Proofs.YtodpojbgkeecnaaDoor
