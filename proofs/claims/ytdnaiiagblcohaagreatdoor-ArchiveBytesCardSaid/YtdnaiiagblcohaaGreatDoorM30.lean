/-
  What is decoded of bytes, and of others: plainly. Plain theorems; no condition.
-/
import Derived.Test.YtdnaiiagblcohaaGreatDoorM24
import Derived.Test.YtdnaiiagblcohaaGreatDoorM15
import Derived.Test.YtdnaiiagblcohaaGreatDoorM26
import Derived.Test.YtdnaiiagblcohaaGreatDoorM27
import Derived.Test.YtdnaiiagblcohaaGreatDoorM28
import Derived.Test.YtdnaiiagblcohaaGreatDoorM29
import Derived.Test.YtdnaiiagblcohaaGreatDoorM20
import Derived.Test.YtdnaiiagblcohaaGreatDoorM22
import Derived.Test.YtdnaiiagblcohaaGreatDoorM6
section
set_option linter.unusedSimpArgs false
set_option linter.unusedVariables false
set_option maxRecDepth 100000
namespace Go.Proofs.YtdnaiiagblcohaaGreatDoor
open Go.RowKit

theorem chk_texts {es : List En} (h : (chkE es).2 = 0) : ∀ e ∈ es, (joinP e.path).size ≤ 900 := by
  intro e he
  have h40 : es.length ≤ 40 := by
    rcases Nat.lt_or_ge 40 es.length with h1 | h1
    · unfold chkE at h
      rw [if_pos h1] at h
      cases h
    · exact h1
  obtain ⟨h1, h2, h3⟩ := chkE_spec h40
  obtain ⟨i, hi⟩ := List.getElem?_of_mem he
  have hr := h2 i e (by rw [h3 h]; exact (List.getElem?_eq_some_iff.1 hi).1) hi
  obtain ⟨hp, _⟩ := pathless_ok hr
  have : (parseB (textP e.path)).2 = 0 := by rw [hp]
  have ht : (textP e.path).size = slashB.size + (joinP e.path).size := by unfold textP; rw [ByteArray.size_append]
  unfold parseB at this
  split at this
  · cases this
  · omega
theorem sumE_len (e : En) : (sumE e).length = 8 := by unfold sumE; rw [List.length_take, sha_length]; rfl
theorem toEs_texts (es : List En) : ∀ e ∈ toEs es, (joinP e.path).size ≤ 900 := by
  intro e he
  unfold toEs at he
  obtain ⟨x, _, rfl⟩ := List.mem_map.1 he
  have := (few_small x.path).2
  show (joinP (fewP x.path)).size ≤ 900
  omega
theorem arcB_len (n : Nat) (es : List En) : 5 ≤ (arcB n es).length := by
  unfold arcB
  simp only [List.length_append, big_length, List.length_cons, List.length_nil]
  omega
/-- The plain reason: what is decoded of turned bytes, if anything is, are other entries, whose bytes these are. -/
theorem bends_zero {T : List En} (h : (chkE T).2 = 0) (ht : ∀ e ∈ T, (joinP e.path).size ≤ 900) : decB (arcB T.length T) = (T, T.length, 0) :=
  dec_back h (wre_all h ht).2 (fun e _ => sumE_len e)
theorem bends_other {T : List En} {b : List B8} (hne : b ≠ arcB T.length T) (h : (decB b).2.2 = 0) : T ≠ (decB b).1 ∧ (chkE (decB b).1).2 = 0 ∧ arcB (decB b).1.length (decB b).1 = b := by
  obtain ⟨h1, h2, h3, h4⟩ := dec_ok h
  refine ⟨fun he => hne ?_, by rw [h3], h2.symm⟩
  rw [he]
  exact h2
end Go.Proofs.YtdnaiiagblcohaaGreatDoor
end

/-
  ArchiveBytes, walked: for every input the law returns true. Conditions: the variables and constants that are read hold what they must; the entries lie in memory.
-/

section
set_option linter.unusedSimpArgs false
set_option linter.unusedVariables false
set_option maxRecDepth 100000
namespace Go.Proofs.YtdnaiiagblcohaaGreatDoor
open Go.RowKit

set_option maxHeartbeats 8000000 in
theorem bytes12_walk (w : World) (hV : PV w) (hK : Roots Ks w) (A : Option Addr) (n c : Nat) (xs : List Ev) (es : List En) (h : ERd w A n c xs es) :
    Calls Tryz.prog 3 #[.slice A n c] w fun e w' => e = .returned (.bool true) ∧ Below w.heap.size w w' := by
  have HT := Lib.hid (to12_any w A n c xs es h)
  have HV := Lib.hid (And.intro hV hK)
  have HX := Lib.hid (toEs_texts es)
  have HL := Lib.hid (toEs_length es)
  obtain ⟨ts, hts⟩ : ∃ ts, ts = toEs es := ⟨_, rfl⟩
  rw [← hts] at HT HX HL
  clear h hV hK hts
  go_enter Tryz.func3, Tryz.ntmps3
  go_wp2_with fail
  refine HT.out.mono ?_
  rintro e w1 ⟨A1, c1, A2, c2, X, Y, rfl, h1, h1y, h2⟩
  have H1 := Lib.hid (And.intro h1 (And.intro h2 (And.intro (HV.out.1.to h2) (And.intro (HV.out.2.below h2 HV.out.2.pos) h1y))))
  clear h1 h2 h1y
  obtain ⟨m, hm⟩ : ∃ m, m = ts.length := ⟨_, rfl⟩
  rw [← hm] at H1 HL ⊢
  have HM := Lib.hid hm
  clear hm
  have hm41 : m ≤ 41 := HL.out
  go_wp2_with fail
  refine (encode12_any w1 H1.out.2.2.1 H1.out.2.2.2.1 A1 m c1 X ts H1.out.1 HX.out).mono ?_
  rintro e w2 ⟨h2, hc⟩
  have H2 := Lib.hid h2
  clear h2
  rcases hc with ⟨hz, B, d, rfl, hd, _⟩ | ⟨hz, rfl⟩
  · obtain ⟨bs, hbs⟩ : ∃ bs, bs = arcB m ts := ⟨_, rfl⟩
    obtain ⟨bl, hbl⟩ : ∃ bl, bl = bs.length := ⟨_, rfl⟩
    rw [← hbs, ← hbl] at hd ⊢
    have HZ := Lib.hid (And.intro hz (And.intro hd (And.intro hbs hbl)))
    clear hz hd hbs hbl
    go_wp2_with fail
    refine (check_arch w2 (H1.out.2.2.1.to H2.out) A1 m c1 X ts (H1.out.1.below H2.out)).mono ?_
    rintro e w3 ⟨rfl, h3⟩
    have H3 := Lib.hid (And.intro (H2.out.trans (h3.mono H2.out.size)) h3)
    clear h3
    go_wp2_with fail
    refine (rcheck_any w3 A2 m c2 Y ts (H1.out.2.2.2.2.below H3.out.1)).mono ?_
    rintro e w4 ⟨rfl, h4⟩
    rw [HZ.out.1]
    have hb4 := H3.out.1.trans (h4.mono H3.out.1.size)
    have H4 := Lib.hid (And.intro hb4 (And.intro ((HZ.out.2.1.below H3.out.2).below h4) (And.intro (H1.out.1.below hb4) (And.intro (H1.out.2.2.2.2.below hb4) (And.intro (H1.out.2.2.1.to hb4) (And.intro (H1.out.2.2.2.1.below hb4 H1.out.2.2.2.1.pos) (H1.out.2.1.trans (hb4.mono H1.out.2.1.size))))))))
    clear h4 hb4
    obtain ⟨k, hk⟩ : ∃ k, k = (chkE ts).1 := ⟨_, rfl⟩
    rw [← hk]
    clear hk
    go_wp2_with fail
    refine (decode12_any w4 H4.out.2.2.2.2.1 H4.out.2.2.2.2.2.1 B bl d bs H4.out.2.1).mono ?_
    rintro e w5 ⟨h5, hc5⟩
    have hD : decB bs = (ts, ts.length, 0) := by
      have := bends_zero HZ.out.1 HX.out
      rw [HZ.out.2.2.1, HM.out]
      exact this
    rw [hD, ← HM.out] at hc5
    rcases hc5 with ⟨_, A5, c5, xs5, rfl, hI⟩ | ⟨hne, _⟩
    · have hb5 := H4.out.1.trans (h5.mono H4.out.1.size)
      have H5 := Lib.hid (And.intro hI (And.intro hb5 (And.intro (H4.out.2.1.below h5) (And.intro (H4.out.2.2.1.below h5) (And.intro (H4.out.2.2.2.1.below h5) (And.intro (H4.out.2.2.2.2.1.to h5) (H1.out.2.1.trans (hb5.mono H1.out.2.1.size))))))))
      clear hI hb5 hD h5
      go_wp2_with fail
      refine (known12_any w5 H5.out.2.2.2.2.2.1).mono ?_
      rintro e w6 ⟨rfl, h6⟩
      have H6 := Lib.hid h6
      clear h6
      go_wp2_with fail
      refine (make_tbl w6).mono ?_
      rintro e w7 ⟨rfl, h7⟩
      have H7 := Lib.hid (H6.out.trans (h7.mono H6.out.size))
      clear h7
      go_wp2_with fail
      refine (rencode_any w7 A2 m c2 Y ts (H5.out.2.2.2.2.1.below H7.out) (by omega) (wre_all HZ.out.1 HX.out).2).mono ?_
      rintro e w8 ⟨B8, d8, rfl, hd8, h8⟩
      rw [← HZ.out.2.2.1, ← HZ.out.2.2.2] at hd8 ⊢
      have hb8 := H7.out.trans (h8.mono H7.out.size)
      have H8 := Lib.hid (And.intro hb8 hd8)
      clear h8 hd8 hb8
      go_wp2_with fail
      refine (rsame_din (H5.out.2.2.1.below H8.out.1) H8.out.2).mono ?_
      rintro e w9 ⟨rfl, h9⟩
      rw [decide_eq_true (rfl : bs = bs)]
      have H9 := Lib.hid (H8.out.1.trans (h9.mono H8.out.1.size))
      clear h9
      go_wp2_with fail
      refine (asame_any w9 A5 m c5 xs5 ts (H5.out.1.below H9.out) A1 m c1 X ts (H5.out.2.2.2.1.below H9.out)).mono ?_
      rintro e w10 ⟨rfl, h10⟩
      rw [decide_eq_true (rfl : ts = ts)]
      have H10 := Lib.hid (H9.out.trans (h10.mono H9.out.size))
      clear h10
      go_wp2_with fail
      refine (of12_any w10 A5 m c5 xs5 ts (H5.out.1.below H10.out) (by omega)).mono ?_
      rintro e w11 ⟨B11, d11, rfl, h11, hb11⟩
      have H11 := Lib.hid (And.intro h11 (H10.out.trans (hb11.mono H10.out.size)))
      clear h11 hb11
      go_wp2_with fail
      refine (rsame12_any w11 B11 m d11 xs5 ts H11.out.1 A2 m c2 Y ts (H5.out.2.2.2.2.1.below H11.out.2)).mono ?_
      rintro e w12 ⟨rfl, h12⟩
      rw [decide_eq_true (rfl : ts = ts)]
      have H12 := Lib.hid (H5.out.2.2.2.2.2.2.trans ((H11.out.2.trans (h12.mono H11.out.2.size)).mono H5.out.2.2.2.2.2.2.size))
      clear h12
      go_wp2_with fail
      go_ret
      exact ⟨rfl, H12.out⟩
    · exact absurd rfl hne
  · have HZ := Lib.hid hz
    clear hz
    go_wp2_with fail
    refine (check_arch w2 (H1.out.2.2.1.to H2.out) A1 m c1 X ts (H1.out.1.below H2.out)).mono ?_
    rintro e w3 ⟨rfl, h3⟩
    have H3 := Lib.hid (H2.out.trans (h3.mono H2.out.size))
    clear h3
    go_wp2_with fail
    refine (rcheck_any w3 A2 m c2 Y ts (H1.out.2.2.2.2.below H3.out)).mono ?_
    rintro e w4 ⟨rfl, h4⟩
    have H4 := Lib.hid (H3.out.trans (h4.mono H3.out.size))
    clear h4
    obtain ⟨z, hz⟩ : ∃ z, z = (chkE ts).2 := ⟨_, rfl⟩
    obtain ⟨k, hk⟩ : ∃ k, k = (chkE ts).1 := ⟨_, rfl⟩
    rw [← hz] at HZ ⊢
    rw [← hk]
    have hz1 : (z == 0) = false := by simpa using HZ.out
    have hz0 := HZ.out
    clear hk hz
    go_wp2_with fail
    refine (known12_any w4 (H1.out.2.2.1.to H4.out)).mono ?_
    rintro e w5 ⟨rfl, h5⟩
    have H5 := Lib.hid (H1.out.2.1.trans ((H4.out.trans (h5.mono H4.out.size)).mono H1.out.2.1.size))
    clear h5
    go_wp2_with fail
    go_ret
    exact ⟨rfl, H5.out⟩
end Go.Proofs.YtdnaiiagblcohaaGreatDoor
end

/-
  ArchiveBytes: for every input the law returns true, and the arguments read as they read: its card, tied to the program's text. Condition: the listed variables read as their initialisers lay them.
-/

section
set_option linter.unusedSimpArgs false
set_option linter.unusedVariables false
set_option maxRecDepth 100000
namespace Go.Proofs.YtdnaiiagblcohaaGreatDoor.archiveBytes
open Go.ChangeShapes Go.WideShapes Go.ChangeAt Go.RowKit

set_option maxRecDepth 100000 in
theorem contract (H : Type) (enc : TypeId × Value → H) (W : World) (base : Nat) (args : Array Value) (ds gs : List (DataW H)) (before : List MemPlace)
    (hval : ∀ (j : Nat) t v, Tryz.f3.params[j]? = some t → args[j]? = some v → Value.okWide Tryz.prog W .any base t v)
    (hW : DataW.Whole enc Tryz.prog Tryz.f3.params.toList Rows.archiveBytesSpec.vars false W args.toList ds gs before) (hL : laidMetH Tryz.prog Rows.archiveBytesRow.laid W) (hSh : W.ShapedOpen Tryz.prog) :
    Calls Tryz.prog 3 args W fun e W' => ∃ v, e = .returned v ∧ Rows.archiveBytesSpec.post enc Tryz.prog Tryz.f3 false true false false W args v W' := by
  have hW' := hW
  obtain ⟨p, q, hA0, hV, rfl, hfz, hnd⟩ := hW
  have hA : DataW.TrodAll enc Tryz.prog W 0 (fun _ => true) true Tryz.f3.params.toList args.toList ds p := hA0
  rw [Tryz.params3] at hA hval
  obtain ⟨v0, vs0, d0, ds0, p0, q0, hargs, rfl, rfl, h0, r0⟩ := trodAll_cons hA
  obtain ⟨rfl, rfl, rfl⟩ := trodAll_nil r0
  obtain rfl : args = #[v0] := by cases args; simp_all
  obtain ⟨rfl, rfl⟩ := trodVars_none hV
  have k0 := h0
  have lt0 : ∀ x ∈ p0, x.block < W.heap.size := by obtain ⟨m, hm⟩ := k0; exact DataW.trod_lt m _ _ _ hm
  clear hA0
  obtain ⟨a0, len0, cap0, rfl⟩ := okWide_slice Tryz.underlying22 (hval 0 22 v0 rfl rfl)
  obtain ⟨A0, n0, c0, xs0, es0, e0, he0⟩ : ∃ A n c xs es, Value.slice a0 len0 cap0 = .slice A n c ∧ ERd W A n c xs es := by
    obtain ⟨fuel, hf⟩ := h0
    exact came_ents (by simpa [Value.cells] using hf)
  cases e0
  refine (bytes12_walk W (pv_from (show laidMet Tryz.prog Rows.archiveBytesRow.laid W from hL) (List.mem_of_getElem? (i := 2) rfl) hSh) (roots_head (show laidMet Tryz.prog Rows.archiveBytesRow.laid W from hL)) _ _ _ _ _ he0).mono fun e W' ⟨he, bel⟩ => ?_
  subst he
  exact ⟨_, rfl, _, _, _, [], _, [], hW', trodAll_mk1 (shut_bool Tryz.underlying4 _), (trodAll_cons_mk (Below.trod laidOut (by kernel_rfl) (of_decide_eq_true (by kernel_rfl)) k0 bel lt0) trodAll_mk0), rfl, bel.frame _, fun h => by cases h⟩

theorem laid_met (os : Os) : laidMet Tryz.prog Rows.archiveBytesRow.laid ((laidWorld os).forCall (fun _ _ => 0) ⟨#[], #[.slice none 0 0], []⟩).memory :=
  laidMet_of_run' 8 (by kernel_rfl) (by kernel_rfl)
theorem reads (os : Os) {H : Type} (enc : TypeId × Value → H) : ∃ places, DataW.whole enc Tryz.prog ((laidWorld os).forCall (fun _ _ => 0) ⟨#[], #[.slice none 0 0], []⟩).memory Tryz.f3.params.toList Rows.archiveBytesSpec.vars false (#[.slice none 0 0] : Array Value).toList 8 = some ([.nil], [], places) :=
  ⟨[], by kernel_rfl⟩

set_option maxRecDepth 100000 in
theorem lifted (os : Os) (started : os.Started) (H : Type) (enc : TypeId × Value → H) (F : Stop.Interp) :
    ReturnsInHanded {} Tryz.checked os 3 .any ((OpenSpec.ofChange Rows.archiveBytesSpec).preRow enc Tryz.prog Tryz.f3 Rows.archiveBytesRow.domain false Rows.archiveBytesRow.laid) (((OpenSpec.ofChange Rows.archiveBytesSpec).at F).post enc Tryz.prog Tryz.f3 false true false false) := by
  obtain ⟨places, hx⟩ := reads os enc
  refine returnsInHanded_of_row (C := Tryz.checked) (s := OpenSpec.ofChange Rows.archiveBytesSpec) own started (by kernel_rfl) Tryz.func3
    (witness_row_at (enc := enc) (C := Tryz.checked) false (laidWorld os) #[.slice none 0 0] rfl (by kernel_rfl) (by kernel_rfl) (by kernel_rfl)
      (OpenSpec.preRow_of_cond 8 hx (by kernel_rfl) (fun k hk => by cases hk) (by kernel_rfl) (laid_met os))) ?_
  intro W base args ds gs before hval hW _ _ _ hL hSh _
  exact contract H enc W base args ds gs before hval hW hL hSh

theorem said : Rows.ArchiveBytesSaid :=
  OpenClaim.holds_of_cond 3 Tryz.f3 rfl rfl rfl rfl rfl rfl rfl ⟨rfl, rfl, rfl, rfl, rfl⟩ rfl rfl rfl rfl rfl (by kernel_rfl) Tryz.func3 (by kernel_rfl)
    (of_decide_eq_true (by kernel_rfl)) (by unfold Func.isWrapper; first | (rw [if_pos (by decide +kernel)]; kernel_rfl) | (rw [if_neg (by decide +kernel)]; exact ⟨rfl, rfl⟩))
    (fun os started H enc _ F => by rw [OpenClaim.pre_eq_preRow]; exact lifted os started H enc F)

theorem plain (f : FuncId) (fn : Func) (hf : Tryz.pinned.checked.prog.funcNamed "creel/creellaw12.ArchiveBytes" = some f) (hfn : Tryz.pinned.checked.prog.funcs[f]? = some fn) :
    true = Tryz.pinned.checked.prog.looks [] ∧ ∀ (j : Nat) t, fn.params[j]? = some t → Tryz.pinned.checked.prog.wantsStandIn t = false := by
  obtain rfl : f = 3 := Option.some.inj ((show Tryz.prog.funcNamed "creel/creellaw12.ArchiveBytes" = some 3 by kernel_rfl).symm.trans hf) |>.symm
  obtain rfl : fn = Tryz.f3 := (Option.some.inj (Tryz.func3.symm.trans hfn)).symm
  refine ⟨by kernel_rfl, fun j t ht => ?_⟩
  rw [Tryz.params3] at ht
  have hm : t ∈ [22] := by simpa using Array.mem_of_getElem? ht
  have hall : ([22].all fun u => !Tryz.prog.wantsStandIn u) = true := by kernel_rfl
  exact (show Tryz.prog.wantsStandIn t = false by simpa using List.all_eq_true.1 hall t hm)

end Go.Proofs.YtdnaiiagblcohaaGreatDoor.archiveBytes
namespace Go.Proofs.YtdnaiiagblcohaaGreatDoor
theorem ArchiveBytes_holds : Rows.ArchiveBytesCardSaid :=
  Claim7.holds_tied_plain_at .later [] _ _ _ _ archiveBytes.said (fun _ h => by cases h) (by kernel_rfl) (fun _ h => by cases h) archiveBytes_row_tie rfl ⟨rfl, rfl⟩ (by kernel_rfl) rfl archiveBytes.plain (by kernel_rfl)
end Go.Proofs.YtdnaiiagblcohaaGreatDoor
end
