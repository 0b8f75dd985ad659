/-
  The law's known answers: the chapter's examples. Condition: the constants lie in their variable.
-/
import Derived.Test.YtdhmdcdiifkdiaaGreatDoorM18
import Derived.Test.YtdhmdcdiifkdiaaGreatDoorM9
import Derived.Deep.RegionHeld3
section
set_option linter.unusedSimpArgs false
set_option linter.unusedVariables false
set_option maxRecDepth 100000
namespace Go.Proofs.YtdhmdcdiifkdiaaGreatDoor
open Go.RowKit Go.Maps

/-- The one change that is made, and what it makes. -/
def kC (dt : List B8) : Ch := ⟨2, 0, 0, 0, 0, dt, false⟩
def kV (b : Nat) : Cv := ⟨2, 0, 0, 0, 0, some ⟨b, 0, none⟩, 512, 512, false⟩
theorem kchk (b : Nat) : chkL [kV b] ((4 : Nat) : Int) = 0 := rfl
theorem kgood {dt : List B8} (h : dt.length = 512) : Good7 4 [kC dt] := ⟨fun c hc => by
  simp only [List.mem_singleton] at hc
  subst hc
  exact ⟨by show (0 : Int) ≤ 2; omega, by show (2 : Int) < 4; omega⟩, by simp, fun c hc _ => by
  simp only [List.mem_singleton] at hc
  subst hc
  exact ⟨rfl, by show dt.length ≤ 512; omega⟩⟩
theorem usedN_none : ∀ N, usedN (fun _ => none) N = 0
  | 0 => rfl
  | N + 1 => by
    show usedN _ N + 0 = 0
    rw [usedN_none N]
theorem kbehind {dt : List B8} (h : dt.length = 512) : ∃ g bl, tabBehind (fun _ => none) 4 14 [kC dt] = some g ∧ g 2 = some ((kC dt).hd bl) ∧ usedN g 4 = 8 := by
  have hcl : cleared (fun _ => none) [kC dt] = fun _ => none := by
    funext i
    unfold cleared
    split <;> rfl
  have hf := frees_length (f := fun _ => none) (Wf.empty 4 14)
  rw [usedN_none] at hf
  have hb : blks dt.length = 8 := by rw [h]; rfl
  unfold tabBehind
  rw [hcl, bfold_cons]
  unfold bstep
  rw [if_neg (show ¬ (kC dt).drop = true from Bool.false_ne_true), if_neg (by show ¬ (frees (fun _ => none) 4 14).length < blks dt.length; omega)]
  refine ⟨tset (fun _ => none) 2 (some ((kC dt).hd ((frees (fun _ => none) 4 14).take (blks dt.length)))), _, rfl, tset_same _ _ _, ?_⟩
  rw [usedN_set rfl, usedN_none, if_pos (by decide)]
  show 0 + blks dt.length = 8
  omega
theorem knwr {dt : List B8} (h : dt.length = 512) : nwr [kC dt] = 9 := by
  unfold nwr need
  show 1 + (if false = true then 0 else blks dt.length) + nwr [] = 9
  rw [if_neg (by decide), h]
  rfl
theorem kcv {w : World} {g b : Nat} (hb : Blk w g 44 [.int .i64 2, .int .i64 0, .int .i64 0, .int .i64 0, .int .i64 0, .slice (some ⟨b, 0, none⟩) 512 512, .bool false]) : CvIn w (some ⟨g, 0, none⟩) 1 [kV b] := by
  refine ⟨rfl, by omega, fun _ => ⟨g, 0, rfl, hb.lt, fun i x hx => ?_⟩⟩
  match i, hx with
  | 0, hx =>
    simp only [List.getElem?_cons_zero, Option.some.injEq] at hx
    subst hx
    exact ⟨hb.cell 0, hb.cell 1, hb.cell 2, hb.cell 3, hb.cell 4, hb.cell 5, hb.cell 6⟩
  | i + 1, hx => simp at hx
theorem kch {A : Nat → Prop} {w : World} {b : Nat} {dt : List B8} (h : Bts A w (.slice (some ⟨b, 0, none⟩) 512 512) dt) : ChsIn A w [kV b] [kC dt] := by
  refine ⟨rfl, fun i x c hx hc => ?_⟩
  match i, hx, hc with
  | 0, hx, hc =>
    simp only [List.getElem?_cons_zero, Option.some.injEq] at hx hc
    subst hx
    subst hc
    exact ⟨rfl, rfl, rfl, rfl, rfl, rfl, h⟩
  | i + 1, hx, _ => simp at hx
theorem geo4 : Geo 40 20 4 14 := ⟨by omega, by omega, by omega, by omega, by omega, by omega, by omega⟩

set_option maxRecDepth 100000 in
set_option maxHeartbeats 8000000 in
theorem iknown_walk (ks : List B32) (w : World) (hK : Roots ks w) : Calls Tryz.prog 13 #[] w fun e w' => e = .returned (.bool true) ∧ Below w.heap.size w w' := by
  have hpos := hK.pos
  have HK := Lib.hid hK
  clear hK
  obtain ⟨dt, hdt⟩ : ∃ dt : List B8, List.replicate 512 0 = dt := ⟨_, rfl⟩
  have hdl : dt.length = 512 := by rw [← hdt]; simp
  have hmk : ∀ w : World, (Instr.makeSlice 40 (.int .i64 512) (.int .i64 512)).run Tryz.prog w = .ok (.slice (some ⟨w.heap.size, 0, none⟩) 512 512) (w.alloc (.cells (Vb dt).toArray 5)) := fun w => by
    have := make_bytes w 512 (by omega) (by omega)
    rw [show (512 : Int).toNat = 512 from rfl, zeros_Vb, hdt] at this
    exact this
  obtain ⟨g, bl, hbh, hg2, hus⟩ := kbehind hdl
  have HD := Lib.hid (And.intro hdl (And.intro hbh (And.intro hg2 hus)))
  clear hdt hdl hbh hg2 hus
  go_enter Tryz.func13, Tryz.ntmps13
  go_wp2_with (first
    | (go_at_call 21; refine (new_idle w 40 (by omega) (by omega)).mono ?_; rintro e w1 ⟨rfl, hI, hW⟩; have H1 := Lib.hid (And.intro hI hW); clear hI hW)
    | (go_at_call 22; refine (open_none ks w.heap.size _ (w.heap.size + 1) w.heap.size 40 20 (fun _ => List.replicate 64 0) 0 0 0 H1.out.1 H1.out.2.size (HK.out.below H1.out.2 hpos) hpos (by omega) (by omega) (by omega) (by omega) (by unfold doneB zeros64; rw [if_pos rfl]) (by rw [zeros_from]; omega)).mono ?_; rintro e w2 ⟨rfl, hI, hG, hS⟩; have hLg : Lg ks w.heap.size (w.heap.size + 1) w.heap.size w1.heap.size 40 20 (fun _ => List.replicate 64 0) 0 w2 := ⟨⟨0, 0, 0, false, Nat.le_refl _, Nat.le_refl _, Nat.le_refl _, hI, hG⟩, (HK.out.below (H1.out.2.trans hS.below) hpos), hpos, H1.out.2.size, Nat.le_trans H1.out.2.size hS.size⟩; have HF := Lib.hid (format_ok (fun _ => False) hLg geo4 (by omega) (fun k _ => rfl)); have H2 := Lib.hid (And.intro hS hLg); clear hI hG hS hLg)
    | (go_at_call 12; refine HF.out.mono ?_; rintro e w3 ⟨rfl, ⟨S', hT, hdv⟩, hst⟩; have HR1 := Lib.hid (troom_any hT); have H3 := Lib.hid (And.intro hT hst); clear hT hdv hst HF)
    | (go_at_call 19; refine HR2.out.mono ?_; rintro e w9 ⟨rfl, hW⟩; rw [HD.out.2.2.2]; have H9 := Lib.hid hW; clear hW HR2)
    | (go_at_call 19; refine HR1.out.mono ?_; rintro e w4 ⟨rfl, hW⟩; rw [usedN_none]; have hT4 := H3.out.1.below hW; have hBA := new_below w4 (.cells (Vb dt).toArray 5); have hBB := new_below (w4.alloc (.cells (Vb dt).toArray 5)) (.cells #[.int .i64 2, .int .i64 0, .int .i64 0, .int .i64 0, .int .i64 0, .slice (some ⟨w4.heap.size, 0, none⟩) 512 512, .bool false] 44); have hB6 := below_of hBA hBB; have hkA := (Blk.new w4 5 (Vb dt)).alloc (.cells #[.int .i64 2, .int .i64 0, .int .i64 0, .int .i64 0, .int .i64 0, .slice (some ⟨w4.heap.size, 0, none⟩) 512 512, .bool false] 44); have hkB := Blk.new (w4.alloc (.cells (Vb dt).toArray 5)) 44 [.int .i64 2, .int .i64 0, .int .i64 0, .int .i64 0, .int .i64 0, .slice (some ⟨w4.heap.size, 0, none⟩) 512 512, .bool false]; rw [World.size_alloc] at hkB; have hT6 := hT4.below hB6; have hlt4 := hT4.lg.lt; have htl4 := hT4.blk.lt; have hlt2 := H2.out.2.lt; have hs2 := H2.out.1.size; have hs1 := H1.out.2.size;
        have hT6' : Tb ks w.heap.size (w.heap.size + 1) w.heap.size w1.heap.size 40 20 4 14 S' (0 + 50) (fun q => q = w4.heap.size) (w2.heap.size + 1) w2.heap.size 0 (fun _ => none) ((w4.alloc (.cells (Vb dt).toArray 5)).alloc (.cells #[.int .i64 2, .int .i64 0, .int .i64 0, .int .i64 0, .int .i64 0, .slice (some ⟨w4.heap.size, 0, none⟩) 512 512, .bool false] 44)) := ⟨hT6.lg, hT6.geo, hT6.tab.mono (fun g hg _ => hg.elim) (Nat.le_refl _), hT6.wf, hT6.blk⟩;
        have HA := Lib.hid (apply_ok (cap := 1) hT6' (by omega) (by omega) (fun q hq => ⟨by subst hq; simp; omega, by subst hq; simp; omega⟩) (by simp; omega) (by omega) (kcv hkB) (kch (Bts.whole hkA (.inl rfl) rfl HD.out.1 (by omega))) (fun x hx => by simp only [List.mem_singleton] at hx; subst hx; exact ⟨by show (-9223372036854775808 : Int) ≤ 2; omega, by show (2 : Int) ≤ 9223372036854775807; omega⟩) (by omega) (kchk _) (kgood HD.out.1) HD.out.2.1 (by rw [knwr HD.out.1]; omega));
        have H4 := Lib.hid (And.intro hW (below_of hW hB6)); clear hW HR1 hT4 hBA hBB hB6 hkA hkB hT6 hT6' hlt4 htl4 hlt2)
    | (go_at_call 9; refine HA.out.mono ?_; rintro e w7 ⟨rfl, ⟨S2, M2, hT7, hdv⟩, hst7⟩; have hG7 := get_yes hT7.tab hT7.blk (i := 2) (by omega) HD.out.2.2.1 (by show dt.length ≤ 512; rw [HD.out.1]; omega); rw [show ((kC dt).hd bl).data.length = 512 from HD.out.1] at hG7; have HGt := Lib.hid hG7; have H7 := Lib.hid (And.intro hT7 hst7); clear hT7 hdv hst7 HA hG7)
    | (go_at_call 14; refine HGt.out.mono ?_; rintro e w8 ⟨P8, c8, rfl, hB8, hn8, hW⟩; have hbn := new_below w8 (.cells #[.int .i64 0, .int .i64 0, .int .i64 0, .int .i64 0, .slice P8 512 c8] 42); have HR2 := Lib.hid (troom_any ((H7.out.1.below hW).below hbn)); have H8 := Lib.hid (below_of hW hbn); clear hB8 hn8 hW hbn HGt)
    | (go_at_call 38; refine (iblocks_any _ 64 (by omega)).mono ?_; rintro e w' ⟨rfl, rfl⟩; rw [show blks 64 = 1 from rfl])
    | (go_at_call 38; refine (iblocks_any _ 65 (by omega)).mono ?_; rintro e w' ⟨rfl, rfl⟩; rw [show blks 65 = 2 from rfl])
    | go_in)
  go_ret
  have s1 := H1.out.2.size
  have s2 := H2.out.1.size
  have s3 := H3.out.2.size
  have s6 := H4.out.2.size
  have s7 := H7.out.2.size
  have s8 := H8.out.size
  refine ⟨rfl, ?_⟩
  have b2 : Below w.heap.size w w2 := H1.out.2.trans H2.out.1.below
  have b3 := b2.trans H3.out.2.below
  have b6 := b3.trans (H4.out.2.mono (by omega))
  have b7 := b6.trans H7.out.2.below
  have b8 := b7.trans (H8.out.mono (by omega))
  exact b8.trans (H9.out.mono (by omega))
end Go.Proofs.YtdhmdcdiifkdiaaGreatDoor
end

/-
  The law's own: a node of its argument, and whether two nodes are the same. Conditions: the argument's bytes lie in memory.
-/

section
set_option linter.unusedSimpArgs false
set_option linter.unusedVariables false
set_option maxRecDepth 100000
namespace Go.Proofs.YtdhmdcdiifkdiaaGreatDoor
open Go.RowKit Go.Maps

/-- Bytes that can be read. -/
structure RdB (w : World) (P : Option Addr) (n : Nat) (data : List B8) : Prop where
  len : data.length = n
  cells : 0 < n → ∃ g off, P = some ⟨g, off, none⟩ ∧ ∀ j u, (Vb data)[j]? = some u → w.cell? ⟨g, off + j, none⟩ = some u
theorem RdB.below {w w' : World} {P : Option Addr} {n : Nat} {data : List B8} (h : RdB w P n data) (hb : Below w.heap.size w w') : RdB w' P n data := by
  refine ⟨h.len, fun hn => ?_⟩
  obtain ⟨g, off, hP, hc⟩ := h.cells hn
  refine ⟨g, off, hP, fun j u hu => ?_⟩
  have h1 := hc j u hu
  exact (hb.cell (p := ⟨g, off + j, none⟩) (World.block_lt_of_cell? w _ h1)).trans h1
theorem RdB.of_txt {w : World} {p : Nat} {P : Option Addr} {n c : Nat} {data : List B8} (h : TxtN w p P n c data) : RdB w P n data := by
  refine ⟨h.txt.len, fun hn => ?_⟩
  obtain ⟨g, o, hP, _, hc⟩ := h.txt.cells hn
  refine ⟨g, o, hP, fun j u hu => ?_⟩
  have hj : j < n := by
    have := (List.getElem?_eq_some_iff.1 hu).1
    rw [Vb_length, h.txt.len] at this
    exact this
  rw [hc j hj]
  unfold Vb at hu
  rw [List.getElem?_map, List.getElem?_eq_getElem (by rw [h.txt.len]; exact hj)] at hu
  rw [List.getD_eq_getElem?_getD, List.getElem?_eq_getElem (by rw [h.txt.len]; exact hj)]
  exact hu
theorem RdB.take {w : World} {P : Option Addr} {n : Nat} {data : List B8} (h : RdB w P n data) (r : Nat) (hr : r ≤ n) : RdB w P r (data.take r) := by
  refine ⟨by rw [List.length_take, h.len]; omega, fun hn => ?_⟩
  obtain ⟨g, off, hP, hc⟩ := h.cells (by omega)
  refine ⟨g, off, hP, fun j u hu => hc j u ?_⟩
  unfold Vb at hu ⊢
  rw [List.map_take, List.getElem?_take] at hu
  split at hu
  · exact hu
  · cases hu
section
variable {ops : Array Oper} {o : Oper} {a : Act} {K : Act → World → Prop} {Q : Exit → Act → World → Prop} {N : Nat} {w : World} {P : Option Addr} {n c : Nat} {data : List B8}
/-- 'append([]byte, x..)' into nothing of one's own. -/
theorem wpList_app_read {rest : List Oper} (hgd : o.guard = none) (s x : Operand) (ho : o.op = .call { callee := .builtin .append, args := #[s, x], argTypes := #[40, 40] }) (p : Nat)
    (hs : a.eval s = .slice (some ⟨p, 0, none⟩) 0 0) (hp : N ≤ p) (hpb : Blk w p 5 []) (hx : a.eval x = .slice P n c) (hb : RdB w P n data) (hn : n ≤ 1000000) (hN : N ≤ w.heap.size)
    (h : ∀ P' c' w', Bts (fun g => N ≤ g) w' (.slice P' n c') data → Kp N (· = 5) [] w w' → wpList Tryz.prog ops Q rest (a.put o.dst (.slice P' n c')) w') : wpList Tryz.prog ops Q (o :: rest) a w := by
  refine wpList_plain hgd fun K hK => ?_
  obtain ⟨i0, i1, i2, i3, i4⟩ := ibyte_info
  have hl := hb.len
  have hown : w.ownsRow N 5 1 (.slice (some ⟨p, 0, none⟩) 0 0) 0 [] := ⟨rfl, .inr ⟨p, 0, #[], rfl, hp, by simpa [Blk] using hpb, Nat.le_refl _, by decide, rfl, rfl⟩⟩
  by_cases h0 : 0 < n
  · obtain ⟨g, off, rfl, hcell⟩ := hb.cells h0
    refine wp_append_lies w s x 40 ho N 5 i0 (.int .u8 0) 1 1 Tryz.underlying40 i1 i2 i3 i4 rfl (by decide) (.slice (some ⟨p, 0, none⟩) 0 0) 0 [] hs hown ⟨g, off, none⟩ n c (Vb data) hx (by rw [Vb_length, hl, Nat.mul_one]) (fun j u hu => by rw [add_off]; exact hcell j u hu) (Vb_oneCell data) h0 (by unfold maxLen; omega) (by omega) hN _ rfl ?_
    intro g' cap w' g1 g2 _ _
    rw [Nat.zero_add] at g1
    rw [Nat.zero_add]
    rw [List.nil_append] at g1
    exact hK _ _ (h _ _ w' (by rw [← hl]; exact Bts.of_own (by rw [hl]; exact g1)) (Kp.of_grown hown g2 hN rfl))
  · obtain rfl : n = 0 := by omega
    have hd : data = [] := List.eq_nil_of_length_eq_zero hl
    have hrun := run_append_nothing (P := Tryz.prog) w 40 40 o.type 5 i0 Tryz.underlying40 i1 (some ⟨p, 0, none⟩) 0 0 (Nat.le_refl _) (.slice P 0 c)
      ⟨.inl ⟨_, Tryz.underlying40⟩, fun w' => by cases P <;> simp [Builtin.lenOf], by cases P <;> simp [Builtin.firstCells, loadCells, loadCellsFrom], by cases P <;> simp [Builtin.firstCells, loadCells, loadCellsFrom], by simp, by simp⟩
    unfold Oper.wp execOp
    simp only [ho, resolve, invoke, builtin, Sem.run_bind, Sem.run_pure, Result.andThen_ok, List.map_toArray, List.map_cons, List.map_nil, hs, hx, hrun]
    refine hK _ _ (h (some ⟨p, 0, none⟩) 0 w ?_ (Kp.refl _ _ _ _))
    subst hd
    exact .inr ⟨p, 0, 0, 5, [], rfl, hp, .inl rfl, hpb, by simp [Vb], Nat.zero_le _, by decide⟩
end

set_option maxHeartbeats 1000000 in
/-- The same stats and bytes. -/
theorem same_any (w : World) {A A' : Nat → Prop} (k m o g : Int) (P P' : Option Addr) (n c c' : Nat) (data : List B8) (h : Bts A w (.slice P n c) data) (h' : Bts A' w (.slice P' n c') data) :
    Calls Tryz.prog 20 #[nodeV k m o g P n c, nodeV k m o g P' n c'] w fun e w' => e = .returned (.bool true) ∧ Below w.heap.size w w' := by
  have hb := below_of (new_below w (.cells #[.int .i64 k, .int .i64 m, .int .i64 o, .int .i64 g, .slice P n c] 42)) (new_below _ (.cells #[.int .i64 k, .int .i64 m, .int .i64 o, .int .i64 g, .slice P' n c'] 42))
  have HE := Lib.hid (equal_bts (h.below hb) (h'.below hb) (b := true) (by simp))
  have HB := Lib.hid hb
  clear h h' hb
  go_enter Tryz.func20, Tryz.ntmps20
  go_wp2_with (go_at_call 45; refine HE.out.mono ?_; rintro e w3 ⟨rfl, rfl⟩)
  go_ret
  exact ⟨rfl, HB.out⟩

/-- An empty slice of bytes of one's own. -/
def emV (b0 : Nat) : Value → World → Prop := fun u w => ∃ p, u = .slice (some ⟨p, 0, none⟩) 0 0 ∧ b0 ≤ p ∧ Blk w p 5 []
theorem emV.st (b0 : Nat) : StV (emV b0) := fun _ _ _ ⟨p, h1, h2, h3⟩ hb => ⟨p, h1, h2, h3.below hb h3.lt⟩

set_option maxRecDepth 100000 in
set_option maxHeartbeats 4000000 in
theorem to7_some (w : World) (k m o g : Int) (ga oa n c : Nat) (data : List B8) (hrd : RdB w (some ⟨ga, oa, none⟩) n data) (hnc : n ≤ c) (hc : c ≤ 9223372036854775807) :
    Calls Tryz.prog 16 #[nodeV k m o g (some ⟨ga, oa, none⟩) n c] w fun e w' => ∃ P' r c', e = .returned (nodeV k m o g P' r c') ∧ Bts (fun q => w.heap.size ≤ q) w' (.slice P' r c') (data.take 600) ∧ Below w.heap.size w w' := by
  obtain ⟨r, hr⟩ : ∃ r, min n 600 = r := ⟨_, rfl⟩
  have hmin : min (n : Int) 600 = (r : Int) := by omega
  have hrn : r ≤ n := by omega
  have hrc : r ≤ c := by omega
  have hr6 : r ≤ 600 := by omega
  have htk : data.take r = data.take 600 := by
    rw [← hr]
    by_cases h : n ≤ 600
    · rw [Nat.min_eq_left h, List.take_of_length_le (by rw [hrd.len]; exact Nat.le_refl _), List.take_of_length_le (by rw [hrd.len]; exact h)]
    · rw [Nat.min_eq_right (by omega)]
  have HT := Lib.hid htk
  clear hr htk
  have hb := below_of (new_below w (.cells #[.int .i64 k, .int .i64 m, .int .i64 o, .int .i64 g, .slice (some ⟨ga, oa, none⟩) n c] 53)) (new_below _ (.cells #[.int .i64 0, .int .i64 0, .int .i64 0, .int .i64 0, .slice none 0 0] 42))
  have hk0 := (Blk.new w 53 [.int .i64 k, .int .i64 m, .int .i64 o, .int .i64 g, .slice (some ⟨ga, oa, none⟩) n c]).alloc (.cells #[.int .i64 0, .int .i64 0, .int .i64 0, .int .i64 0, .slice none 0 0] 42)
  have hk1 := Blk.new (w.alloc (.cells #[.int .i64 k, .int .i64 m, .int .i64 o, .int .i64 g, .slice (some ⟨ga, oa, none⟩) n c] 53)) 42 [.int .i64 0, .int .i64 0, .int .i64 0, .int .i64 0, .slice none 0 0]
  rw [World.size_alloc] at hk1
  have y4 : ((w.alloc (.cells #[.int .i64 k, .int .i64 m, .int .i64 o, .int .i64 g, .slice (some ⟨ga, oa, none⟩) n c] 53)).alloc (.cells #[.int .i64 0, .int .i64 0, .int .i64 0, .int .i64 0, .slice none 0 0] 42)).cell? ⟨w.heap.size, 4, none⟩ = some (.slice (some ⟨ga, oa, none⟩) n c) := hk0.cell 4
  have H0 := Lib.hid (And.intro hb (And.intro hk0 (And.intro hk1 ((hrd.below hb).take r (by omega)))))
  clear hb hk0 hk1 hrd
  go_enter Tryz.func16, Tryz.ntmps16
  go_wp2_with fail
  refine wp_hideQ ?_
  intro QQ hQQ
  refine wp_region_tail [some 3, some 4, some 5, some 6, some 7, some 8, some 9, some 10, some 11, some 12, some 13, some 14, some 15, none] (LV [isV (.pointer (some ⟨w.heap.size, 0, none⟩)), isV (stv k m o g), isV (stv k m o g), emV w.heap.size, isV (.pointer (some ⟨w.heap.size, 4, none⟩)), isV (.slice (some ⟨ga, oa, none⟩) n c), isV (.pointer (some ⟨w.heap.size, 4, none⟩)), isV (.slice (some ⟨ga, oa, none⟩) n c), isV (.int .i64 ((n : Nat) : Int)), isV (.int .i64 ((r : Nat) : Int)), isV (.slice (some ⟨ga, oa, none⟩) r c)]) (fun wx => Below ((w.alloc (.cells #[.int .i64 k, .int .i64 m, .int .i64 o, .int .i64 g, .slice (some ⟨ga, oa, none⟩) n c] 53)).alloc (.cells #[.int .i64 0, .int .i64 0, .int .i64 0, .int .i64 0, .slice none 0 0] 42)).heap.size ((w.alloc (.cells #[.int .i64 k, .int .i64 m, .int .i64 o, .int .i64 g, .slice (some ⟨ga, oa, none⟩) n c] 53)).alloc (.cells #[.int .i64 0, .int .i64 0, .int .i64 0, .int .i64 0, .slice none 0 0] 42)) wx) (fun _ a b => Below a.heap.size a b) 11 14 (by kernel_rfl) rfl (by omega) rfl (by kernel_rfl) (by kernel_rfl) (by kernel_rfl) (drew_below _) LV.loc (LV.st (by simp [isV.st, emV.st])) ?_ ?_
  · intro i' hi'
    match i', hi' with
    | 0, _ =>
      refine StepL.of rfl [] (by decide +kernel) ?_
      intro v wx hR hdp K hK
      clear hdp
      simp only [List.getElem_toArray, List.getElem_cons_zero, List.getElem_cons_succ, fillR, Act.put, List.setIfInBounds_toArray, List.set_cons_zero, List.set_cons_succ] at hK ⊢
      go_simp
      exact hK.out _ _ hR (Below.refl _ _) rfl
    | 1, _ =>
      refine StepL.of rfl [0] (by decide +kernel) ?_
      intro v wx hR hdp K hK
      have h0 : v 0 = _ := hdp 0 (by simp)
      have hbx := H0.out.2.1.below hR H0.out.2.1.lt
      clear hdp
      simp only [List.getElem_toArray, List.getElem_cons_zero, List.getElem_cons_succ, fillR, Act.put, List.setIfInBounds_toArray, List.set_cons_zero, List.set_cons_succ, h0] at hK ⊢
      rw [if_pos (by rfl)]
      refine wp_load_mid 51 (.tmp 3) rfl w.heap.size 0 rfl (sts k m o g) _ (fun j u hu => ?_) Tryz.underlying51 rfl (by kernel_rfl) ?_
      · rw [Nat.zero_add, Blk.cell hbx]
        match j, hu with
        | 0, hu => exact hu
        | 1, hu => exact hu
        | 2, hu => exact hu
        | 3, hu => exact hu
        | j + 4, hu => simp [sts] at hu
      · exact hK.out _ _ hR (Below.refl _ _) rfl
    | 2, _ =>
      refine StepL.of rfl [1] (by decide +kernel) ?_
      intro v wx hR hdp K hK
      have h1 : v 1 = _ := hdp 1 (by simp)
      clear hdp
      simp only [List.getElem_toArray, List.getElem_cons_zero, List.getElem_cons_succ, fillR, Act.put, List.setIfInBounds_toArray, List.set_cons_zero, List.set_cons_succ, h1] at hK ⊢
      go_simp
      refine (mto_any _ k m o g).mono ?_
      rintro e w' ⟨rfl, hW⟩
      have hq' := hK.out (stv k m o g) w' (hR.trans (hW.mono hR.size)) hW rfl
      clear hK hW
      go_wp2_with fail
      exact hq'
    | 3, _ =>
      refine StepL.of rfl [] (by decide +kernel) ?_
      intro v wx hR hdp K hK
      have hn := Blk.new wx 5 []
      have hnb := new_below wx (.cells #[] 5)
      have HV := Lib.hid (And.intro hn hnb)
      clear hn hnb
      clear hdp
      simp only [List.getElem_toArray, List.getElem_cons_zero, List.getElem_cons_succ, fillR, Act.put, List.setIfInBounds_toArray, List.set_cons_zero, List.set_cons_succ] at hK ⊢
      go_simp
      exact hK.out _ _ (hR.trans (HV.out.2.mono hR.size)) HV.out.2 ⟨_, rfl, by have := hR.size; simp at this; omega, HV.out.1⟩
    | 4, _ =>
      refine StepL.of rfl [] (by decide +kernel) ?_
      intro v wx hR hdp K hK
      clear hdp
      simp only [List.getElem_toArray, List.getElem_cons_zero, List.getElem_cons_succ, fillR, Act.put, List.setIfInBounds_toArray, List.set_cons_zero, List.set_cons_succ] at hK ⊢
      go_simp
      exact hK.out _ _ hR (Below.refl _ _) rfl
    | 5, _ =>
      refine StepL.of rfl [4] (by decide +kernel) ?_
      intro v wx hR hdp K hK
      have h4 : v 4 = _ := hdp 4 (by simp)
      have b0 := cell_below y4 hR
      clear hdp
      simp only [List.getElem_toArray, List.getElem_cons_zero, List.getElem_cons_succ, fillR, Act.put, List.setIfInBounds_toArray, List.set_cons_zero, List.set_cons_succ, h4] at hK ⊢
      go_simp
      exact hK.out _ _ hR (Below.refl _ _) rfl
    | 6, _ =>
      refine StepL.of rfl [] (by decide +kernel) ?_
      intro v wx hR hdp K hK
      clear hdp
      simp only [List.getElem_toArray, List.getElem_cons_zero, List.getElem_cons_succ, fillR, Act.put, List.setIfInBounds_toArray, List.set_cons_zero, List.set_cons_succ] at hK ⊢
      go_simp
      exact hK.out _ _ hR (Below.refl _ _) rfl
    | 7, _ =>
      refine StepL.of rfl [6] (by decide +kernel) ?_
      intro v wx hR hdp K hK
      have h6 : v 6 = _ := hdp 6 (by simp)
      have b0 := cell_below y4 hR
      clear hdp
      simp only [List.getElem_toArray, List.getElem_cons_zero, List.getElem_cons_succ, fillR, Act.put, List.setIfInBounds_toArray, List.set_cons_zero, List.set_cons_succ, h6] at hK ⊢
      go_simp
      exact hK.out _ _ hR (Below.refl _ _) rfl
    | 8, _ =>
      refine StepL.of rfl [7] (by decide +kernel) ?_
      intro v wx hR hdp K hK
      have h7 : v 7 = _ := hdp 7 (by simp)
      clear hdp
      simp only [List.getElem_toArray, List.getElem_cons_zero, List.getElem_cons_succ, fillR, Act.put, List.setIfInBounds_toArray, List.set_cons_zero, List.set_cons_succ, h7] at hK ⊢
      go_simp
      exact hK.out _ _ hR (Below.refl _ _) rfl
    | 9, _ =>
      refine StepL.of rfl [8] (by decide +kernel) ?_
      intro v wx hR hdp K hK
      have h8 : v 8 = _ := hdp 8 (by simp)
      clear hdp
      simp only [List.getElem_toArray, List.getElem_cons_zero, List.getElem_cons_succ, fillR, Act.put, List.setIfInBounds_toArray, List.set_cons_zero, List.set_cons_succ, h8] at hK ⊢
      go_simp
      exact hK.out _ _ hR (Below.refl _ _) rfl
    | 10, _ =>
      refine StepL.of rfl [5, 9] (by decide +kernel) ?_
      intro v wx hR hdp K hK
      have h5 : v 5 = _ := hdp 5 (by simp)
      have h9 : v 9 = _ := hdp 9 (by simp)
      clear hdp
      simp only [List.getElem_toArray, List.getElem_cons_zero, List.getElem_cons_succ, fillR, Act.put, List.setIfInBounds_toArray, List.set_cons_zero, List.set_cons_succ, h5, h9] at hK ⊢
      go_simp
      exact hK.out _ _ hR (Below.refl _ _) rfl
    | i' + 11, h => omega
  · intro v wx hR hV
    have h2 : v 2 = _ := hV 2 (by omega)
    have h10 : v 10 = _ := hV 10 (by omega)
    obtain ⟨p, h3, hp, hB⟩ : emV w.heap.size (v 3) wx := hV 3 (by omega)
    have hszx := hR.size
    simp at hszx
    have HV := Lib.hid (And.intro hB (And.intro (H0.out.2.2.2.below hR) (And.intro (H0.out.2.2.1.below hR H0.out.2.2.1.lt) (below_of H0.out.1 hR))))
    clear hV hR hB
    simp only [fillR, Act.put, List.setIfInBounds_toArray, List.set_cons_zero, List.set_cons_succ, h2, h3, h10, List.drop_succ_cons, List.drop_zero]
    have hszw : w.heap.size ≤ wx.heap.size := by omega
    go_wp2_with (first
      | (at_builtin; refine wpList_app_read (N := w.heap.size) rfl (.tmp 6) (.tmp 13) rfl p rfl hp HV.out.1 rfl HV.out.2.1 (by omega) hszw ?_; intro P' c' w8 hBt hk8; have hz8 := hk8.keep _ _ _ (by decide) (by simp) HV.out.2.2.1; have H8 := Lib.hid (And.intro hBt (And.intro hk8.below hz8)); clear hBt hk8 hz8)
      | (refine wpList_store_blk rfl 42 (.tmp 2) (.tmp 15) rfl (w.heap.size + 1) 0 [.int .i64 k, .int .i64 m, .int .i64 o, .int .i64 g, .slice P' r c'] rfl rfl H8.out.2.2 (by simp) node_size (node_cells _ _ _ _ _ _ _) ?_; intro w9 hA9 hO9)
      | go_in)
    rw [over_whole (by simp)] at hA9
    obtain ⟨d0, d1, d2, d3, d4⟩ := five_cells hA9
    have hb9 := hO9.below (B := w.heap.size) (by have := H8.out.2.1.size; omega) (by simp)
    have hbt := H8.out.1
    rw [HT.out] at hbt
    have hbt9 : Bts (fun q => w.heap.size ≤ q) w9 (.slice P' r c') (data.take 600) := by
      rcases hbt with h | ⟨g', o', cap, t, cs, e, hg', hn, hb, hx, h1, h2⟩
      · exact .inl h
      · refine .inr ⟨g', o', cap, t, cs, e, hg', hn, hb.only hO9 (fun hm => ?_), hx, h1, h2⟩
        simp only [List.mem_singleton] at hm
        subst hm
        have := (hb.same H8.out.2.2).1
        subst this
        exact hn.ne (by decide) (by decide) rfl
    have hbw := HV.out.2.2.2
    refine bodyPost_ret (v := nodeV k m o g P' r c') (by simp [results, Tryz.results16, go_sem, d0, d1, d2, d3, d4]) rfl ⟨P', r, c', rfl, hbt9, (hbw.trans H8.out.2.1).trans hb9⟩

set_option maxRecDepth 100000 in
set_option maxHeartbeats 4000000 in
theorem to7_none (w : World) (k m o g : Int) (data : List B8) (hrd : RdB w none 0 data) :
    Calls Tryz.prog 16 #[nodeV k m o g none 0 0] w fun e w' => ∃ P' r c', e = .returned (nodeV k m o g P' r c') ∧ Bts (fun q => w.heap.size ≤ q) w' (.slice P' r c') (data.take 600) ∧ Below w.heap.size w w' := by
  have hmin : min (0 : Int) 600 = 0 := by omega
  have htk : data.take 0 = data.take 600 := by
    have := List.eq_nil_of_length_eq_zero hrd.len
    subst this
    rfl
  have HT := Lib.hid htk
  clear htk
  have hb := below_of (new_below w (.cells #[.int .i64 k, .int .i64 m, .int .i64 o, .int .i64 g, .slice none 0 0] 53)) (new_below _ (.cells #[.int .i64 0, .int .i64 0, .int .i64 0, .int .i64 0, .slice none 0 0] 42))
  have hk0 := (Blk.new w 53 [.int .i64 k, .int .i64 m, .int .i64 o, .int .i64 g, .slice none 0 0]).alloc (.cells #[.int .i64 0, .int .i64 0, .int .i64 0, .int .i64 0, .slice none 0 0] 42)
  have hk1 := Blk.new (w.alloc (.cells #[.int .i64 k, .int .i64 m, .int .i64 o, .int .i64 g, .slice none 0 0] 53)) 42 [.int .i64 0, .int .i64 0, .int .i64 0, .int .i64 0, .slice none 0 0]
  rw [World.size_alloc] at hk1
  have y4 : ((w.alloc (.cells #[.int .i64 k, .int .i64 m, .int .i64 o, .int .i64 g, .slice none 0 0] 53)).alloc (.cells #[.int .i64 0, .int .i64 0, .int .i64 0, .int .i64 0, .slice none 0 0] 42)).cell? ⟨w.heap.size, 4, none⟩ = some (.slice none 0 0) := hk0.cell 4
  have H0 := Lib.hid (And.intro hb (And.intro hk0 (And.intro hk1 ((hrd.below hb).take 0 (by omega)))))
  clear hb hk0 hk1 hrd
  go_enter Tryz.func16, Tryz.ntmps16
  go_wp2_with fail
  refine wp_hideQ ?_
  intro QQ hQQ
  refine wp_region_tail [some 3, some 4, some 5, some 6, some 7, some 8, some 9, some 10, some 11, some 12, some 13, some 14, some 15, none] (LV [isV (.pointer (some ⟨w.heap.size, 0, none⟩)), isV (stv k m o g), isV (stv k m o g), emV w.heap.size, isV (.pointer (some ⟨w.heap.size, 4, none⟩)), isV (.slice none 0 0), isV (.pointer (some ⟨w.heap.size, 4, none⟩)), isV (.slice none 0 0), isV (.int .i64 ((0 : Nat) : Int)), isV (.int .i64 ((0 : Nat) : Int)), isV (.slice none 0 0)]) (fun wx => Below ((w.alloc (.cells #[.int .i64 k, .int .i64 m, .int .i64 o, .int .i64 g, .slice none 0 0] 53)).alloc (.cells #[.int .i64 0, .int .i64 0, .int .i64 0, .int .i64 0, .slice none 0 0] 42)).heap.size ((w.alloc (.cells #[.int .i64 k, .int .i64 m, .int .i64 o, .int .i64 g, .slice none 0 0] 53)).alloc (.cells #[.int .i64 0, .int .i64 0, .int .i64 0, .int .i64 0, .slice none 0 0] 42)) wx) (fun _ a b => Below a.heap.size a b) 11 14 (by kernel_rfl) rfl (by omega) rfl (by kernel_rfl) (by kernel_rfl) (by kernel_rfl) (drew_below _) LV.loc (LV.st (by simp [isV.st, emV.st])) ?_ ?_
  · intro i' hi'
    match i', hi' with
    | 0, _ =>
      refine StepL.of rfl [] (by decide +kernel) ?_
      intro v wx hR hdp K hK
      clear hdp
      simp only [List.getElem_toArray, List.getElem_cons_zero, List.getElem_cons_succ, fillR, Act.put, List.setIfInBounds_toArray, List.set_cons_zero, List.set_cons_succ] at hK ⊢
      go_simp
      exact hK.out _ _ hR (Below.refl _ _) rfl
    | 1, _ =>
      refine StepL.of rfl [0] (by decide +kernel) ?_
      intro v wx hR hdp K hK
      have h0 : v 0 = _ := hdp 0 (by simp)
      have hbx := H0.out.2.1.below hR H0.out.2.1.lt
      clear hdp
      simp only [List.getElem_toArray, List.getElem_cons_zero, List.getElem_cons_succ, fillR, Act.put, List.setIfInBounds_toArray, List.set_cons_zero, List.set_cons_succ, h0] at hK ⊢
      rw [if_pos (by rfl)]
      refine wp_load_mid 51 (.tmp 3) rfl w.heap.size 0 rfl (sts k m o g) _ (fun j u hu => ?_) Tryz.underlying51 rfl (by kernel_rfl) ?_
      · rw [Nat.zero_add, Blk.cell hbx]
        match j, hu with
        | 0, hu => exact hu
        | 1, hu => exact hu
        | 2, hu => exact hu
        | 3, hu => exact hu
        | j + 4, hu => simp [sts] at hu
      · exact hK.out _ _ hR (Below.refl _ _) rfl
    | 2, _ =>
      refine StepL.of rfl [1] (by decide +kernel) ?_
      intro v wx hR hdp K hK
      have h1 : v 1 = _ := hdp 1 (by simp)
      clear hdp
      simp only [List.getElem_toArray, List.getElem_cons_zero, List.getElem_cons_succ, fillR, Act.put, List.setIfInBounds_toArray, List.set_cons_zero, List.set_cons_succ, h1] at hK ⊢
      go_simp
      refine (mto_any _ k m o g).mono ?_
      rintro e w' ⟨rfl, hW⟩
      have hq' := hK.out (stv k m o g) w' (hR.trans (hW.mono hR.size)) hW rfl
      clear hK hW
      go_wp2_with fail
      exact hq'
    | 3, _ =>
      refine StepL.of rfl [] (by decide +kernel) ?_
      intro v wx hR hdp K hK
      have hn := Blk.new wx 5 []
      have hnb := new_below wx (.cells #[] 5)
      have HV := Lib.hid (And.intro hn hnb)
      clear hn hnb
      clear hdp
      simp only [List.getElem_toArray, List.getElem_cons_zero, List.getElem_cons_succ, fillR, Act.put, List.setIfInBounds_toArray, List.set_cons_zero, List.set_cons_succ] at hK ⊢
      go_simp
      exact hK.out _ _ (hR.trans (HV.out.2.mono hR.size)) HV.out.2 ⟨_, rfl, by have := hR.size; simp at this; omega, HV.out.1⟩
    | 4, _ =>
      refine StepL.of rfl [] (by decide +kernel) ?_
      intro v wx hR hdp K hK
      clear hdp
      simp only [List.getElem_toArray, List.getElem_cons_zero, List.getElem_cons_succ, fillR, Act.put, List.setIfInBounds_toArray, List.set_cons_zero, List.set_cons_succ] at hK ⊢
      go_simp
      exact hK.out _ _ hR (Below.refl _ _) rfl
    | 5, _ =>
      refine StepL.of rfl [4] (by decide +kernel) ?_
      intro v wx hR hdp K hK
      have h4 : v 4 = _ := hdp 4 (by simp)
      have b0 := cell_below y4 hR
      clear hdp
      simp only [List.getElem_toArray, List.getElem_cons_zero, List.getElem_cons_succ, fillR, Act.put, List.setIfInBounds_toArray, List.set_cons_zero, List.set_cons_succ, h4] at hK ⊢
      go_simp
      exact hK.out _ _ hR (Below.refl _ _) rfl
    | 6, _ =>
      refine StepL.of rfl [] (by decide +kernel) ?_
      intro v wx hR hdp K hK
      clear hdp
      simp only [List.getElem_toArray, List.getElem_cons_zero, List.getElem_cons_succ, fillR, Act.put, List.setIfInBounds_toArray, List.set_cons_zero, List.set_cons_succ] at hK ⊢
      go_simp
      exact hK.out _ _ hR (Below.refl _ _) rfl
    | 7, _ =>
      refine StepL.of rfl [6] (by decide +kernel) ?_
      intro v wx hR hdp K hK
      have h6 : v 6 = _ := hdp 6 (by simp)
      have b0 := cell_below y4 hR
      clear hdp
      simp only [List.getElem_toArray, List.getElem_cons_zero, List.getElem_cons_succ, fillR, Act.put, List.setIfInBounds_toArray, List.set_cons_zero, List.set_cons_succ, h6] at hK ⊢
      go_simp
      exact hK.out _ _ hR (Below.refl _ _) rfl
    | 8, _ =>
      refine StepL.of rfl [7] (by decide +kernel) ?_
      intro v wx hR hdp K hK
      have h7 : v 7 = _ := hdp 7 (by simp)
      clear hdp
      simp only [List.getElem_toArray, List.getElem_cons_zero, List.getElem_cons_succ, fillR, Act.put, List.setIfInBounds_toArray, List.set_cons_zero, List.set_cons_succ, h7] at hK ⊢
      go_simp
      exact hK.out _ _ hR (Below.refl _ _) rfl
    | 9, _ =>
      refine StepL.of rfl [8] (by decide +kernel) ?_
      intro v wx hR hdp K hK
      have h8 : v 8 = _ := hdp 8 (by simp)
      clear hdp
      simp only [List.getElem_toArray, List.getElem_cons_zero, List.getElem_cons_succ, fillR, Act.put, List.setIfInBounds_toArray, List.set_cons_zero, List.set_cons_succ, h8] at hK ⊢
      go_simp
      exact hK.out _ _ hR (Below.refl _ _) rfl
    | 10, _ =>
      refine StepL.of rfl [5, 9] (by decide +kernel) ?_
      intro v wx hR hdp K hK
      have h5 : v 5 = _ := hdp 5 (by simp)
      have h9 : v 9 = _ := hdp 9 (by simp)
      clear hdp
      simp only [List.getElem_toArray, List.getElem_cons_zero, List.getElem_cons_succ, fillR, Act.put, List.setIfInBounds_toArray, List.set_cons_zero, List.set_cons_succ, h5, h9] at hK ⊢
      go_simp
      exact hK.out _ _ hR (Below.refl _ _) rfl
    | i' + 11, h => omega
  · intro v wx hR hV
    have h2 : v 2 = _ := hV 2 (by omega)
    have h10 : v 10 = _ := hV 10 (by omega)
    obtain ⟨p, h3, hp, hB⟩ : emV w.heap.size (v 3) wx := hV 3 (by omega)
    have hszx := hR.size
    simp at hszx
    have HV := Lib.hid (And.intro hB (And.intro (H0.out.2.2.2.below hR) (And.intro (H0.out.2.2.1.below hR H0.out.2.2.1.lt) (below_of H0.out.1 hR))))
    clear hV hR hB
    simp only [fillR, Act.put, List.setIfInBounds_toArray, List.set_cons_zero, List.set_cons_succ, h2, h3, h10, List.drop_succ_cons, List.drop_zero]
    have hszw : w.heap.size ≤ wx.heap.size := by omega
    go_wp2_with (first
      | (at_builtin; refine wpList_app_read (N := w.heap.size) rfl (.tmp 6) (.tmp 13) rfl p rfl hp HV.out.1 rfl HV.out.2.1 (by omega) hszw ?_; intro P' c' w8 hBt hk8; have hz8 := hk8.keep _ _ _ (by decide) (by simp) HV.out.2.2.1; have H8 := Lib.hid (And.intro hBt (And.intro hk8.below hz8)); clear hBt hk8 hz8)
      | (refine wpList_store_blk rfl 42 (.tmp 2) (.tmp 15) rfl (w.heap.size + 1) 0 [.int .i64 k, .int .i64 m, .int .i64 o, .int .i64 g, .slice P' 0 c'] rfl rfl H8.out.2.2 (by simp) node_size (node_cells _ _ _ _ _ _ _) ?_; intro w9 hA9 hO9)
      | go_in)
    rw [over_whole (by simp)] at hA9
    obtain ⟨d0, d1, d2, d3, d4⟩ := five_cells hA9
    have hb9 := hO9.below (B := w.heap.size) (by have := H8.out.2.1.size; omega) (by simp)
    have hbt := H8.out.1
    rw [HT.out] at hbt
    have hbt9 : Bts (fun q => w.heap.size ≤ q) w9 (.slice P' 0 c') (data.take 600) := by
      rcases hbt with h | ⟨g', o', cap, t, cs, e, hg', hn, hb, hx, h1, h2⟩
      · exact .inl h
      · refine .inr ⟨g', o', cap, t, cs, e, hg', hn, hb.only hO9 (fun hm => ?_), hx, h1, h2⟩
        simp only [List.mem_singleton] at hm
        subst hm
        have := (hb.same H8.out.2.2).1
        subst this
        exact hn.ne (by decide) (by decide) rfl
    have hbw := HV.out.2.2.2
    refine bodyPost_ret (v := nodeV k m o g P' 0 c') (by simp [results, Tryz.results16, go_sem, d0, d1, d2, d3, d4]) rfl ⟨P', 0, c', rfl, hbt9, (hbw.trans H8.out.2.1).trans hb9⟩

set_option maxRecDepth 100000 in
set_option maxHeartbeats 4000000 in
theorem to7_zero (w : World) (k m o g : Int) (pa : Addr) (c : Nat) (data : List B8) (hrd : RdB w (some pa) 0 data) (hc : c ≤ 9223372036854775807) :
    Calls Tryz.prog 16 #[nodeV k m o g (some pa) 0 c] w fun e w' => ∃ P' r c', e = .returned (nodeV k m o g P' r c') ∧ Bts (fun q => w.heap.size ≤ q) w' (.slice P' r c') (data.take 600) ∧ Below w.heap.size w w' := by
  have hmin : min (0 : Int) 600 = 0 := by omega
  have htk : data.take 0 = data.take 600 := by
    have := List.eq_nil_of_length_eq_zero hrd.len
    subst this
    rfl
  have HT := Lib.hid htk
  clear htk
  have hb := below_of (new_below w (.cells #[.int .i64 k, .int .i64 m, .int .i64 o, .int .i64 g, .slice (some pa) 0 c] 53)) (new_below _ (.cells #[.int .i64 0, .int .i64 0, .int .i64 0, .int .i64 0, .slice none 0 0] 42))
  have hk0 := (Blk.new w 53 [.int .i64 k, .int .i64 m, .int .i64 o, .int .i64 g, .slice (some pa) 0 c]).alloc (.cells #[.int .i64 0, .int .i64 0, .int .i64 0, .int .i64 0, .slice none 0 0] 42)
  have hk1 := Blk.new (w.alloc (.cells #[.int .i64 k, .int .i64 m, .int .i64 o, .int .i64 g, .slice (some pa) 0 c] 53)) 42 [.int .i64 0, .int .i64 0, .int .i64 0, .int .i64 0, .slice none 0 0]
  rw [World.size_alloc] at hk1
  have y4 : ((w.alloc (.cells #[.int .i64 k, .int .i64 m, .int .i64 o, .int .i64 g, .slice (some pa) 0 c] 53)).alloc (.cells #[.int .i64 0, .int .i64 0, .int .i64 0, .int .i64 0, .slice none 0 0] 42)).cell? ⟨w.heap.size, 4, none⟩ = some (.slice (some pa) 0 c) := hk0.cell 4
  have H0 := Lib.hid (And.intro hb (And.intro hk0 (And.intro hk1 ((hrd.below hb).take 0 (by omega)))))
  clear hb hk0 hk1 hrd
  go_enter Tryz.func16, Tryz.ntmps16
  go_wp2_with fail
  refine wp_hideQ ?_
  intro QQ hQQ
  refine wp_region_tail [some 3, some 4, some 5, some 6, some 7, some 8, some 9, some 10, some 11, some 12, some 13, some 14, some 15, none] (LV [isV (.pointer (some ⟨w.heap.size, 0, none⟩)), isV (stv k m o g), isV (stv k m o g), emV w.heap.size, isV (.pointer (some ⟨w.heap.size, 4, none⟩)), isV (.slice (some pa) 0 c), isV (.pointer (some ⟨w.heap.size, 4, none⟩)), isV (.slice (some pa) 0 c), isV (.int .i64 ((0 : Nat) : Int)), isV (.int .i64 ((0 : Nat) : Int)), isV (.slice (some pa) 0 c)]) (fun wx => Below ((w.alloc (.cells #[.int .i64 k, .int .i64 m, .int .i64 o, .int .i64 g, .slice (some pa) 0 c] 53)).alloc (.cells #[.int .i64 0, .int .i64 0, .int .i64 0, .int .i64 0, .slice none 0 0] 42)).heap.size ((w.alloc (.cells #[.int .i64 k, .int .i64 m, .int .i64 o, .int .i64 g, .slice (some pa) 0 c] 53)).alloc (.cells #[.int .i64 0, .int .i64 0, .int .i64 0, .int .i64 0, .slice none 0 0] 42)) wx) (fun _ a b => Below a.heap.size a b) 11 14 (by kernel_rfl) rfl (by omega) rfl (by kernel_rfl) (by kernel_rfl) (by kernel_rfl) (drew_below _) LV.loc (LV.st (by simp [isV.st, emV.st])) ?_ ?_
  · intro i' hi'
    match i', hi' with
    | 0, _ =>
      refine StepL.of rfl [] (by decide +kernel) ?_
      intro v wx hR hdp K hK
      clear hdp
      simp only [List.getElem_toArray, List.getElem_cons_zero, List.getElem_cons_succ, fillR, Act.put, List.setIfInBounds_toArray, List.set_cons_zero, List.set_cons_succ] at hK ⊢
      go_simp
      exact hK.out _ _ hR (Below.refl _ _) rfl
    | 1, _ =>
      refine StepL.of rfl [0] (by decide +kernel) ?_
      intro v wx hR hdp K hK
      have h0 : v 0 = _ := hdp 0 (by simp)
      have hbx := H0.out.2.1.below hR H0.out.2.1.lt
      clear hdp
      simp only [List.getElem_toArray, List.getElem_cons_zero, List.getElem_cons_succ, fillR, Act.put, List.setIfInBounds_toArray, List.set_cons_zero, List.set_cons_succ, h0] at hK ⊢
      rw [if_pos (by rfl)]
      refine wp_load_mid 51 (.tmp 3) rfl w.heap.size 0 rfl (sts k m o g) _ (fun j u hu => ?_) Tryz.underlying51 rfl (by kernel_rfl) ?_
      · rw [Nat.zero_add, Blk.cell hbx]
        match j, hu with
        | 0, hu => exact hu
        | 1, hu => exact hu
        | 2, hu => exact hu
        | 3, hu => exact hu
        | j + 4, hu => simp [sts] at hu
      · exact hK.out _ _ hR (Below.refl _ _) rfl
    | 2, _ =>
      refine StepL.of rfl [1] (by decide +kernel) ?_
      intro v wx hR hdp K hK
      have h1 : v 1 = _ := hdp 1 (by simp)
      clear hdp
      simp only [List.getElem_toArray, List.getElem_cons_zero, List.getElem_cons_succ, fillR, Act.put, List.setIfInBounds_toArray, List.set_cons_zero, List.set_cons_succ, h1] at hK ⊢
      go_simp
      refine (mto_any _ k m o g).mono ?_
      rintro e w' ⟨rfl, hW⟩
      have hq' := hK.out (stv k m o g) w' (hR.trans (hW.mono hR.size)) hW rfl
      clear hK hW
      go_wp2_with fail
      exact hq'
    | 3, _ =>
      refine StepL.of rfl [] (by decide +kernel) ?_
      intro v wx hR hdp K hK
      have hn := Blk.new wx 5 []
      have hnb := new_below wx (.cells #[] 5)
      have HV := Lib.hid (And.intro hn hnb)
      clear hn hnb
      clear hdp
      simp only [List.getElem_toArray, List.getElem_cons_zero, List.getElem_cons_succ, fillR, Act.put, List.setIfInBounds_toArray, List.set_cons_zero, List.set_cons_succ] at hK ⊢
      go_simp
      exact hK.out _ _ (hR.trans (HV.out.2.mono hR.size)) HV.out.2 ⟨_, rfl, by have := hR.size; simp at this; omega, HV.out.1⟩
    | 4, _ =>
      refine StepL.of rfl [] (by decide +kernel) ?_
      intro v wx hR hdp K hK
      clear hdp
      simp only [List.getElem_toArray, List.getElem_cons_zero, List.getElem_cons_succ, fillR, Act.put, List.setIfInBounds_toArray, List.set_cons_zero, List.set_cons_succ] at hK ⊢
      go_simp
      exact hK.out _ _ hR (Below.refl _ _) rfl
    | 5, _ =>
      refine StepL.of rfl [4] (by decide +kernel) ?_
      intro v wx hR hdp K hK
      have h4 : v 4 = _ := hdp 4 (by simp)
      have b0 := cell_below y4 hR
      clear hdp
      simp only [List.getElem_toArray, List.getElem_cons_zero, List.getElem_cons_succ, fillR, Act.put, List.setIfInBounds_toArray, List.set_cons_zero, List.set_cons_succ, h4] at hK ⊢
      go_simp
      exact hK.out _ _ hR (Below.refl _ _) rfl
    | 6, _ =>
      refine StepL.of rfl [] (by decide +kernel) ?_
      intro v wx hR hdp K hK
      clear hdp
      simp only [List.getElem_toArray, List.getElem_cons_zero, List.getElem_cons_succ, fillR, Act.put, List.setIfInBounds_toArray, List.set_cons_zero, List.set_cons_succ] at hK ⊢
      go_simp
      exact hK.out _ _ hR (Below.refl _ _) rfl
    | 7, _ =>
      refine StepL.of rfl [6] (by decide +kernel) ?_
      intro v wx hR hdp K hK
      have h6 : v 6 = _ := hdp 6 (by simp)
      have b0 := cell_below y4 hR
      clear hdp
      simp only [List.getElem_toArray, List.getElem_cons_zero, List.getElem_cons_succ, fillR, Act.put, List.setIfInBounds_toArray, List.set_cons_zero, List.set_cons_succ, h6] at hK ⊢
      go_simp
      exact hK.out _ _ hR (Below.refl _ _) rfl
    | 8, _ =>
      refine StepL.of rfl [7] (by decide +kernel) ?_
      intro v wx hR hdp K hK
      have h7 : v 7 = _ := hdp 7 (by simp)
      clear hdp
      simp only [List.getElem_toArray, List.getElem_cons_zero, List.getElem_cons_succ, fillR, Act.put, List.setIfInBounds_toArray, List.set_cons_zero, List.set_cons_succ, h7] at hK ⊢
      go_simp
      exact hK.out _ _ hR (Below.refl _ _) rfl
    | 9, _ =>
      refine StepL.of rfl [8] (by decide +kernel) ?_
      intro v wx hR hdp K hK
      have h8 : v 8 = _ := hdp 8 (by simp)
      clear hdp
      simp only [List.getElem_toArray, List.getElem_cons_zero, List.getElem_cons_succ, fillR, Act.put, List.setIfInBounds_toArray, List.set_cons_zero, List.set_cons_succ, h8] at hK ⊢
      go_simp
      exact hK.out _ _ hR (Below.refl _ _) rfl
    | 10, _ =>
      refine StepL.of rfl [5, 9] (by decide +kernel) ?_
      intro v wx hR hdp K hK
      have h5 : v 5 = _ := hdp 5 (by simp)
      have h9 : v 9 = _ := hdp 9 (by simp)
      clear hdp
      simp only [List.getElem_toArray, List.getElem_cons_zero, List.getElem_cons_succ, fillR, Act.put, List.setIfInBounds_toArray, List.set_cons_zero, List.set_cons_succ, h5, h9] at hK ⊢
      go_simp
      exact hK.out _ _ hR (Below.refl _ _) rfl
    | i' + 11, h => omega
  · intro v wx hR hV
    have h2 : v 2 = _ := hV 2 (by omega)
    have h10 : v 10 = _ := hV 10 (by omega)
    obtain ⟨p, h3, hp, hB⟩ : emV w.heap.size (v 3) wx := hV 3 (by omega)
    have hszx := hR.size
    simp at hszx
    have HV := Lib.hid (And.intro hB (And.intro (H0.out.2.2.2.below hR) (And.intro (H0.out.2.2.1.below hR H0.out.2.2.1.lt) (below_of H0.out.1 hR))))
    clear hV hR hB
    simp only [fillR, Act.put, List.setIfInBounds_toArray, List.set_cons_zero, List.set_cons_succ, h2, h3, h10, List.drop_succ_cons, List.drop_zero]
    have hszw : w.heap.size ≤ wx.heap.size := by omega
    go_wp2_with (first
      | (at_builtin; refine wpList_app_read (N := w.heap.size) rfl (.tmp 6) (.tmp 13) rfl p rfl hp HV.out.1 rfl HV.out.2.1 (by omega) hszw ?_; intro P' c' w8 hBt hk8; have hz8 := hk8.keep _ _ _ (by decide) (by simp) HV.out.2.2.1; have H8 := Lib.hid (And.intro hBt (And.intro hk8.below hz8)); clear hBt hk8 hz8)
      | (refine wpList_store_blk rfl 42 (.tmp 2) (.tmp 15) rfl (w.heap.size + 1) 0 [.int .i64 k, .int .i64 m, .int .i64 o, .int .i64 g, .slice P' 0 c'] rfl rfl H8.out.2.2 (by simp) node_size (node_cells _ _ _ _ _ _ _) ?_; intro w9 hA9 hO9)
      | go_in)
    rw [over_whole (by simp)] at hA9
    obtain ⟨d0, d1, d2, d3, d4⟩ := five_cells hA9
    have hb9 := hO9.below (B := w.heap.size) (by have := H8.out.2.1.size; omega) (by simp)
    have hbt := H8.out.1
    rw [HT.out] at hbt
    have hbt9 : Bts (fun q => w.heap.size ≤ q) w9 (.slice P' 0 c') (data.take 600) := by
      rcases hbt with h | ⟨g', o', cap, t, cs, e, hg', hn, hb, hx, h1, h2⟩
      · exact .inl h
      · refine .inr ⟨g', o', cap, t, cs, e, hg', hn, hb.only hO9 (fun hm => ?_), hx, h1, h2⟩
        simp only [List.mem_singleton] at hm
        subst hm
        have := (hb.same H8.out.2.2).1
        subst this
        exact hn.ne (by decide) (by decide) rfl
    have hbw := HV.out.2.2.2
    refine bodyPost_ret (v := nodeV k m o g P' 0 c') (by simp [results, Tryz.results16, go_sem, d0, d1, d2, d3, d4]) rfl ⟨P', 0, c', rfl, hbt9, (hbw.trans H8.out.2.1).trans hb9⟩
/-- To, of any node that can be read. -/
theorem to7_any (w : World) (k m o g : Int) (P : Option Addr) (n c : Nat) (data : List B8) (hrd : RdB w P n data) (h1 : n ≤ c) (h2 : c ≤ 9223372036854775807) (hnil : P = none → n = 0 ∧ c = 0) :
    Calls Tryz.prog 16 #[nodeV k m o g P n c] w fun e w' => ∃ P' r c', e = .returned (nodeV k m o g P' r c') ∧ Bts (fun q => w.heap.size ≤ q) w' (.slice P' r c') (data.take 600) ∧ Below w.heap.size w w' := by
  by_cases hn : 0 < n
  · obtain ⟨ga, oa, rfl, _⟩ := hrd.cells hn
    exact to7_some w k m o g ga oa n c data hrd h1 h2
  · obtain rfl : n = 0 := by omega
    rcases P with _ | pa
    · obtain ⟨_, rfl⟩ := hnil rfl
      exact to7_none w k m o g data hrd
    · exact to7_zero w k m o g pa c data hrd h2
end Go.Proofs.YtdhmdcdiifkdiaaGreatDoor
end

/-
  A nil table, and that of a nil log: the law's walk. Condition: the constants lie in their variable.
-/

section
set_option linter.unusedSimpArgs false
set_option linter.unusedVariables false
set_option maxRecDepth 100000
namespace Go.Proofs.YtdhmdcdiifkdiaaGreatDoor
open Go.RowKit Go.Maps

set_option maxRecDepth 100000 in
set_option maxHeartbeats 16000000 in
theorem inil_walk (ks : List B32) (w : World) (no k m o g : Int) (P : Option Addr) (n c : Nat) (data : List B8) (hK : Roots ks w) (hrd : RdB w P n data) (hnc : n ≤ c) (hc : c ≤ 9223372036854775807) (hnil : P = none → n = 0 ∧ c = 0) :
    Calls Tryz.prog 4 #[.int .i64 no, nodeV k m o g P n c] w fun e w' => e = .returned (.bool true) ∧ Below w.heap.size w w' := by
  have hpos := hK.pos
  have hb0 := new_below w (.cells #[.int .i64 k, .int .i64 m, .int .i64 o, .int .i64 g, .slice P n c] 53)
  have hk0 := Blk.new w 53 [.int .i64 k, .int .i64 m, .int .i64 o, .int .i64 g, .slice P n c]
  have HK := Lib.hid hK
  obtain ⟨q, hq⟩ : ∃ q, (data.take 600).length = q := ⟨_, rfl⟩
  obtain ⟨dt, hdt⟩ : ∃ dt, data.take 600 = dt := ⟨_, rfl⟩
  have hTo : ∀ wx, Below w.heap.size w wx → Calls Tryz.prog 16 #[nodeV k m o g P n c] wx fun e w' => ∃ P' c', e = .returned (nodeV k m o g P' q c') ∧ Bts (fun g => wx.heap.size ≤ g) w' (.slice P' q c') dt ∧ Below wx.heap.size wx w' := fun wx hb => (to7_any wx k m o g P n c data (hrd.below hb) hnc hc hnil).mono (by
    rintro e w' ⟨P', r, c', rfl, hB, hW⟩
    have h1 := hB.cells.1
    rw [hq] at h1
    subst h1
    rw [hdt] at hB
    exact ⟨P', c', rfl, hB, hW⟩)
  have HTo := Lib.hid hTo
  have H0 := Lib.hid (And.intro hb0 hk0)
  clear hK hrd hnc hc hnil hb0 hk0 hTo hq hdt
  go_enter Tryz.func4, Tryz.ntmps4
  go_wp2_with (first
    | (go_at_call 14; refine (tget_nil _ no).mono ?_; rintro e w1 ⟨rfl, hW⟩; have hbn := new_below w1 (.cells #[.int .i64 0, .int .i64 0, .int .i64 0, .int .i64 0, .slice none 0 0] 42); have H1 := Lib.hid (And.intro (below_of (below_of H0.out.1 hW) hbn) ((H0.out.2.below hW H0.out.2.lt).below hbn (H0.out.2.below hW H0.out.2.lt).lt)); clear hW hbn)
    | (go_at_call 15; refine (tfree_nil _ _).mono ?_; rintro e w' ⟨rfl, rfl⟩)
    | (go_at_call 12; refine (format_nil _ no).mono ?_; rintro e w2 ⟨rfl, hW⟩; have H2 := Lib.hid (And.intro (below_of H1.out.1 hW) (H1.out.2.below hW H1.out.2.lt)); clear hW)
    | (go_at_call 11; refine (iopen_nil _).mono ?_; rintro e w3 ⟨rfl, hW⟩; have H3 := Lib.hid (And.intro (below_of H2.out.1 hW) (H2.out.2.below hW H2.out.2.lt)); clear hW)
    | go_in)
  have hb3 := H3.out.1
  have HKn := Lib.hid (iknown_walk ks _ (HK.out.below (below_of hb3 (drew_below w3)) hpos))
  have t0 := H3.out.2.cell 0
  have t1 := H3.out.2.cell 1
  have t2 := H3.out.2.cell 2
  have t3 := H3.out.2.cell 3
  have t4 := H3.out.2.cell 4
  simp only [List.getElem?_cons_succ, List.getElem?_cons_zero] at t0 t1 t2 t3 t4
  clear hb3
  go_region_held3 (fun w' => w'.cell? ⟨w.heap.size, 0, none⟩ = some (.int .i64 k) ∧ w'.cell? ⟨w.heap.size, 1, none⟩ = some (.int .i64 m) ∧ w'.cell? ⟨w.heap.size, 2, none⟩ = some (.int .i64 o) ∧ w'.cell? ⟨w.heap.size, 3, none⟩ = some (.int .i64 g) ∧ w'.cell? ⟨w.heap.size, 4, none⟩ = some (.slice P n c))
    (first | exact ⟨t0, t1, t2, t3, t4⟩ | exact ⟨d0, d1, d2, d3, d4⟩ | exact ⟨x0, x1, x2, x3, x4⟩ | exact ⟨y0, y1, y2, y3, y4⟩ | exact ⟨z0, z1, z2, z3, z4⟩ | exact ⟨u0, u1, u2, u3, u4⟩ | exact ⟨rr0, rr1, rr2, rr3, rr4⟩)
    (first
      | (go_at_call 13; refine HKn.out.mono ?_; rintro e w4 ⟨rfl, hW⟩; have d0 := cell_drew t0 hW; have d1 := cell_drew t1 hW; have d2 := cell_drew t2 hW; have d3 := cell_drew t3 hW; have d4 := cell_drew t4 hW; have H4 := Lib.hid (below_drew H3.out.1 hW); clear hW)
      | (go_at_call 16; refine (HTo.out _ H7.out.1).mono ?_; rintro e w8 ⟨P8, c8, rfl, hB8, hW⟩; have u0 := cell_below z0 hW; have u1 := cell_below z1 hW; have u2 := cell_below z2 hW; have u3 := cell_below z3 hW; have u4 := cell_below z4 hW; have H8 := Lib.hid (And.intro (below_of H7.out.1 hW) (same_any w8 k m o g P7 P8 q c7 c8 dt (H7.out.2.below hW) hB8)); clear hW hB8)
      | (go_at_call 16; refine (HTo.out _ H6.out).mono ?_; rintro e w7 ⟨P7, c7, rfl, hB7, hW⟩; have z0 := cell_below y0 hW; have z1 := cell_below y1 hW; have z2 := cell_below y2 hW; have z3 := cell_below y3 hW; have z4 := cell_below y4 hW; have H7 := Lib.hid (And.intro (below_of H6.out hW) hB7); clear hW hB7)
      | (go_at_call 16; refine (HTo.out _ H4.out).mono ?_; rintro e w5 ⟨P5, c5, rfl, hB5, hW⟩; have x0 := cell_below d0 hW; have x1 := cell_below d1 hW; have x2 := cell_below d2 hW; have x3 := cell_below d3 hW; have x4 := cell_below d4 hW; have hbn := new_below w5 (.cells #[.int .i64 no, .int .i64 k, .int .i64 m, .int .i64 o, .int .i64 g, .slice P5 q c5, .bool false] 44); have y0 := cell_below x0 hbn; have y1 := cell_below x1 hbn; have y2 := cell_below x2 hbn; have y3 := cell_below x3 hbn; have y4 := cell_below x4 hbn; have H6 := Lib.hid (below_of (below_of H4.out hW) hbn); clear hW hB5 hbn)
      | (go_at_call 9; refine (tapply_nil _ _).mono ?_; rintro e w' ⟨rfl, rfl⟩)
      | (go_at_call 17; refine (tnodes_nil _).mono ?_; rintro e w' ⟨rfl, rfl⟩)
      | (go_at_call 18; refine (tused_nil _).mono ?_; rintro e w' ⟨rfl, rfl⟩)
      | (go_at_call 19; refine (troom_nil _).mono ?_; rintro e w' ⟨rfl, rfl⟩)
      | (go_at_call 20; refine H8.out.2.mono ?_; rintro e w9 ⟨rfl, hW⟩; have rr0 := cell_below u0 hW; have rr1 := cell_below u1 hW; have rr2 := cell_below u2 hW; have rr3 := cell_below u3 hW; have rr4 := cell_below u4 hW; have H9 := Lib.hid (below_of H8.out.1 hW); clear hW))
  go_wp2_with fail
  go_ret
  exact ⟨rfl, H9.out⟩
end Go.Proofs.YtdhmdcdiifkdiaaGreatDoor
end
