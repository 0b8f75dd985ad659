/-
  write: a right value's bytes behind what is there. Conditions: the value reads as a tree in blocks below B, the slice owns its bytes from B on; the library's table is as laid.
-/
import Derived.Test.YtodpojbgkeecnaaDoorCSize
import Derived.Deep.AppendLies
set_option linter.unusedSimpArgs false
set_option linter.unusedVariables false
namespace Go.Proofs.YtodpojbgkeecnaaDoor
open Go.RowKit

/-- What write leaves. -/
def WritePost (B n : Nat) (xs : List Value) (b : List UInt8) (w : World) (e : Ending) (w' : World) : Prop := ∃ v', e = .returned v' ∧ w'.ownsRow B 5 1 v' (n + b.length) (xs ++ Lib.byteCells b) ∧ Below B w w'

theorem one_new (w : World) (x : Int) : ∀ j u, [Value.int .u8 x][j]? = some u → (w.alloc (.cells #[.int .u8 x] 5)).cell? ((⟨w.heap.size, 0, none⟩ : Addr).add j) = some u := by
  intro j u hu
  have hb := Blk.new w 5 [.int .u8 x]
  rw [add_off, Nat.zero_add]
  exact (hb.cell j).trans hu
theorem one_one (x : Int) : ∀ u ∈ [Value.int .u8 x], u.oneCell' = true := by
  intro u hu
  simp at hu
  subst hu
  rfl
theorem byteCells_append (a b : List UInt8) : Lib.byteCells (a ++ b) = Lib.byteCells a ++ Lib.byteCells b := by simp [Lib.byteCells]
theorem own_ge {w : World} {B : Nat} {e : TypeId} {size n : Nat} {v : Value} {xs : List Value} (h : w.ownsRow B e size v n xs) : ∀ k, v.ownBlock = some k → B ≤ k := fun k hk => (h.lt k hk).1

theorem one_new_drew (w : World) (x : Int) : ∀ j u, [Value.int .u8 x][j]? = some u → (w.alloc (.cells #[.int .u8 x] 5)).drew.cell? ((⟨w.heap.size, 0, none⟩ : Addr).add j) = some u := one_new w x
theorem Blk.others {w w' : World} {g : Nat} {t : TypeId} {cs : List Value} (h : Blk w g t cs) (hk : Lib.OthersKept 5 none w w') (ht : t ≠ 5) : Blk w' g t cs :=
  hk g _ h (by simp) fun c fz e => by injection e with _ e2; exact ht e2
theorem write_num1 {B n : Nat} {w w1 : World} {sv v1 c0 c1 c2 c3 : Value} {xs ys : List Value} {o : Obj} (hown : w.ownsRow B 5 1 sv n xs) (hB : B ≤ w.heap.size) (h1 : w1.ownsRow B 5 1 v1 (n + 1) ys) (hg : ((w.alloc (.cells #[c0, c1, c2, c3] 26)).alloc o).drew.grownBy w1 sv.ownBlock) :
    w1.ownsRow B 5 1 v1 (n + 1) ys ∧ Below B (w.alloc (.cells #[c0, c1, c2, c3] 26)) w1 ∧ Blk w1 w.heap.size 26 [c0, c1, c2, c3] ∧ w.heap.size ≤ w1.heap.size := by
  have hs := hg.size
  refine ⟨h1, (((Below.refl B (w.alloc (.cells #[c0, c1, c2, c3] 26))).alloc (by simp; omega) o).drew).grown hg (by simp; omega) (own_ge hown), ?_, by simp at hs; omega⟩
  exact (((Blk.new w 26 [c0, c1, c2, c3]).alloc o).drew).grown hg (fun e => by have := (hown.lt _ e.symm).2; omega)
theorem write_lst1 {B n : Nat} {w w1 : World} {sv v1 c0 c1 c2 c3 : Value} {xs ys : List Value} {o : Obj} (hown : w.ownsRow B 5 1 sv n xs) (hB : B ≤ w.heap.size) (h1 : w1.ownsRow B 5 1 v1 (n + 1) ys) (hg : ((w.alloc (.cells #[c0, c1, c2, c3] 26)).alloc o).grownBy w1 sv.ownBlock) :
    w1.ownsRow B 5 1 v1 (n + 1) ys ∧ Below B w w1 ∧ Blk w1 w.heap.size 26 [c0, c1, c2, c3] ∧ w.heap.size ≤ w1.heap.size := by
  have hs := hg.size
  refine ⟨h1, (((Below.refl B w).alloc hB _).alloc (by simp; omega) o).grown hg (by simp; omega) (own_ge hown), ?_, by simp at hs; omega⟩
  exact ((Blk.new w 26 [c0, c1, c2, c3]).alloc o).grown hg (fun e => by have := (hown.lt _ e.symm).2; omega)
set_option maxRecDepth 100000 in
set_option maxHeartbeats 1000000 in
theorem write_num (B : Nat) (w : World) (nn : Int) (hn : -9223372036854775808 ≤ nn ∧ nn ≤ 9223372036854775807) (c2 c3 : Value) (hB : B ≤ w.heap.size) (htab : Tab B w) (sv : Value) (n : Nat) (xs : List Value) (hown : w.ownsRow B 5 1 sv n xs) (hsm : n ≤ 1000000000) (A L : Option Addr) (nb cb nl cl : Nat) (h2 : c2 = .slice A nb cb) (h3 : c3 = .slice L nl cl) :
    Calls Tryd.prog 21 #[sv, .agg #[.int .i64 0, .int .i64 nn, c2, c3]] w (WritePost B n xs (105 :: (Lib.itoa nn ++ [59])) w) := by
  subst h2 h3
  obtain ⟨i0, hi, hz0, hz1, hz2⟩ := info_parts binfo
  have HI := Lib.hid (And.intro hi (And.intro hz0 (And.intro hz1 hz2)))
  have hb1 : Below B w (w.alloc (.cells #[.int .i64 0, .int .i64 nn, .slice A nb cb, .slice L nl cl] 26)) := (Below.refl _ _).alloc hB _
  have HB1 := Lib.hid hb1
  have HT := Lib.hid (htab.on hb1)
  have HO := Lib.hid hown
  have c1 := (Blk.new w 26 [.int .i64 0, .int .i64 nn, .slice A nb cb, .slice L nl cl]).cell 1
  simp only [List.getElem?_cons_succ, List.getElem?_cons_zero] at c1
  have hil := Lib.itoa_length_le nn hn.1 hn.2
  clear hi hz0 hz1 hz2 hb1 htab hown
  go_enter Tryd.func21, Tryd.ntmps21
  go_wp2_with fail
  go_region_held3 (fun w' => w'.cell? ⟨w.heap.size, 1, none⟩ = some (.int .i64 nn))
    (go_keep)
    (first
      | (go_at_call 33; refine (Tryd.strconv_AppendInt_10 B (n + 1) nn hn.1 hn.2 _ _ _ HA.out.1 (Nat.le_trans hB HA.out.2.2.2) (by omega) (HT.out.on HA.out.2.1)).mono ?_; rintro e w3 ⟨v3, rfl, ho3, hb3, hk3⟩; have d3 := (HA.out.2.2.1.others hk3 (by decide)).cell 1; simp only [List.getElem?_cons_succ, List.getElem?_cons_zero] at d3; have HC := Lib.hid (And.intro ho3 hb3); clear ho3 hb3 hk3)
      | ((refine step_append_lies _ (by rfl) _ _ _ (by rfl) B 5 i0 _ 1 1 Tryd.underlying23 HI.out.1 HI.out.2.1 HI.out.2.2.1 HI.out.2.2.2 rfl (by omega) sv n xs (by rfl) (((HO.out.alloc _).alloc _).drew) ⟨w.heap.size + 1, 0, none⟩ 1 1 [.int .u8 105] (by rfl) (by rfl) (by have := one_new_drew (w.alloc (.cells #[.int .i64 0, .int .i64 nn, .slice A nb cb, .slice L nl cl] 26)) 105; rw [World.size_alloc] at this; exact this) (by simp [Value.oneCell']) (by omega) (by unfold maxLen; omega) (by omega) (by simp; omega) _ rfl ?_); intro gg cap w1 hown1 hgrow hat hlt; have HA := Lib.hid (write_num1 HO.out hB hown1 hgrow); have d1 := HA.out.2.2.1.cell 1; simp only [List.getElem?_cons_succ, List.getElem?_cons_zero] at d1; clear hown1 hgrow hat hlt))
  have hs3 : B ≤ w3.heap.size := Nat.le_trans hB (Nat.le_trans HA.out.2.2.2 HC.out.2.size)
  obtain ⟨ys, hys⟩ : ∃ ys, ys = xs ++ [Value.int .u8 105] ++ Lib.byteCells (Lib.itoa nn) := ⟨_, rfl⟩
  have HY := Lib.hid hys
  have HC1 : Hid (w3.ownsRow B 5 1 v3 (n + 1 + (Lib.itoa nn).length) ys) := by have := HC.out.1; rw [hys]; exact Lib.hid this
  clear hys
  go_wp2_with (at_builtin; refine wpList_append_own _ rfl (.tmp 17) (.tmp 18) 23 rfl B 5 i0 (.int .u8 0) 1 1 Tryd.underlying23 HI.out.1 HI.out.2.1 HI.out.2.2.1 HI.out.2.2.2 rfl (by decide) v3 (n + 1 + (Lib.itoa nn).length) ys rfl (HC1.out.alloc _) ⟨w3.heap.size, 0, none⟩ 1 1 [.int .u8 59] rfl rfl (one_new w3 59) (one_one 59) (by unfold maxLen; omega) (by omega) (by simp; omega) ?_; intro v4 w4 ho4 hg4 _; have H4 := Lib.hid (And.intro ho4 hg4); clear ho4 hg4)
  go_ret
  refine ⟨_, rfl, ?_, ?_⟩
  · have := H4.out.1
    rw [HY.out] at this
    simpa [Lib.byteCells, Nat.add_assoc, Nat.add_comm, Nat.add_left_comm] using this
  · exact (((HB1.out.trans HA.out.2.1).trans HC.out.2).alloc hs3 _).grown H4.out.2 (by simp; omega) (own_ge HC1.out)

/-- The same for what stands in the box: a slice of bytes. -/
theorem write_txt1 {B n : Nat} {w w2 w1 : World} {sv v1 c0 c1 c2 c3 : Value} {xs ys : List Value} {o : Obj} (hbox : Blk w2 w.heap.size 26 [c0, c1, c2, c3]) (hown : w2.ownsRow B 5 1 sv n xs) (hB : B ≤ w2.heap.size) (h1 : w1.ownsRow B 5 1 v1 (n + 1) ys) (hg : (w2.alloc o).drew.grownBy w1 sv.ownBlock) :
    w1.ownsRow B 5 1 v1 (n + 1) ys ∧ Below B w2 w1 ∧ Blk w1 w.heap.size 26 [c0, c1, c2, c3] ∧ w2.heap.size ≤ w1.heap.size := by
  have hs := hg.size
  refine ⟨h1, (((Below.refl B w2).alloc hB o).drew).grown hg (by simp; omega) (own_ge hown), ?_, by simp at hs; omega⟩
  exact ((hbox.alloc o).drew).grown hg (fun e => own_blk_ne hown hbox (by decide) e.symm)

set_option maxRecDepth 100000 in
set_option maxHeartbeats 1000000 in
theorem write_txt (B : Nat) (w : World) (nn : Int) (hB : B ≤ w.heap.size) (htab : Tab B w) (sv : Value) (n : Nat) (xs : List Value) (hown : w.ownsRow B 5 1 sv n xs) (hsm : n ≤ 1000000000 - 2000000) (A L : Option Addr) (nb cb nl cl : Nat) (b : List UInt8) (hb : BIn w (fun g => g < B) A nb cb b) (hnb : nb ≤ 1000000) :
    Calls Tryd.prog 21 #[sv, .agg #[.int .i64 1, .int .i64 nn, .slice A nb cb, .slice L nl cl]] w (WritePost B n xs (Lib.itoa (b.length : Int) ++ 58 :: b) w) := by
  obtain ⟨i0, hi, hz0, hz1, hz2⟩ := info_parts binfo
  have HI := Lib.hid (And.intro hi (And.intro hz0 (And.intro hz1 hz2)))
  have hb1 : Below B w (w.alloc (.cells #[.int .i64 1, .int .i64 nn, .slice A nb cb, .slice L nl cl] 26)) := (Below.refl _ _).alloc hB _
  have HB1 := Lib.hid hb1
  have HT := Lib.hid (htab.on hb1)
  have HO := Lib.hid hown
  have HBB := Lib.hid hb
  have hil := Lib.itoa_length_le (nb : Int) (by omega) (by omega)
  clear hi hz0 hz1 hz2 hb1 htab hown hb
  go_enter Tryd.func21, Tryd.ntmps21
  go_wp2_with fail
  refine (Tryd.strconv_AppendInt_10 B n nb (by omega) (by omega) _ _ _ (HO.out.alloc _) (by simp; omega) (by omega) HT.out).mono ?_
  rintro e w2 ⟨v2, rfl, ho2, hb2, hk2⟩
  have hd2 := (Blk.new w 26 [.int .i64 1, .int .i64 nn, .slice A nb cb, .slice L nl cl]).others hk2 (by decide)
  have c2 := hd2.cell 2
  simp only [List.getElem?_cons_succ, List.getElem?_cons_zero] at c2
  have hs2 := hb2.size
  have hBs : B ≤ w2.heap.size := by simp at hs2; omega
  have hbw : BIn w2 (fun g => g < B) A nb cb b := HBB.out.keep fun g hg hlt => ⟨(HB1.out.trans hb2).block g hg, hg⟩
  have H2 := Lib.hid (And.intro ho2 (And.intro (HB1.out.trans hb2) (And.intro hd2 hbw)))
  obtain ⟨m, hm⟩ : ∃ m, m = n + (Lib.itoa (nb : Int)).length := ⟨_, rfl⟩
  obtain ⟨ys, hys⟩ : ∃ ys, ys = xs ++ Lib.byteCells (Lib.itoa (nb : Int)) := ⟨_, rfl⟩
  have HM : Hid (w2.ownsRow B 5 1 v2 m ys) := by rw [hm, hys]; exact Lib.hid ho2
  have hm2 : m ≤ 1000000000 - 1000000 - 100 := by omega
  have HY := Lib.hid (And.intro hm hys)
  clear ho2 hb2 hk2 hd2 hs2 hbw hm hys
  go_wp2_with fail
  go_region_held3 (fun w' => w'.cell? ⟨w.heap.size, 2, none⟩ = some (.slice A nb cb))
    (go_keep)
    (first
      | ((refine step_append_lies _ (by rfl) (.tmp 27) (.tmp 28) _ (by rfl) B 5 i0 _ 1 1 Tryd.underlying23 HI.out.1 HI.out.2.1 HI.out.2.2.1 HI.out.2.2.2 rfl (by omega) v2 m ys (by rfl) ((HM.out.alloc _).drew) ⟨w2.heap.size, 0, none⟩ 1 1 [.int .u8 58] (by rfl) (by rfl) (one_new_drew w2 58) (by simp [Value.oneCell']) (by omega) (by unfold maxLen; omega) (by omega) (by simp; omega) _ rfl ?_); intro gg cap w3 hown3 hgrow hat hlt; have HA := Lib.hid (write_txt1 H2.out.2.2.1 HM.out hBs hown3 hgrow); have d1 := HA.out.2.2.1.cell 2; simp only [List.getElem?_cons_succ, List.getElem?_cons_zero] at d1; clear hown3 hgrow hat hlt)
      | (refine step_append_bin (by rfl) (.tmp 29) (.tmp 31) (by rfl) B _ (m + 1) (ys ++ [.int .u8 58]) (by rfl) HA.out.1 (fun g => g < B) A nb cb b (by rfl) (H2.out.2.2.2.keep fun g hg hlt => ⟨HA.out.2.1.block g hg, hg⟩) (by omega) (Nat.le_trans hBs HA.out.2.2.2) ?_; intro v4 w4 ho4 hg4; have HC := Lib.hid (And.intro ho4 hg4); have d2 := (HA.out.2.2.1.grown hg4 (fun e => own_blk_ne HA.out.1 HA.out.2.2.1 (by decide) e.symm)).cell 2; simp only [List.getElem?_cons_succ, List.getElem?_cons_zero] at d2; clear ho4 hg4))
  go_wp2_with fail
  go_ret
  refine ⟨_, rfl, ?_, ?_⟩
  · have := HC.out.1
    rw [HY.out.1, HY.out.2] at this
    have hl := HBB.out.len
    rw [hl]
    simpa [Lib.byteCells, Nat.add_assoc, Nat.add_comm, Nat.add_left_comm, hl] using this
  · exact (H2.out.2.1.trans HA.out.2.1).grown HC.out.2 (Nat.le_trans hBs HA.out.2.2.2) (own_ge HA.out.1)

set_option maxRecDepth 100000 in
set_option maxHeartbeats 1000000 in
theorem write_any : ∀ (N : Nat) (t : T), t.high < N → t.ok → t.enc.length ≤ 131072 → ∀ (B : Nat) (w : World) (v : Value), B ≤ w.heap.size → Tab B w → In w (fun g => g < B) t v → ∀ (sv : Value) (n : Nat) (zs : List Value), w.ownsRow B 5 1 sv n zs → n + t.enc.length ≤ 1000000 →
    Calls Tryd.prog 21 #[sv, v] w (WritePost B n zs t.enc w)
  | 0, t, h, _, _, _, _, _, _, _, _, _, _, _, _, _ => absurd h (Nat.not_lt_zero _)
  | N + 1, .mk kd nn b l, hN, hok, hlen, B, w, v, hB, htab, hin, sv, n, zs, hown, hsm => by
    obtain ⟨A, nb, cb, L, nl, cl, xs, rfl, hb, hl⟩ := hin.open_
    have hnl : nl ≤ 1000000 := by rw [T.ok] at hok; have := hl.len; omega
    have hnb : nb ≤ 1000000 := by rw [T.ok] at hok; have := hb.len; omega
    have hn1 : -9223372036854775808 ≤ nn ∧ nn ≤ 9223372036854775807 := by rw [T.ok] at hok; exact hok.2.1
    by_cases k0 : kd = 0
    · subst k0
      have he : (T.mk 0 nn b l).enc = 105 :: (Lib.itoa nn ++ [59]) := by rw [T.enc, if_pos rfl]
      rw [he] at hsm ⊢
      exact write_num B w nn hn1 _ _ hB htab sv n _ hown (by omega) A L nb cb nl cl rfl rfl
    · by_cases k1 : kd = 1
      · subst k1
        have he : (T.mk 1 nn b l).enc = Lib.itoa (b.length : Int) ++ 58 :: b := by rw [T.enc, if_neg k0, if_pos rfl]
        rw [he] at hsm ⊢
        exact write_txt B w nn hB htab sv n zs hown (by omega) A L nb cb nl cl b hb hnb
      · have b0 : (kd == 0) = false := by simp [k0]
        have b1 : (kd == 1) = false := by simp [k1]
        have he : (T.mk kd nn b l).enc = 40 :: (T.encAll l ++ [41]) := by rw [T.enc, if_neg k0, if_neg k1]
        have hih : ∀ t ∈ l, ∀ (B : Nat) (w : World) (v : Value), B ≤ w.heap.size → Tab B w → In w (fun g => g < B) t v → ∀ (sv : Value) (n : Nat) (zs : List Value), w.ownsRow B 5 1 sv n zs → n + t.enc.length ≤ 1000000 → Calls Tryd.prog 21 #[sv, v] w (WritePost B n zs t.enc w) := fun t ht B w v => write_any N t (by have := T.high_lt (k := kd) (n := nn) (b := b) ht; omega) (by rw [T.ok] at hok; exact T.okAll_mem hok.2.2.2.2 t ht) (by have := T.enc_le ht; rw [he] at hlen; simp at hlen; omega) B w v
        have hle : n + 2 + (T.encAll l).length ≤ 1000000 := by rw [he] at hsm; simp at hsm; omega
        rw [he]
        obtain ⟨i0, hi, hz0, hz1, hz2⟩ := info_parts binfo
        have HI := Lib.hid (And.intro hi (And.intro hz0 (And.intro hz1 hz2)))
        have HH := Lib.hid hih
        have HL := Lib.hid hl
        have HO := Lib.hid hown
        have HT := Lib.hid htab
        clear hl hb hin hok hN write_any he hlen hih hown hsm hi hz0 hz1 hz2 htab
        go_enter Tryd.func21, Tryd.ntmps21
        go_wp2_with (at_builtin; refine wpList_append_own _ rfl (.tmp 33) (.tmp 34) 23 rfl B 5 i0 (.int .u8 0) 1 1 Tryd.underlying23 HI.out.1 HI.out.2.1 HI.out.2.2.1 HI.out.2.2.2 rfl (by decide) sv n zs rfl ((HO.out.alloc _).alloc _) ⟨w.heap.size + 1, 0, none⟩ 1 1 [.int .u8 40] rfl rfl (by have := one_new (w.alloc (.cells #[.int .i64 kd, .int .i64 nn, .slice A nb cb, .slice L nl cl] 26)) 40; rw [World.size_alloc] at this; exact this) (one_one 40) (by unfold maxLen; omega) (by omega) (by simp; omega) ?_; intro v1 w1 ho1 hg1 _; have H1 := Lib.hid (write_lst1 HO.out hB ho1 hg1); have c3 := H1.out.2.2.1.cell 3; simp only [List.getElem?_cons_succ, List.getElem?_cons_zero] at c3; clear ho1 hg1)
        have HL1 := Lib.hid (HL.out.keep (w' := w1) (Q' := fun g => g < B) fun g hg hlt => ⟨H1.out.2.1.block g hg, hg⟩)
        have HT1 := Lib.hid (HT.out.on H1.out.2.1)
        have hs1 : B ≤ w1.heap.size := Nat.le_trans hB H1.out.2.2.2
        clear HO hB HL HT
        go_wp2_with fail
        go_loopw [0, 39] (fun v i wr => ∃ k : Nat, k ≤ nl ∧ i = .int .i64 k ∧ wr.ownsRow B 5 1 v (n + 1 + (T.encAll (l.take k)).length) (zs ++ [.int .u8 40] ++ Lib.byteCells (T.encAll (l.take k))) ∧ Below B w1 wr) (fun _ i _ => nl - (intOf i).toNat)
        case atStart => exact ⟨0, Nat.zero_le _, rfl, by simpa [T.encAll, Lib.byteCells] using H1.out.1, Below.refl _ _⟩
        case round =>
          obtain ⟨k, hk, rfl, ho, hbel⟩ := hrel
          have hle2 := T.encAll_take_le l k
          have hsr : B ≤ wr.heap.size := Nat.le_trans hs1 hbel.size
          by_cases hkn : k < nl
          · obtain ⟨g, o, rfl, hQ, hc⟩ := HL1.out.cells (by omega)
            have hlk : l[k]? = some (l[k]'(by have := HL1.out.len; omega)) := List.getElem?_eq_getElem _
            have hmem : (l[k]'(by have := HL1.out.len; omega)) ∈ l := List.getElem_mem _
            generalize (l[k]'(by have := HL1.out.len; omega)) = t at hlk hmem
            have htk := T.encAll_take hlk
            have hle3 := T.encAll_take_le l (k + 1)
            have hll := congrArg List.length htk
            rw [List.length_append] at hll
            have hlw := HL1.out.keep (w' := wr) (Q' := fun g => g < B) fun g hg hlt => ⟨hbel.block g hg, hg⟩
            obtain ⟨c0, c1, c2, c3', e0, e1, e2, e3, hint⟩ := hlw.get k _ hlk
            obtain ⟨k', n', b', l'⟩ := t
            obtain ⟨A', nb', cb', L', nl', cl', xs', hv, _, _⟩ := hint.open_
            injection hv with hv
            simp only [Array.mk.injEq, List.cons.injEq, and_true] at hv
            obtain ⟨rfl, rfl, rfl, rfl⟩ := hv
            have HR := Lib.hid (And.intro hbel (And.intro hint ho))
            have hlen2 : n + 1 + (T.encAll (l.take k)).length + (T.mk k' n' b' l').enc.length ≤ 1000000 := by omega
            have HT2 := Lib.hid (And.intro htk (And.intro hll hlen2))
            have HM := Lib.hid hmem
            have hba : Below B wr (wr.alloc (.cells #[.int .i64 k', .int .i64 n', .slice A' nb' cb', .slice L' nl' cl'] 26)) := (Below.refl _ _).alloc hsr _
            have HBA := Lib.hid hba
            have HT4 := Lib.hid ((HT1.out.on hbel).on hba)
            clear hbel hint hlk hmem hQ hc hlw htk hle3 hll ho hba hlen2
            go_wp2_with fail
            refine (HH.out _ HM.out B _ _ (by simp; omega) HT4.out (HR.out.2.1.keep _ _ fun g hg hlt => ⟨HBA.out.block g hg, hg⟩) u0 _ _ (HR.out.2.2.alloc _) HT2.out.2.2).mono ?_
            rintro e w2 ⟨v2, rfl, ho2, hb2⟩
            have H3 := Lib.hid (And.intro ho2 ((HR.out.1.trans HBA.out).trans hb2))
            clear ho2 hb2
            go_wp2_with fail
            go_roundw
            case rel =>
              refine ⟨k + 1, by omega, by go_num, ?_, H3.out.2⟩
              have := H3.out.1
              rw [HT2.out.2.1, HT2.out.1, byteCells_append]
              simpa [Nat.add_assoc] using this
            case measure => simp [intOf]; omega
          · have hend : l.take k = l := List.take_of_length_le (by have := HL1.out.len; omega)
            rw [hend] at ho
            have HR := Lib.hid (And.intro hbel ho)
            obtain ⟨m, hm⟩ : ∃ m, m = n + 1 + (T.encAll l).length := ⟨_, rfl⟩
            obtain ⟨ys, hys⟩ : ∃ ys, ys = zs ++ [.int .u8 40] ++ Lib.byteCells (T.encAll l) := ⟨_, rfl⟩
            have HMM : Hid (wr.ownsRow B 5 1 u0 m ys) := by rw [hm, hys]; exact Lib.hid ho
            have hm2 : m ≤ 1000000 := by omega
            have HY := Lib.hid (And.intro hm hys)
            clear hend ho hbel hm hys
            go_wp2_with (at_builtin; refine wpList_append_own _ rfl (.tmp 47) (.tmp 48) 23 rfl B 5 i0 (.int .u8 0) 1 1 Tryd.underlying23 HI.out.1 HI.out.2.1 HI.out.2.2.1 HI.out.2.2.2 rfl (by decide) u0 m ys rfl (HMM.out.alloc _) ⟨wr.heap.size, 0, none⟩ 1 1 [.int .u8 41] rfl rfl (one_new wr 41) (one_one 41) (by unfold maxLen; omega) (by omega) (by simp; omega) ?_; intro v4 w4 ho4 hg4 _; have H4 := Lib.hid (And.intro ho4 hg4); clear ho4 hg4)
            go_ret
            refine ⟨_, rfl, ?_, ((H1.out.2.1.trans HR.out.1).alloc hsr _).grown H4.out.2 (by simp; omega) (own_ge HMM.out)⟩
            have := H4.out.1
            rw [HY.out.1, HY.out.2] at this
            simpa [Lib.byteCells, Nat.add_assoc, Nat.add_comm, Nat.add_left_comm] using this

end Go.Proofs.YtodpojbgkeecnaaDoor
