/-
  The reader's bytes and list. Conditions: the reader's block is known, its bytes lie in blocks below it, and are a right value's.
-/
import Derived.Test.YtodpojbgkeecnaaDoorCInteger
set_option linter.unusedSimpArgs false
set_option linter.unusedVariables false
namespace Go.Proofs.YtodpojbgkeecnaaDoor
open Go.RowKit

theorem isD_58 : isD 58 = false := by decide
theorem T.ok_bytes {b : List UInt8} (h : b.length ≤ 1000000) : (T.mk 1 0 b []).ok := by
  rw [T.ok, T.okAll]
  exact ⟨by omega, by omega, h, by simp, trivial⟩

set_option maxRecDepth 100000 in
theorem bytes_ok (w : World) (R : Nat) (op : Int) (b r : List UInt8) (h : IsRd w R op (Lib.itoa (b.length : Int) ++ 58 :: (b ++ r))) (hr : b.length + r.length ≤ 900000) :
    Calls Tryd.prog 44 #[.pointer (some ⟨R, 0, none⟩)] w (ReadPost (.mk 1 0 b []) R op r w) := by
  have hR := h.lt
  have H := Lib.hid (h.below (below_new w (.cells #[.int .i64 0, .int .i64 0, .slice none 0 0, .slice none 0 0] 26)))
  clear h
  go_enter Tryd.func44, Tryd.ntmps44
  go_wp2_with fail
  refine (integer_ok _ R op b.length 58 (b ++ r) H.out (by omega) isD_58 58 rfl (by simp; omega)).mono ?_
  rintro e w2 ⟨rfl, h2, ho2⟩
  have hrd := h2
  obtain ⟨A, n, c, hbk, hbb⟩ := h2
  have c0 := hbk.cell 0
  simp only [List.getElem?_cons_zero] at c0
  have hnl := hbb.len
  rw [List.length_append] at hnl
  have hle : ¬ (n : Int) < (b.length : Int) := by omega
  have H2 := Lib.hid (And.intro hrd ho2)
  clear hrd ho2 hbk hbb
  go_wp2_with fail
  refine (pass_any w2 R op (b ++ r) H2.out.1 b.length _ rfl (by simp)).mono ?_
  rintro e w3 ⟨A3, c3, rfl, hb3, h3, ho3⟩
  rw [List.take_left] at hb3
  rw [List.drop_left] at h3
  have H3 := Lib.hid (And.intro hb3 (And.intro h3 (H2.out.2.trans ho3)))
  clear hb3 h3 ho3 c0
  go_wp2_with fail
  refine (own_any _ (.mk 1 0 b []) (Nat.lt_succ_self _) (T.ok_bytes (by omega)) _ _ _ (In.shut H3.out.1 (LIn.none _ _))).mono ?_
  rintro e w4 ⟨v4, rfl, hin4, hb4⟩
  obtain ⟨A4, nb4, cb4, L4, nl4, cl4, xs4, rfl, _, _⟩ := hin4.open_
  have ho4 := H3.out.2.2.trans (Only.of_below (S := [R]) hb4)
  obtain ⟨hz, z0, z1, z2, z3, y0, y1, y2, y3⟩ := z_cells ho4 (by simp; omega)
  have hin5 := hin4.mono (Q' := fun g => w.heap.size < g) (fun g hg _ => by have := H3.out.2.2.size; simp at this; omega)
  have H4 := Lib.hid (And.intro hin5 (And.intro (H3.out.2.1.below hb4) ho4))
  clear hin4 hin5 hb4 ho4 hz
  go_wp2_with fail
  refine bodyPost_ret (v := .tuple #[.agg #[.int .i64 1, .int .i64 0, .slice A4 nb4 cb4, .slice L4 nl4 cl4], .int .i64 0]) (by simp [results, Tryd.results44, go_sem, z0, z1, z2, z3]) rfl ?_
  exact read_end H4.out.1 H4.out.2.1 H4.out.2.2 hR

/-- The first sign of a value's bytes. -/
theorem itoa_head (n : Nat) : ∃ x r, Lib.itoa (n : Int) = x :: r ∧ isD x = true := by
  unfold Lib.itoa
  rw [if_neg (by omega)]
  cases hd : Lib.decDigits (n : Int).toNat with
  | nil => exact absurd hd (dec_ne _)
  | cons x r => exact ⟨x, r, rfl, dec_digits _ x (by rw [hd]; simp)⟩
theorem T.enc_head (t : T) : ∃ x r, t.enc = x :: r ∧ x ≠ 41 := by
  obtain ⟨k, n, b, l⟩ := t
  rw [T.enc]
  split
  · exact ⟨_, _, rfl, by decide⟩
  · split
    · obtain ⟨x, r, h, hx⟩ := itoa_head b.length
      rw [h]
      exact ⟨x, _, rfl, fun e => by rw [e] at hx; revert hx; decide⟩
    · exact ⟨_, _, rfl, by decide⟩

/-- What value says of a right value's bytes. -/
def ReadSays (t : T) : Prop := ∀ (w : World) (R : Nat) (op : Int) (r : List UInt8), 0 ≤ op → op + (t.dep : Int) ≤ 8 → IsRd w R op (t.enc ++ r) → (t.enc ++ r).length ≤ 900000 → Calls Tryd.prog 36 #[.pointer (some ⟨R, 0, none⟩)] w (ReadPost t R op r w)

theorem T.encAll_append : ∀ (l m : List T), T.encAll (l ++ m) = T.encAll l ++ T.encAll m
  | [], m => by simp [T.encAll]
  | t :: r, m => by
    show T.encAll (t :: (r ++ m)) = _
    rw [T.encAll, T.encAll, T.encAll_append r m, List.append_assoc]
theorem new_four' (w : World) (o : Obj) (c0 c1 c2 c3 : Value) (t : TypeId) : ∀ j u, [c0, c1, c2, c3][j]? = some u → ((w.alloc o).alloc (.cells #[c0, c1, c2, c3] t)).cell? ((⟨w.heap.size + 1, 0, none⟩ : Addr).add j) = some u := by
  have := new_four (w.alloc o) c0 c1 c2 c3 t
  rw [World.size_alloc] at this
  exact this
/-- Where list's loop stands. -/
def ListRel (w0 : World) (R : Nat) (op : Int) (r : List UInt8) (l : List T) (v : Value) (wr : World) : Prop :=
  ∃ k : Nat, k ≤ l.length ∧ (∃ ys, wr.ownsRow (w0.heap.size + 1) 26 4 v k ys ∧ Row wr (fun g => w0.heap.size + 1 ≤ g ∧ v.ownBlock ≠ some g) (l.take k) ys) ∧ IsRd wr R (op + 1) (T.encAll (l.drop k) ++ 41 :: r) ∧
    Only [R] w0 wr ∧ Blk wr w0.heap.size 26 [.int .i64 0, .int .i64 0, .slice none 0 0, .slice none 0 0]
def sliceN : Value → Nat
  | .slice _ n _ => n
  | _ => 0
theorem own_sliceN {w : World} {B : Nat} {e : TypeId} {size n : Nat} {v : Value} {xs : List Value} (h : w.ownsRow B e size v n xs) : sliceN v = n := by
  rcases h.2 with ⟨rfl, rfl⟩ | ⟨g, cap, cur, rfl, _⟩ <;> rfl
theorem T.dep_le : ∀ {l : List T} {t : T}, t ∈ l → t.dep ≤ T.depAll l
  | s :: r, t, h => by
    rw [T.depAll]
    rcases List.mem_cons.1 h with rfl | h
    · omega
    · have := T.dep_le h; omega

theorem list_start {w : World} {R : Nat} {op : Int} {r : List UInt8} {l : List T} (h : IsRd w R op (T.encAll l ++ 41 :: r)) : ListRel w R op r l (.slice none 0 0) ((w.setCell ⟨R, 1, none⟩ (.int .i64 (op + 1))).alloc (.cells #[.int .i64 0, .int .i64 0, .slice none 0 0, .slice none 0 0] 26)) := by
  have hR := h.lt
  obtain ⟨A, n, c, hbk, hbb⟩ := h
  have ho : Only [R] w ((w.setCell ⟨R, 1, none⟩ (.int .i64 (op + 1))).alloc (.cells #[.int .i64 0, .int .i64 0, .slice none 0 0, .slice none 0 0] 26)) := ((Only.refl _ _).setCell (.inl (by simp)) _).alloc _
  have hsz : (w.setCell ⟨R, 1, none⟩ (.int .i64 (op + 1))).heap.size = w.heap.size := by simp [World.setCell]
  refine ⟨0, Nat.zero_le _, ⟨[], World.ownsRow_nil _ _ _ _, by simp [Row.nil]⟩, ⟨A, n, c, (hbk.set_ 1 _).alloc _, hbb.keep fun g hg hlt => ⟨ho.block g hlt (by simp; omega), hg⟩⟩, ho, ?_⟩
  have := Blk.new (w.setCell ⟨R, 1, none⟩ (.int .i64 (op + 1))) 26 [.int .i64 0, .int .i64 0, .slice none 0 0, .slice none 0 0]
  rw [hsz] at this
  exact this

theorem list_step {w0 wr w2 w4 : World} {R : Nat} {op : Int} {r : List UInt8} {l : List T} {k : Nat} {v v4 : Value} {ys : List Value} {t : T} {c0 c1 c2 c3 : Value} {o : Obj} (hk : k < l.length) (hlk : l[k]? = some t) (hR : R < w0.heap.size)
    (hown : wr.ownsRow (w0.heap.size + 1) 26 4 v k ys) (hrow : Row wr (fun g => w0.heap.size + 1 ≤ g ∧ v.ownBlock ≠ some g) (l.take k) ys) (ho : Only [R] w0 wr) (hz : Blk wr w0.heap.size 26 [.int .i64 0, .int .i64 0, .slice none 0 0, .slice none 0 0])
    (hin : In w2 (fun g => wr.heap.size ≤ g) t (.agg #[c0, c1, c2, c3])) (hrd : IsRd w2 R (op + 1) (T.encAll (l.drop (k + 1)) ++ 41 :: r)) (ho2 : Only [R] wr w2)
    (ho4 : w4.ownsRow (w0.heap.size + 1) 26 4 v4 (k + 1) (ys ++ [c0, c1, c2, c3])) (hg4 : ((w2.alloc o).alloc (.cells #[c0, c1, c2, c3] 26)).grownBy w4 v.ownBlock) (hn4 : v4.ownBlock = v.ownBlock ∨ v4.ownBlock = some ((w2.alloc o).alloc (.cells #[c0, c1, c2, c3] 26)).heap.size) :
    ListRel w0 R op r l v4 w4 := by
  have hsz := ho.size
  have hs2 := ho2.size
  have hlt := hown.lt
  have hzs := hz.lt
  have hs4 := hg4.size
  rw [World.size_alloc, World.size_alloc] at hn4 hs4
  have hRs : R < wr.heap.size := by omega
  have later : ∀ g, g < w2.heap.size → v.ownBlock ≠ some g → w4.heap[g]? = w2.heap[g]? := fun g hg hv =>
    (hg4.block g (by simp; omega) (fun e => hv e.symm)).trans ((Below.heap_alloc (w2.alloc o) _ g (by simp; omega)).trans (Below.heap_alloc w2 _ g hg))
  have hne4 : ∀ g, g < w2.heap.size → v.ownBlock ≠ some g → v4.ownBlock ≠ some g := by
    intro g hg hv
    rcases hn4 with h | h
    · rw [h]; exact hv
    · rw [h]; intro e; injection e with e; omega
  have old : ∀ g, g < wr.heap.size → g ≠ R → v.ownBlock ≠ some g → w4.heap[g]? = wr.heap[g]? := fun g hg hr hv => (later g (by omega) hv).trans (ho2.block g hg (by simpa using hr))
  have hne : ∀ g, g < w0.heap.size + 1 → v.ownBlock ≠ some g := fun g hg e => by have := (hlt g e).1; omega
  have hkeep : ∀ g, (w0.heap.size + 1 ≤ g ∧ v.ownBlock ≠ some g) → g < wr.heap.size → w4.heap[g]? = wr.heap[g]? ∧ (w0.heap.size + 1 ≤ g ∧ v4.ownBlock ≠ some g) := fun g hg hl => ⟨old g hl (by omega) hg.2, hg.1, hne4 g (by omega) hg.2⟩
  refine ⟨k + 1, by omega, ⟨_, ho4, ?_⟩, ?_, ?_, ?_⟩
  · rw [List.take_add_one, hlk]
    refine Row.snoc (Row.keep _ _ hrow hkeep) (hin.keep _ _ fun g hg hl => ?_)
    have hv : v.ownBlock ≠ some g := fun e => by have := (hlt g e).2; omega
    exact ⟨later g hl hv, by omega, hne4 g hl hv⟩
  · obtain ⟨A, n, c, h1, h2⟩ := hrd
    have hvR := hne R (by omega)
    exact ⟨A, n, c, (later R h1.lt hvR).trans h1, h2.keep fun g hg hl => ⟨later g hl (hne g (by omega)), hg⟩⟩
  · refine ⟨hg4.os.trans (ho2.os.trans ho.os), hg4.tape.trans (ho2.tape.trans ho.tape), hg4.output.trans (ho2.output.trans ho.output), by omega, fun g hg hr => ?_⟩
    exact (old g (by omega) (by simpa using hr) (hne g (by omega))).trans (ho.block g hg hr)
  · exact (old _ hzs (by omega) (hne _ (by omega))).trans hz

theorem list_end {w0 w2 : World} {R : Nat} {op : Int} {r : List UInt8} {l : List T} {L : Option Addr} {n c : Nat} {xs : List Value} (hl : LIn w2 (fun g => w0.heap.size + 1 ≤ g) L n c l xs) (hrd : IsRd w2 R (op + 1) r) (ho : Only [R] w0 w2) (hR : R < w0.heap.size) (d0 d1 d2 d3 : Value) :
    ReadPost (.mk 2 0 [] l) R op r w0 (.returned (.tuple #[.agg #[.int .i64 2, .int .i64 0, .slice none 0 0, .slice L n c], .int .i64 0])) (((((w2.setCell ⟨R, 1, none⟩ (.int .i64 op)).setCell ⟨w0.heap.size, 0, none⟩ d0).setCell ⟨w0.heap.size, 1, none⟩ d1).setCell ⟨w0.heap.size, 2, none⟩ d2).setCell ⟨w0.heap.size, 3, none⟩ d3) := by
  obtain ⟨A, na, ca, h1, h2⟩ := hrd
  have hA : Only [R] w2 (w2.setCell ⟨R, 1, none⟩ (.int .i64 op)) := (Only.refl _ _).setCell (.inl (by simp)) _
  have hB := put4_only (w2.setCell ⟨R, 1, none⟩ (.int .i64 op)) w0.heap.size d0 d1 d2 d3
  have hs : (w2.setCell ⟨R, 1, none⟩ (.int .i64 op)).heap.size = w2.heap.size := by simp [World.setCell]
  have hk : ∀ g, g < w2.heap.size → g ≠ R → g ≠ w0.heap.size → (put4 (w2.setCell ⟨R, 1, none⟩ (.int .i64 op)) w0.heap.size d0 d1 d2 d3).heap[g]? = w2.heap[g]? := fun g hg h h' => (hB.block g (by omega) (by simpa using h')).trans (hA.block g hg (by simpa using h))
  refine ⟨_, rfl, In.shut (BIn.none _ _) (hl.keep fun g hg hlt => ⟨hk g hlt (by omega) (by omega), by omega⟩), ?_, ?_⟩
  · exact ⟨A, na, ca, (h1.set_ 1 (.int .i64 op)).only hB (by simp; omega), h2.keep fun g hg hlt => ⟨hk g hlt (by omega) (by omega), hg⟩⟩
  · exact ((((ho.trans hA).setCell (.inr (Nat.le_refl _)) _).setCell (.inr (Nat.le_refl _)) _).setCell (.inr (Nat.le_refl _)) _).setCell (.inr (Nat.le_refl _)) _

set_option maxRecDepth 100000 in
set_option maxHeartbeats 1000000 in
theorem list_ok (w : World) (R : Nat) (op : Int) (l : List T) (r : List UInt8) (h : IsRd w R op (T.encAll l ++ 41 :: r)) (hs : ∀ t ∈ l, ReadSays t) (h0 : 0 ≤ op) (h8 : op + 1 + (T.depAll l : Int) ≤ 8) (hlen : (T.encAll l ++ 41 :: r).length ≤ 900000) (hl : l.length ≤ 1000000) :
    Calls Tryd.prog 42 #[.pointer (some ⟨R, 0, none⟩)] w (ReadPost (.mk 2 0 [] l) R op r w) := by
  have hR := h.lt
  have hd := h.below (below_new w (.cells #[.int .i64 0, .int .i64 0, .slice none 0 0, .slice none 0 0] 26))
  have HH := Lib.hid hs
  have HST := Lib.hid (list_start h)
  obtain ⟨A, n, c, hbk, hbb⟩ := hd
  have c1 := hbk.cell 1
  have f1 := hbk.frozen 1
  simp only [List.getElem?_cons_succ, List.getElem?_cons_zero] at c1
  have HL := Lib.hid (And.intro h8 hlen)
  have hop : op ≤ 7 := by omega
  have ho8 : (op == 8) = false := by rw [beq_eq_false_iff_ne]; omega
  obtain ⟨i1, hj, hy0, hy1, hy2⟩ := info_parts tinfo
  have HJ := Lib.hid (And.intro hj (And.intro hy0 (And.intro hy1 hy2)))
  clear h hs hbk hbb h8 hlen hj hy0 hy1 hy2
  go_enter Tryd.func42, Tryd.ntmps42
  go_wp2_with fail
  clear c1 f1
  go_loopw [4] (fun v wr => ListRel w R op r l v wr) (fun v _ => l.length - sliceN v)
  case atStart => exact HST.out
  case round =>
    clear HST
    obtain ⟨k, hk, ⟨ys, hown, hrow⟩, hrd, ho, hz⟩ := hrel
    have hsn := own_sliceN hown
    by_cases hkl : k < l.length
    · have hlk : l[k]? = some l[k] := List.getElem?_eq_getElem hkl
      have hmem : l[k] ∈ l := List.getElem_mem hkl
      have hdrop : l.drop k = l[k] :: l.drop (k + 1) := List.drop_eq_getElem_cons hkl
      generalize l[k] = t at hlk hmem hdrop
      rw [hdrop, T.encAll, List.append_assoc] at hrd
      obtain ⟨x, re, hxe, hx41⟩ := T.enc_head t
      have hx : (x.toNat : Int) ≠ 41 := fun e => hx41 (by apply UInt8.toNat_inj.1; have : ((41 : UInt8).toNat : Int) = 41 := rfl; omega)
      have htn := take_no wr R (op + 1) x (re ++ (T.encAll (l.drop (k + 1)) ++ 41 :: r)) (by rw [hxe] at hrd; exact hrd) 41 hx
      have hdep := T.dep_le hmem
      have hlen2 : (t.enc ++ (T.encAll (l.drop (k + 1)) ++ 41 :: r)).length ≤ 900000 := by
        have h1 := HL.out.2
        have h2 : T.encAll l = T.encAll (l.take k) ++ (t.enc ++ T.encAll (l.drop (k + 1))) := by
          have := T.encAll_take hlk
          have h3 : l = l.take k ++ l.drop k := (List.take_append_drop k l).symm
          conv => lhs; rw [h3, hdrop]
          rw [T.encAll_append, T.encAll]
        rw [h2] at h1
        simp only [List.length_append, List.length_cons] at h1 ⊢
        omega
      have hread := HH.out t hmem wr R (op + 1) (T.encAll (l.drop (k + 1)) ++ 41 :: r) (by omega) (by have := HL.out.1; omega) hrd hlen2
      have HO := Lib.hid (And.intro hown (And.intro hrow (And.intro ho (And.intro hz hlk))))
      have hws := ho.size
      have HSN := Lib.hid hsn
      clear hown hrow ho hz hlk hmem hdrop hrd hx hdep hlen2 hsn hxe hx41
      go_wp2_with fail
      refine htn.mono ?_
      rintro e w1 ⟨rfl, rfl⟩
      clear htn
      go_wp2_with fail
      refine hread.mono ?_
      rintro e w2 ⟨v2, rfl, hin2, hrd2, ho2⟩
      obtain ⟨k', n', b', l'⟩ := t
      obtain ⟨A2, nb2, cb2, L2, nl2, cl2, xs2, rfl, _, _⟩ := hin2.open_
      have hown2 : w2.ownsRow (w.heap.size + 1) 26 4 u4 k ys := ownsRow_only HO.out.1 ho2 (fun g hg => by have := (HO.out.1.lt g hg).1; simp; omega)
      have hs2 := ho2.size
      have hz2 := HO.out.2.2.2.1.lt
      have H2 := Lib.hid (And.intro hin2 (And.intro hrd2 (And.intro ho2 hown2)))
      clear hin2 hrd2 ho2 hown2 hread
      go_wp2_with (at_builtin; go_loud (refine wpList_append_new _ rfl (.tmp 34) (.tmp 36) 24 rfl (w.heap.size + 1) 26 i1 (.agg #[.int .i64 0, .int .i64 0, .slice none 0 0, .slice none 0 0]) 4 64 Tryd.underlying24 HJ.out.1 HJ.out.2.1 HJ.out.2.2.1 HJ.out.2.2.2 rfl (by decide) u4 k ys rfl ((H2.out.2.2.2.alloc _).alloc _) ⟨w2.heap.size + 1, 0, none⟩ 1 1 [.int .i64 k', .int .i64 n', .slice A2 nb2 cb2, .slice L2 nl2 cl2] ?_ ?_ ?_ ?_ ?_ ?_ ?_ ?_); all_goals first | with_reducible rfl | rfl | exact new_four' _ _ _ _ _ _ _ | exact H2.out.1.one | (unfold maxLen; omega) | omega | (simp; omega) | (intro v4 w4 ho4 hg4 hn4; have H4 := Lib.hid (And.intro ho4 (And.intro hg4 hn4)); clear ho4 hg4 hn4))
      go_roundw
      case rel => exact list_step hkl HO.out.2.2.2.2 hR HO.out.1 HO.out.2.1 HO.out.2.2.1 HO.out.2.2.2.1 H2.out.1 H2.out.2.1 H2.out.2.2.1 H4.out.1 H4.out.2.1 H4.out.2.2
      case measure => rw [own_sliceN H4.out.1, HSN.out]; omega
    · have hend : l.take k = l := List.take_of_length_le (by omega)
      have hlk : l.length = k := by omega
      rw [hend] at hrow
      rw [List.drop_of_length_le (by omega)] at hrd
      have hrd : IsRd wr R (op + 1) (41 :: r) := hrd
      have hrow2 := Row.keep (w' := wr) (Q' := fun g => w.heap.size + 1 ≤ g) _ _ hrow fun g hg _ => ⟨rfl, hg.1⟩
      obtain ⟨L3, c3, rfl, hlin⟩ := own_lin hown hlk hrow2 (fun g hg => (hown.lt g hg).1)
      have hty := take_yes wr R (op + 1) 41 r hrd 41 rfl
      have HO := Lib.hid (And.intro hlin (And.intro ho hz))
      clear hown hrow hrow2 hrd hlin ho hz hend hsn
      go_wp2_with fail
      refine hty.mono ?_
      clear hty
      rintro e w2 ⟨rfl, hrd2, ho2⟩
      have hrd3 := hrd2
      obtain ⟨A4, n4, c4, hbk, _⟩ := hrd3
      have e1 := hbk.cell 1
      have f1 := hbk.frozen 1
      simp only [List.getElem?_cons_succ, List.getElem?_cons_zero] at e1
      have hz2 := HO.out.2.2.only ho2 (by simp; omega)
      have z0 := hz2.cell 0
      have z1 := hz2.cell 1
      have z2 := hz2.cell 2
      have z3 := hz2.cell 3
      have y0 := hz2.frozen 0
      have y1 := hz2.frozen 1
      have y2 := hz2.frozen 2
      have y3 := hz2.frozen 3
      simp only [List.getElem?_cons_succ, List.getElem?_cons_zero] at z0 z1 z2 z3
      have hRD : R ≠ w.heap.size := by omega
      have H2 := Lib.hid (And.intro hrd2 (And.intro (HO.out.2.1.trans ho2) (HO.out.1.keep (w' := w2) (Q' := fun g => w.heap.size + 1 ≤ g) fun g hg hlt => ⟨ho2.block g hlt (by simp; omega), hg⟩)))
      clear hrd2 ho2 hbk hz2
      go_wp2_with fail
      refine bodyPost_ret (v := .tuple #[.agg #[.int .i64 2, .int .i64 0, .slice none 0 0, .slice L3 k c3], .int .i64 0]) (by simp [results, Tryd.results42, go_sem, z0, z1, z2, z3]) rfl ?_
      exact list_end H2.out.2.2 H2.out.1 H2.out.2.1 hR _ _ _ _

end Go.Proofs.YtodpojbgkeecnaaDoor
