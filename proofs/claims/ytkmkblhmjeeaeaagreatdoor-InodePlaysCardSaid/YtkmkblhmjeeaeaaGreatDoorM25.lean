/-
  noted: the node that a sector tells. Conditions: the sector and its blocks are a node's; none of its blocks is owned.
-/
import Derived.Test.YtkmkblhmjeeaeaaGreatDoorM23
import Derived.Test.YtkmkblhmjeeaeaaGreatDoorM12
import Derived.Test.YtkmkblhmjeeaeaaGreatDoorM24
import Derived.Test.YtkmkblhmjeeaeaaGreatDoorM13
import Derived.Test.YtkmkblhmjeeaeaaGreatDoorM16
section
set_option linter.unusedSimpArgs false
set_option linter.unusedVariables false
set_option maxRecDepth 100000
namespace Go.Proofs.YtkmkblhmjeeaeaaGreatDoor
open Go.RowKit Go.Maps

/-- Flags, some of them set. -/
def setsL (cs : List Value) (l : List Nat) : List Value := l.foldl (fun cs b => cs.set b (.bool true)) cs
theorem setsL_snoc (cs : List Value) (l : List Nat) (b : Nat) : setsL cs (l ++ [b]) = (setsL cs l).set b (.bool true) := by unfold setsL; rw [List.foldl_append]; rfl
theorem setsL_length : ∀ (l : List Nat) (cs : List Value), (setsL cs l).length = cs.length
  | [], _ => rfl
  | b :: l, cs => by
    show (setsL (cs.set b (.bool true)) l).length = _
    rw [setsL_length l, List.length_set]
theorem setsL_off : ∀ (l : List Nat) (cs : List Value) (i : Nat), i ∉ l → (setsL cs l)[i]? = cs[i]?
  | [], _, _, _ => rfl
  | b :: l, cs, i, h => by
    show (setsL (cs.set b (.bool true)) l)[i]? = _
    rw [setsL_off l _ i (fun hm => h (List.mem_cons_of_mem _ hm)), List.getElem?_set_ne (fun e => h (by rw [e]; exact List.mem_cons_self))]
section
variable {ks : List B32} {B D L G n j N K : Nat} {S : Nat → List B8} {c : Nat} {w w' : World}
theorem Lg.only {q : Nat} (h : Lg ks B D L G n j S c w) (ho : Only [q] w w') (hq : B ≤ q) (h1 : q ≠ D) (h2 : q ≠ L) (h3 : q ≠ G) (hC : ∀ o : Obj, w.heap[q]? = some o → o.isCells = true) : Lg ks B D L G n j S c w' := by
  obtain ⟨⟨cw, cf, dn, red, g1, g2, g3, h4, h5⟩, h6, h7, h8, h9⟩ := h
  have hs : Stp B [q] w w' := Stp.of_only ho h9 (by intro k hk; simp at hk; omega) (fun k hk => .inl hk) (by intro k hk; simp at hk; subst hk; exact hC)
  exact ⟨⟨cw, cf, dn, red, g1, g2, g3, h4.stp hs (by simpa using Ne.symm h1) (by simpa using Ne.symm h2), h5.only ho (by simpa using Ne.symm h3)⟩, h6.below hs.below h7, h7, h8, Nat.le_trans h9 hs.size⟩
end
theorem datas_bts (xs : List B8) (n : Nat) : Vb (datas xs (n + 1)) = Vb (datas xs n) ++ Vb (pad64 (piece xs n)) := by rw [datas_succ, Vb_append]
def blV (l : List Nat) : List Value := l.map fun (x : Nat) => Value.int .i64 (x : Int)
/-- Where noted stands. -/
structure NtAt (w : World) (G N K go : Nat) (cs : List Value) (h : Hd) (b3 b6 b11 : Nat) (q : Nat) (wr : World) : Prop where
  lay : Blk wr b3 77 [.pointer (some ⟨G, 0, none⟩), .int .i64 (N : Int)]
  res : Blk wr b6 98 [.int .i64 0, .int .i64 0, .int .i64 0, .int .i64 0, .slice none 0 0, .slice none 0 0]
  box : ∃ vD vB, Blk wr b11 98 [.int .i64 h.k, .int .i64 h.m, .int .i64 h.o, .int .i64 h.g, vD, vB] ∧ wr.ownsRow w.heap.size 5 1 vD (64 * q) (Vb (datas h.data q)) ∧ wr.ownsRow w.heap.size 3 1 vB q (blV (h.bl.take q))
  own : Blk wr go 4 (setsL cs (h.bl.take q))
  only : Only [go] w wr
  b3w : w.heap.size ≤ b3
  b6w : w.heap.size ≤ b6
  b11w : w.heap.size ≤ b11

/-- What is known ahead of a round's appends. -/
structure NtW (w W : World) (h : Hd) (b11 : Nat) (vD vB : Value) (q b : Nat) (P14 : Option Addr) (c14 : Nat) : Prop where
  box0 : Blk W b11 98 [.int .i64 h.k, .int .i64 h.m, .int .i64 h.o, .int .i64 h.g, vD, vB]
  oD : W.ownsRow w.heap.size 5 1 vD (64 * q) (Vb (datas h.data q))
  oB : W.ownsRow w.heap.size 3 1 vB q (blV (h.bl.take q))
  prt : Bts (fun _ => True) W (.slice P14 64 c14) (pad64 (piece h.data q))
  sz : w.heap.size ≤ W.heap.size
/-- How far a round's appends and stores have come. -/
def NtR (w W : World) (h : Hd) (b11 : Nat) (vD vB : Value) (q b : Nat) (p : Nat) (wx : World) : Prop := Only (vB.ownBlock.toList ++ (vD.ownBlock.toList ++ [b11])) W wx ∧ match p with
  | 0 => Only [] W wx
  | 1 => Only vB.ownBlock.toList W wx
  | 2 => Only (vB.ownBlock.toList ++ vD.ownBlock.toList) W wx
  | 3 => ∃ vB', Blk wx b11 98 [.int .i64 h.k, .int .i64 h.m, .int .i64 h.o, .int .i64 h.g, vD, vB'] ∧ wx.ownsRow w.heap.size 3 1 vB' (q + 1) (blV (h.bl.take q) ++ [.int .i64 (b : Int)])
  | _ => ∃ vD' vB', Blk wx b11 98 [.int .i64 h.k, .int .i64 h.m, .int .i64 h.o, .int .i64 h.g, vD', vB'] ∧ wx.ownsRow w.heap.size 3 1 vB' (q + 1) (blV (h.bl.take q) ++ [.int .i64 (b : Int)]) ∧ wx.ownsRow w.heap.size 5 1 vD' (64 * q + 64) (Vb (datas h.data q) ++ Vb (pad64 (piece h.data q)))
theorem own_mem {v : Value} {k : Nat} : k ∈ v.ownBlock.toList ↔ v.ownBlock = some k := by cases v.ownBlock <;> simp [eq_comm]
section
variable {w W wx w' : World} {h : Hd} {b11 : Nat} {vD vB : Value} {q b : Nat} {P14 : Option Addr} {c14 : Nat}
theorem NtW.bB (H : NtW w W h b11 vD vB q b P14 c14) {k : Nat} (hk : vB.ownBlock = some k) : k ≠ b11 ∧ k < W.heap.size ∧ vD.ownBlock ≠ some k ∧ ∃ cs, Blk W k 3 cs := by
  have hkb : ∃ cs, Blk W k 3 cs := by
    rcases H.oB.2 with ⟨rfl, _⟩ | ⟨g, cap, cur, rfl, _, hb, _⟩
    · cases hk
    · cases hk
      exact ⟨cur.toList, by simpa [Blk] using hb⟩
  obtain ⟨cs, hcs⟩ := hkb
  exact ⟨hcs.ne_ H.box0 (by decide), hcs.lt, own_blk_ne H.oD hcs (by decide), cs, hcs⟩
theorem NtW.bD (H : NtW w W h b11 vD vB q b P14 c14) {k : Nat} (hk : vD.ownBlock = some k) : k ≠ b11 ∧ k < W.heap.size ∧ vB.ownBlock ≠ some k ∧ ∃ cs, Blk W k 5 cs := by
  have hkb : ∃ cs, Blk W k 5 cs := by
    rcases H.oD.2 with ⟨rfl, _⟩ | ⟨g, cap, cur, rfl, _, hb, _⟩
    · cases hk
    · cases hk
      exact ⟨cur.toList, by simpa [Blk] using hb⟩
  obtain ⟨cs, hcs⟩ := hkb
  exact ⟨hcs.ne_ H.box0 (by decide), hcs.lt, own_blk_ne H.oB hcs (by decide), cs, hcs⟩
theorem NtR.below {p : Nat} (hR : NtR w W h b11 vD vB q b p wx) (hb : Below wx.heap.size wx w') : NtR w W h b11 vD vB q b p w' := by
  obtain ⟨h1, h2⟩ := hR
  refine ⟨h1.trans (Only.of_below hb), ?_⟩
  match p, h2 with
  | 0, h2 => exact Only.trans h2 (Only.of_below hb)
  | 1, h2 => exact Only.trans h2 (Only.of_below hb)
  | 2, h2 => exact Only.trans h2 (Only.of_below hb)
  | 3, h2 =>
    obtain ⟨vB', k1, k2⟩ := h2
    exact ⟨vB', k1.below hb k1.lt, own_below k2 hb⟩
  | p + 4, h2 =>
    obtain ⟨vD', vB', k1, k2, k3⟩ := h2
    exact ⟨vD', vB', k1.below hb k1.lt, own_below k2 hb, own_below k3 hb⟩
theorem NtW.box (H : NtW w W h b11 vD vB q b P14 c14) {p : Nat} (hR : NtR w W h b11 vD vB q b p wx) (hp : p ≤ 2) : Blk wx b11 98 [.int .i64 h.k, .int .i64 h.m, .int .i64 h.o, .int .i64 h.g, vD, vB] := by
  obtain ⟨_, h2⟩ := hR
  match p, hp, h2 with
  | 0, _, h2 => exact H.box0.only (show Only [] W wx from h2) (by simp)
  | 1, _, h2 => exact H.box0.only (show Only _ W wx from h2) (fun hm => (H.bB (own_mem.1 hm)).1 rfl)
  | 2, _, h2 =>
    refine H.box0.only (show Only _ W wx from h2) (fun hm => ?_)
    rcases List.mem_append.1 hm with hm | hm
    · exact (H.bB (own_mem.1 hm)).1 rfl
    · exact (H.bD (own_mem.1 hm)).1 rfl
theorem NtW.size (H : NtW w W h b11 vD vB q b P14 c14) {p : Nat} (hR : NtR w W h b11 vD vB q b p wx) : W.heap.size ≤ wx.heap.size := hR.1.size
theorem NtW.base (H : NtW w W h b11 vD vB q b P14 c14) {p : Nat} (hR : NtR w W h b11 vD vB q b p wx) : w.heap.size ≤ wx.heap.size := Nat.le_trans H.sz hR.1.size
theorem NtW.base1 (H : NtW w W h b11 vD vB q b P14 c14) {p : Nat} (hR : NtR w W h b11 vD vB q b p wx) : w.heap.size ≤ wx.heap.size := Nat.le_trans H.sz hR.1.size
theorem NtW.ints (H : NtW w W h b11 vD vB q b P14 c14) (hR : NtR w W h b11 vD vB q b 0 wx) : wx.ownsRow w.heap.size 3 1 vB q (blV (h.bl.take q)) := ownsRow_only H.oB (show Only [] W wx from hR.2) (fun k _ => by simp)
theorem NtW.byts (H : NtW w W h b11 vD vB q b P14 c14) (hR : NtR w W h b11 vD vB q b 1 wx) : wx.ownsRow w.heap.size 5 1 vD (64 * q) (Vb (datas h.data q)) := ownsRow_only H.oD (show Only _ W wx from hR.2) (fun k hk hm => (H.bB (own_mem.1 hm)).2.2.1 hk)
theorem NtW.part (H : NtW w W h b11 vD vB q b P14 c14) (hR : NtR w W h b11 vD vB q b 1 wx) : ∃ gp op, P14 = some ⟨gp, op, none⟩ ∧ ∀ (j : Nat) u, (Vb (pad64 (piece h.data q)))[j]? = some u → wx.cell? ⟨gp, op + j, none⟩ = some u := by
  have hb : Bts (fun _ => True) wx (.slice P14 64 c14) (pad64 (piece h.data q)) := by
    rcases H.prt with ⟨e, _⟩ | ⟨g, o, cap, t, cs, e, hA, hn, hb, hx, h1, h2⟩
    · cases e
    · refine .inr ⟨g, o, cap, t, cs, e, hA, hn, hb.only (show Only _ W wx from hR.2) (fun hm => ?_), hx, h1, h2⟩
      obtain ⟨_, _, _, cs', hcs⟩ := H.bB (own_mem.1 hm)
      have := (hb.same hcs).1
      rcases hn with rfl | rfl <;> exact absurd this (by decide)
  obtain ⟨g, o, h1, _, _, h2⟩ := hb.cells.2 (by omega)
  exact ⟨g, o, h1, h2⟩
theorem NtW.one (H : NtW w W h b11 vD vB q b P14 c14) (hR : NtR w W h b11 vD vB q b 0 wx) (ho : Only vB.ownBlock.toList wx w') : NtR w W h b11 vD vB q b 1 w' :=
  ⟨hR.1.trans (ho.mono (fun k hk _ => List.mem_append_left _ hk)), Only.trans (Only.mono (show Only [] W wx from hR.2) (fun k hk => by cases hk)) ho⟩
theorem NtW.two (H : NtW w W h b11 vD vB q b P14 c14) (hR : NtR w W h b11 vD vB q b 1 wx) (ho : Only vD.ownBlock.toList wx w') : NtR w W h b11 vD vB q b 2 w' :=
  ⟨hR.1.trans (ho.mono (fun k hk _ => List.mem_append_right _ (List.mem_append_left _ hk))), Only.trans (Only.mono (show Only _ W wx from hR.2) (fun k hk _ => List.mem_append_left _ hk)) (ho.mono (fun k hk _ => List.mem_append_right _ hk))⟩
theorem NtW.intsOff (H : NtW w W h b11 vD vB q b P14 c14) {g' n cap : Nat} (hR : NtR w W h b11 vD vB q b 0 wx) (hg : vB.ownBlock = some g' ∨ g' = wx.heap.size) : ∀ k, (Value.slice (some ⟨g', 0, none⟩) n cap).ownBlock = some k → k ∉ vD.ownBlock.toList ++ [b11] := by
  intro k hk hm
  have hk : g' = k := by simpa [Value.ownBlock] using hk
  subst hk
  have hs := hR.1.size
  have hb := H.box0.lt
  rcases hg with hg | hg
  · obtain ⟨h1, h2, h3, _⟩ := H.bB hg
    rcases List.mem_append.1 hm with hm | hm
    · exact h3 (own_mem.1 hm)
    · simp at hm; exact h1 hm
  · rcases List.mem_append.1 hm with hm | hm
    · have := (H.bD (own_mem.1 hm)).2.1; omega
    · simp at hm; omega
theorem NtW.bytsOff (H : NtW w W h b11 vD vB q b P14 c14) {g' n cap : Nat} (hR : NtR w W h b11 vD vB q b 1 wx) (hg : vD.ownBlock = some g' ∨ g' = wx.heap.size) : ∀ k, (Value.slice (some ⟨g', 0, none⟩) n cap).ownBlock = some k → k ∉ vB.ownBlock.toList ++ [b11] := by
  intro k hk hm
  have hk : g' = k := by simpa [Value.ownBlock] using hk
  subst hk
  have hs := hR.1.size
  have hb := H.box0.lt
  rcases hg with hg | hg
  · obtain ⟨h1, h2, h3, _⟩ := H.bD hg
    rcases List.mem_append.1 hm with hm | hm
    · exact h3 (own_mem.1 hm)
    · simp at hm; exact h1 hm
  · rcases List.mem_append.1 hm with hm | hm
    · have := (H.bB (own_mem.1 hm)).2.1; omega
    · simp at hm; omega
theorem NtW.three (H : NtW w W h b11 vD vB q b P14 c14) {u : Value} (hR : NtR w W h b11 vD vB q b 2 wx) (h1 : wx.ownsRow w.heap.size 3 1 u (q + 1) (blV (h.bl.take q) ++ [.int .i64 (b : Int)])) (h2 : ∀ k, u.ownBlock = some k → k ∉ vD.ownBlock.toList ++ [b11]) : NtR w W h b11 vD vB q b 3 (wx.setCells b11 5 [u]) :=
  ⟨hR.1.trans ((store_only wx b11 5 u).mono (fun k hk _ => List.mem_append_right _ (List.mem_append_right _ hk))), u, store_blk (H.box hR (Nat.le_refl 2)) (by simp), ownsRow_only h1 (store_only wx b11 5 u) (fun k hk hm => h2 k hk (List.mem_append_right _ hm))⟩
theorem NtW.four (H : NtW w W h b11 vD vB q b P14 c14) {u : Value} (hR : NtR w W h b11 vD vB q b 3 wx) (h1 : wx.ownsRow w.heap.size 5 1 u (64 * q + 64) (Vb (datas h.data q) ++ Vb (pad64 (piece h.data q)))) (h2 : ∀ k, u.ownBlock = some k → k ∉ vB.ownBlock.toList ++ [b11]) : NtR w W h b11 vD vB q b 4 (wx.setCells b11 4 [u]) := by
  obtain ⟨h3, vB', k1, k2⟩ := hR
  exact ⟨h3.trans ((store_only wx b11 4 u).mono (fun k hk _ => List.mem_append_right _ (List.mem_append_right _ hk))), u, vB', store_blk k1 (by simp), ownsRow_only k2 (store_only wx b11 4 u) (fun k hk hm => own_blk_ne k2 k1 (by decide) (by have : k = b11 := (by simpa using hm); rw [← this]; exact hk)), ownsRow_only h1 (store_only wx b11 4 u) (fun k hk hm => h2 k hk (List.mem_append_right _ hm))⟩
theorem NtW.off (H : NtW w W h b11 vD vB q b P14 c14) {g t : Nat} {cs : List Value} (hb : Blk W g t cs) (h1 : t ≠ 3) (h2 : t ≠ 5) (h3 : t ≠ 98) : g ∉ vB.ownBlock.toList ++ (vD.ownBlock.toList ++ [b11]) := by
  intro hm
  rcases List.mem_append.1 hm with hm | hm
  · obtain ⟨_, _, _, cs', hc⟩ := H.bB (own_mem.1 hm)
    exact h1 (hb.same hc).1
  · rcases List.mem_append.1 hm with hm | hm
    · obtain ⟨_, _, _, cs', hc⟩ := H.bD (own_mem.1 hm)
      exact h2 (hb.same hc).1
    · have e : g = b11 := by simpa using hm
      subst e
      exact h3 (hb.same H.box0).1
theorem NtW.low (H : NtW w W h b11 vD vB q b P14 c14) (hb : w.heap.size ≤ b11) {k : Nat} (hm : k ∈ vB.ownBlock.toList ++ (vD.ownBlock.toList ++ [b11])) : w.heap.size ≤ k := by
  rcases List.mem_append.1 hm with hm | hm
  · exact (H.oB.lt k (own_mem.1 hm)).1
  · rcases List.mem_append.1 hm with hm | hm
    · exact (H.oD.lt k (own_mem.1 hm)).1
    · have e : k = b11 := by simpa using hm
      omega
theorem only_more {S T : List Nat} {a b c : World} (h : Only S a b) (k : Only T b c) (hT : ∀ q ∈ T, a.heap.size ≤ q) : Only S a c :=
  ⟨k.os.trans h.os, k.tape.trans h.tape, k.output.trans h.output, Nat.le_trans h.size k.size, fun i hi hs => (k.block i (Nat.lt_of_lt_of_le hi h.size) (fun hm => by have := hT i hm; omega)).trans (h.block i hi hs)⟩
theorem own_bts_take {w : World} {N n m : Nat} {v : Value} {xs : List B8} (h : w.ownsRow N 5 1 v n (Vb xs)) (hm : m ≤ n) : ∃ P c, v = .slice P n c ∧ Bts (fun q => N ≤ q) w (.slice P m c) (xs.take m) ∧ n ≤ c ∧ c ≤ maxLen ∧ (P = none → n = 0 ∧ c = 0) := by
  have hl : xs.length = n := by have := h.1; rw [Vb_length] at this; omega
  rcases h.2 with ⟨rfl, rfl⟩ | ⟨g, cap, cur, rfl, h1, h2, h3, h4, h5, h6⟩
  · obtain rfl : m = 0 := by omega
    exact ⟨none, 0, rfl, .inl ⟨rfl, List.take_zero⟩, Nat.le_refl _, by decide, fun _ => ⟨rfl, rfl⟩⟩
  · refine ⟨_, cap, rfl, Bts.of_blk (cs := cur.toList) (by simpa [Blk] using h2) (.inl rfl) h1 ?_ (by rw [List.length_take]; omega) (by omega) h4, h3, h4, fun e => by cases e⟩
    rw [List.drop_zero, List.length_take, Nat.min_eq_left (by omega), ← Vb_take, ← h6, List.take_take, Nat.min_eq_left (by omega)]
theorem own_ns {w : World} {N : Nat} {v : Value} {l : List Nat} (h : w.ownsRow N 3 1 v l.length (blV l)) : Ns (fun q => N ≤ q) w v l := by
  rcases h.2 with ⟨rfl, h0⟩ | ⟨g, cap, cur, rfl, h1, h2, h3, h4, h5, h6⟩
  · exact .inl ⟨rfl, List.eq_nil_of_length_eq_zero h0⟩
  · refine .inr ⟨g, cap, cur.toList, rfl, h1, by simpa [Blk] using h2, ?_, h3, h4⟩
    rw [Nat.mul_one] at h6
    exact h6
theorem not_BK_held : ¬ BK 98 := fun h => by rcases h with h | h <;> exact absurd h (by decide)
theorem Ns.far_ne {A : Nat → Prop} {w : World} {v : Value} {xs : List Nat} {g0 o0 t0 : Nat} {cs0 : List Value} (h : Ns A w v xs) (hb : Blk w g0 t0 cs0) (ht : 3 ≠ t0) (u : Value) : Ns A (w.setCell ⟨g0, o0, none⟩ u) v xs := by
  rcases h with h | ⟨g, cap, cs, e, hA, hk, h1, h2, h3⟩
  · exact .inl h
  · exact .inr ⟨g, cap, cs, e, hA, hk.far (p := ⟨g0, o0, none⟩) (hk.ne_ hb ht) u, h1, h2, h3⟩
theorem Ns.only_ne {A : Nat → Prop} {w w' : World} {v : Value} {xs : List Nat} {g0 t0 : Nat} {cs0 : List Value} (h : Ns A w v xs) (hO : Only [g0] w w') (hb : Blk w g0 t0 cs0) (ht : 3 ≠ t0) : Ns A w' v xs := by
  rcases h with h | ⟨g, cap, cs, e, hA, hk, h1, h2, h3⟩
  · exact .inl h
  · exact .inr ⟨g, cap, cs, e, hA, hk.only hO (by simpa using hk.ne_ hb ht), h1, h2, h3⟩
theorem held_size : (Tryz.prog.info? 98).map (·.size) = some 6 := by kernel_rfl
theorem held_cells (k m o g : Int) (P : Option Addr) (n c : Nat) (Q : Option Addr) (l d : Nat) : ∀ u ∈ [Value.int .i64 k, .int .i64 m, .int .i64 o, .int .i64 g, .slice P n c, .slice Q l d], u.oneCell' = true := by
  intro u hu
  simp only [List.mem_cons, List.not_mem_nil, or_false] at hu
  rcases hu with rfl | rfl | rfl | rfl | rfl | rfl <;> rfl
theorem six_cells {w : World} {b : Nat} {t : TypeId} {x0 x1 x2 x3 x4 x5 : Value} (h : Blk w b t [x0, x1, x2, x3, x4, x5]) : w.cell? ⟨b, 0, none⟩ = some x0 ∧ w.cell? ⟨b, 1, none⟩ = some x1 ∧ w.cell? ⟨b, 2, none⟩ = some x2 ∧ w.cell? ⟨b, 3, none⟩ = some x3 ∧ w.cell? ⟨b, 4, none⟩ = some x4 ∧ w.cell? ⟨b, 5, none⟩ = some x5 :=
  ⟨h.cell 0, h.cell 1, h.cell 2, h.cell 3, h.cell 4, h.cell 5⟩
theorem NtW.xs (H : NtW w W h b11 vD vB q b P14 c14) {k j : Nat} (hm : j ∈ (if k = 4 then vB.ownBlock.toList else if k = 9 then vD.ownBlock.toList else if k = 11 ∨ k = 14 then [b11] else [])) : j < W.heap.size := by
  split at hm
  · exact (H.bB (own_mem.1 hm)).2.1
  · split at hm
    · exact (H.bD (own_mem.1 hm)).2.1
    · split at hm
      · simp at hm; have := H.box0.lt; omega
      · cases hm
theorem NtW.x4 (H : NtW w W h b11 vD vB q b P14 c14) {k j : Nat} (hk : k ≠ 4) (hm : j ∈ (if k = 4 then vB.ownBlock.toList else if k = 9 then vD.ownBlock.toList else if k = 11 ∨ k = 14 then [b11] else [])) : j ∈ vD.ownBlock.toList ++ [b11] := by
  rw [if_neg hk] at hm
  split at hm
  · exact List.mem_append_left _ hm
  · split at hm
    · exact List.mem_append_right _ hm
    · cases hm
theorem NtW.x9 (H : NtW w W h b11 vD vB q b P14 c14) {k j : Nat} (hk : k ≠ 9) (hm : j ∈ (if k = 4 then vB.ownBlock.toList else if k = 9 then vD.ownBlock.toList else if k = 11 ∨ k = 14 then [b11] else [])) : j ∈ vB.ownBlock.toList ++ [b11] := by
  by_cases h4 : k = 4
  · rw [if_pos h4] at hm
    exact List.mem_append_left _ hm
  · rw [if_neg h4, if_neg hk] at hm
    split at hm
    · exact List.mem_append_right _ hm
    · cases hm
end

set_option maxRecDepth 100000 in
set_option maxHeartbeats 8000000 in
theorem noted_held {ks : List B32} {B D L G n j N K : Nat} {S : Nat → List B8} {c : Nat} {w : World} (hL : Lg ks B D L G n j S c w) (hg : Geo n j N K) {h : Hd} (hok : chk h.k h.m h.o h.g = 0) (hd5 : h.data.length ≤ 512) (hbl : h.bl.length = blks h.data.length) (hnd : h.bl.Nodup) (hlt : ∀ b ∈ h.bl, b < K)
    (hblk : ∀ q, q < blks h.data.length → dvj j S (1 + N + h.bl.getD q 0) = pad64 (piece h.data q)) {A : Nat → Prop} {g o cb : Nat} (hb : Bts A w (.slice (some ⟨g, o, none⟩) 64 cb) (noteN h)) (hcb : 64 ≤ cb) (hcm : cb ≤ 9223372036854775807)
    {go co : Nat} {cs : List Value} (ho : Blk w go 4 cs) (hgo : B ≤ go ∧ go ≠ D ∧ go ≠ L ∧ go ≠ G) (hcs : K ≤ cs.length) (hfree : ∀ b ∈ h.bl, cs[b]? = some (.bool false)) (hco : K ≤ co) :
    Calls Tryz.prog 70 #[lay G N, .slice (some ⟨g, o, none⟩) 64 cb, .slice (some ⟨go, 0, none⟩) K co] w fun e w' => ∃ x, e = .returned (.tuple #[hval x, .int .i64 0]) ∧ HIn (fun q => w.heap.size ≤ q) w' x h ∧ Blk w' go 4 (setsL cs h.bl) ∧ Only [go] w w' := by
  obtain ⟨sz, hsz⟩ : ∃ sz, h.data.length = sz := ⟨_, rfl⟩
  obtain ⟨nb, hnb⟩ : ∃ nb, blks sz = nb := ⟨_, rfl⟩
  have hsz5 : sz ≤ 512 := by omega
  have hnb8 : nb ≤ 8 := by rw [← hnb]; exact blks_8 hsz5
  obtain ⟨num, hnum⟩ : ∃ num : Nat, numS h.k h.m h.o h.g = (num : Int) := ⟨(numS h.k h.m h.o h.g).toNat, by
    obtain ⟨⟨a0, a1⟩, ⟨b0, b1⟩, ⟨c0, c1⟩, d0, d1⟩ := chk_zero hok
    unfold numS
    omega⟩
  have hnumB := numS_numB hok
  have hback := numS_back hok
  have hns : num < 256 ^ 8 := by
    obtain ⟨⟨a0, a1⟩, ⟨b0, b1⟩, ⟨c0, c1⟩, d0, d1⟩ := chk_zero hok
    unfold numS at hnum
    omega
  have hnm : num ≤ 9223372036854775807 := by
    obtain ⟨⟨a0, a1⟩, ⟨b0, b1⟩, ⟨c0, c1⟩, d0, d1⟩ := chk_zero hok
    unfold numS at hnum
    omega
  rw [hnum] at hnumB hback
  obtain ⟨r1, r2, r3, r4⟩ := hback
  have hf8 : fromB (sub (noteN h) 1 8) = num := by rw [noteN_stat, hnum, Int.toNat_natCast]; exact fromB_big_ 8 num hns
  have hf4 : fromB (sub (noteN h) 9 4) = sz := by rw [noteN_size, hsz]; exact fromB_big_ 4 sz (by omega)
  have s8 := hb.sub_ (k := 1) (n := 8) (c' := cb - 1) (by omega) (by omega) (by omega)
  have s4 := hb.sub_ (k := 9) (n := 4) (c' := cb - 9) (by omega) (by omega) (by omega)
  have HN8 : Hid (∀ w', Below w.heap.size w w' → Calls Tryz.prog 68 #[.slice (some ⟨g, o + 1, none⟩) 8 (cb - 1)] w' fun e w'' => e = .returned (.int .u64 (num : Int)) ∧ w' = w'') := Lib.hid fun w' hw' => by
    have := fromBytes_any w' A _ 8 (cb - 1) (sub (noteN h) 1 8) (s8.below hw') (by omega)
    rwa [hf8] at this
  have HN4 : Hid (∀ w', Below w.heap.size w w' → Calls Tryz.prog 68 #[.slice (some ⟨g, o + 9, none⟩) 4 (cb - 9)] w' fun e w'' => e = .returned (.int .u64 (sz : Int)) ∧ w' = w'') := Lib.hid fun w' hw' => by
    have := fromBytes_any w' A _ 4 (cb - 9) (sub (noteN h) 9 4) (s4.below hw') (by omega)
    rwa [hf4] at this
  have HOF : Hid (∀ w', Calls Tryz.prog 103 #[.int .i64 (num : Int)] w' fun e w'' => e = .returned (.tuple #[stv h.k h.m h.o h.g, .int .i64 0]) ∧ Below w'.heap.size w' w'') := Lib.hid fun w' => by
    have := numOf_yes w' num hnumB
    rwa [r1, r2, r3, r4] at this
  have hb1 := new_below w (.cells #[.pointer (some ⟨G, 0, none⟩), .int .i64 (N : Int)] 77)
  have hb2 := below_of hb1 (new_below (w.alloc (.cells #[.pointer (some ⟨G, 0, none⟩), .int .i64 (N : Int)] 77)) (.cells #[.int .i64 0, .int .i64 0, .int .i64 0, .int .i64 0, .slice none 0 0, .slice none 0 0] 98))
  have H0 := Lib.hid (And.intro hL (And.intro hg (And.intro hb (And.intro ho (And.intro hblk (And.intro hbl (And.intro hnd (And.intro hlt hfree))))))))
  have H1 := Lib.hid hb2
  have HZ := Lib.hid (And.intro hsz hnb)
  have HQ := Lib.hid (And.intro hok hgo)
  clear hL hg hb ho hblk hbl hnd hlt hfree hb1 hb2 hsz hnb hok hgo hnum hnumB r1 r2 r3 r4 hns hf8 hf4 s8 s4 hd5
  go_enter Tryz.func70, Tryz.ntmps70
  go_wp2_with ((go_at_call 68; refine (HN8.out _ H1.out).mono ?_; rintro e w' ⟨rfl, rfl⟩))
  refine (HOF.out _).mono ?_
  rintro e w3 ⟨rfl, hW⟩
  have H3 := Lib.hid (below_of H1.out hW)
  have hl1 := (Blk.new w 77 [.pointer (some ⟨G, 0, none⟩), .int .i64 (N : Int)]).alloc (.cells #[.int .i64 0, .int .i64 0, .int .i64 0, .int .i64 0, .slice none 0 0, .slice none 0 0] 98)
  have hl2 := Blk.new (w.alloc (.cells #[.pointer (some ⟨G, 0, none⟩), .int .i64 (N : Int)] 77)) 98 [.int .i64 0, .int .i64 0, .int .i64 0, .int .i64 0, .slice none 0 0, .slice none 0 0]
  rw [World.size_alloc] at hl2
  have hb4 := new_below w3 (.cells #[.int .i64 h.k, .int .i64 h.m, .int .i64 h.o, .int .i64 h.g] 39)
  have hs3 := hW.size
  have H4 := Lib.hid (And.intro ((hl1.below hW hl1.lt).below hb4 (hl1.below hW hl1.lt).lt) (And.intro ((hl2.below hW hl2.lt).below hb4 (hl2.below hW hl2.lt).lt) (And.intro (below_of H3.out hb4) (Blk.new w3 39 [.int .i64 h.k, .int .i64 h.m, .int .i64 h.o, .int .i64 h.g]))))
  clear hl1 hl2 hb4 hW
  go_wp2_with fail
  refine (HN4.out _ H4.out.2.2.1).mono ?_
  rintro e w' ⟨rfl, rfl⟩
  obtain ⟨w4, hw4⟩ : ∃ w4, w3.alloc (.cells #[.int .i64 h.k, .int .i64 h.m, .int .i64 h.o, .int .i64 h.g] 39) = w4 := ⟨_, rfl⟩
  rw [show w3.alloc (.cells [Value.int .i64 h.k, .int .i64 h.m, .int .i64 h.o, .int .i64 h.g].toArray 39) = w4 from hw4] at H4
  rw [hw4]
  clear hw4
  have e0 : w4.cell? ⟨w3.heap.size, 0, none⟩ = some (.int .i64 h.k) := H4.out.2.2.2.cell 0
  have e1 : w4.cell? ⟨w3.heap.size, 1, none⟩ = some (.int .i64 h.m) := H4.out.2.2.2.cell 1
  have e2 : w4.cell? ⟨w3.heap.size, 2, none⟩ = some (.int .i64 h.o) := H4.out.2.2.2.cell 2
  have e3 : w4.cell? ⟨w3.heap.size, 3, none⟩ = some (.int .i64 h.g) := H4.out.2.2.2.cell 3
  have hs4 := H4.out.2.2.1.size
  go_wp2_with ((go_at_call 38; refine (iblocks_any _ sz (by omega)).mono ?_; rintro e w' ⟨rfl, rfl⟩; rw [HZ.out.2]))
  have hb5 := new_below w4 (.cells #[.int .i64 h.k, .int .i64 h.m, .int .i64 h.o, .int .i64 h.g, .slice none 0 0, .slice none 0 0] 98)
  have h11 := Blk.new w4 98 [.int .i64 h.k, .int .i64 h.m, .int .i64 h.o, .int .i64 h.g, .slice none 0 0, .slice none 0 0]
  have HNT : Hid (NtAt w G N K go cs h w.heap.size (w.heap.size + 1) w4.heap.size 0 (w4.alloc (.cells #[.int .i64 h.k, .int .i64 h.m, .int .i64 h.o, .int .i64 h.g, .slice none 0 0, .slice none 0 0] 98))) := Lib.hid
    ⟨H4.out.1.below hb5 H4.out.1.lt, H4.out.2.1.below hb5 H4.out.2.1.lt, ⟨_, _, h11, World.ownsRow_nil _ _ _ _, World.ownsRow_nil _ _ _ _⟩, H0.out.2.2.2.1.below (below_of H4.out.2.2.1 hb5) H0.out.2.2.2.1.lt, Only.of_below (below_of H4.out.2.2.1 hb5), Nat.le_refl _, Nat.le_succ _, hs4⟩
  clear hb5 h11 e0 e1 e2 e3
  go_loopw [40] (fun cv wr => ∃ q : Nat, q ≤ nb ∧ cv = .int .i64 q ∧ NtAt w G N K go cs h w.heap.size (w.heap.size + 1) w4.heap.size q wr) (fun cv _ => nb - (intOf cv).toNat)
  case atStart => exact ⟨0, Nat.zero_le _, rfl, HNT.out⟩
  case round =>
    clear HNT
    obtain ⟨q, hqn, rfl, hnt⟩ := hrel
    have hnt7 := hnt
    have HN := Lib.hid hnt
    have hsr := hnt.only.size
    by_cases hlt : q < nb
    · obtain ⟨vD, vB, hbox, hoD, hoB⟩ := hnt.box
      obtain ⟨b, hbq⟩ : ∃ b, h.bl[q]? = some b := ⟨_, List.getElem?_eq_getElem (by have := H0.out.2.2.2.2.2.1; rw [HZ.out.1, HZ.out.2] at this; omega)⟩
      have hbm := List.mem_of_getElem? hbq
      have hbK := H0.out.2.2.2.2.2.2.2.1 b hbm
      have hbn : b ∉ h.bl.take q := by
        intro hm
        obtain ⟨i, hi⟩ := List.getElem?_of_mem hm
        rw [List.getElem?_take] at hi
        split at hi
        · have := (List.getElem?_inj (List.getElem?_eq_some_iff.1 hi).1 H0.out.2.2.2.2.2.2.1).1 (hi.trans hbq.symm)
          omega
        · cases hi
      have hflag : wr.cell? ⟨go, b, none⟩ = some (.bool false) := by
        rw [hnt.own.cell, setsL_off _ _ _ hbn]
        exact H0.out.2.2.2.2.2.2.2.2 b hbm
      have hfz : wr.frozen? ⟨go, b, none⟩ = false := hnt.own.frozen b
      have hbw := H0.out.2.2.1.only_ne hnt.only H0.out.2.2.2.1 not_BK_bool
      have s4 := hbw.sub_ (k := 13 + q * 4) (n := 4) (c' := cb - (13 + q * 4)) (by omega) (by omega) (by omega)
      have hf : fromB (sub (noteN h) (13 + q * 4) 4) = b := by
        rw [show 13 + q * 4 = 13 + 4 * q by omega, noteN_bl hbq]
        exact fromB_big_ 4 b (by have := H0.out.2.1.n1; have := H0.out.2.1.nn; omega)
      have HNB := fromBytes_any wr A _ 4 (cb - (13 + q * 4)) (sub (noteN h) (13 + q * 4) 4) s4 (by omega)
      rw [hf] at HNB
      have HNB := Lib.hid HNB
      have hK4 : K ≤ 4096 := by have := H0.out.2.1.n1; have := H0.out.2.1.nn; omega
      have hN6 : N ≤ 1000000 := by have := H0.out.2.1.N1; omega
      have HBQ := Lib.hid (And.intro hbq (And.intro hbm (And.intro hbox (And.intro hoD hoB))))
      clear hbq hbm hbn hbw s4 hf hbox hoD hoB hnt
      go_wp2_with ((go_at_call 68; refine HNB.out.mono ?_; rintro e w' ⟨rfl, rfl⟩))
      have hso := store_only wr go b (.bool true)
      have how := hnt7.own.set_ b (.bool true)
      rw [← setsL_snoc] at how
      have htk : h.bl.take q ++ [b] = h.bl.take (q + 1) := by rw [List.take_add_one, HBQ.out.1]; rfl
      rw [htk] at how
      have hon : Only [go] w (wr.setCell ⟨go, b, none⟩ (.bool true)) := hnt7.only.setCell (.inl (by simp)) _
      have hne3 := hnt7.own.ne_ hnt7.lay (by decide)
      have hne6 := hnt7.own.ne_ hnt7.res (by decide)
      have hne11 := hnt7.own.ne_ HBQ.out.2.2.1 (by decide)
      have hsw : (wr.setCell ⟨go, b, none⟩ (.bool true)).heap.size = wr.heap.size := by simp [World.setCell]
      have HS := Lib.hid (And.intro (hnt7.lay.far (p := ⟨go, b, none⟩) (Ne.symm hne3) (.bool true)) (And.intro (hnt7.res.far (p := ⟨go, b, none⟩) (Ne.symm hne6) (.bool true)) (And.intro (HBQ.out.2.2.1.far (p := ⟨go, b, none⟩) (Ne.symm hne11) (.bool true)) (And.intro how (And.intro hon (And.intro (ownsRow_set (g := go) (o := b) (u := .bool true) HBQ.out.2.2.2.1 (own_blk_ne HBQ.out.2.2.2.1 hnt7.own (by decide))) (ownsRow_set (g := go) (o := b) (u := .bool true) HBQ.out.2.2.2.2 (own_blk_ne HBQ.out.2.2.2.2 hnt7.own (by decide)))))))))
      have HLG := Lib.hid (And.intro (H0.out.1.only hon HQ.out.2.1 HQ.out.2.2.1 HQ.out.2.2.2.1 HQ.out.2.2.2.2 (fun o ho => blk_cells H0.out.2.2.2.1 ho)) (And.intro H0.out.2.1 (show dvj j S (1 + N + b) = pad64 (piece h.data q) from by
        have := H0.out.2.2.2.2.1 q (by rw [HZ.out.1, HZ.out.2]; exact hlt)
        rwa [List.getD_eq_getElem?_getD, HBQ.out.1] at this)))
      obtain ⟨w7, hw7⟩ : ∃ w7, wr.setCell ⟨go, b, none⟩ (.bool true) = w7 := ⟨_, rfl⟩
      rw [hw7] at HS HLG hsw ⊢
      have l0 := HS.out.1.cell 0
      have l1 := HS.out.1.cell 1
      simp only [List.getElem?_cons_zero, List.getElem?_cons_succ] at l0 l1
      clear hw7 hso how htk hon hne3 hne6 hne11 hnt7 hflag hfz
      refine wp_hideQ ?_
      intro QQ hQQ
      refine wp_region_quick [some 66, some 67, some 68, some 69, some 70, some 71, some 65, some 72, some 73, some 14, some 15] [isV (.pointer (some ⟨w.heap.size, 0, none⟩)), isV (.pointer (some ⟨G, 0, none⟩)), isV (lay G N), isV (.int .i64 (b : Int)), isV (.int .i64 ((1 + N + b : Nat) : Int)), rdV w7.heap.size (pad64 (piece h.data q)), rdV w7.heap.size (pad64 (piece h.data q)), btsV w7.heap.size 64 (pad64 (piece h.data q)), isV (.int .i64 0), btsV w7.heap.size 64 (pad64 (piece h.data q)), isV (.int .i64 0)] 11 (by kernel_rfl) rfl rfl rfl (by kernel_rfl) (by simp [isV.st, rdV.st, btsV.st]) ?_ ?_
      · intro hq i hi
        match i, hi with
        | 0, _ =>
          refine StepL.val rfl [] (by decide +kernel) ?_
          intro v wx hR hd
          exact ⟨wanted_plain rfl _, _, _, x_field rfl (fill_off rfl rfl) (r_field (off := 0) (by kernel_rfl)), hR, Below.refl _ _, rfl⟩
        | 1, _ =>
          refine StepL.val rfl [0] (by decide +kernel) ?_
          intro v wx hR hd
          have h0 : v 0 = _ := hd 0 (by simp)
          exact ⟨wanted_plain rfl _, _, _, x_load rfl (hq.at_ rfl h0) (r_load (by kernel_rfl) (cell_below l0 hR)), hR, Below.refl _ _, rfl⟩
        | 2, _ =>
          refine StepL.val rfl [] (by decide +kernel) ?_
          intro v wx hR hd
          exact ⟨wanted_plain rfl _, xe_ex (x_load rfl (fill_off rfl rfl) (r_loadR (cs := [.pointer (some ⟨G, 0, none⟩), .int .i64 (N : Int)]) (by kernel_rfl) (range_two (cell_below l0 hR) (cell_below l1 hR)))) ⟨hR, Below.refl _ _, rfl⟩⟩
        | 3, _ =>
          refine StepL.val rfl [] (by decide +kernel) ?_
          intro v wx hR hd
          exact ⟨wanted_plain rfl _, _, _, x_move rfl (fill_off rfl rfl), hR, Below.refl _ _, rfl⟩
        | 4, _ =>
          refine StepL.call rfl [2, 3] (by decide +kernel) ?_
          intro v wx hR hd
          have h2 : v 2 = _ := hd 2 (by simp)
          have h3 : v 3 = _ := hd 3 (by simp)
          refine ⟨wanted_plain rfl _, 61, _, _, x_call rfl rfl (args_2 (hq.at_ rfl h2) (hq.at_ rfl h3)) (by kernel_rfl) rfl, ?_⟩
          refine (blockAt_any b (by omega) hN6).mono ?_
          rintro e w' ⟨rfl, hW⟩
          exact ⟨_, rfl, hR.trans (hW.mono hR.size), hW, rfl⟩
        | 5, _ =>
          refine StepL.call rfl [1, 4] (by decide +kernel) ?_
          intro v wx hR hd
          have h1 : v 1 = _ := hd 1 (by simp)
          have h4 : v 4 = _ := hd 4 (by simp)
          refine ⟨wanted_plain rfl _, 32, _, _, x_call rfl rfl (args_2 (hq.at_ rfl h1) (hq.at_ rfl h4)) (by kernel_rfl) rfl, ?_⟩
          refine (lg_read (HLG.out.1.below hR) HLG.out.2.1 (1 + N + b) (by omega)).mono ?_
          rintro e w' ⟨P, q', rfl, hB, hW⟩
          rw [HLG.out.2.2] at hB
          exact ⟨_, rfl, hR.trans (hW.mono hR.size), hW, P, q', rfl, hB.mono (fun g hg _ => Nat.le_trans hR.size hg)⟩
        | 6, _ =>
          refine StepL.val rfl [5] (by decide +kernel) ?_
          intro v wx hR hd
          obtain ⟨P5, c5, h5, hb5⟩ : rdV w7.heap.size (pad64 (piece h.data q)) (v 5) wx := hd 5 (by simp)
          exact ⟨wanted_plain rfl _, xe_ex (x_move rfl (hq.at_ rfl h5)) ⟨hR, Below.refl _ _, P5, c5, rfl, hb5⟩⟩
        | 7, _ =>
          refine StepL.val rfl [6] (by decide +kernel) ?_
          intro v wx hR hd
          obtain ⟨P6, c6, h6, hb6⟩ : rdV w7.heap.size (pad64 (piece h.data q)) (v 6) wx := hd 6 (by simp)
          exact ⟨wanted_plain rfl _, xe_ex (x_extract rfl (hq.at_ rfl h6) rfl) ⟨hR, Below.refl _ _, P6, c6, rfl, hb6⟩⟩
        | 8, _ =>
          refine StepL.val rfl [6] (by decide +kernel) ?_
          intro v wx hR hd
          obtain ⟨P6, c6, h6, hb6⟩ : rdV w7.heap.size (pad64 (piece h.data q)) (v 6) wx := hd 6 (by simp)
          exact ⟨wanted_plain rfl _, xe_ex (x_extract rfl (hq.at_ rfl h6) rfl) ⟨hR, Below.refl _ _, rfl⟩⟩
        | 9, _ =>
          refine StepL.val rfl [7] (by decide +kernel) ?_
          intro v wx hR hd
          obtain ⟨P7, c7, h7, hb7⟩ : btsV w7.heap.size 64 (pad64 (piece h.data q)) (v 7) wx := hd 7 (by simp)
          exact ⟨wanted_plain rfl _, xe_ex (x_assign rfl (hq.at_ rfl h7)) ⟨hR, Below.refl _ _, P7, c7, rfl, hb7⟩⟩
        | 10, _ =>
          refine StepL.val rfl [8] (by decide +kernel) ?_
          intro v wx hR hd
          have h8 : v 8 = _ := hd 8 (by simp)
          exact ⟨wanted_plain rfl _, _, _, x_assign rfl (hq.at_ rfl h8), hR, Below.refl _ _, rfl⟩
        | i + 11, h => omega
      · intro v wx hR hV
        obtain ⟨P14, c14, h9, hb14⟩ : btsV w7.heap.size 64 (pad64 (piece h.data q)) (v 9) wx := hV 9 (by omega)
        have h10 : v 10 = _ := hV 10 (by omega)
        have HRA : NtW w wx h w4.heap.size vD vB q b P14 c14 := ⟨HS.out.2.2.1.below hR HS.out.2.2.1.lt, own_below HS.out.2.2.2.2.2.1 hR, own_below HS.out.2.2.2.2.2.2 hR, hb14.mono (fun _ _ _ => trivial), by have := hR.size; omega⟩
        have HX := Lib.hid (And.intro HRA hR)
        have hszx : w.heap.size ≤ wx.heap.size := HRA.sz
        clear hV hR hb14
        simp only [fillR, Act.put, List.setIfInBounds_toArray, List.set_cons_zero, List.set_cons_succ, h9, h10]
        go_wp2_with fail
        refine wp_hideQ ?_
        intro QQ hQQ
        refine wp_region_chainQ [4, 9, 11, 14] [some 78, some 79, some 80, some 81, some 82, some 83, some 84, some 85, some 86, some 87, some 88, none, some 89, some 90, none] [isV (.pointer (some ⟨w4.heap.size, 5, none⟩)), isV vB, isV (.int .i64 (b : Int)), oneRowX wx.heap.size (.int .i64 (b : Int)), ownW w.heap.size 3 (q + 1) (blV (h.bl.take q) ++ [Value.int .i64 (b : Int)]) (vD.ownBlock.toList ++ [w4.heap.size]), isV (.pointer (some ⟨w4.heap.size, 0, none⟩)), isV (.pointer (some ⟨w4.heap.size, 4, none⟩)), isV vD, isV (.slice P14 64 c14), ownW w.heap.size 5 (64 * q + 64) (Vb (datas h.data q) ++ Vb (pad64 (piece h.data q))) (vB.ownBlock.toList ++ [w4.heap.size]), isV (.pointer (some ⟨w4.heap.size, 5, none⟩)), isV undef, isV (.pointer (some ⟨w4.heap.size, 0, none⟩)), isV (.pointer (some ⟨w4.heap.size, 4, none⟩)), isV undef] (fun k => if k = 4 then vB.ownBlock.toList else if k = 9 then vD.ownBlock.toList else if k = 11 ∨ k = 14 then [w4.heap.size] else []) (NtR w wx h w4.heap.size vD vB q b) 15 (by kernel_rfl) rfl rfl rfl (by kernel_rfl) (by kernel_rfl) ⟨(Only.refl _ _).drew, (Only.refl _ _).drew⟩ ?_ ?_ ?_
        · intro i k v wy wz hki hv ho
          match i, hv with
          | 0, hv => exact hv
          | 1, hv => exact hv
          | 2, hv => exact hv
          | 3, hv =>
            obtain ⟨p3, h3, hp3, hk3⟩ : oneRowX wx.heap.size (.int .i64 (b : Int)) (v 3) wy := hv
            exact ⟨p3, h3, hp3, hk3.only ho (fun hm => by have := HRA.xs hm; omega)⟩
          | 4, hv =>
            have hv : ownW w.heap.size 3 (q + 1) (blV (h.bl.take q) ++ [Value.int .i64 (b : Int)]) (vD.ownBlock.toList ++ [w4.heap.size]) (v 4) wy := hv
            exact hv.only ho (fun j hj _ => HRA.x4 hki hj)
          | 5, hv => exact hv
          | 6, hv => exact hv
          | 7, hv => exact hv
          | 8, hv => exact hv
          | 9, hv =>
            have hv : ownW w.heap.size 5 (64 * q + 64) (Vb (datas h.data q) ++ Vb (pad64 (piece h.data q))) (vB.ownBlock.toList ++ [w4.heap.size]) (v 9) wy := hv
            exact hv.only ho (fun j hj _ => HRA.x9 hki hj)
          | 10, hv => exact hv
          | 11, hv => exact hv
          | 12, hv => exact hv
          | 13, hv => exact hv
          | 14, hv => exact hv
          | i + 15, hv => exact trivial
        · intro hq i hi
          match i, hi with
          | 0, _ =>
            refine StepP.val rfl rfl [] (by decide +kernel) ?_
            intro p hhi hlo v wy hR hd
            exact ⟨wanted_plain rfl _, _, _, x_field rfl (fill_off rfl rfl) (r_field (off := 5) (by kernel_rfl)), hR, Only.refl _ _, rfl⟩
          | 1, _ =>
            refine StepP.val rfl rfl [0] (by decide +kernel) ?_
            intro p hhi hlo v wy hR hd
            have h0 : v 0 = _ := hd 0 (by simp)
            exact ⟨wanted_plain rfl _, _, _, x_load rfl (hq.at_ rfl h0) (r_load (by kernel_rfl) ((HRA.box hR (Nat.le_trans (hhi 0 4 rfl (by decide +kernel)) (by omega))).cell 5)), hR, Only.refl _ _, rfl⟩
          | 2, _ =>
            refine StepP.val rfl rfl [] (by decide +kernel) ?_
            intro p hhi hlo v wy hR hd
            exact ⟨wanted_plain rfl _, _, _, x_move rfl (fill_off rfl rfl), hR, Only.refl _ _, rfl⟩
          | 3, _ =>
            refine StepP.val rfl rfl [2] (by decide +kernel) ?_
            intro p hhi hlo v wy hR hd
            have h2 : v 2 = _ := hd 2 (by simp)
            obtain rfl : p = 0 := by have := hhi 0 4 rfl (by decide +kernel); omega
            have hb := new_below wy (.cells #[.int .i64 (b : Int)] 3)
            exact ⟨wanted_plain rfl _, xe_ex (x_slice rfl (pairs_1 (hq.at_ rfl h2)) (slice_int wy _)) ⟨hR.below hb, Only.of_below hb, _, rfl, HRA.size hR, Blk.new wy 3 [.int .i64 (b : Int)]⟩⟩
          | 4, _ =>
            refine StepP.cval 0 rfl rfl rfl [1, 3] (by decide +kernel) ?_
            intro v wy hR hd
            have h1 : v 1 = _ := hd 1 (by simp)
            obtain ⟨p3, h3, hp3, hk3⟩ : oneRowX wx.heap.size (.int .i64 (b : Int)) (v 3) wy := hd 3 (by simp)
            refine ⟨wanted_plain rfl _, xe_app_own rfl Tryz.underlying60 (show (Tryz.prog.info? 3).map (fun i => (i.zero, i.size, i.bytes)) = some (some (.int .i64 0), 1, 8) by kernel_rfl) rfl (by omega) (hq.at_ rfl h1) (HRA.ints hR) (hq.at_ rfl h3) [.int .i64 (b : Int)] rfl (fun j u hu => by rw [Nat.zero_add, hk3.cell]; exact hu) (by intro u hu; simp at hu; subst hu; rfl) (by omega) (by omega) (by omega) (HRA.base hR) ?_⟩
            intro g' cap w' g1 g2 g3
            exact ⟨HRA.one hR g2, g2, g1, fun k hk => HRA.intsOff hR g3 k hk⟩
          | 5, _ =>
            refine StepP.val rfl rfl [] (by decide +kernel) ?_
            intro p hhi hlo v wy hR hd
            exact ⟨wanted_plain rfl _, _, _, x_field rfl (fill_off rfl rfl) (r_field (off := 0) (by kernel_rfl)), hR, Only.refl _ _, rfl⟩
          | 6, _ =>
            refine StepP.val rfl rfl [5] (by decide +kernel) ?_
            intro p hhi hlo v wy hR hd
            have h5 : v 5 = _ := hd 5 (by simp)
            exact ⟨wanted_plain rfl _, _, _, x_field rfl (hq.at_ rfl h5) (r_field (off := 4) (by kernel_rfl)), hR, Only.refl _ _, rfl⟩
          | 7, _ =>
            refine StepP.val rfl rfl [6] (by decide +kernel) ?_
            intro p hhi hlo v wy hR hd
            have h6 : v 6 = _ := hd 6 (by simp)
            exact ⟨wanted_plain rfl _, _, _, x_load rfl (hq.at_ rfl h6) (r_load (by kernel_rfl) ((HRA.box hR (Nat.le_trans (hhi 1 9 rfl (by decide +kernel)) (by omega))).cell 4)), hR, Only.refl _ _, rfl⟩
          | 8, _ =>
            refine StepP.val rfl rfl [] (by decide +kernel) ?_
            intro p hhi hlo v wy hR hd
            exact ⟨wanted_plain rfl _, _, _, x_move rfl (fill_off rfl rfl), hR, Only.refl _ _, rfl⟩
          | 9, _ =>
            refine StepP.cval 1 rfl rfl rfl [7, 8] (by decide +kernel) ?_
            intro v wy hR hd
            have h7 : v 7 = _ := hd 7 (by simp)
            have h8 : v 8 = _ := hd 8 (by simp)
            obtain ⟨gp, op, rfl, hcp⟩ := HRA.part hR
            refine ⟨wanted_plain rfl _, xe_app_own rfl Tryz.underlying40 (show (Tryz.prog.info? 5).map (fun i => (i.zero, i.size, i.bytes)) = some (some (.int .u8 0), 1, 1) by kernel_rfl) rfl (by omega) (hq.at_ rfl h7) (HRA.byts hR) (hq.at_ rfl h8) (Vb (pad64 (piece h.data q))) (by rw [Vb_length, pad64_length (piece_length _ _)]) hcp (Vb_oneCell _) (by omega) (by omega) (by omega) (HRA.base1 hR) ?_⟩
            intro g' cap w' g1 g2 g3
            exact ⟨HRA.two hR g2, g2, g1, fun k hk => HRA.bytsOff hR g3 k hk⟩
          | 10, _ =>
            refine StepP.val rfl rfl [] (by decide +kernel) ?_
            intro p hhi hlo v wy hR hd
            exact ⟨wanted_plain rfl _, _, _, x_field rfl (fill_off rfl rfl) (r_field (off := 5) (by kernel_rfl)), hR, Only.refl _ _, rfl⟩
          | 11, _ =>
            refine StepP.cskip 2 rfl rfl rfl [10, 4] (by decide +kernel) ?_
            intro v wy hR hd
            have h10 : v 10 = _ := hd 10 (by simp)
            obtain ⟨h4a, h4b⟩ : ownW w.heap.size 3 (q + 1) (blV (h.bl.take q) ++ [Value.int .i64 (b : Int)]) (vD.ownBlock.toList ++ [w4.heap.size]) (v 4) wy := hd 4 (by simp)
            obtain ⟨P4, c4, h4⟩ := own_slice h4a
            have hk := HRA.box hR (Nat.le_refl 2)
            exact ⟨wanted_plain rfl _, _, x_store rfl (hq.at_ rfl h10) (hq.at_ rfl rfl) (r_store1 (v := v 4) (by kernel_rfl) (by rw [h4]; rfl) (by rw [h4]; rfl) hk (by simp)), HRA.three hR h4a h4b, store_only _ _ _ _, rfl⟩
          | 12, _ =>
            refine StepP.val rfl rfl [] (by decide +kernel) ?_
            intro p hhi hlo v wy hR hd
            exact ⟨wanted_plain rfl _, _, _, x_field rfl (fill_off rfl rfl) (r_field (off := 0) (by kernel_rfl)), hR, Only.refl _ _, rfl⟩
          | 13, _ =>
            refine StepP.val rfl rfl [12] (by decide +kernel) ?_
            intro p hhi hlo v wy hR hd
            have h12 : v 12 = _ := hd 12 (by simp)
            exact ⟨wanted_plain rfl _, _, _, x_field rfl (hq.at_ rfl h12) (r_field (off := 4) (by kernel_rfl)), hR, Only.refl _ _, rfl⟩
          | 14, _ =>
            refine StepP.cskip 3 rfl rfl rfl [13, 9] (by decide +kernel) ?_
            intro v wy hR hd
            have h13 : v 13 = _ := hd 13 (by simp)
            obtain ⟨h9a, h9b⟩ : ownW w.heap.size 5 (64 * q + 64) (Vb (datas h.data q) ++ Vb (pad64 (piece h.data q))) (vB.ownBlock.toList ++ [w4.heap.size]) (v 9) wy := hd 9 (by simp)
            obtain ⟨P9, c9, h9⟩ := own_slice h9a
            obtain ⟨vB', hk, _⟩ := hR.2
            exact ⟨wanted_plain rfl _, _, x_store rfl (hq.at_ rfl h13) (hq.at_ rfl rfl) (r_store1 (v := v 9) (by kernel_rfl) (by rw [h9]; rfl) (by rw [h9]; rfl) hk (by simp)), HRA.four hR h9a h9b, store_only _ _ _ _, rfl⟩
          | i + 15, h => omega
        · intro v wy hR hV
          obtain ⟨hO, vD', vB', k1, k2, k3⟩ := hR
          have HY := Lib.hid (And.intro hO (And.intro k1 (And.intro k2 k3)))
          clear hV hO k1 k2 k3
          simp only [fillR, Act.put, List.setIfInBounds_toArray, List.set_cons_zero, List.set_cons_succ]
          go_wp2_with fail
          go_roundw
          case rel =>
            obtain ⟨hO, k1, k2, k3⟩ := HY.out
            obtain ⟨hRA, hRx⟩ := HX.out
            obtain ⟨s1, s2, s3, s4, s5, s6, s7⟩ := HS.out
            have s1 := s1.below hRx s1.lt
            have s2 := s2.below hRx s2.lt
            have s4 := s4.below hRx s4.lt
            have htk : h.bl.take q ++ [b] = h.bl.take (q + 1) := by rw [List.take_add_one, HBQ.out.1]; rfl
            refine ⟨q + 1, by omega, by go_num, s1.only hO (hRA.off s1 (by decide) (by decide) (by decide)), ?_, ⟨vD', vB', k1, ?_, ?_⟩, s4.only hO (hRA.off s4 (by decide) (by decide) (by decide)), only_more (s5.trans (Only.of_below hRx)) hO (fun k hk => hRA.low hs4 hk), Nat.le_refl _, Nat.le_succ _, hs4⟩
            · refine s2.only hO (fun hm => ?_)
              rcases List.mem_append.1 hm with hm | hm
              · obtain ⟨_, _, _, cs', hc⟩ := hRA.bB (own_mem.1 hm)
                exact absurd (s2.same hc).1 (by decide)
              · rcases List.mem_append.1 hm with hm | hm
                · obtain ⟨_, _, _, cs', hc⟩ := hRA.bD (own_mem.1 hm)
                  exact absurd (s2.same hc).1 (by decide)
                · simp at hm; have := H4.out.2.1.lt; omega
            · rw [datas_bts, show 64 * (q + 1) = 64 * q + 64 by omega]
              exact k3
            · rw [← htk]
              have e : blV (h.bl.take q ++ [b]) = blV (h.bl.take q) ++ [Value.int .i64 (b : Int)] := by unfold blV; rw [List.map_append]; rfl
              rw [e]
              exact k2
          case measure => simp [intOf]; omega
    · obtain rfl : q = nb := by omega
      obtain ⟨vD, vB, hbox, hoD, hoB⟩ := hnt.box
      have hl5 : sz ≤ 64 * q := by have := HZ.out.2; unfold blks at this; omega
      obtain ⟨PD, cD, rfl, hBD, hD1, hD2, hD3⟩ := own_bts_take hoD hl5
      obtain ⟨PB, cB, rfl⟩ := own_slice hoB
      have hblq : h.bl.length = q := by have := H0.out.2.2.2.2.2.1; rw [HZ.out.1, HZ.out.2] at this; exact this
      have hwh : (datas h.data q).take sz = h.data := by rw [← HZ.out.2, ← HZ.out.1]; exact datas_whole h.data
      rw [hwh] at hBD
      rw [List.take_of_length_le (by omega)] at hoB
      have hNs := own_ns (l := h.bl) (by rw [hblq]; exact hoB)
      have e0 : wr.cell? ⟨w4.heap.size, 0, none⟩ = some (.int .i64 h.k) := hbox.cell 0
      have e1 : wr.cell? ⟨w4.heap.size, 1, none⟩ = some (.int .i64 h.m) := hbox.cell 1
      have e2 : wr.cell? ⟨w4.heap.size, 2, none⟩ = some (.int .i64 h.o) := hbox.cell 2
      have e3 : wr.cell? ⟨w4.heap.size, 3, none⟩ = some (.int .i64 h.g) := hbox.cell 3
      have e4 : wr.cell? ⟨w4.heap.size, 4, none⟩ = some (.slice PD (64 * q) cD) := hbox.cell 4
      have e5 : wr.cell? ⟨w4.heap.size, 5, none⟩ = some (.slice PB q cB) := hbox.cell 5
      have f4 : wr.frozen? ⟨w4.heap.size, 4, none⟩ = false := hbox.frozen 4
      unfold maxLen at hD2
      have hbw := (H0.out.2.2.1.only_ne hnt.only H0.out.2.2.2.1 not_BK_bool).far_ne (o0 := 4) hbox not_BK_held (.slice PD sz cD)
      have hx8 : HIn (fun q => w.heap.size ≤ q) (wr.setCell ⟨w4.heap.size, 4, none⟩ (.slice PD sz cD)) ⟨h.k, h.m, h.o, h.g, PD, sz, cD, PB, q, cB⟩ h :=
        ⟨rfl, rfl, rfl, rfl, hBD.far_ne hbox not_BK_held _, by rw [← hblq] at hNs ⊢; exact hNs.far_ne hbox (by decide) _⟩
      have hk8 := hbox.set_ 4 (.slice PD sz cD)
      simp only [List.set_cons_zero, List.set_cons_succ] at hk8
      have hr8 := hnt.res.far (p := ⟨w4.heap.size, 4, none⟩) (by have := H4.out.2.1.lt; show w.heap.size + 1 ≠ w4.heap.size; omega) (.slice PD sz cD)
      have hg8 := hnt.own.far (p := ⟨w4.heap.size, 4, none⟩) (hnt.own.ne_ hbox (by decide)) (.slice PD sz cD)
      have ho8 : Only [go] w (wr.setCell ⟨w4.heap.size, 4, none⟩ (.slice PD sz cD)) := hnt.only.setCell (.inr hs4) _
      have hs8 : (wr.setCell ⟨w4.heap.size, 4, none⟩ (.slice PD sz cD)).heap.size = wr.heap.size := by simp [World.setCell]
      have H8 := Lib.hid (And.intro hbw (And.intro hx8 (And.intro hk8 (And.intro hr8 (And.intro hg8 ho8)))))
      obtain ⟨k0, k1, k2, k3, k4, k5⟩ := six_cells hk8
      have HNO := Lib.hid (note_held _ _ ⟨h.k, h.m, h.o, h.g, PD, sz, cD, PB, q, cB⟩ h hx8 HQ.out.1 (by have := HZ.out.1; omega) (by omega) (fun b hb => by have := H0.out.2.2.2.2.2.2.2.1 b hb; have := H0.out.2.1.n1; have := H0.out.2.1.nn; omega))
      have hq4 : (64 * (q : Int)) ≤ 9223372036854775807 := by omega
      clear hbw hx8 hk8 hr8 hg8 ho8 hbox hoD hoB hBD hNs hnt hnt7 hwh hblq
      have hpd : PD = none ∧ sz = 0 ∧ cD = 0 ∧ q = 0 ∨ ∃ pa, PD = some pa := by
        cases PD with
        | none => obtain ⟨h1, h2⟩ := hD3 rfl; exact .inl ⟨rfl, by omega, h2, by omega⟩
        | some pa => exact .inr ⟨pa, rfl⟩
      clear hD3
      obtain ⟨w8, hw8⟩ : ∃ w8, wr.setCell ⟨w4.heap.size, 4, none⟩ (.slice PD sz cD) = w8 := ⟨_, rfl⟩
      have HW8 := Lib.hid hw8
      rw [hw8] at H8 HNO hs8 k0 k1 k2 k3 k4 k5
      clear hw8
      rcases hpd with ⟨rfl, rfl, rfl, rfl⟩ | ⟨pa, rfl⟩
      · go_wp2_with fail
        rw [HW8.out]
        refine HNO.out.mono ?_
        rintro e w9 ⟨gn, rfl, hgn, hkn, hW⟩
        have hk9 := H8.out.2.2.1.below hW H8.out.2.2.1.lt
        obtain ⟨k0, k1, k2, k3, k4, k5⟩ := six_cells hk9
        have H9 := Lib.hid (And.intro (equal_bts (H8.out.1.below hW) (Bts.whole hkn (.inl rfl) (A := fun _ => True) trivial (noteN_length (by have := H0.out.2.2.2.2.2.1; rw [HZ.out.1, HZ.out.2] at this; omega)) (by omega)) (b := true) (by simp)) (And.intro (H8.out.2.2.2.1.below hW H8.out.2.2.2.1.lt) hW))
        clear hk9 hkn hW hgn
        go_wp2_with (first
          | (go_at_call 45; refine H9.out.1.mono ?_; rintro e w' ⟨rfl, rfl⟩)
          | (refine wpList_store_blk rfl 98 (.tmp 6) (.tmp 105) rfl (w.heap.size + 1) 0 [.int .i64 h.k, .int .i64 h.m, .int .i64 h.o, .int .i64 h.g, .slice none 0 0, .slice PB 0 cB] rfl rfl H9.out.2.1 (by simp) held_size (held_cells _ _ _ _ _ _ _ _ _ _) ?_; intro w10 hA10 hO10))
        rw [over_whole (by simp)] at hA10
        obtain ⟨d0, d1, d2, d3, d4, d5⟩ := six_cells hA10
        have hlt1 := H4.out.2.1.lt
        have hb10 : Below w.heap.size w9 w10 := hO10.below (by have := H9.out.2.2.size; omega) (by intro j hj; simp at hj; omega)
        refine bodyPost_ret (v := .tuple #[hval ⟨h.k, h.m, h.o, h.g, none, 0, 0, PB, 0, cB⟩, .int .i64 0]) (by simp [results, Tryz.results70, go_sem, d0, d1, d2, d3, d4, d5]) rfl ⟨_, rfl, ?_, ?_, ?_⟩
        · exact ⟨rfl, rfl, rfl, rfl, (H8.out.2.1.data.below H9.out.2.2).only_ne hO10 H9.out.2.1 not_BK_held, (H8.out.2.1.bl.below H9.out.2.2).only_ne hO10 H9.out.2.1 (by decide)⟩
        · have h1 := H8.out.2.2.2.2.1
          rw [List.take_of_length_le (by have := H0.out.2.2.2.2.2.1; rw [HZ.out.1, HZ.out.2] at this; omega)] at h1
          exact (h1.below H9.out.2.2 h1.lt).only hO10 (by have := H0.out.2.2.2.1.lt; simp; omega)
        · exact only_more (H8.out.2.2.2.2.2.trans (Only.of_below H9.out.2.2)) hO10 (by intro j hj; simp at hj; omega)
      · go_wp2_with fail
        rw [HW8.out]
        refine HNO.out.mono ?_
        rintro e w9 ⟨gn, rfl, hgn, hkn, hW⟩
        have hk9 := H8.out.2.2.1.below hW H8.out.2.2.1.lt
        obtain ⟨k0, k1, k2, k3, k4, k5⟩ := six_cells hk9
        have H9 := Lib.hid (And.intro (equal_bts (H8.out.1.below hW) (Bts.whole hkn (.inl rfl) (A := fun _ => True) trivial (noteN_length (by have := H0.out.2.2.2.2.2.1; rw [HZ.out.1, HZ.out.2] at this; omega)) (by omega)) (b := true) (by simp)) (And.intro (H8.out.2.2.2.1.below hW H8.out.2.2.2.1.lt) hW))
        clear hk9 hkn hW hgn
        go_wp2_with (first
          | (go_at_call 45; refine H9.out.1.mono ?_; rintro e w' ⟨rfl, rfl⟩)
          | (refine wpList_store_blk rfl 98 (.tmp 6) (.tmp 105) rfl (w.heap.size + 1) 0 [.int .i64 h.k, .int .i64 h.m, .int .i64 h.o, .int .i64 h.g, .slice (some pa) sz cD, .slice PB q cB] rfl rfl H9.out.2.1 (by simp) held_size (held_cells _ _ _ _ _ _ _ _ _ _) ?_; intro w10 hA10 hO10))
        rw [over_whole (by simp)] at hA10
        obtain ⟨d0, d1, d2, d3, d4, d5⟩ := six_cells hA10
        have hlt1 := H4.out.2.1.lt
        have hb10 : Below w.heap.size w9 w10 := hO10.below (by have := H9.out.2.2.size; omega) (by intro j hj; simp at hj; omega)
        refine bodyPost_ret (v := .tuple #[hval ⟨h.k, h.m, h.o, h.g, (some pa), sz, cD, PB, q, cB⟩, .int .i64 0]) (by simp [results, Tryz.results70, go_sem, d0, d1, d2, d3, d4, d5]) rfl ⟨_, rfl, ?_, ?_, ?_⟩
        · exact ⟨rfl, rfl, rfl, rfl, (H8.out.2.1.data.below H9.out.2.2).only_ne hO10 H9.out.2.1 not_BK_held, (H8.out.2.1.bl.below H9.out.2.2).only_ne hO10 H9.out.2.1 (by decide)⟩
        · have h1 := H8.out.2.2.2.2.1
          rw [List.take_of_length_le (by have := H0.out.2.2.2.2.2.1; rw [HZ.out.1, HZ.out.2] at this; omega)] at h1
          exact (h1.below H9.out.2.2 h1.lt).only hO10 (by have := H0.out.2.2.2.1.lt; simp; omega)
        · exact only_more (H8.out.2.2.2.2.2.trans (Only.of_below H9.out.2.2)) hO10 (by intro j hj; simp at hj; omega)
end Go.Proofs.YtkmkblhmjeeaeaaGreatDoor
end

/-
  load: the nodes that a log has. Conditions: the log is at rest, and has the nodes.
-/

section
set_option linter.unusedSimpArgs false
set_option linter.unusedVariables false
set_option maxRecDepth 100000
namespace Go.Proofs.YtkmkblhmjeeaeaaGreatDoor
open Go.RowKit Go.Maps

section
variable {P : Program} {ρ : Operand → Value} {o : Oper} {w w' : World}
theorem x_map {t : TypeId} (ho : o.op = .makeMap t none) : (execOp ρ o).run P w = .ok (.value (.map (some w.heap.size))) (w.alloc (.map #[] 0)) :=
  x_of (s := Instr.makeMap t none) (by unfold execOp; rw [ho]; rfl) (run_makeMap t w)
theorem x_mkslice {t : TypeId} {x y : Operand} {a b z : Value} (ho : o.op = .makeSlice t x y) (hx : ρ x = a) (hy : ρ y = b) (hr : (Instr.makeSlice t a b).run P w = .ok z w') : (execOp ρ o).run P w = .ok (.value z) w' :=
  x_of (by unfold execOp; rw [ho]; simp only [hx, hy]) hr
end
def mapV (b0 : Nat) : Value → World → Prop := fun u w => ∃ M, u = .map (some M) ∧ b0 ≤ M ∧ MapIs w M 0 (fun _ => none)
theorem mapV.st (b0 : Nat) : StV (mapV b0) := fun _ _ _ ⟨M, h1, h2, h3⟩ hb => ⟨M, h1, h2, h3.below hb⟩
def boolsV (b0 K : Nat) : Value → World → Prop := fun u w => ∃ g, u = .slice (some ⟨g, 0, none⟩) K K ∧ b0 ≤ g ∧ Blk w g 4 (bools (List.replicate K false))
theorem boolsV.st (b0 K : Nat) : StV (boolsV b0 K) := fun _ _ _ ⟨g, h1, h2, h3⟩ hb => ⟨g, h1, h2, h3.below hb h3.lt⟩
/-- The first so many nodes. -/
def restr (f : Tab) (i : Nat) : Tab := fun j => if j < i then f j else none
theorem restr_none {f : Tab} {i : Nat} (h : f i = none) : restr f (i + 1) = restr f i := by
  funext j
  show (if j < i + 1 then f j else none) = (if j < i then f j else none)
  by_cases hj : j < i
  · rw [if_pos hj, if_pos (by omega)]
  · by_cases he : j = i
    · subst he; rw [if_pos (by omega), if_neg hj, h]
    · rw [if_neg hj, if_neg (by omega)]
theorem restr_some {f : Tab} {i : Nat} {h : Hd} (hf : f i = some h) : restr f (i + 1) = tset (restr f i) i (some h) := by
  funext j
  show (if j < i + 1 then f j else none) = (if j = i then some h else if j < i then f j else none)
  by_cases he : j = i
  · subst he; rw [if_pos (by omega), if_pos rfl, hf]
  · rw [if_neg he]
    by_cases hj : j < i
    · rw [if_pos hj, if_pos (by omega)]
    · rw [if_neg hj, if_neg (by omega)]
theorem restr_all {f : Tab} {N K : Nat} (hw : Wf f N K) : restr f N = f := by
  funext j
  unfold restr
  by_cases hj : j < N
  · rw [if_pos hj]
  · rw [if_neg hj, hw.out j (by omega)]
theorem setsL_at : ∀ (l : List Nat) (cs : List Value) (b : Nat), b < cs.length → (setsL cs l)[b]? = if b ∈ l then some (.bool true) else cs[b]?
  | [], _, _, _ => by simp [setsL]
  | x :: l, cs, b, hb => by
    show (setsL (cs.set x (.bool true)) l)[b]? = _
    rw [setsL_at l _ b (by rw [List.length_set]; exact hb)]
    by_cases h1 : b ∈ l
    · rw [if_pos h1, if_pos (List.mem_cons_of_mem _ h1)]
    · rw [if_neg h1]
      by_cases h2 : b = x
      · subst h2
        rw [if_pos List.mem_cons_self, List.getElem?_set_self hb]
      · rw [if_neg (by intro hm; rcases List.mem_cons.1 hm with h | h; exact h2 h; exact h1 h), List.getElem?_set_ne (Ne.symm h2)]
theorem ownB_succ (f : Tab) (i b : Nat) : ownB f (i + 1) b = (ownB f i b || match f i with | some h => h.bl.contains b | none => false) := by
  unfold ownB
  rw [List.range_succ, List.any_append, List.any_cons, List.any_nil, Bool.or_false]
  rfl
theorem note_zero (h : Hd) : noteN h ≠ zeros64 := by
  intro e
  have := congrArg List.head? e
  unfold noteN pad64 zeros64 at this
  simp at this
theorem bts_cap {A : Nat → Prop} {w : World} {P : Option Addr} {n c : Nat} {xs : List B8} (h : Bts A w (.slice P n c) xs) : n ≤ c ∧ c ≤ 9223372036854775807 := by
  have hl := h.cells.1
  obtain ⟨P', c', e, h1, h2⟩ := h.form
  injection e with e1 e2 e3
  omega
/-- Where load stands. -/
structure LdAt (w : World) (G N K go M : Nat) (f : Tab) (i : Nat) (wr : World) : Prop where
  lay : Blk wr w.heap.size 77 [.pointer (some ⟨G, 0, none⟩), .int .i64 (N : Int)]
  tab : TabIn (fun q => w.heap.size ≤ q ∧ q ≠ go) wr M i (restr f i)
  own : ∃ cs, Blk wr go 4 cs ∧ cs.length = K ∧ ∀ b, b < K → cs[b]? = some (.bool (ownB f i b))
  bel : Below w.heap.size w wr

set_option maxRecDepth 100000 in
set_option maxHeartbeats 8000000 in
theorem load_any {ks : List B32} {B D L G n j N K : Nat} {S : Nat → List B8} {c : Nat} {w : World} (hL : Lg ks B D L G n j S c w) (hg : Geo n j N K) {f : Tab} (hod : OnDisk N (dvj j S) f) (hw : Wf f N K) :
    Calls Tryz.prog 35 #[lay G N] w fun e w' => ∃ M, e = .returned (.tuple #[.map (some M), .int .i64 0]) ∧ w.heap.size ≤ M ∧ TabIn (fun q => w.heap.size ≤ q) w' M N f ∧ Below w.heap.size w w' := by
  have hK4 : K ≤ 4096 := by have := hg.n1; have := hg.nn; omega
  have hN4 : N ≤ 400 := hg.N1
  have hdl := hL.lt
  have hlB := hL.base
  have hLs := hL.size
  have H0 := Lib.hid (And.intro hL (And.intro hg (And.intro hod hw)))
  have hb1 := new_below w (.cells #[.pointer (some ⟨G, 0, none⟩), .int .i64 (N : Int)] 77)
  have hk1 := Blk.new w 77 [.pointer (some ⟨G, 0, none⟩), .int .i64 (N : Int)]
  obtain ⟨l0, l1⟩ := blk_pair hk1
  have H1 := Lib.hid hb1
  have HK := Lib.hid hk1
  clear hL hg hod hw hb1 hk1
  go_enter Tryz.func35, Tryz.ntmps35
  go_wp2_with fail
  obtain ⟨w1, hw1⟩ : ∃ w1, w.alloc (.cells #[.pointer (some ⟨G, 0, none⟩), .int .i64 (N : Int)] 77) = w1 := ⟨_, rfl⟩
  rw [show w.alloc (.cells [Value.pointer (some ⟨G, 0, none⟩), .int .i64 (N : Int)].toArray 77) = w1 from hw1] at l0 l1 HK
  rw [hw1] at H1 ⊢
  clear hw1
  refine wp_hideQ ?_
  intro QQ hQQ
  refine wp_region_quick [some 10, some 11, some 12, some 13, some 4, some 5] [mapV w1.heap.size, isV (lay G N), isV (.int .i64 (K : Int)), boolsV w1.heap.size K, mapV w1.heap.size, boolsV w1.heap.size K] 6 (by kernel_rfl) rfl rfl rfl (by kernel_rfl) (by simp [isV.st, mapV.st, boolsV.st]) ?_ ?_
  · intro hq rz hz
    match rz, hz with
    | 0, _ =>
      refine StepL.val rfl [] (by decide +kernel) ?_
      intro v wx hR hd
      have hb := new_below wx (.map #[] 0)
      exact ⟨wanted_plain rfl _, xe_ex (x_map rfl) ⟨hR.trans (hb.mono hR.size), hb, _, rfl, hR.size, MapIs.made wx⟩⟩
    | 1, _ =>
      refine StepL.val rfl [] (by decide +kernel) ?_
      intro v wx hR hd
      exact ⟨wanted_plain rfl _, xe_ex (x_load rfl (fill_off rfl rfl) (r_loadR (cs := [.pointer (some ⟨G, 0, none⟩), .int .i64 (N : Int)]) (by kernel_rfl) (range_two (cell_below l0 hR) (cell_below l1 hR)))) ⟨hR, Below.refl _ _, rfl⟩⟩
    | 2, _ =>
      refine StepL.call rfl [1] (by decide +kernel) ?_
      intro v wx hR hd
      have h1 : v 1 = _ := hd 1 (by simp)
      refine ⟨wanted_plain rfl _, 44, _, _, x_call rfl rfl (args_1 (hq.at_ rfl h1)) (by kernel_rfl) rfl, ?_⟩
      refine (lblocks_any (H0.out.1.below (below_of H1.out hR)) H0.out.2.1).mono ?_
      rintro e w' ⟨rfl, hW⟩
      exact ⟨_, rfl, hR.trans (hW.mono hR.size), hW, rfl⟩
    | 3, _ =>
      refine StepL.val rfl [2] (by decide +kernel) ?_
      intro v wx hR hd
      have h2 : v 2 = _ := hd 2 (by simp)
      have hb := new_below wx (.cells (bools (List.replicate K false)).toArray 4)
      exact ⟨wanted_plain rfl _, xe_ex (x_mkslice rfl (hq.at_ rfl h2) (hq.at_ rfl h2) (make_bools wx K (by omega))) ⟨hR.trans (hb.mono hR.size), hb, _, rfl, hR.size, Blk.new wx 4 _⟩⟩
    | 4, _ =>
      refine StepL.val rfl [0] (by decide +kernel) ?_
      intro v wx hR hd
      obtain ⟨M0, h0, hM0, hk0⟩ : mapV w1.heap.size (v 0) wx := hd 0 (by simp)
      exact ⟨wanted_plain rfl _, xe_ex (x_assign rfl (hq.at_ rfl h0)) ⟨hR, Below.refl _ _, M0, rfl, hM0, hk0⟩⟩
    | 5, _ =>
      refine StepL.val rfl [3] (by decide +kernel) ?_
      intro v wx hR hd
      obtain ⟨g3, h3, hg3, hk3⟩ : boolsV w1.heap.size K (v 3) wx := hd 3 (by simp)
      exact ⟨wanted_plain rfl _, xe_ex (x_assign rfl (hq.at_ rfl h3)) ⟨hR, Below.refl _ _, g3, rfl, hg3, hk3⟩⟩
    | rz + 6, h => omega
  · intro v wx hR hV
    obtain ⟨M, h4, hM4, hk4⟩ : mapV w1.heap.size (v 4) wx := hV 4 (by omega)
    obtain ⟨go, h5, hg5, hk5⟩ : boolsV w1.heap.size K (v 5) wx := hV 5 (by omega)
    have hs1 : w.heap.size ≤ w1.heap.size := H1.out.size
    have hs1' : w.heap.size < w1.heap.size := HK.out.lt
    have HAT : Hid (LdAt w G N K go M f 0 wx) := Lib.hid ⟨HK.out.below hR HK.out.lt, ⟨_, hk4, fun i => rfl⟩, ⟨_, hk5, by simp [bools], fun b hb => by simp [bools, ownB, hb]⟩, below_of H1.out hR⟩
    have hgow : w.heap.size < go := by omega
    have hMw : w.heap.size ≤ M := by omega
    have x1 : wx.cell? ⟨w.heap.size, 1, none⟩ = some (.int .i64 (N : Int)) := cell_below l1 hR
    clear hV hR hk4 hk5
    simp only [fillR, Act.put, List.setIfInBounds_toArray, List.set_cons_zero, List.set_cons_succ, h4, h5]
    go_wp2_with fail
    clear x1 l0 l1
    go_loopw [16] (fun cv wr => ∃ i : Nat, i ≤ N ∧ cv = .int .i64 i ∧ LdAt w G N K go M f i wr) (fun cv _ => N - (intOf cv).toNat)
    case atStart => exact ⟨0, Nat.zero_le _, rfl, HAT.out⟩
    case round =>
      obtain ⟨i, hi, rfl, hat⟩ := hrel
      obtain ⟨l0, l1⟩ := blk_pair hat.lay
      by_cases hlt : i < N
      · have HLG := Lib.hid (H0.out.1.below hat.bel)
        have hV1 := H0.out.2.2.1.node i hlt
        have HA := Lib.hid (And.intro hat hV1)
        have hsr := hat.bel.size
        clear hat hV1 HAT
        go_wp2_with fail
        refine wp_hideQ ?_
        intro QQ hQQ
        refine wp_region_quick [some 20, some 21, some 22, some 23, some 24, some 25, some 19, some 26, some 27, some 7, some 8] [isV (.pointer (some ⟨w.heap.size, 0, none⟩)), isV (.pointer (some ⟨G, 0, none⟩)), isV (lay G N), isV (.int .i64 (i : Int)), isV (.int .i64 ((1 + i : Nat) : Int)), rdV wr.heap.size (dvj j S (1 + i)), rdV wr.heap.size (dvj j S (1 + i)), btsV wr.heap.size 64 (dvj j S (1 + i)), isV (.int .i64 0), btsV wr.heap.size 64 (dvj j S (1 + i)), isV (.int .i64 0)] 11 (by kernel_rfl) rfl rfl rfl (by kernel_rfl) (by simp [isV.st, rdV.st, btsV.st]) ?_ ?_
        · intro hq rz hz
          match rz, hz with
          | 0, _ =>
            refine StepL.val rfl [] (by decide +kernel) ?_
            intro v wx hR hd
            exact ⟨wanted_plain rfl _, _, _, x_field rfl (fill_off rfl rfl) (r_field (off := 0) (by kernel_rfl)), hR, Below.refl _ _, rfl⟩
          | 1, _ =>
            refine StepL.val rfl [0] (by decide +kernel) ?_
            intro v wx hR hd
            have h0 : v 0 = _ := hd 0 (by simp)
            exact ⟨wanted_plain rfl _, _, _, x_load rfl (hq.at_ rfl h0) (r_load (by kernel_rfl) (cell_below l0 hR)), hR, Below.refl _ _, rfl⟩
          | 2, _ =>
            refine StepL.val rfl [] (by decide +kernel) ?_
            intro v wx hR hd
            exact ⟨wanted_plain rfl _, xe_ex (x_load rfl (fill_off rfl rfl) (r_loadR (cs := [.pointer (some ⟨G, 0, none⟩), .int .i64 (N : Int)]) (by kernel_rfl) (range_two (cell_below l0 hR) (cell_below l1 hR)))) ⟨hR, Below.refl _ _, rfl⟩⟩
          | 3, _ =>
            refine StepL.val rfl [] (by decide +kernel) ?_
            intro v wx hR hd
            exact ⟨wanted_plain rfl _, _, _, x_move rfl (fill_off rfl rfl), hR, Below.refl _ _, rfl⟩
          | 4, _ =>
            refine StepL.call rfl [2, 3] (by decide +kernel) ?_
            intro v wx hR hd
            have h2 : v 2 = _ := hd 2 (by simp)
            have h3 : v 3 = _ := hd 3 (by simp)
            refine ⟨wanted_plain rfl _, 58, _, _, x_call rfl rfl (args_2 (hq.at_ rfl h2) (hq.at_ rfl h3)) (by kernel_rfl) rfl, ?_⟩
            refine (nodeAt_any i (by omega)).mono ?_
            rintro e w' ⟨rfl, hW⟩
            exact ⟨_, rfl, hR.trans (hW.mono hR.size), hW, rfl⟩
          | 5, _ =>
            refine StepL.call rfl [1, 4] (by decide +kernel) ?_
            intro v wx hR hd
            have h1 : v 1 = _ := hd 1 (by simp)
            have h4 : v 4 = _ := hd 4 (by simp)
            refine ⟨wanted_plain rfl _, 32, _, _, x_call rfl rfl (args_2 (hq.at_ rfl h1) (hq.at_ rfl h4)) (by kernel_rfl) rfl, ?_⟩
            refine (lg_read (HLG.out.below hR) H0.out.2.1 (1 + i) (by omega)).mono ?_
            rintro e w' ⟨P, q', rfl, hB, hW⟩
            exact ⟨_, rfl, hR.trans (hW.mono hR.size), hW, P, q', rfl, hB.mono (fun g hg _ => Nat.le_trans hR.size hg)⟩
          | 6, _ =>
            refine StepL.val rfl [5] (by decide +kernel) ?_
            intro v wx hR hd
            obtain ⟨P5, c5, h5, hb5⟩ : rdV wr.heap.size (dvj j S (1 + i)) (v 5) wx := hd 5 (by simp)
            exact ⟨wanted_plain rfl _, xe_ex (x_move rfl (hq.at_ rfl h5)) ⟨hR, Below.refl _ _, P5, c5, rfl, hb5⟩⟩
          | 7, _ =>
            refine StepL.val rfl [6] (by decide +kernel) ?_
            intro v wx hR hd
            obtain ⟨P6, c6, h6, hb6⟩ : rdV wr.heap.size (dvj j S (1 + i)) (v 6) wx := hd 6 (by simp)
            exact ⟨wanted_plain rfl _, xe_ex (x_extract rfl (hq.at_ rfl h6) rfl) ⟨hR, Below.refl _ _, P6, c6, rfl, hb6⟩⟩
          | 8, _ =>
            refine StepL.val rfl [6] (by decide +kernel) ?_
            intro v wx hR hd
            obtain ⟨P6, c6, h6, hb6⟩ : rdV wr.heap.size (dvj j S (1 + i)) (v 6) wx := hd 6 (by simp)
            exact ⟨wanted_plain rfl _, xe_ex (x_extract rfl (hq.at_ rfl h6) rfl) ⟨hR, Below.refl _ _, rfl⟩⟩
          | 9, _ =>
            refine StepL.val rfl [7] (by decide +kernel) ?_
            intro v wx hR hd
            obtain ⟨P7, c7, h7, hb7⟩ : btsV wr.heap.size 64 (dvj j S (1 + i)) (v 7) wx := hd 7 (by simp)
            exact ⟨wanted_plain rfl _, xe_ex (x_assign rfl (hq.at_ rfl h7)) ⟨hR, Below.refl _ _, P7, c7, rfl, hb7⟩⟩
          | 10, _ =>
            refine StepL.val rfl [8] (by decide +kernel) ?_
            intro v wx hR hd
            have h8 : v 8 = _ := hd 8 (by simp)
            exact ⟨wanted_plain rfl _, _, _, x_assign rfl (hq.at_ rfl h8), hR, Below.refl _ _, rfl⟩
          | rz + 11, h => omega
        · intro v wx hR hV
          obtain ⟨P9, c9, h9, hb9⟩ : btsV wr.heap.size 64 (dvj j S (1 + i)) (v 9) wx := hV 9 (by omega)
          have h10 : v 10 = _ := hV 10 (by omega)
          have hsx := hR.size
          have HX := Lib.hid (And.intro hb9 (And.intro hR (below_of HA.out.1.bel hR)))
          have l0 := cell_below l0 hR
          have l1 := cell_below l1 hR
          clear hV hR hb9
          simp only [fillR, Act.put, List.setIfInBounds_toArray, List.set_cons_zero, List.set_cons_succ, h9, h10]
          have HV1 := Lib.hid HA.out.2
          cases hf : f i with
          | none =>
            have hv : dvj j S (1 + i) = List.replicate 64 0 := by have := HV1.out; rw [hf] at this; exact this
            have HF := Lib.hid (And.intro hf hv)
            clear hf hv
            go_wp2_with (first
              | (go_at_call 59; refine (sector_none _).mono ?_; rintro e w6 ⟨rfl, hB, hW⟩; have H6 := Lib.hid (And.intro (equal_bts (HX.out.1.below hW) (Bts.whole hB (.inl rfl) (A := fun _ => True) trivial (List.length_replicate : (List.replicate 64 (0 : B8)).length = 64) (by omega)) (b := true) (by rw [HF.out.2]; simp)) hW); clear hB hW)
              | (go_at_call 45; refine H6.out.1.mono ?_; rintro e w7 ⟨rfl, rfl⟩))
            go_roundw
            case rel =>
              have hW := H6.out.2
              have hat := HA.out.1
              have hb := below_of HX.out.2.1 hW
              obtain ⟨cs, o1, o2, o3⟩ := hat.own
              (repeat apply Exists.intro)
              refine ⟨?_, rfl⟩
              refine ⟨i + 1, by omega, by go_num, hat.lay.below hb hat.lay.lt, ?_, ⟨cs, o1.below hb o1.lt, o2, fun b hb => ?_⟩, below_of HX.out.2.2 hW⟩
              · rw [restr_none HF.out.1]
                exact (hat.tab.below hb).mono (fun g hg _ => hg) (Nat.le_succ _)
              · rw [o3 b hb, ownB_succ, HF.out.1, Bool.or_false]
            case measure => simp [intOf]; omega
          | some h =>
            have hv : dvj j S (1 + i) = noteN h := by have := HV1.out; rw [hf] at this; exact this
            have hok := H0.out.2.2.2.ok i h hf
            have HF := Lib.hid (And.intro hf (And.intro hv hok))
            clear hf hv hok
            go_wp2_with (first
              | (go_at_call 59; refine (sector_none _).mono ?_; rintro e w6 ⟨rfl, hB, hW⟩; have H6 := Lib.hid (And.intro (equal_bts (HX.out.1.below hW) (Bts.whole hB (.inl rfl) (A := fun _ => True) trivial (List.length_replicate : (List.replicate 64 (0 : B8)).length = 64) (by omega)) (b := false) (by rw [HF.out.2.1]; exact decide_eq_false (note_zero h))) hW); have l0 := cell_below l0 hW; have l1 := cell_below l1 hW; clear hB hW)
              | (go_at_call 45; refine H6.out.1.mono ?_; rintro e w7 ⟨rfl, rfl⟩))
            have hb6 := below_of HX.out.2.1 H6.out.2
            have hat6 := HA.out.1
            obtain ⟨cs, o1, o2, o3⟩ := hat6.own
            have hk6 : (dvj j S (1 + i)) = noteN h := HF.out.2.1
            have hB6 := HX.out.1.below H6.out.2
            rw [hk6] at hB6
            have hpp : ∃ g o, P9 = some ⟨g, o, none⟩ := by
              obtain ⟨g, o, h1, _⟩ := hB6.cells.2 (by omega)
              exact ⟨g, o, h1⟩
            obtain ⟨gp, op, rfl⟩ := hpp
            obtain ⟨hc1', hc2⟩ := bts_cap hB6
            have hs6 := hb6.size
            have HND := Lib.hid (noted_held (H0.out.1.below (below_of HX.out.2.2 H6.out.2)) H0.out.2.1 (h := h) HF.out.2.2.1 HF.out.2.2.2.1 HF.out.2.2.2.2.1 HF.out.2.2.2.2.2.1 HF.out.2.2.2.2.2.2 (fun q hq => H0.out.2.2.1.block i h q HF.out.1 hq) hB6 hc1' hc2 (o1.below hb6 o1.lt) ⟨by omega, by omega, by omega, by omega⟩ (Nat.le_of_eq o2.symm) (fun b hb => by
              have hbK := HF.out.2.2.2.2.2.2 b hb
              rw [o3 b hbK]
              have : ownB f i b = false := by
                cases hob : ownB f i b with
                | false => rfl
                | true =>
                  obtain ⟨j', h', hj, hfj, hm⟩ := ownB_iff.1 hob
                  exact absurd hb (H0.out.2.2.2.apart j' i h' h (by omega) hfj HF.out.1 b hm)
              rw [this]) (co := K) (Nat.le_refl _))
            have HO6 := Lib.hid (And.intro o1 (And.intro o2 o3))
            clear o1 o2 o3 hk6 hB6 hat6
            have hMg : M ≠ go := by
              rintro rfl
              obtain ⟨F, ⟨n0, D0, ⟨es, clock, h4, _⟩, _⟩, _⟩ := HA.out.1.tab
              have hb := HO6.out.1
              unfold Blk at hb
              rw [hb] at h4
              cases h4
            refine HND.out.mono ?_
            rintro e w8 ⟨x, rfl, hin, hown, honly⟩
            obtain ⟨xk, xm, xo, xg, xA, xn, xc, xP, xl, xq⟩ := x
            have hs8 := honly.size
            have hb8 := new_below w8 (.cells #[.int .i64 xk, .int .i64 xm, .int .i64 xo, .int .i64 xg, .slice xA xn xc, .slice xP xl xq] 98)
            obtain ⟨d0, d1, d2, d3, d4, d5⟩ := six_cells (Blk.new w8 98 [.int .i64 xk, .int .i64 xm, .int .i64 xo, .int .i64 xg, .slice xA xn xc, .slice xP xl xq])
            have hgo6 : go < w6.heap.size := (HO6.out.1.below hb6 HO6.out.1.lt).lt
            have H9 := Lib.hid (And.intro (((HA.out.1.tab.below hb6).only honly (by simpa using hMg) (fun g hg hm => hg.2 (by simpa using hm))).below hb8) (And.intro ((hin.mono (A' := fun q => w.heap.size ≤ q ∧ q ≠ go) (fun g hg _ => ⟨by omega, by omega⟩)).below hb8) (And.intro (((HA.out.1.lay.below hb6 HA.out.1.lay.lt).only honly (by simp; omega)).below hb8 (by have := HA.out.1.lay.lt; omega)) (And.intro (hown.below hb8 hown.lt) (((HX.out.2.2.trans (H6.out.2.mono (by omega))).trans (honly.below (by omega) (by intro q hq; simp at hq; omega))).trans (hb8.mono (by omega)))))))
            clear hin hown honly hb8 HND
            go_wp2_with (refine wpList_plain rfl fun K hK => op_put_tab (.tmp 46) (.tmp 47) (.tmp 48) rfl H9.out.1 (by omega) i (by omega) ⟨xk, xm, xo, xg, xA, xn, xc, xP, xl, xq⟩ h H9.out.2.1 rfl rfl rfl fun w11 hT11 ht11 => hK _ _ ?_)
            go_roundw
            case rel =>
              obtain ⟨hT, hin, hlay, hown, hbel⟩ := H9.out
              obtain ⟨o1, o2, o3⟩ := HO6.out
              (repeat apply Exists.intro)
              refine ⟨?_, rfl⟩
              refine ⟨i + 1, by omega, by go_num, hlay.turned ht11, ?_, ⟨_, hown.turned ht11, by rw [setsL_length]; exact o2, fun b hb => ?_⟩, hbel.trans (turned_below ht11 hMw hbel.size)⟩
              · rw [restr_some HF.out.1]
                exact hT11
              · rw [setsL_at _ _ _ (by omega), o3 b hb, ownB_succ, HF.out.1]
                by_cases hm : b ∈ h.bl
                · rw [if_pos hm]; simp [hm]
                · rw [if_neg hm]; simp [hm]
            case measure => simp [intOf]; omega
      · have hie : i = N := by omega
        have HE := Lib.hid (And.intro hat hie)
        clear hat hie HAT
        go_wp2_with fail
        go_ret2
        obtain ⟨hat, hie⟩ := HE.out
        refine ⟨M, rfl, hMw, ?_, hat.bel⟩
        have h1 := hat.tab
        rw [hie, restr_all H0.out.2.2.2] at h1
        exact h1.mono (fun g hg _ => hg.1) (Nat.le_refl _)
end Go.Proofs.YtkmkblhmjeeaeaaGreatDoor
end

/-
  Open of a log that has a table. Conditions: the log is at rest; its front and its nodes are a table's.
-/

section
set_option linter.unusedSimpArgs false
set_option linter.unusedVariables false
set_option maxRecDepth 100000
namespace Go.Proofs.YtkmkblhmjeeaeaaGreatDoor
open Go.RowKit Go.Maps

set_option maxRecDepth 100000 in
set_option maxHeartbeats 8000000 in
theorem iopen_yes {ks : List B32} {B D L G n j N K : Nat} {S : Nat → List B8} {c : Nat} {w : World} (hL : Lg ks B D L G n j S c w) (hg : Geo n j N K) {f : Tab} (hod : OnDisk N (dvj j S) f) (hw : Wf f N K) (hfr : dvj j S 0 = frontN ks N) :
    Calls Tryz.prog 11 #[.pointer (some ⟨G, 0, none⟩)] w fun e w' => ∃ t M, e = .returned (.tuple #[.pointer (some ⟨t, 0, none⟩), .int .i64 0]) ∧ Tb ks B D L G n j N K S c (fun q => w.heap.size ≤ q) t M N f w' ∧ w.heap.size ≤ t ∧ Below w.heap.size w w' := by
  have hN := hg.N1
  have hls := hL.size
  have hpos := hL.pos
  have HR := Lib.hid (lg_read hL hg 0 (by omega))
  have H0 := Lib.hid (And.intro hL (And.intro hg (And.intro hod (And.intro hw hfr))))
  clear hL hg hod hw hfr
  go_enter Tryz.func11, Tryz.ntmps11
  go_wp2_with ((go_at_call 32; refine HR.out.mono ?_; rintro e w1 ⟨P, q, rfl, hB, hW⟩))
  rw [H0.out.2.2.2.2] at hB
  obtain ⟨hc1, hc2⟩ := bts_cap hB
  obtain ⟨gp, op, hP, _⟩ := hB.cells.2 (by omega)
  subst hP
  have HNB := Lib.hid (nodesby_yes ks w1 _ gp op q N (H0.out.1.roots.below (hW.mono hls) hpos) hB (by omega) hc1 hc2)
  have H1 := Lib.hid hW
  clear hB hW HR
  go_wp2_with ((go_at_call 33; refine HNB.out.mono ?_; rintro e w2 ⟨rfl, hW⟩; have H2 := Lib.hid (below_of H1.out hW); clear hW))
  have hb3 := new_below w2 (.cells #[.pointer (some ⟨G, 0, none⟩), .int .i64 (N : Int), .map none] 80)
  have hk3 := Blk.new w2 80 [.pointer (some ⟨G, 0, none⟩), .int .i64 (N : Int), .map none]
  obtain ⟨w3, hw3⟩ : ∃ w3, w2.alloc (.cells #[.pointer (some ⟨G, 0, none⟩), .int .i64 (N : Int), .map none] 80) = w3 := ⟨_, rfl⟩
  rw [hw3] at hb3 ⊢
  rw [show w2.alloc (.cells [Value.pointer (some ⟨G, 0, none⟩), .int .i64 (N : Int), .map none].toArray 80) = w3 from hw3] at hk3
  clear hw3
  have HFT := Lib.hid (fits_yes (H0.out.1.below (below_of H2.out hb3)) H0.out.2.1)
  have H3 := Lib.hid (And.intro (below_of H2.out hb3) hk3)
  have hs2 := H2.out.size
  have c0 : w3.cell? ⟨w2.heap.size, 0, none⟩ = some (.pointer (some ⟨G, 0, none⟩)) := hk3.cell 0
  have c1 : w3.cell? ⟨w2.heap.size, 1, none⟩ = some (.int .i64 (N : Int)) := hk3.cell 1
  clear hb3 hk3
  refine HFT.out.mono ?_
  rintro e w4 ⟨rfl, hW⟩
  have c0 := cell_below c0 hW
  have c1 := cell_below c1 hW
  have HLD := Lib.hid (load_any (H0.out.1.below (below_of H3.out.1 hW)) H0.out.2.1 H0.out.2.2.1 H0.out.2.2.2.1)
  have H4 := Lib.hid (And.intro (below_of H3.out.1 hW) (H3.out.2.below hW H3.out.2.lt))
  clear hW HFT
  go_wp2_with fail
  refine HLD.out.mono ?_
  rintro e w5 ⟨M, rfl, hM, hT, hW⟩
  have hk5 := H4.out.2.below hW H4.out.2.lt
  have c2 : w5.cell? ⟨w2.heap.size, 2, none⟩ = some (.map none) := hk5.cell 2
  have f2 : w5.frozen? ⟨w2.heap.size, 2, none⟩ = false := hk5.frozen 2
  have hs4 := H4.out.1.size
  have hlt2 : w2.heap.size < w4.heap.size := H4.out.2.lt
  have H5 := Lib.hid (And.intro hk5 (And.intro hT (And.intro (below_of H4.out.1 hW) hM)))
  clear hk5 hT hW hM HLD c0 c1
  go_wp2_with fail
  go_ret2
  obtain ⟨hk5, hT, hW, hM⟩ := H5.out
  have hkw := hk5.set_ 2 (.map (some M))
  have hbw : Below w.heap.size w (w5.setCell ⟨w2.heap.size, 2, none⟩ (.map (some M))) := hW.setCell (p := ⟨w2.heap.size, 2, none⟩) hs2 _
  have hLw : Lg ks B D L G n j S c (w5.setCell ⟨w2.heap.size, 2, none⟩ (.map (some M))) := by
    have hlt := H0.out.1.lt
    have hlb := H0.out.1.base
    exact (H0.out.1.below hW).set_ (p := ⟨w2.heap.size, 2, none⟩) (show B ≤ w2.heap.size by omega) (show w2.heap.size ≠ D by omega) (show w2.heap.size ≠ L by omega) (show w2.heap.size ≠ G by omega)
  refine ⟨w2.heap.size, M, rfl, ⟨hLw, H0.out.2.1, ?_, H0.out.2.2.2.1, hkw⟩, hs2, hbw⟩
  have hTO := hT.only (S := [w2.heap.size]) ((Only.refl _ w5).setCell (p := ⟨w2.heap.size, 2, none⟩) (.inl (by simp)) (.map (some M))) (by simp; omega) (fun g hg hm => by simp at hm; omega)
  exact hTO.mono (fun g hg _ => by omega) (Nat.le_refl _)
end Go.Proofs.YtkmkblhmjeeaeaaGreatDoor
end
