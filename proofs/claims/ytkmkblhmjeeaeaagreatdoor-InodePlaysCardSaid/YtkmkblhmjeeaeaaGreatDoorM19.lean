/-
  writes: what changes write. Conditions: the nodes lie in a map; the changes are right.
-/
import Derived.Test.YtkmkblhmjeeaeaaGreatDoorM17
import Derived.Test.YtkmkblhmjeeaeaaGreatDoorM16
import Derived.Test.YtkmkblhmjeeaeaaGreatDoorM18
import Derived.Test.YtkmkblhmjeeaeaaGreatDoorM14
section
set_option linter.unusedSimpArgs false
set_option linter.unusedVariables false
set_option maxRecDepth 100000
namespace Go.Proofs.YtkmkblhmjeeaeaaGreatDoor
open Go.RowKit Go.Maps Go.Shelf

attribute [local go_sem] Oper.semAt_some

/-- Where the writes stand. -/
structure WrSt (N0 bl bw G N : Nat) (w : World) (ds : List Nat) (vs : Value) (ws : List (Int × List B8)) (wr : World) : Prop where
  bel : Below N0 w wr
  sz : N0 ≤ wr.heap.size
  own : WOwn (fun q => N0 ≤ q) N0 wr vs ws
  box : Blk wr bw 85 [vs]
  lay : Blk wr bl 77 [.pointer (some ⟨G, 0, none⟩), .int .i64 (N : Int)]
  nd : ds.Nodup
  dfs : ∀ D ∈ ds, N0 ≤ D ∧ wr.heap[D]? = some (.deferred (some []))
section
variable {N0 bl bw G N : Nat} {w wr wx : World} {ds : List Nat} {vs : Value} {ws : List (Int × List B8)}
theorem WrSt.below (h : WrSt N0 bl bw G N w ds vs ws wr) (hs : Below wr.heap.size wr wx) : WrSt N0 bl bw G N w ds vs ws wx :=
  ⟨h.bel.trans (hs.mono h.sz), Nat.le_trans h.sz hs.size, h.own.below hs, h.box.below hs h.box.lt, h.lay.below hs h.lay.lt, h.nd, fun D hD => ⟨(h.dfs D hD).1, (hs.block D (Array.getElem?_eq_some_iff.1 (h.dfs D hD).2).1).trans (h.dfs D hD).2⟩⟩
end

/-- Words on what operations leave, by a list. -/
def LV (fs : List (Value → World → Prop)) (i : Nat) (v : Nat → Value) (w : World) : Prop := match fs[i]? with
  | some F => F (v i) w
  | none => True
def StV (F : Value → World → Prop) : Prop := ∀ u w w', F u w → Below w.heap.size w w' → F u w'
theorem LV.loc {fs : List (Value → World → Prop)} : ∀ i v j x w, LV fs i v w → j ≠ i → LV fs i (setV v j x) w := by
  intro i v j x w h hj
  unfold LV at h ⊢
  split
  · rename_i F he
    rw [he] at h
    show F (setV v j x i) w
    unfold setV
    rw [if_neg (Ne.symm hj)]
    exact h
  · trivial
theorem LV.st {fs : List (Value → World → Prop)} (hf : ∀ F ∈ fs, StV F) : ∀ i k v w w', k ≠ i → LV fs i v w → Below w.heap.size w w' → LV fs i v w' := by
  intro i k v w w' _ h hb
  unfold LV at h ⊢
  cases he : fs[i]? with
  | none => trivial
  | some F =>
    rw [he] at h
    exact hf F (List.mem_of_getElem? he) _ _ _ h hb
def isV (x : Value) : Value → World → Prop := fun u _ => u = x
def secV (b0 : Nat) (y : List B8) : Value → World → Prop := fun u w => ∃ g, u = .slice (some ⟨g, 0, none⟩) 64 64 ∧ b0 ≤ g ∧ Blk w g 5 (Vb y)
def wrV (b0 : Nat) (no : Int) (y : List B8) : Value → World → Prop := fun u w => ∃ g, u = .agg #[.int .i64 no, .slice (some ⟨g, 0, none⟩) 64 64] ∧ b0 ≤ g ∧ Blk w g 5 (Vb y)
def rowV (b0 : Nat) (no : Int) (y : List B8) : Value → World → Prop := fun u w => ∃ p g, u = .slice (some ⟨p, 0, none⟩) 1 1 ∧ Blk w p 146 [.int .i64 no, .slice (some ⟨g, 0, none⟩) 64 64] ∧ b0 ≤ g ∧ Blk w g 5 (Vb y)
def oneV (x : Value) : Value → World → Prop := fun u w => ∃ p, u = .slice (some ⟨p, 0, none⟩) 1 1 ∧ Blk w p 40 [x]
theorem oneV.st (x : Value) : StV (oneV x) := fun _ _ _ ⟨p, h1, h2⟩ hb => ⟨p, h1, h2.below hb h2.lt⟩
theorem pad_len {x : List B8} (h : x.length ≤ 64) : (pad64 x).length = 64 := by unfold pad64; simp; omega
theorem isV.st (x : Value) : StV (isV x) := fun _ _ _ h _ => h
theorem secV.st (b0 : Nat) (y : List B8) : StV (secV b0 y) := fun _ _ _ ⟨g, h1, h2, h3⟩ hb => ⟨g, h1, h2, h3.below hb h3.lt⟩
theorem wrV.st (b0 : Nat) (no : Int) (y : List B8) : StV (wrV b0 no y) := fun _ _ _ ⟨g, h1, h2, h3⟩ hb => ⟨g, h1, h2, h3.below hb h3.lt⟩
theorem rowV.st (b0 : Nat) (no : Int) (y : List B8) : StV (rowV b0 no y) := fun _ _ _ ⟨p, g, h1, h2, h3, h4⟩ hb => ⟨p, g, h1, h2.below hb h2.lt, h3, h4.below hb h4.lt⟩
theorem blk_bts {w : World} {g b0 : Nat} {y : List B8} (h : Blk w g 5 (Vb y)) (hg : b0 ≤ g) (hy : y.length = 64) : Bts (fun q => b0 ≤ q) w (.slice (some ⟨g, 0, none⟩) 64 64) y :=
  Bts.of_blk h (.inl rfl) hg (by rw [List.drop_zero, List.take_of_length_le (by simp [Vb_length])]) hy (Nat.le_refl _) (by unfold maxLen; omega)
section
variable {N0 bl bw G N : Nat} {w wr wx w' : World} {ds : List Nat} {vs u : Value} {ws ws' : List (Int × List B8)}
/-- Behind an append and its store. -/
theorem WrSt.app (h : WrSt N0 bl bw G N w ds vs ws wr) (hb : N0 ≤ bw) (hlb : bl ≠ bw) (hk : Kp N0 (· = 146) [] wr wx) (ho : WOwn (fun q => N0 ≤ q) N0 wx u ws') : WrSt N0 bl bw G N w ds u ws' (wx.setCell ⟨bw, 0, none⟩ u) := by
  have hbx := hk.keep _ _ _ (by decide) (by simp) h.box
  have hlx := hk.keep _ _ _ (by decide) (by simp) h.lay
  have hset : Below N0 wx (wx.setCell ⟨bw, 0, none⟩ u) := (Below.refl _ _).setCell (p := ⟨bw, 0, none⟩) hb u
  refine ⟨(h.bel.trans hk.below).trans hset, Nat.le_trans h.sz (Nat.le_trans hk.size hset.size), ho.set_ hbx (by decide) (by decide) (by decide), ?_, hlx.far (p := ⟨bw, 0, none⟩) hlb u, h.nd, fun D hD => ⟨(h.dfs D hD).1, ?_⟩⟩
  · exact hbx.set_ 0 u
  · have h1 := hk.others D _ (h.dfs D hD).2 rfl
    exact (KeepsOthers.setCell wx ⟨bw, 0, none⟩ u).same D _ h1 rfl
end
theorem nodeWs_none {N : Nat} {f : Tab} {i : Nat} (h : f i = none) : nodeWs N f i = [(((1 + i : Nat) : Int), List.replicate 64 0)] := by unfold nodeWs; rw [h]
theorem nodeWs_some {N : Nat} {f : Tab} {i : Nat} {h : Hd} (hf : f i = some h) : nodeWs N f i = dataW N h ++ [(((1 + i : Nat) : Int), noteN h)] := by unfold nodeWs; rw [hf]
theorem nodeWs_le {N K : Nat} {f : Tab} {N' : Nat} (hw : Wf f N' K) (i : Nat) : (nodeWs N f i).length ≤ 9 := by
  unfold nodeWs
  cases hf : f i with
  | none => simp
  | some h =>
    have := blks_8 (hw.ok i h hf).2.1
    simp only [List.length_append, dataW, List.length_map, List.length_range, List.length_cons, List.length_nil]
    omega
theorem writesL_le {N K : Nat} {f : Tab} {N' : Nat} (hw : Wf f N' K) : ∀ lc : List Ch, (writesL N f lc).length ≤ 9 * lc.length
  | [] => by simp [writesL]
  | c :: lc => by
    have h1 := nodeWs_le (N := N) hw c.no.toNat
    have h2 := writesL_le (N := N) hw lc
    unfold writesL at h2 ⊢
    rw [List.flatMap_cons, List.length_append, List.length_cons]
    omega
theorem writesL_snoc {N : Nat} {f : Tab} {lc : List Ch} {i : Nat} {c : Ch} (hc : lc[i]? = some c) : writesL N f (lc.take (i + 1)) = writesL N f (lc.take i) ++ nodeWs N f c.no.toNat := by
  unfold writesL
  rw [List.take_add_one, hc]
  simp

/-- Cells stay. -/
structure CK (w w' : World) : Prop where
  keep : ∀ (g : Nat) (o : Obj), w.heap[g]? = some o → o.isCells = true → w'.heap[g]? = some o
section
variable {w w' : World} {A : Nat → Prop} {N : Nat} {v : Value}
theorem CK.blk (h : CK w w') {g : Nat} {t : TypeId} {cs : List Value} (hb : Blk w g t cs) : Blk w' g t cs := h.keep g _ hb rfl
theorem CK.bts (h : CK w w') {xs : List B8} (hb : Bts A w v xs) : Bts A w' v xs := by
  rcases hb with hb | ⟨g, o, cap, t, cs, e, hA, hn, hb, ht, h1, h2⟩
  · exact .inl hb
  · exact .inr ⟨g, o, cap, t, cs, e, hA, hn, h.blk hb, ht, h1, h2⟩
theorem CK.wown (h : CK w w') {ws : List (Int × List B8)} (hb : WOwn A N w v ws) : WOwn A N w' v ws := by
  obtain ⟨cells, h1, h2, h3⟩ := hb
  refine ⟨cells, ⟨h1.1, ?_⟩, h2, fun i p hp => ?_⟩
  · rcases h1.2 with h1 | ⟨b, cap, cur, rfl, g1, g2, g3⟩
    · exact .inl h1
    · exact .inr ⟨b, cap, cur, rfl, g1, h.keep b _ g2 rfl, g3⟩
  · obtain ⟨c0, u, c1, hu⟩ := h3 i p hp
    exact ⟨c0, u, c1, h.bts hu⟩
theorem ck_turn {B : Nat} {row : Option Nat} (hg : w.grownBy w' row) (hr : ∀ r, row = some r → B ≤ r ∧ ∃ o : Obj, w.heap[r]? = some o ∧ o.isCells = false) : CK w w' := ⟨fun g o ho hc => (hg.block g (Array.getElem?_eq_some_iff.1 ho).1 (fun e => by
  obtain ⟨_, o', ho', hc'⟩ := hr g e.symm
  rw [ho] at ho'
  cases ho'
  rw [hc] at hc'
  cases hc')).trans ho⟩
end
theorem WrSt.turn {N0 bl bw G N B : Nat} {w X Y : World} {ds : List Nat} {vs : Value} {ws : List (Int × List B8)} {row : Option Nat} (h : WrSt N0 bl bw G N w ds vs ws X) (hg : X.grownBy Y row) (hr : ∀ r, row = some r → B ≤ r ∧ ∃ o : Obj, X.heap[r]? = some o ∧ o.isCells = false) (hN : N0 ≤ B) (hB : ∀ D ∈ ds, D < B) : WrSt N0 bl bw G N w ds vs ws Y := by
  have hc := ck_turn hg hr
  refine ⟨h.bel.grown hg h.sz (fun r e => Nat.le_trans hN (hr r e).1), Nat.le_trans h.sz hg.size, hc.wown h.own, hc.blk h.box, hc.blk h.lay, h.nd, fun D hD => ⟨(h.dfs D hD).1, (hg.block D (Array.getElem?_eq_some_iff.1 (h.dfs D hD).2).1 (fun e => ?_)).trans (h.dfs D hD).2⟩⟩
  have h1 := (hr D e.symm).1
  have h2 := hB D hD
  omega
/-- The writes of so many parts. -/
def partsW (N : Nat) (hd : Hd) (qs : List Nat) : List (Int × List B8) := qs.zipIdx.map fun p => (((1 + N + hd.bl.getD p.2 0 : Nat) : Int), pad64 (piece hd.data p.1))
theorem partsW_snoc (N : Nat) (hd : Hd) (qs : List Nat) (q : Nat) : partsW N hd (qs ++ [q]) = partsW N hd qs ++ [(((1 + N + hd.bl.getD qs.length 0 : Nat) : Int), pad64 (piece hd.data q))] := by simp [partsW, List.zipIdx_append]
theorem partsW_length (N : Nat) (hd : Hd) (qs : List Nat) : (partsW N hd qs).length = qs.length := by simp [partsW]
theorem partsW_all (N : Nat) (hd : Hd) : partsW N hd (List.range (blks hd.data.length)) = dataW N hd := by
  unfold partsW dataW
  apply List.ext_getElem
  · simp
  · intro i h1 h2
    simp
theorem Bts.part {A : Nat → Prop} {w : World} {g o n c : Nat} {data : List B8} {q : Nat} (h : Bts A w (.slice (some ⟨g, o, none⟩) n c) data) (hq : 64 * q < n) : Bts A w (.slice (some ⟨g, o + 64 * q, none⟩) (min 64 (n - 64 * q)) (min 64 (n - 64 * q))) (piece data q) := by
  rcases h with ⟨e, _⟩ | ⟨g', o', cap, t, cs, e, hA, ht, hb, hx, h1, h2⟩
  · cases e
  · cases e
    have hl : (piece data q).length = min 64 (data.length - 64 * q) := by unfold piece; rw [List.length_take, List.length_drop]
    refine .inr ⟨g, o + 64 * q, _, t, cs, by rw [hl], hA, ht, hb, ?_, by rw [hl]; exact Nat.le_refl _, by unfold maxLen; omega⟩
    have e1 : Vb (piece data q) = ((Vb data).drop (64 * q)).take 64 := by unfold piece Vb; rw [List.map_take, List.map_drop]
    rw [e1, ← hx, hl, List.drop_take, List.take_take, List.drop_drop]
/-- Where the writes of one node's parts stand. -/
structure RgSt (N0 G N : Nat) (w : World) (ds : List Nat) (ws0 : List (Int × List B8)) (hd : Hd) (s yn : Nat) (cc hh : List Value) (sl : Value) (pre : List (Part yn)) (W : World) : Prop where
  wr : ∃ vs, WrSt N0 N0 (N0 + 1) G N w ds vs (ws0 ++ partsW N hd (pre.map (·.1))) W
  place : Blk W (s + 1 + 1) 3 [.int .i64 (pre.length : Int)]
  ch : Blk W s 44 cc
  held : Blk W (s + 1) 98 hh
  bs : Blk W (s + 1 + 1 + 1) 40 [sl]
  bn : Blk W (s + 1 + 1 + 1 + 1) 3 [.int .i64 64]
theorem RgSt.turn {N0 G N B : Nat} {w X Y : World} {ds : List Nat} {ws0 : List (Int × List B8)} {hd : Hd} {s yn : Nat} {cc hh : List Value} {sl : Value} {pre : List (Part yn)} {row : Option Nat} (h : RgSt N0 G N w ds ws0 hd s yn cc hh sl pre X) (hg : X.grownBy Y row) (hr : ∀ r, row = some r → B ≤ r ∧ ∃ o : Obj, X.heap[r]? = some o ∧ o.isCells = false) (hN : N0 ≤ B) (hB : ∀ D ∈ ds, D < B) : RgSt N0 G N w ds ws0 hd s yn cc hh sl pre Y := by
  have hc := ck_turn hg hr
  obtain ⟨vs, hw⟩ := h.wr
  exact ⟨⟨vs, hw.turn hg hr hN hB⟩, hc.blk h.place, hc.blk h.ch, hc.blk h.held, hc.blk h.bs, hc.blk h.bn⟩
theorem RgSt.kpc {N0 G N : Nat} {w X Y : World} {ds : List Nat} {ws0 : List (Int × List B8)} {hd : Hd} {s yn : Nat} {cc hh : List Value} {sl : Value} {pre pre' : List (Part yn)} (h : RgSt N0 G N w ds ws0 hd s yn cc hh sl pre X) (k : RgSt N0 G N w ds ws0 hd s yn cc hh sl pre' Y) : KpC (s + 1 + 1 + 1) (s + 1 + 1 + 1 + 1) X Y :=
  ⟨fun v hv => by rw [h.bs.cell 0] at hv; rw [k.bs.cell 0]; exact hv, fun v hv => by rw [h.bn.cell 0] at hv; rw [k.bn.cell 0]; exact hv⟩

theorem WrSt.set2 {N0 bl bw G N g : Nat} {w wr : World} {ds : List Nat} {vs u : Value} {ws : List (Int × List B8)} {cs : List Value} (h : WrSt N0 bl bw G N w ds vs ws wr) (hb : Blk wr g 3 cs) (hN : N0 ≤ g) (h1 : bw ≠ g) (h2 : bl ≠ g) : WrSt N0 bl bw G N w ds vs ws (wr.setCell ⟨g, 0, none⟩ u) := by
  have hset : Below N0 wr (wr.setCell ⟨g, 0, none⟩ u) := (Below.refl _ _).setCell (p := ⟨g, 0, none⟩) hN u
  exact ⟨h.bel.trans hset, Nat.le_trans h.sz hset.size, h.own.set_ hb (by decide) (by decide) (by decide), h.box.far (p := ⟨g, 0, none⟩) h1 u, h.lay.far (p := ⟨g, 0, none⟩) h2 u, h.nd, fun D hD => ⟨(h.dfs D hD).1, (KeepsOthers.setCell wr ⟨g, 0, none⟩ u).same D _ (h.dfs D hD).2 rfl⟩⟩
theorem RgSt.step {N0 G N : Nat} {w W wx w8 : World} {ds : List Nat} {ws0 : List (Int × List B8)} {hd : Hd} {s yn : Nat} {cc hh : List Value} {sl u : Value} {pre : List (Part yn)} {x : Part yn} {z : Int} (h : RgSt N0 G N w ds ws0 hd s yn cc hh sl pre W) (hR : Below W.heap.size W wx) (hk : Kp N0 (· = 146) [] wx w8)
    (hw : WrSt N0 N0 (N0 + 1) G N w ds u (ws0 ++ partsW N hd ((pre ++ [x]).map (·.1))) (w8.setCell ⟨N0 + 1, 0, none⟩ u)) (hs : N0 + 1 < s) (hz : z = ((pre ++ [x]).length : Int)) : RgSt N0 G N w ds ws0 hd s yn cc hh sl (pre ++ [x]) ((w8.setCell ⟨N0 + 1, 0, none⟩ u).setCell ⟨s + 1 + 1, 0, none⟩ (.int .i64 z)) := by
  subst hz
  have k1 : ∀ {g : Nat} {t : TypeId} {cs : List Value}, t ≠ 146 → g ≠ N0 + 1 → Blk W g t cs → Blk (w8.setCell ⟨N0 + 1, 0, none⟩ u) g t cs := fun {g t cs} ht hg hb => (hk.keep g t cs ht (by simp) (hb.below hR hb.lt)).far (p := ⟨N0 + 1, 0, none⟩) hg u
  have k2 : ∀ {g : Nat} {t : TypeId} {cs : List Value} (v : Value), g ≠ s + 1 + 1 → Blk (w8.setCell ⟨N0 + 1, 0, none⟩ u) g t cs → Blk ((w8.setCell ⟨N0 + 1, 0, none⟩ u).setCell ⟨s + 1 + 1, 0, none⟩ v) g t cs := fun {g t cs} v hg hb => hb.far (p := ⟨s + 1 + 1, 0, none⟩) hg v
  have hp := k1 (by decide) (by omega) h.place
  exact ⟨⟨u, hw.set2 hp (by omega) (by omega) (by omega)⟩, hp.set_ 0 _, k2 _ (by omega) (k1 (by decide) (by omega) h.ch), k2 _ (by omega) (k1 (by decide) (by omega) h.held), k2 _ (by omega) (k1 (by decide) (by omega) h.bs), k2 _ (by omega) (k1 (by decide) (by omega) h.bn)⟩
theorem RgSt.keeps {N0 B a b : Nat} {W wx w8 : World} {u v : Value} (hR : Below W.heap.size W wx) (hk : Kp N0 (· = 146) [] wx w8) : KeepsFrom B W ((w8.setCell ⟨a, 0, none⟩ u).setCell ⟨b, 0, none⟩ v) :=
  ⟨Nat.le_trans hR.size (Nat.le_trans hk.size (by simp)), fun k o _ ho hc => (KeepsOthers.setCell _ ⟨b, 0, none⟩ v).same k o ((KeepsOthers.setCell _ ⟨a, 0, none⟩ u).same k o (hk.others k o ((hR.block k (Array.getElem?_eq_some_iff.1 ho).1).trans ho) hc) hc) hc⟩

set_option maxRecDepth 100000 in
set_option maxHeartbeats 8000000 in
theorem inwrites_any {w : World} {A : Nat → Prop} {M cm N G K : Nat} {f : Tab} (hT : TabIn A w M cm f) (hw : Wf f N K) (hN : N ≤ 400) (hK : K ≤ 4096) {P : Option Addr} {len cap : Nat} {l : List Cv} {lc : List Ch} (hl : CvIn w P len l) (hno : ∀ (i : Nat) x c, l[i]? = some x → lc[i]? = some c → x.no = c.no) (hll : l.length = lc.length) (hgood : ∀ c ∈ lc, 0 ≤ c.no ∧ c.no < N) (hlen : len ≤ 1000) :
    Calls Tryz.prog 29 #[lay G N, .slice P len cap, .map (some M)] w fun e w' => ∃ v, e = .returned v ∧ WOwn (fun q => w.heap.size ≤ q) w.heap.size w' v (writesL N f lc) ∧ Below w.heap.size w w' := by
  refine (callsIn_wide (n := 8)).1 (callsIn_of_wp_marks Tryz.func29 rfl trivial (wpIn_wide.2 ?_))
  simp only [Tryz.ntmps29, List.size_toArray, List.length_cons, List.length_nil, Nat.reduceAdd, Nat.reduceSub, Array.replicate_succ, Array.replicate_zero, List.push_toArray, List.append_toArray, List.nil_append, List.cons_append]
  have HL := Lib.hid (And.intro hT (And.intro hw (And.intro hl (And.intro hno (And.intro hll hgood)))))
  clear hT hw hl hno hll hgood
  go_wp2_with fail
  refine wp_loop (fun a wr => ∃ (i : Nat) (ds : List Nat) (vs : Value) (u9 u10 u11 u12 u13 u17 u18 u19 u20 u21 u22 u23 u24 u25 u26 u27 u28 u29 u30 u31 u32 u33 u34 u35 u36 u37 u38 u39 u40 u41 u42 u43 u44 u45 u46 u47 u48 u49 u50 u51 u52 u53 u54 u55 u56 u57 u58 u59 u60 u61 u62 u63 u64 u65 u66 u67 u68 u69 : Value), (i ≤ len ∧ WrSt w.heap.size w.heap.size (w.heap.size + 1) G N w ds vs (writesL N f (lc.take i)) wr) ∧ a = { tmps := #[lay G N, .slice P len cap, .map (some M), .pointer (some ⟨w.heap.size, 0, none⟩), undef, undef, .slice none 0 0, .pointer (some ⟨w.heap.size + 1, 0, none⟩), undef, u9, u10, u11, u12, u13, .slice P len cap, .int .i64 (len : Int), .int .i64 (i : Int), u17, u18, u19, u20, u21, u22, u23, u24, u25, u26, u27, u28, u29, u30, u31, u32, u33, u34, u35, u36, u37, u38, u39, u40, u41, u42, u43, u44, u45, u46, u47, u48, u49, u50, u51, u52, u53, u54, u55, u56, u57, u58, u59, u60, u61, u62, u63, u64, u65, u66, u67, u68, u69, undef], defers := marks ds }) (fun a _ => len - (intOf (a.tmps.getD 16 undef)).toNat) ?atStart ?round
  case atStart =>
    refine ⟨0, [], .slice none 0 0, ?_⟩
    (repeat apply Exists.intro)
    refine ⟨⟨Nat.zero_le _, ⟨?_, by simp; omega, WOwn.nil _ _ _, ?_, (Blk.new w 77 [.pointer (some ⟨G, 0, none⟩), .int .i64 (N : Int)]).alloc _, List.nodup_nil, fun D hD => by cases hD⟩⟩, rfl⟩
    · exact (new_below w _).trans ((new_below _ _).mono (by simp))
    · have := Blk.new (w.alloc (.cells #[.pointer (some ⟨G, 0, none⟩), .int .i64 (N : Int)] 77)) 85 [.slice none 0 0]
      rwa [World.size_alloc] at this
  case round =>
    rintro a wr ⟨i, ds, vs, u9, u10, u11, u12, u13, u17, u18, u19, u20, u21, u22, u23, u24, u25, u26, u27, u28, u29, u30, u31, u32, u33, u34, u35, u36, u37, u38, u39, u40, u41, u42, u43, u44, u45, u46, u47, u48, u49, u50, u51, u52, u53, u54, u55, u56, u57, u58, u59, u60, u61, u62, u63, u64, u65, u66, u67, u68, u69, ⟨hi, hst⟩, rfl⟩
    have hsz := hst.sz
    have hbxs := hst.box.lt
    have HLE := Lib.hid (show (writesL N f (lc.take i)).length ≤ 1000000 by
      have h1 := writesL_le (N := N) HL.out.2.1 (lc.take i)
      have h2 : (lc.take i).length ≤ 1000 := by rw [List.length_take]; omega
      omega)
    by_cases hlt : i < len
    · obtain ⟨g, o, rfl, hgl, hcc⟩ := (HL.out.2.2.1.below hst.bel).cells (by omega)
      obtain ⟨x, hx⟩ : ∃ x, l[i]? = some x := ⟨_, List.getElem?_eq_getElem (by have := HL.out.2.2.1.len; omega)⟩
      obtain ⟨c0, c1, c2, c3, c4, c5, c6⟩ := hcc i x hx
      obtain ⟨ch, hch⟩ : ∃ ch, lc[i]? = some ch := ⟨_, List.getElem?_eq_getElem (by have := HL.out.2.2.1.len; have := HL.out.2.2.2.2.1; omega)⟩
      have hno := HL.out.2.2.2.2.2 ch (List.mem_of_getElem? hch)
      obtain ⟨q, hq⟩ : ∃ q : Nat, ch.no = q := ⟨ch.no.toNat, by omega⟩
      have hxq := (HL.out.2.2.2.1 i x ch hx hch).trans hq
      obtain ⟨F, hM0, hF0⟩ := HL.out.1
      have hM := hM0.below hst.bel
      have hF : ∀ i, match f i with | none => F i = none | some h => ∃ x, F i = some x ∧ HIn A wr x h := fun j => by
        have := hF0 j
        cases hfj : f j with
        | none => rw [hfj] at this; exact this
        | some h => rw [hfj] at this; obtain ⟨x, h1, h2⟩ := this; exact ⟨x, h1, h2.below hst.bel⟩
      have hb1 := new_below wr (.cells #[.int .i64 x.no, .int .i64 x.k, .int .i64 x.m, .int .i64 x.o, .int .i64 x.g, .slice x.A x.n x.c, .bool x.drop] 44)
      have hM1 := hM.below hb1
      have hFq := hF q
      have hqN : q < N := by omega
      clear hcc hx hno
      obtain ⟨no, xk, xm, xo, xg, xA, xn, xc, xd⟩ := x
      dsimp only at c0 c1 c2 c3 c4 c5 c6 hxq hb1 hM1
      subst hxq
      cases hfq : f q with
      | none =>
        rw [hfq] at hFq
        have hFn : ∀ j : Nat, ((q : Nat) : Int) = (j : Int) → F j = none := fun j hj => by rw [show j = q by omega]; exact hFq
        have HM := Lib.hid (And.intro hM1 hFn)
        have HS := Lib.hid (And.intro hst hch)
        clear hst hM hF hM1 hFq hFn hb1 hch
        go_wp2_with (first
          | (at_lookup; refine wp_look_no rfl (.tmp 21) (.tmp 23) rfl HM.out.1 q (by omega) (by omega) HM.out.2 rfl rfl ?_; unfold hv0)
          | go_in)
        have hb2 := below_of (new_below wr (.cells #[.int .i64 (q : Int), .int .i64 xk, .int .i64 xm, .int .i64 xo, .int .i64 xg, .slice xA xn xc, .bool xd] 44)) (new_below _ (.cells #[.int .i64 0, .int .i64 0, .int .i64 0, .int .i64 0, .slice none 0 0, .slice none 0 0] 98))
        have hk2 := (Blk.new wr 44 [.int .i64 (q : Int), .int .i64 xk, .int .i64 xm, .int .i64 xo, .int .i64 xg, .slice xA xn xc, .bool xd]).alloc (.cells #[.int .i64 0, .int .i64 0, .int .i64 0, .int .i64 0, .slice none 0 0, .slice none 0 0] 98)
        obtain ⟨w3, hw3⟩ : ∃ w3, (wr.alloc (.cells #[.int .i64 (q : Int), .int .i64 xk, .int .i64 xm, .int .i64 xo, .int .i64 xg, .slice xA xn xc, .bool xd] 44)).alloc (.cells #[.int .i64 0, .int .i64 0, .int .i64 0, .int .i64 0, .slice none 0 0, .slice none 0 0] 98) = w3 := ⟨_, rfl⟩
        rw [show (wr.alloc (.cells [Value.int .i64 (q : Int), .int .i64 xk, .int .i64 xm, .int .i64 xo, .int .i64 xg, .slice xA xn xc, .bool xd].toArray 44)).alloc (.cells #[.int .i64 0, .int .i64 0, .int .i64 0, .int .i64 0, .slice none 0 0, .slice none 0 0] 98) = w3 from hw3] at hk2
        rw [hw3] at hb2 ⊢
        have b0 : w3.cell? ⟨wr.heap.size, 0, none⟩ = some (.int .i64 (q : Int)) := hk2.cell 0
        have hst3 := HS.out.1.below hb2
        obtain ⟨Pv, qv, rfl⟩ := hst3.own.form
        obtain ⟨m, hm⟩ : ∃ m, (writesL N f (lc.take i)).length = m := ⟨_, rfl⟩
        rw [hm] at hst3
        have bw0 : w3.cell? ⟨w.heap.size + 1, 0, none⟩ = some (.slice Pv m qv) := hst3.box.cell 0
        have bl0 : w3.cell? ⟨w.heap.size, 0, none⟩ = some (.pointer (some ⟨G, 0, none⟩)) := hst3.lay.cell 0
        have bl1 : w3.cell? ⟨w.heap.size, 1, none⟩ = some (.int .i64 (N : Int)) := hst3.lay.cell 1
        have H3 := Lib.hid (And.intro hst3 (And.intro hm HS.out.2))
        clear hb2 hk2 hw3 hst3 hm c0 c1 c2 c3 c4 c5 c6 HS HM
        refine wp_hideQ ?_
        intro QQ hQQ
        refine wp_region_tail [some 29, some 30, some 31, some 32, some 33, some 34, some 35, some 36, some 37, none] (LV [isV (.slice Pv m qv), isV (lay G N), isV (.pointer (some ⟨wr.heap.size, 0, none⟩)), isV (.int .i64 (q : Int)), isV (.int .i64 ((1 + q : Nat) : Int)), secV w.heap.size (List.replicate 64 0), wrV w.heap.size ((1 + q : Nat) : Int) (List.replicate 64 0), rowV w.heap.size ((1 + q : Nat) : Int) (List.replicate 64 0)]) (fun wx => Below w3.heap.size w3 wx) (fun _ a b => Below a.heap.size a b) 8 10 (by kernel_rfl) rfl (by omega) rfl (by kernel_rfl) (by kernel_rfl) (by kernel_rfl) (drew_below w3) LV.loc (LV.st (by simp [isV.st, secV.st, wrV.st, rowV.st])) ?_ ?_
        · intro i hi
          match i, hi with
          | 0, _ =>
            refine StepL.of rfl [] (by decide +kernel) ?_
            intro v wx hR hd K hK
            have b0 := cell_below bw0 hR
            clear hd
            simp only [List.getElem_toArray, List.getElem_cons_zero, List.getElem_cons_succ, fillR, Act.put, List.setIfInBounds_toArray, List.set_cons_zero, List.set_cons_succ] at hK ⊢
            go_simp
            exact hK.out _ _ hR (Below.refl _ _) rfl
          | 1, _ =>
            refine StepL.of rfl [] (by decide +kernel) ?_
            intro v wx hR hd K hK
            have b0 := cell_below bl0 hR
            have b1 := cell_below bl1 hR
            clear hd
            simp only [List.getElem_toArray, List.getElem_cons_zero, List.getElem_cons_succ, fillR, Act.put, List.setIfInBounds_toArray, List.set_cons_zero, List.set_cons_succ] at hK ⊢
            go_simp
            exact hK.out _ _ hR (Below.refl _ _) rfl
          | 2, _ =>
            refine StepL.of rfl [] (by decide +kernel) ?_
            intro v wx hR hd K hK
            clear hd
            simp only [List.getElem_toArray, List.getElem_cons_zero, List.getElem_cons_succ, fillR, Act.put, List.setIfInBounds_toArray, List.set_cons_zero, List.set_cons_succ] at hK ⊢
            go_simp
            exact hK.out _ _ hR (Below.refl _ _) rfl
          | 3, _ =>
            refine StepL.of rfl [2] (by decide +kernel) ?_
            intro v wx hR hd K hK
            have h2 : v 2 = _ := hd 2 (by simp)
            have b0 := cell_below b0 hR
            clear hd
            simp only [List.getElem_toArray, List.getElem_cons_zero, List.getElem_cons_succ, fillR, Act.put, List.setIfInBounds_toArray, List.set_cons_zero, List.set_cons_succ, h2] at hK ⊢
            go_simp
            exact hK.out _ _ hR (Below.refl _ _) rfl
          | 4, _ =>
            refine StepL.of rfl [1, 3] (by decide +kernel) ?_
            intro v wx hR hd K hK
            have h1 : v 1 = _ := hd 1 (by simp)
            have h3 : v 3 = _ := hd 3 (by simp)
            clear hd
            simp only [List.getElem_toArray, List.getElem_cons_zero, List.getElem_cons_succ, fillR, Act.put, List.setIfInBounds_toArray, List.set_cons_zero, List.set_cons_succ, h1, h3] at hK ⊢
            go_simp
            refine (nodeAt_any (G := G) (N := N) q (by omega)).mono ?_
            rintro e w' ⟨rfl, hW⟩
            have hq := hK.out (.int .i64 ((1 + q : Nat) : Int)) w' (hR.trans (hW.mono hR.size)) hW rfl
            clear hK hW
            go_wp2_with fail
            exact hq
          | 5, _ =>
            refine StepL.of rfl [] (by decide +kernel) ?_
            intro v wx hR hd K hK
            clear hd
            simp only [List.getElem_toArray, List.getElem_cons_zero, List.getElem_cons_succ, fillR, Act.put, List.setIfInBounds_toArray, List.set_cons_zero, List.set_cons_succ] at hK ⊢
            go_simp
            refine (sector_none _).mono ?_
            rintro e w' ⟨rfl, hB, hW⟩
            have hq := hK.out (.slice (some ⟨wx.heap.size, 0, none⟩) 64 64) w' (hR.trans (hW.mono hR.size)) hW ⟨_, rfl, by have := hR.size; have := H3.out.1.sz; omega, hB⟩
            clear hK hW hB
            go_wp2_with fail
            exact hq
          | 6, _ =>
            refine StepL.of rfl [4, 5] (by decide +kernel) ?_
            intro v wx hR hd K hK
            have h4 : v 4 = _ := hd 4 (by simp)
            obtain ⟨g5, h5, hg5, hB5⟩ : secV w.heap.size (List.replicate 64 0) (v 5) wx := hd 5 (by simp)
            have HV := Lib.hid hB5
            clear hd hB5
            simp only [List.getElem_toArray, List.getElem_cons_zero, List.getElem_cons_succ, fillR, Act.put, List.setIfInBounds_toArray, List.set_cons_zero, List.set_cons_succ, h4, h5] at hK ⊢
            go_simp
            exact hK.out _ _ hR (Below.refl _ _) ⟨g5, rfl, hg5, HV.out⟩
          | 7, _ =>
            refine StepL.of rfl [6] (by decide +kernel) ?_
            intro v wx hR hd K hK
            obtain ⟨g6, h6, hg6, hB6⟩ : wrV w.heap.size ((1 + q : Nat) : Int) (List.replicate 64 0) (v 6) wx := hd 6 (by simp)
            have hn := Blk.new wx 146 [.int .i64 ((1 + q : Nat) : Int), .slice (some ⟨g6, 0, none⟩) 64 64]
            have hnb := new_below wx (.cells #[.int .i64 ((1 + q : Nat) : Int), .slice (some ⟨g6, 0, none⟩) 64 64] 146)
            have HV := Lib.hid (And.intro hn (And.intro hnb (hB6.below hnb hB6.lt)))
            clear hd hB6 hn hnb
            simp only [List.getElem_toArray, List.getElem_cons_zero, List.getElem_cons_succ, fillR, Act.put, List.setIfInBounds_toArray, List.set_cons_zero, List.set_cons_succ, h6] at hK ⊢
            go_simp
            exact hK.out _ _ (hR.trans (HV.out.2.1.mono hR.size)) HV.out.2.1 ⟨_, g6, rfl, HV.out.1, hg6, HV.out.2.2⟩
          | i + 8, h => omega
        · intro v wx hR hV
          have h0 : v 0 = _ := hV 0 (by omega)
          obtain ⟨p7, g7, h7, hp7, hg7, hB7⟩ : rowV w.heap.size ((1 + q : Nat) : Int) (List.replicate 64 0) (v 7) wx := hV 7 (by omega)
          have HV := Lib.hid (And.intro (H3.out.1.below hR) (And.intro hp7 (blk_bts hB7 hg7 (by simp))))
          clear hV hR hp7 hB7
          simp only [fillR, Act.put, List.setIfInBounds_toArray, List.set_cons_zero, List.set_cons_succ, h0, h7, List.drop_succ_cons, List.drop_zero]
          have hlenw := HLE.out
          have hszv := HV.out.1.sz
          go_wp2_with (first
            | (at_builtin; refine wpList_app_write rfl (.tmp 29) (.tmp 36) rfl rfl HV.out.1.own p7 _ _ 64 64 rfl HV.out.2.1 (List.replicate 64 0) HV.out.2.2 hlenw hszv ?_; intro g8 q8 w8 hown8 hk8; have hbx8 := hk8.keep _ _ _ (by decide) (by simp) HV.out.1.box; have e8 := hbx8.cell 0; have f8 := hbx8.frozen 0; simp only [List.getElem?_cons_zero] at e8; have H8 := Lib.hid (WrSt.app HV.out.1 (by omega) (by omega) hk8 hown8); clear hown8 hk8 hbx8)
            | go_in)
          refine ⟨⟨i + 1, ds, .slice (some ⟨g8, 0, none⟩) ((writesL N f (lc.take i)).length + 1) q8, ?_⟩, ?measure⟩
          (repeat apply Exists.intro)
          refine ⟨⟨hlt, ?_⟩, rfl⟩
          · rw [writesL_snoc H3.out.2.2, hq, show ((q : Nat) : Int).toNat = q by omega, nodeWs_none hfq]
            exact H8.out
          case measure => simp [intOf]; omega
      | some hd =>
        rw [hfq] at hFq
        obtain ⟨y, hy, hin⟩ := hFq
        have HIN := Lib.hid (show HIn A w y hd by
          have := hF0 q
          rw [hfq] at this
          obtain ⟨y', h1, h2⟩ := this
          rw [hy] at h1
          cases h1
          exact h2)
        have HDL := Lib.hid (show ∀ D ∈ ds, D < wr.heap.size from fun D hD => (Array.getElem?_eq_some_iff.1 (hst.dfs D hD).2).1)
        have hok := HL.out.2.1.ok q hd hfq
        have hb0 := hin.below hb1
        have hyn : hd.data.length = y.n := hin.data.cells.1
        have hyl : hd.bl.length = y.l := hin.bl.len
        have hb2 := below_of hb1 (new_below _ (.cells #[.int .i64 y.k, .int .i64 y.m, .int .i64 y.o, .int .i64 y.g, .slice y.A y.n y.c, .slice y.P y.l y.q] 98))
        have hin2 := hin.below hb2
        have hk2 := (Blk.new wr 44 [.int .i64 (q : Int), .int .i64 xk, .int .i64 xm, .int .i64 xo, .int .i64 xg, .slice xA xn xc, .bool xd]).alloc (.cells #[.int .i64 y.k, .int .i64 y.m, .int .i64 y.o, .int .i64 y.g, .slice y.A y.n y.c, .slice y.P y.l y.q] 98)
        have hh2 := Blk.new (wr.alloc (.cells #[.int .i64 (q : Int), .int .i64 xk, .int .i64 xm, .int .i64 xo, .int .i64 xg, .slice xA xn xc, .bool xd] 44)) 98 [.int .i64 y.k, .int .i64 y.m, .int .i64 y.o, .int .i64 y.g, .slice y.A y.n y.c, .slice y.P y.l y.q]
        rw [World.size_alloc] at hh2
        have HM := Lib.hid (And.intro hM1 hy)
        have HS := Lib.hid (And.intro (hst.below hb2) (And.intro hch (And.intro hok (And.intro hin2 (And.intro hk2 (And.intro hh2 hb2))))))
        clear hst hM hF hM1 hin hb0 hb1 hch hok hin2 hk2 hh2 hb2
        obtain ⟨yk, ym, yo, yg, yA, yn, yc, yP, yl, yq⟩ := y
        dsimp only at HS HM hy hyn hyl
        have HYL := Lib.hid (And.intro hyn (And.intro hyl (show yl = blks yn by have := HS.out.2.2.1.2.2.1; rw [hyn, hyl] at this; exact this)))
        clear hyn hyl
        go_wp2_with (first
          | (at_lookup; refine wp_look_yes rfl (.tmp 21) (.tmp 23) rfl HM.out.1 q (by omega) ⟨yk, ym, yo, yg, yA, yn, yc, yP, yl, yq⟩ HM.out.2 rfl rfl ?_)
          | (go_at_call 60; refine (chunk_make _ yA yn yc 64 (by omega)).mono ?_; rintro e w4 ⟨rfl, rfl⟩)
          | go_in)
        have hcap : yn ≤ yc ∧ yc ≤ 9223372036854775807 := by
          obtain ⟨P', c', e, h1, h2⟩ := HS.out.2.2.2.1.data.form
          dsimp only at e
          rw [HYL.out.1] at e h1
          cases e
          exact ⟨h1, h2⟩
        have hyn5 : yn ≤ 512 := by have := HS.out.2.2.1.2.1; have := HYL.out.1; omega
        have hbk := blks_8 hyn5
        obtain ⟨ga, oa, hA⟩ : ∃ ga oa, 0 < yn → yA = some ⟨ga, oa, none⟩ := by
          by_cases h0 : 0 < yn
          · obtain ⟨ga, oa, h, _⟩ := HS.out.2.2.2.1.data.cells.2 h0
            exact ⟨ga, oa, fun _ => h⟩
          · exact ⟨0, 0, fun h => absurd h h0⟩
        have hsz5 : (((((wr.alloc (.cells #[.int .i64 (q : Int), .int .i64 xk, .int .i64 xm, .int .i64 xo, .int .i64 xg, .slice xA xn xc, .bool xd] 44)).alloc (.cells #[.int .i64 yk, .int .i64 ym, .int .i64 yo, .int .i64 yg, .slice yA yn yc, .slice yP yl yq] 98)).alloc (.cells #[.int .i64 0] 3)).alloc (.cells #[.slice yA yn yc] 40)).alloc (.cells #[.int .i64 64] 3)).heap.size = wr.heap.size + 1 + 1 + 1 + 1 + 1 := by simp
        have X5 : RgSt w.heap.size G N w ds (writesL N f (lc.take i)) hd wr.heap.size yn [.int .i64 (q : Int), .int .i64 xk, .int .i64 xm, .int .i64 xo, .int .i64 xg, .slice xA xn xc, .bool xd] [.int .i64 yk, .int .i64 ym, .int .i64 yo, .int .i64 yg, .slice yA yn yc, .slice yP yl yq] (.slice yA yn yc) [] (((((wr.alloc (.cells #[.int .i64 (q : Int), .int .i64 xk, .int .i64 xm, .int .i64 xo, .int .i64 xg, .slice xA xn xc, .bool xd] 44)).alloc (.cells #[.int .i64 yk, .int .i64 ym, .int .i64 yo, .int .i64 yg, .slice yA yn yc, .slice yP yl yq] 98)).alloc (.cells #[.int .i64 0] 3)).alloc (.cells #[.slice yA yn yc] 40)).alloc (.cells #[.int .i64 64] 3)) := by
          have hbb := (new_below ((wr.alloc (.cells #[.int .i64 (q : Int), .int .i64 xk, .int .i64 xm, .int .i64 xo, .int .i64 xg, .slice xA xn xc, .bool xd] 44)).alloc (.cells #[.int .i64 yk, .int .i64 ym, .int .i64 yo, .int .i64 yg, .slice yA yn yc, .slice yP yl yq] 98)) (.cells #[.int .i64 0] 3)).trans (((new_below (((wr.alloc (.cells #[.int .i64 (q : Int), .int .i64 xk, .int .i64 xm, .int .i64 xo, .int .i64 xg, .slice xA xn xc, .bool xd] 44)).alloc (.cells #[.int .i64 yk, .int .i64 ym, .int .i64 yo, .int .i64 yg, .slice yA yn yc, .slice yP yl yq] 98)).alloc (.cells #[.int .i64 0] 3)) (.cells #[.slice yA yn yc] 40)).mono (by simp)).trans ((new_below ((((wr.alloc (.cells #[.int .i64 (q : Int), .int .i64 xk, .int .i64 xm, .int .i64 xo, .int .i64 xg, .slice xA xn xc, .bool xd] 44)).alloc (.cells #[.int .i64 yk, .int .i64 ym, .int .i64 yo, .int .i64 yg, .slice yA yn yc, .slice yP yl yq] 98)).alloc (.cells #[.int .i64 0] 3)).alloc (.cells #[.slice yA yn yc] 40)) (.cells #[.int .i64 64] 3)).mono (by simp)))
          refine ⟨⟨vs, ?_⟩, ?_, ((HS.out.2.2.2.2.1.alloc _).alloc _).alloc _, ((HS.out.2.2.2.2.2.1.alloc _).alloc _).alloc _, ?_, ?_⟩
          · have := HS.out.1.below hbb
            simpa [partsW] using this
          · have := ((Blk.new ((wr.alloc (.cells #[.int .i64 (q : Int), .int .i64 xk, .int .i64 xm, .int .i64 xo, .int .i64 xg, .slice xA xn xc, .bool xd] 44)).alloc (.cells #[.int .i64 yk, .int .i64 ym, .int .i64 yo, .int .i64 yg, .slice yA yn yc, .slice yP yl yq] 98)) 3 [.int .i64 0]).alloc (.cells #[.slice yA yn yc] 40)).alloc (.cells #[.int .i64 64] 3)
            simp only [World.size_alloc] at this
            exact this
          · have := (Blk.new (((wr.alloc (.cells #[.int .i64 (q : Int), .int .i64 xk, .int .i64 xm, .int .i64 xo, .int .i64 xg, .slice xA xn xc, .bool xd] 44)).alloc (.cells #[.int .i64 yk, .int .i64 ym, .int .i64 yo, .int .i64 yg, .slice yA yn yc, .slice yP yl yq] 98)).alloc (.cells #[.int .i64 0] 3)) 40 [.slice yA yn yc]).alloc (.cells #[.int .i64 64] 3)
            simp only [World.size_alloc] at this
            exact this
          · have := Blk.new ((((wr.alloc (.cells #[.int .i64 (q : Int), .int .i64 xk, .int .i64 xm, .int .i64 xo, .int .i64 xg, .slice xA xn xc, .bool xd] 44)).alloc (.cells #[.int .i64 yk, .int .i64 ym, .int .i64 yo, .int .i64 yg, .slice yA yn yc, .slice yP yl yq] 98)).alloc (.cells #[.int .i64 0] 3)).alloc (.cells #[.slice yA yn yc] 40)) 3 [.int .i64 64]
            simp only [World.size_alloc] at this
            exact this
        have hdl : ∀ D ∈ ds, D < wr.heap.size := HDL.out
        have HX := Lib.hid (And.intro HS.out.2.1 (And.intro HS.out.2.2.1 (And.intro HIN.out hdl)))
        have hpz : 0 < yl → ∃ g, yP = some ⟨g, 0, none⟩ ∧ A g ∧ g < w.heap.size ∧ ∀ (j x : Nat), hd.bl[j]? = some x → w.cell? ⟨g, j, none⟩ = some (.int .i64 (x : Int)) := fun h => HIN.out.bl.cells h
        clear HS HM hy c0 c1 c2 c3 c4 c5 c6 hdl
        obtain ⟨W5, hW5⟩ : ∃ W5, (((((wr.alloc (.cells #[.int .i64 (q : Int), .int .i64 xk, .int .i64 xm, .int .i64 xo, .int .i64 xg, .slice xA xn xc, .bool xd] 44)).alloc (.cells #[.int .i64 yk, .int .i64 ym, .int .i64 yo, .int .i64 yg, .slice yA yn yc, .slice yP yl yq] 98)).alloc (.cells #[.int .i64 0] 3)).alloc (.cells #[.slice yA yn yc] 40)).alloc (.cells #[.int .i64 64] 3)) = W5 := ⟨_, rfl⟩
        rw [hW5] at X5 hsz5 ⊢
        clear hW5
        refine (wpIn_wide (n := 8)).1 ?_
        refine wpIn_rangeFunc_ownG (F := Fence.wide) rfl (by omega) (gf := 96) (lb := #[.pointer (some ⟨wr.heap.size + 1 + 1 + 1, 0, none⟩), .pointer (some ⟨wr.heap.size + 1 + 1 + 1 + 1, 0, none⟩)]) rfl trivial (enters_of Tryz.func96 (by kernel_rfl) rfl)
          (chunk_stops Fence.wide _ trivial rfl (by omega) (wr.heap.size + 1 + 1 + 1) (wr.heap.size + 1 + 1 + 1 + 1) ga oa yn yc yA hA (by omega) hcap.1 hcap.2 W5 (by omega) (by omega) (X5.bs.cell 0) (X5.bn.cell 0))
          (fun h k => h.trans k) (fun W l o o' _ ho hc _ => KpC.put W l o o' ho hc) (Below.refl _ _) (fun _ => rfl)
          (fun pre W => RgSt w.heap.size G N w ds (writesL N f (lc.take i)) hd wr.heap.size yn [.int .i64 (q : Int), .int .i64 xk, .int .i64 xm, .int .i64 xo, .int .i64 xg, .slice xA xn xc, .bool xd] [.int .i64 yk, .int .i64 ym, .int .i64 yo, .int .i64 yg, .slice yA yn yc, .slice yP yl yq] (.slice yA yn yc) pre W) (fun _ _ _ => False)
          (fun pre X Y row h hg hr => h.turn hg hr (by omega) (fun D hD => by have := HX.out.2.2.2 D hD; omega)) (fun _ _ _ _ _ hs _ _ => hs) X5
          (fun x => { tmps := #[lay G N, .slice (some ⟨g, o, none⟩) len cap, .map (some M), .pointer (some ⟨w.heap.size, 0, none⟩), undef, undef, .slice none 0 0, .pointer (some ⟨w.heap.size + 1, 0, none⟩), undef, .pointer (some ⟨wr.heap.size, 0, none⟩), .pointer (some ⟨wr.heap.size + 1, 0, none⟩), .bool true, .pointer (some ⟨wr.heap.size + 1 + 1, 0, none⟩), .slice (some ⟨ga, oa + 64 * x.1, none⟩) (min 64 (yn - 64 * x.1)) (min 64 (yn - 64 * x.1)), .slice (some ⟨g, o, none⟩) len cap, .int .i64 (len : Int), .int .i64 (i : Int), .bool true, .pointer (some ⟨g, o + i * 7, none⟩), .agg #[.int .i64 (q : Int), .int .i64 xk, .int .i64 xm, .int .i64 xo, .int .i64 xg, .slice xA xn xc, .bool xd], .tuple #[hval ⟨yk, ym, yo, yg, yA, yn, yc, yP, yl, yq⟩, .bool true], .map (some M), .pointer (some ⟨wr.heap.size, 0, none⟩), .int .i64 (q : Int), .tuple #[hval ⟨yk, ym, yo, yg, yA, yn, yc, yP, yl, yq⟩, .bool true], hval ⟨yk, ym, yo, yg, yA, yn, yc, yP, yl, yq⟩, .bool true, .bool true, .bool false, u29, u30, u31, u32, u33, u34, u35, u36, u37, .pointer (some ⟨wr.heap.size + 1, 0, none⟩), .pointer (some ⟨wr.heap.size + 1, 4, none⟩), .slice yA yn yc, .func (.func 96) #[] #[.pointer (some ⟨wr.heap.size + 1 + 1 + 1, 0, none⟩), .pointer (some ⟨wr.heap.size + 1 + 1 + 1 + 1, 0, none⟩)], .slice (some ⟨ga, oa + 64 * x.1, none⟩) (min 64 (yn - 64 * x.1)) (min 64 (yn - 64 * x.1)), u43, u44, u45, u46, u47, u48, u49, u50, u51, u52, u53, u54, u55, u56, u57, u58, u59, u60, u61, u62, u63, u64, u65, u66, u67, u68, u69, undef], defers := [] }) ?assign ?body ?done ?stop
        case assign =>
          intro l' x W K' hK'
          simp only [partV, List.zip_toArray, List.zip_cons_cons, List.zip_nil_left, List.foldl_toArray, List.foldl_cons, List.foldl_nil, List.setIfInBounds_toArray, List.set_cons_zero, List.set_cons_succ]
          gi_wp2
          exact hK'
        case body =>
          rintro l' pre x W hI hlt'
          have HI := Lib.hid hI
          obtain ⟨vs', hwr⟩ := hI.wr
          obtain ⟨Pv, qv, rfl⟩ := hwr.own.form
          obtain ⟨WS, hWS⟩ : ∃ WS, writesL N f (lc.take i) ++ partsW N hd (pre.map (·.1)) = WS := ⟨_, rfl⟩
          rw [hWS] at hwr
          obtain ⟨m, hm⟩ : ∃ m, WS.length = m := ⟨_, rfl⟩
          rw [hm] at hwr
          obtain ⟨k, hk⟩ : ∃ k, pre.length = k := ⟨_, rfl⟩
          rw [hk] at hlt'
          have hpl := hI.place
          rw [hk] at hpl
          obtain ⟨gb, rfl, hgb, hgbl, hcs⟩ := hpz (by have h1 := HYL.out.2.1; have h2 := HYL.out.2.2; omega)
          obtain ⟨b, hb⟩ : ∃ b, hd.bl[k]? = some b := ⟨_, List.getElem?_eq_getElem (by have h1 := HYL.out.2.1; have h2 := HYL.out.2.2; omega)⟩
          have hbK := HX.out.2.1.2.2.2.2 b (List.mem_of_getElem? hb)
          have cb := (hwr.bel.cell (p := ⟨gb, k, none⟩) hgbl).trans (hcs k b hb)
          have hdt := (HX.out.2.2.1.data.below hwr.bel)
          rw [hA (by have := x.2; omega)] at hdt
          have hpt := Bts.part hdt x.2
          have bw0 : W.cell? ⟨w.heap.size + 1, 0, none⟩ = some (.slice Pv m qv) := hwr.box.cell 0
          have bl0 : W.cell? ⟨w.heap.size, 0, none⟩ = some (.pointer (some ⟨G, 0, none⟩)) := hwr.lay.cell 0
          have bl1 : W.cell? ⟨w.heap.size, 1, none⟩ = some (.int .i64 (N : Int)) := hwr.lay.cell 1
          have bh5 : W.cell? ⟨wr.heap.size + 1, 5, none⟩ = some (.slice (some ⟨gb, 0, none⟩) yl yq) := hI.held.cell 5
          have bp0 : W.cell? ⟨wr.heap.size + 1 + 1, 0, none⟩ = some (.int .i64 (k : Int)) := hpl.cell 0
          have hklt : k < yl := by have h1 := HYL.out.2.1; have h2 := HYL.out.2.2; omega
          have hmle : WS.length ≤ 1000000 := by
            rw [← hWS]
            have h1 := writesL_le (N := N) HL.out.2.1 (lc.take i)
            have h2 : (lc.take i).length ≤ 1000 := by rw [List.length_take]; omega
            have h3 := partsW_length N hd (pre.map (·.1))
            rw [List.length_append, h3, List.length_map]
            omega
          have HPT := Lib.hid (And.intro hpt (show 0 < (piece hd.data x.1).length by
            unfold piece
            rw [List.length_take, List.length_drop]
            have h1 := HYL.out.1
            have h2 := x.2
            omega))
          have HW := Lib.hid (And.intro hwr (And.intro hk (And.intro hb (And.intro hmle hpl))))
          have HWS := Lib.hid hWS
          have hne := show wr.heap.size + 1 + 1 ≠ w.heap.size + 1 by omega
          have hbn : b < K := hbK
          have hszW := hwr.sz
          clear hwr hk hb hmle hpl hpt hI hdt hcs hbK hm hWS
          gi_wp2
          refine wpIn_hideQ (fun ⟨_, _, h⟩ => h) ?_
          intro QQ hnoq hQQ
          refine wpIn_region_tail [some 43, some 44, some 45, some 46, some 47, some 48, some 49, some 50, some 51, some 52, some 53, some 54, some 55, some 56, none] (LV [isV (.slice Pv m qv), isV (lay G N), isV (.pointer (some ⟨wr.heap.size + 1, 5, none⟩)), isV (.slice (some ⟨gb, 0, none⟩) yl yq), isV (.int .i64 (k : Int)), isV (.pointer (some ⟨gb, k, none⟩)), isV (.int .i64 (b : Int)), isV (.int .i64 ((1 + N + b : Nat) : Int)), isV (.slice (some ⟨ga, oa + 64 * x.1, none⟩) (min 64 (yn - 64 * x.1)) (min 64 (yn - 64 * x.1))), oneV (.slice (some ⟨ga, oa + 64 * x.1, none⟩) (min 64 (yn - 64 * x.1)) (min 64 (yn - 64 * x.1))), secV w.heap.size (pad64 (piece hd.data x.1)), wrV w.heap.size ((1 + N + b : Nat) : Int) (pad64 (piece hd.data x.1)), rowV w.heap.size ((1 + N + b : Nat) : Int) (pad64 (piece hd.data x.1))]) (fun wx => Below W.heap.size W wx) (fun _ a b => Below a.heap.size a b) 13 15 (by kernel_rfl) (by kernel_rfl) hnoq rfl (by omega) rfl (by kernel_rfl) (by kernel_rfl) (by kernel_rfl) (drew_below W) LV.loc (LV.st (by simp [isV.st, secV.st, wrV.st, rowV.st, oneV.st])) ?_ ?_
          · intro i' hi'
            match i', hi' with
            | 0, _ =>
              refine StepL.of rfl [] (by decide +kernel) ?_
              intro v wx hR hdp K hK
              have b0 := cell_below bw0 hR
              clear hdp
              simp only [List.getElem_toArray, List.getElem_cons_zero, List.getElem_cons_succ, fillR, Act.put, List.setIfInBounds_toArray, List.set_cons_zero, List.set_cons_succ] at hK ⊢
              go_simp
              exact hK.out _ _ hR (Below.refl _ _) rfl
            | 1, _ =>
              refine StepL.of rfl [] (by decide +kernel) ?_
              intro v wx hR hdp K hK
              have b0 := cell_below bl0 hR
              have b1 := cell_below bl1 hR
              clear hdp
              simp only [List.getElem_toArray, List.getElem_cons_zero, List.getElem_cons_succ, fillR, Act.put, List.setIfInBounds_toArray, List.set_cons_zero, List.set_cons_succ] at hK ⊢
              go_simp
              exact hK.out _ _ hR (Below.refl _ _) rfl
            | 2, _ =>
              refine StepL.of rfl [] (by decide +kernel) ?_
              intro v wx hR hdp K hK
              clear hdp
              simp only [List.getElem_toArray, List.getElem_cons_zero, List.getElem_cons_succ, fillR, Act.put, List.setIfInBounds_toArray, List.set_cons_zero, List.set_cons_succ] at hK ⊢
              go_simp
              exact hK.out _ _ hR (Below.refl _ _) rfl
            | 3, _ =>
              refine StepL.of rfl [2] (by decide +kernel) ?_
              intro v wx hR hdp K hK
              have h2 : v 2 = _ := hdp 2 (by simp)
              have b0 := cell_below bh5 hR
              clear hdp
              simp only [List.getElem_toArray, List.getElem_cons_zero, List.getElem_cons_succ, fillR, Act.put, List.setIfInBounds_toArray, List.set_cons_zero, List.set_cons_succ, h2] at hK ⊢
              go_simp
              exact hK.out _ _ hR (Below.refl _ _) rfl
            | 4, _ =>
              refine StepL.of rfl [] (by decide +kernel) ?_
              intro v wx hR hdp K hK
              have b0 := cell_below bp0 hR
              clear hdp
              simp only [List.getElem_toArray, List.getElem_cons_zero, List.getElem_cons_succ, fillR, Act.put, List.setIfInBounds_toArray, List.set_cons_zero, List.set_cons_succ] at hK ⊢
              go_simp
              exact hK.out _ _ hR (Below.refl _ _) rfl
            | 5, _ =>
              refine StepL.of rfl [3, 4] (by decide +kernel) ?_
              intro v wx hR hdp K hK
              have h3 : v 3 = _ := hdp 3 (by simp)
              have h4 : v 4 = _ := hdp 4 (by simp)
              clear hdp
              simp only [List.getElem_toArray, List.getElem_cons_zero, List.getElem_cons_succ, fillR, Act.put, List.setIfInBounds_toArray, List.set_cons_zero, List.set_cons_succ, h3, h4] at hK ⊢
              go_simp
              exact hK.out _ _ hR (Below.refl _ _) rfl
            | 6, _ =>
              refine StepL.of rfl [5] (by decide +kernel) ?_
              intro v wx hR hdp K hK
              have h5 : v 5 = _ := hdp 5 (by simp)
              have b0 := cell_below cb hR
              clear hdp
              simp only [List.getElem_toArray, List.getElem_cons_zero, List.getElem_cons_succ, fillR, Act.put, List.setIfInBounds_toArray, List.set_cons_zero, List.set_cons_succ, h5] at hK ⊢
              go_simp
              exact hK.out _ _ hR (Below.refl _ _) rfl
            | 7, _ =>
              refine StepL.of rfl [1, 6] (by decide +kernel) ?_
              intro v wx hR hdp K hK
              have h1 : v 1 = _ := hdp 1 (by simp)
              have h6 : v 6 = _ := hdp 6 (by simp)
              clear hdp
              simp only [List.getElem_toArray, List.getElem_cons_zero, List.getElem_cons_succ, fillR, Act.put, List.setIfInBounds_toArray, List.set_cons_zero, List.set_cons_succ, h1, h6] at hK ⊢
              go_simp
              refine (blockAt_any (G := G) (N := N) b (by omega) (by omega)).mono ?_
              rintro e w' ⟨rfl, hW⟩
              have hq' := hK.out (.int .i64 ((1 + N + b : Nat) : Int)) w' (hR.trans (hW.mono hR.size)) hW rfl
              clear hK hW
              go_wp2_with fail
              exact hq'
            | 8, _ =>
              refine StepL.of rfl [] (by decide +kernel) ?_
              intro v wx hR hdp K hK
              clear hdp
              simp only [List.getElem_toArray, List.getElem_cons_zero, List.getElem_cons_succ, fillR, Act.put, List.setIfInBounds_toArray, List.set_cons_zero, List.set_cons_succ] at hK ⊢
              go_simp
              exact hK.out _ _ hR (Below.refl _ _) rfl
            | 9, _ =>
              refine StepL.of rfl [8] (by decide +kernel) ?_
              intro v wx hR hdp K hK
              have h8 : v 8 = _ := hdp 8 (by simp)
              have hn := Blk.new wx 40 [.slice (some ⟨ga, oa + 64 * x.1, none⟩) (min 64 (yn - 64 * x.1)) (min 64 (yn - 64 * x.1))]
              have hnb := new_below wx (.cells #[.slice (some ⟨ga, oa + 64 * x.1, none⟩) (min 64 (yn - 64 * x.1)) (min 64 (yn - 64 * x.1))] 40)
              have HV := Lib.hid (And.intro hn hnb)
              clear hn hnb
              clear hdp
              simp only [List.getElem_toArray, List.getElem_cons_zero, List.getElem_cons_succ, fillR, Act.put, List.setIfInBounds_toArray, List.set_cons_zero, List.set_cons_succ, h8] at hK ⊢
              go_simp
              exact hK.out _ _ (hR.trans (HV.out.2.mono hR.size)) HV.out.2 ⟨_, rfl, HV.out.1⟩
            | 10, _ =>
              refine StepL.of rfl [9] (by decide +kernel) ?_
              intro v wx hR hdp K hK
              obtain ⟨p9, h9, hB9⟩ : oneV (.slice (some ⟨ga, oa + 64 * x.1, none⟩) (min 64 (yn - 64 * x.1)) (min 64 (yn - 64 * x.1))) (v 9) wx := hdp 9 (by simp)
              have HV := Lib.hid (sector_one wx _ p9 _ (piece hd.data x.1) hB9 ((HPT.out.1).below hR) HPT.out.2 (piece_length _ _))
              clear hB9
              clear hdp
              simp only [List.getElem_toArray, List.getElem_cons_zero, List.getElem_cons_succ, fillR, Act.put, List.setIfInBounds_toArray, List.set_cons_zero, List.set_cons_succ, h9] at hK ⊢
              go_simp
              refine HV.out.mono ?_
              rintro e w' ⟨rfl, hB, hW⟩
              have hq' := hK.out (.slice (some ⟨wx.heap.size, 0, none⟩) 64 64) w' (hR.trans (hW.mono hR.size)) hW ⟨_, rfl, by have := hR.size; have := HW.out.1.sz; omega, hB⟩
              clear hK hW hB
              go_wp2_with fail
              exact hq'
            | 11, _ =>
              refine StepL.of rfl [7, 10] (by decide +kernel) ?_
              intro v wx hR hdp K hK
              have h7 : v 7 = _ := hdp 7 (by simp)
              obtain ⟨g5, h10, hg5, hB5⟩ : secV w.heap.size (pad64 (piece hd.data x.1)) (v 10) wx := hdp 10 (by simp)
              have HV := Lib.hid hB5
              clear hB5
              clear hdp
              simp only [List.getElem_toArray, List.getElem_cons_zero, List.getElem_cons_succ, fillR, Act.put, List.setIfInBounds_toArray, List.set_cons_zero, List.set_cons_succ, h7, h10] at hK ⊢
              go_simp
              exact hK.out _ _ hR (Below.refl _ _) ⟨g5, rfl, hg5, HV.out⟩
            | 12, _ =>
              refine StepL.of rfl [11] (by decide +kernel) ?_
              intro v wx hR hdp K hK
              obtain ⟨g6, h11, hg6, hB6⟩ : wrV w.heap.size ((1 + N + b : Nat) : Int) (pad64 (piece hd.data x.1)) (v 11) wx := hdp 11 (by simp)
              have hn := Blk.new wx 146 [.int .i64 ((1 + N + b : Nat) : Int), .slice (some ⟨g6, 0, none⟩) 64 64]
              have hnb := new_below wx (.cells #[.int .i64 ((1 + N + b : Nat) : Int), .slice (some ⟨g6, 0, none⟩) 64 64] 146)
              have HV := Lib.hid (And.intro hn (And.intro hnb (hB6.below hnb hB6.lt)))
              clear hB6 hn hnb
              clear hdp
              simp only [List.getElem_toArray, List.getElem_cons_zero, List.getElem_cons_succ, fillR, Act.put, List.setIfInBounds_toArray, List.set_cons_zero, List.set_cons_succ, h11] at hK ⊢
              go_simp
              exact hK.out _ _ (hR.trans (HV.out.2.1.mono hR.size)) HV.out.2.1 ⟨_, g6, rfl, HV.out.1, hg6, HV.out.2.2⟩
            | i' + 13, h => omega
          · intro v wx hR hV
            have h0 : v 0 = _ := hV 0 (by omega)
            obtain ⟨p7, g7, h12, hp7, hg7, hB7⟩ : rowV w.heap.size ((1 + N + b : Nat) : Int) (pad64 (piece hd.data x.1)) (v 12) wx := hV 12 (by omega)
            have HV := Lib.hid (And.intro (HW.out.1.below hR) (And.intro hp7 (And.intro (blk_bts hB7 hg7 (pad_len (piece_length _ _))) (And.intro (HW.out.2.2.2.2.below hR HW.out.2.2.2.2.lt) hR))))
            clear hV hR hp7 hB7
            simp only [fillR, Act.put, List.setIfInBounds_toArray, List.set_cons_zero, List.set_cons_succ, h0, h12, List.drop_succ_cons, List.drop_zero]
            have hlenw := HW.out.2.2.2.1
            have hszv := HV.out.1.sz
            go_wp2_with (first
              | (at_builtin; refine wpList_app_write rfl (.tmp 43) (.tmp 55) rfl (show _ = Value.slice Pv m qv from rfl) HV.out.1.own p7 _ _ 64 64 rfl HV.out.2.1 (pad64 (piece hd.data x.1)) HV.out.2.2.1 hlenw hszv ?_; intro g8 q8 w8 hown8 hk8; have hbx8 := hk8.keep _ _ _ (by decide) (by simp) HV.out.1.box; have e8 := hbx8.cell 0; have f8 := hbx8.frozen 0; have hp8 := hk8.keep _ _ _ (by decide) (by simp) HV.out.2.2.2.1; have p8 := hp8.cell 0; have pf8 := hp8.frozen 0; simp only [List.getElem?_cons_zero] at e8 p8; have H8 := Lib.hid (And.intro (WrSt.app HV.out.1 (by omega) (by omega) hk8 hown8) hk8); clear hown8 hbx8 hp8)
              | go_in)
            have HR := Lib.hid HV.out.2.2.2.2
            gi_wp2
            have hw8 := H8.out.1
            have e1 : WS ++ [(((1 + N + b : Nat) : Int), pad64 (piece hd.data x.1))] = writesL N f (lc.take i) ++ partsW N hd ((pre ++ [x]).map (·.1)) := by
              rw [List.map_append, List.map_cons, List.map_nil, partsW_snoc, ← List.append_assoc, HWS.out, List.length_map, HW.out.2.1, List.getD_eq_getElem?_getD, HW.out.2.2.1]
              rfl
            rw [e1] at hw8
            have hstep := RgSt.step (z := (k : Int) + 1) HI.out HR.out H8.out.2 hw8 (by omega) (by have := HW.out.2.1; simp; omega)
            exact ⟨RgSt.keeps HR.out H8.out.2, HI.out.kpc hstep, hstep⟩
        case done =>
          rintro D xs W hD hS hI hK'
          obtain ⟨vs', hwr⟩ := hI.wr
          rw [hS, ← HYL.out.1, partsW_all] at hwr
          obtain ⟨Pv, qv, rfl⟩ := hwr.own.form
          obtain ⟨WS, hWS⟩ : ∃ WS, writesL N f (lc.take i) ++ dataW N hd = WS := ⟨_, rfl⟩
          rw [hWS] at hwr
          obtain ⟨m, hm⟩ : ∃ m, WS.length = m := ⟨_, rfl⟩
          rw [hm] at hwr
          have hbl8 : hd.bl.length ≤ 8 := by have h1 := HYL.out.2.1; have h2 := HYL.out.2.2; omega
          have hbl6 : ∀ b ∈ hd.bl, b ≤ 1000000 := fun b hb => by have := HX.out.2.1.2.2.2.2 b hb; omega
          have hmle : WS.length ≤ 1000000 := by
            rw [← hWS]
            have h1 := writesL_le (N := N) HL.out.2.1 (lc.take i)
            have h2 : (lc.take i).length ≤ 1000 := by rw [List.length_take]; omega
            have h3 : (dataW N hd).length = blks hd.data.length := by simp [dataW]
            have h4 := blks_8 HX.out.2.1.2.1
            rw [List.length_append, h3]
            omega
          have hwr : WrSt w.heap.size w.heap.size (w.heap.size + 1) G N w (D :: ds) (.slice Pv m qv) WS W := ⟨hwr.bel, hwr.sz, hwr.own, hwr.box, hwr.lay, List.nodup_cons.2 ⟨fun hm' => (by have := HX.out.2.2.2 D hm'; omega), hwr.nd⟩, fun E hE => by
            rcases List.mem_cons.1 hE with rfl | hE
            · exact ⟨by omega, hK'⟩
            · exact hwr.dfs E hE⟩
          have bw0 : W.cell? ⟨w.heap.size + 1, 0, none⟩ = some (.slice Pv m qv) := hwr.box.cell 0
          have bl0 : W.cell? ⟨w.heap.size, 0, none⟩ = some (.pointer (some ⟨G, 0, none⟩)) := hwr.lay.cell 0
          have bl1 : W.cell? ⟨w.heap.size, 1, none⟩ = some (.int .i64 (N : Int)) := hwr.lay.cell 1
          have bc0 : W.cell? ⟨wr.heap.size, 0, none⟩ = some (.int .i64 (q : Int)) := hI.ch.cell 0
          have bh0 : W.cell? ⟨wr.heap.size + 1, 0, none⟩ = some (.int .i64 yk) := hI.held.cell 0
          have bh1 : W.cell? ⟨wr.heap.size + 1, 1, none⟩ = some (.int .i64 ym) := hI.held.cell 1
          have bh2 : W.cell? ⟨wr.heap.size + 1, 2, none⟩ = some (.int .i64 yo) := hI.held.cell 2
          have bh3 : W.cell? ⟨wr.heap.size + 1, 3, none⟩ = some (.int .i64 yg) := hI.held.cell 3
          have bh4 : W.cell? ⟨wr.heap.size + 1, 4, none⟩ = some (.slice yA yn yc) := hI.held.cell 4
          have bh5 : W.cell? ⟨wr.heap.size + 1, 5, none⟩ = some (.slice yP yl yq) := hI.held.cell 5
          have HIW := Lib.hid (HX.out.2.2.1.below hwr.bel)
          have HW := Lib.hid (And.intro hwr (And.intro hWS hmle))
          clear hwr hWS hmle hI hm hS hK' hpz
          go_wp2_with fail
          refine wp_hideQ ?_
          intro QQ hQQ
          refine wp_region_tail [some 59, some 60, some 61, some 62, some 63, some 64, some 65, some 66, some 67, some 68, none] (LV [isV (.slice Pv m qv), isV (lay G N), isV (.pointer (some ⟨wr.heap.size, 0, none⟩)), isV (.int .i64 (q : Int)), isV (.int .i64 ((1 + q : Nat) : Int)), isV (hval ⟨yk, ym, yo, yg, yA, yn, yc, yP, yl, yq⟩), secV w.heap.size (noteN hd), wrV w.heap.size ((1 + q : Nat) : Int) (noteN hd), rowV w.heap.size ((1 + q : Nat) : Int) (noteN hd)]) (fun wx => Below W.heap.size W wx) (fun _ a b => Below a.heap.size a b) 9 11 (by kernel_rfl) rfl (by omega) rfl (by kernel_rfl) (by kernel_rfl) (by kernel_rfl) (drew_below W) LV.loc (LV.st (by simp [isV.st, secV.st, wrV.st, rowV.st])) ?_ ?_
          · intro i' hi'
            match i', hi' with
            | 0, _ =>
              refine StepL.of rfl [] (by decide +kernel) ?_
              intro v wx hR hdp K hK
              have b0 := cell_below bw0 hR
              clear hdp
              simp only [List.getElem_toArray, List.getElem_cons_zero, List.getElem_cons_succ, fillR, Act.put, List.setIfInBounds_toArray, List.set_cons_zero, List.set_cons_succ] at hK ⊢
              go_simp
              exact hK.out _ _ hR (Below.refl _ _) rfl
            | 1, _ =>
              refine StepL.of rfl [] (by decide +kernel) ?_
              intro v wx hR hdp K hK
              have b0 := cell_below bl0 hR
              have b1 := cell_below bl1 hR
              clear hdp
              simp only [List.getElem_toArray, List.getElem_cons_zero, List.getElem_cons_succ, fillR, Act.put, List.setIfInBounds_toArray, List.set_cons_zero, List.set_cons_succ] at hK ⊢
              go_simp
              exact hK.out _ _ hR (Below.refl _ _) rfl
            | 2, _ =>
              refine StepL.of rfl [] (by decide +kernel) ?_
              intro v wx hR hdp K hK
              clear hdp
              simp only [List.getElem_toArray, List.getElem_cons_zero, List.getElem_cons_succ, fillR, Act.put, List.setIfInBounds_toArray, List.set_cons_zero, List.set_cons_succ] at hK ⊢
              go_simp
              exact hK.out _ _ hR (Below.refl _ _) rfl
            | 3, _ =>
              refine StepL.of rfl [2] (by decide +kernel) ?_
              intro v wx hR hdp K hK
              have h2 : v 2 = _ := hdp 2 (by simp)
              have b0 := cell_below bc0 hR
              clear hdp
              simp only [List.getElem_toArray, List.getElem_cons_zero, List.getElem_cons_succ, fillR, Act.put, List.setIfInBounds_toArray, List.set_cons_zero, List.set_cons_succ, h2] at hK ⊢
              go_simp
              exact hK.out _ _ hR (Below.refl _ _) rfl
            | 4, _ =>
              refine StepL.of rfl [1, 3] (by decide +kernel) ?_
              intro v wx hR hdp K hK
              have h1 : v 1 = _ := hdp 1 (by simp)
              have h3 : v 3 = _ := hdp 3 (by simp)
              clear hdp
              simp only [List.getElem_toArray, List.getElem_cons_zero, List.getElem_cons_succ, fillR, Act.put, List.setIfInBounds_toArray, List.set_cons_zero, List.set_cons_succ, h1, h3] at hK ⊢
              go_simp
              refine (nodeAt_any (G := G) (N := N) q (by omega)).mono ?_
              rintro e w' ⟨rfl, hW⟩
              have hq' := hK.out (.int .i64 ((1 + q : Nat) : Int)) w' (hR.trans (hW.mono hR.size)) hW rfl
              clear hK hW
              go_wp2_with fail
              exact hq'
            | 5, _ =>
              refine StepL.of rfl [] (by decide +kernel) ?_
              intro v wx hR hdp K hK
              have b0 := cell_below bh0 hR
              have b1 := cell_below bh1 hR
              have b2 := cell_below bh2 hR
              have b3 := cell_below bh3 hR
              have b4 := cell_below bh4 hR
              have b5 := cell_below bh5 hR
              clear hdp
              simp only [List.getElem_toArray, List.getElem_cons_zero, List.getElem_cons_succ, fillR, Act.put, List.setIfInBounds_toArray, List.set_cons_zero, List.set_cons_succ] at hK ⊢
              go_simp
              exact hK.out _ _ hR (Below.refl _ _) rfl
            | 6, _ =>
              refine StepL.of rfl [5] (by decide +kernel) ?_
              intro v wx hR hdp K hK
              have h5 : v 5 = _ := hdp 5 (by simp)
              have HV := Lib.hid (note_held wx A ⟨yk, ym, yo, yg, yA, yn, yc, yP, yl, yq⟩ hd (HIW.out.below hR) HX.out.2.1.1 HX.out.2.1.2.1 hbl8 hbl6)
              clear hdp
              simp only [List.getElem_toArray, List.getElem_cons_zero, List.getElem_cons_succ, fillR, Act.put, List.setIfInBounds_toArray, List.set_cons_zero, List.set_cons_succ, h5] at hK ⊢
              go_simp
              refine HV.out.mono ?_
              rintro e w' ⟨gn, rfl, hgn, hB, hW⟩
              have hq' := hK.out (.slice (some ⟨gn, 0, none⟩) 64 64) w' (hR.trans (hW.mono hR.size)) hW ⟨_, rfl, by have := hR.size; have := HW.out.1.sz; omega, hB⟩
              clear hK hW hB
              go_wp2_with fail
              exact hq'
            | 7, _ =>
              refine StepL.of rfl [4, 6] (by decide +kernel) ?_
              intro v wx hR hdp K hK
              have h4 : v 4 = _ := hdp 4 (by simp)
              obtain ⟨g5, h6, hg5, hB5⟩ : secV w.heap.size (noteN hd) (v 6) wx := hdp 6 (by simp)
              have HV := Lib.hid hB5
              clear hB5
              clear hdp
              simp only [List.getElem_toArray, List.getElem_cons_zero, List.getElem_cons_succ, fillR, Act.put, List.setIfInBounds_toArray, List.set_cons_zero, List.set_cons_succ, h4, h6] at hK ⊢
              go_simp
              exact hK.out _ _ hR (Below.refl _ _) ⟨g5, rfl, hg5, HV.out⟩
            | 8, _ =>
              refine StepL.of rfl [7] (by decide +kernel) ?_
              intro v wx hR hdp K hK
              obtain ⟨g6, h7, hg6, hB6⟩ : wrV w.heap.size ((1 + q : Nat) : Int) (noteN hd) (v 7) wx := hdp 7 (by simp)
              have hn := Blk.new wx 146 [.int .i64 ((1 + q : Nat) : Int), .slice (some ⟨g6, 0, none⟩) 64 64]
              have hnb := new_below wx (.cells #[.int .i64 ((1 + q : Nat) : Int), .slice (some ⟨g6, 0, none⟩) 64 64] 146)
              have HV := Lib.hid (And.intro hn (And.intro hnb (hB6.below hnb hB6.lt)))
              clear hB6 hn hnb
              clear hdp
              simp only [List.getElem_toArray, List.getElem_cons_zero, List.getElem_cons_succ, fillR, Act.put, List.setIfInBounds_toArray, List.set_cons_zero, List.set_cons_succ, h7] at hK ⊢
              go_simp
              exact hK.out _ _ (hR.trans (HV.out.2.1.mono hR.size)) HV.out.2.1 ⟨_, g6, rfl, HV.out.1, hg6, HV.out.2.2⟩
            | i' + 9, h => omega
          · intro v wx hR hV
            have h0 : v 0 = _ := hV 0 (by omega)
            obtain ⟨p7, g7, h8, hp7, hg7, hB7⟩ : rowV w.heap.size ((1 + q : Nat) : Int) (noteN hd) (v 8) wx := hV 8 (by omega)
            have HV := Lib.hid (And.intro (HW.out.1.below hR) (And.intro hp7 (blk_bts hB7 hg7 (noteN_length hbl8))))
            clear hV hR hp7 hB7
            simp only [fillR, Act.put, List.setIfInBounds_toArray, List.set_cons_zero, List.set_cons_succ, h0, h8, List.drop_succ_cons, List.drop_zero]
            have hlenw := HW.out.2.2
            have hszv := HV.out.1.sz
            go_wp2_with (first
              | (at_builtin; refine wpList_app_write rfl (.tmp 59) (.tmp 67) rfl (show _ = Value.slice Pv m qv from rfl) HV.out.1.own p7 _ _ 64 64 rfl HV.out.2.1 (noteN hd) HV.out.2.2 hlenw hszv ?_; intro g8 q8 w8 hown8 hk8; have hbx8 := hk8.keep _ _ _ (by decide) (by simp) HV.out.1.box; have e8 := hbx8.cell 0; have f8 := hbx8.frozen 0; simp only [List.getElem?_cons_zero] at e8; have H8 := Lib.hid (WrSt.app HV.out.1 (by omega) (by omega) hk8 hown8); clear hown8 hk8 hbx8)
              | go_in)
            refine ⟨⟨i + 1, D :: ds, .slice (some ⟨g8, 0, none⟩) (WS.length + 1) q8, ?_⟩, ?measure2⟩
            (repeat apply Exists.intro)
            refine ⟨⟨hlt, ?_⟩, rfl⟩
            · rw [writesL_snoc HX.out.1, hq, show ((q : Nat) : Int).toNat = q by omega, nodeWs_some hfq, ← List.append_assoc, HW.out.2.1]
              exact H8.out
            case measure2 => simp [intOf]; omega
        case stop =>
          rintro D c pre W hD _ h _
          exact h.elim
    · obtain rfl : i = len := by omega
      rw [List.take_of_length_le (by have := HL.out.2.2.1.len; have := HL.out.2.2.2.2.1; omega)] at hst
      obtain ⟨Pv, qv, rfl⟩ := hst.own.form
      obtain ⟨m, hm⟩ : ∃ m, (writesL N f lc).length = m := ⟨_, rfl⟩
      rw [hm] at hst
      have bw0 : wr.cell? ⟨w.heap.size + 1, 0, none⟩ = some (.slice Pv m qv) := hst.box.cell 0
      have HS := Lib.hid hst
      clear hst
      go_wp2_with fail
      refine leaves_marks (N := w.heap.size) (v := .slice Pv m qv) ds _ HS.out.nd HS.out.dfs fun w' hm' => ⟨by simp [results, Tryz.results29, go_sem], _, rfl, hm'.wown HS.out.own, HS.out.bel.trans hm'.below⟩
end Go.Proofs.YtkmkblhmjeeaeaaGreatDoor
end
