/-
  DigestHex's walk. Condition: the constants lie in their variable.
-/
import Derived.Test.YtkblpcegdfhmoaaDoorDRefUnhex
import Derived.Deep.RegionHeld3
import Derived.Lib.MinMax
namespace Go.Proofs.YtkblpcegdfhmoaaDoor
open Go.RowKit

theorem str_cut (T : List B8) (W : World) (n : Int) (k : Nat) (hv : n = (k : Int)) (hk : k ≤ T.length) : (Instr.slice 9 (strOf T) none (some (.int .i64 n)) none).run Tryd.prog W = .ok (strOf (T.take k)) W := by
  subst hv
  rw [strOf_BA]
  rw [run_slice_string_h _ _ _ Tryd.underlying9 _ _ (by omega) (by rw [strBA_size]; omega)]
  have : (strBA T).extract 0 k = strBA (T.take k) := by
    apply ByteArray.ext
    unfold strBA
    simp [ByteArray.data_extract, List.map_take]
  rw [Int.toNat_natCast, this, strOf_BA]
theorem unhexR_len (T : List B8) : (unhexR T).1.length = 32 := by
  rw [ref_same]
  split
  · simp [refD_length]
  · simp

/-- What the last line reads. -/
def HexS (w0 : World) (p5 p7 p9 : Nat) (d x : List B8) (w' : World) : Prop :=
  w'.rangeAt w0.heap.size 0 (Vb d) ∧ w'.rangeAt p5 0 (Vb x) ∧ w'.rangeAt p7 0 (Vb x) ∧ w'.rangeAt p9 0 (Vb d) ∧ Below w0.heap.size w0 w'
theorem range_below {w w' : World} {b o : Nat} {cs : List Value} (h : w.rangeAt b o cs) (hb : Below w.heap.size w w') : w'.rangeAt b o cs := fun j v hv => by
  have h0 := h j v hv
  exact (hb.cell (World.block_lt_of_cell? w _ h0)).trans h0
theorem HexS.below {w0 w w' : World} {p5 p7 p9 : Nat} {d x : List B8} (h : HexS w0 p5 p7 p9 d x w) (hb : Below w.heap.size w w') : HexS w0 p5 p7 p9 d x w' :=
  ⟨range_below h.1 hb, range_below h.2.1 hb, range_below h.2.2.1 hb, range_below h.2.2.2.1 hb, h.2.2.2.2.trans (hb.mono h.2.2.2.2.size)⟩

set_option linter.unusedSimpArgs false in
set_option maxHeartbeats 1000000 in
set_option maxRecDepth 100000 in
theorem hexlaw_walk (w : World) (d : List B8) (hd : d.length = 32) (T : List B8) (hK : Roots Ks w) : Calls Tryd.prog 5 #[.agg (Vb d).toArray, strOf T] w fun e w' => e = .returned (.bool true) ∧ Below w.heap.size w w' := by
  have hpos := hK.pos
  obtain ⟨m, hm⟩ : ∃ m, min T.length 100 = m := ⟨_, rfl⟩
  have hlen := str_len T
  have hcut := fun W => str_cut T W (min (T.length : Int) 100) m (by omega) (by omega)
  have hTl : (T.take m).length ≤ 100 := by rw [List.length_take]; omega
  obtain ⟨X, hX⟩ : ∃ X, X = unhexR (T.take m) := ⟨_, rfl⟩
  have hXl : X.1.length = 32 := by rw [hX]; exact unhexR_len _
  have HK := Lib.hid hK
  clear hK
  have HU := Lib.hid (fun W => unhex_any W (T.take m))
  have HR := Lib.hid (fun W => refunhex_any W (T.take m) hTl)
  rw [← hX] at HU HR
  clear hX hTl
  go_enter Tryd.func5, Tryd.ntmps5
  go_wp2_with fail
  refine (HU.out _).mono ?_
  rintro e w1 ⟨rfl, hb⟩
  have hb0 : Below w.heap.size w (w.alloc (.cells (Vb d).toArray 31)) := (Below.refl _ _).alloc (Nat.le_refl _) _
  have H1 := Lib.hid (And.intro (hb0.trans (hb.mono hb0.size)) ((Blk.new w 31 (Vb d)).below hb (Blk.new w 31 (Vb d)).lt))
  clear hb hb0
  go_wp2_with (refine wpList_store_blk rfl 31 (.tmp 5) (.tmp 19) rfl w1.heap.size 0 (Vb X.1) rfl rfl (Blk.new w1 31 (List.replicate 32 (.int .u8 0))) (by simp [Vb_length, hXl]) (info31.trans (by simp [Vb_length, hXl])) (Vb_oneCell _) ?_; intro w2 hA hO; rw [over_whole (by simp [Vb_length, hXl])] at hA; have hA2 := Lib.hid hA; have hO2 := Lib.hid hO; clear hA hO)
  have hO1 : Below w1.heap.size w1 w2 := ((Below.refl _ _).alloc (Nat.le_refl _) _).trans (hO2.out.below (B := w1.heap.size) (by simp) (by simp))
  have H2 := Lib.hid (And.intro (H1.out.1.trans (hO1.mono H1.out.1.size)) (And.intro (H1.out.2.below hO1 H1.out.2.lt) hA2.out))
  clear hA2 hO2 hO1 H1
  refine (HR.out _).mono ?_
  rintro e w3 ⟨rfl, hb⟩
  have H3 := Lib.hid (And.intro (H2.out.1.trans (hb.mono H2.out.1.size)) (And.intro (H2.out.2.1.below hb H2.out.2.1.lt) (H2.out.2.2.below hb H2.out.2.2.lt)))
  clear hb H2
  go_wp2_with (first
    | (refine wpList_store_blk rfl 31 (.tmp 7) (.tmp 24) rfl w3.heap.size 0 (Vb X.1) rfl rfl (Blk.new w3 31 (List.replicate 32 (.int .u8 0))) (by simp [Vb_length, hXl]) (info31.trans (by simp [Vb_length, hXl])) (Vb_oneCell _) ?_; intro w4 hA hO; rw [over_whole (by simp [Vb_length, hXl])] at hA; have hO1 : Below w3.heap.size w3 w4 := ((Below.refl _ _).alloc (Nat.le_refl _) _).trans (hO.below (B := w3.heap.size) (by simp) (by simp)); have H4 := Lib.hid (And.intro (H3.out.1.trans (hO1.mono H3.out.1.size)) (And.intro (H3.out.2.1.below hO1 H3.out.2.1.lt) (And.intro (H3.out.2.2.below hO1 H3.out.2.2.lt) hA))); clear hA hO hO1)
    | (refine wpList_load_mid rfl 31 (.tmp 2) rfl w.heap.size 0 rfl _ _ H4.out.2.1.range Tryd.underlying31 rfl (info31.trans (by rw [Vb_length, hd])) ?_))
  clear H3
  refine (hex_any _ d hd).mono ?_
  rintro e w5 ⟨rfl, hb⟩
  have H5 := Lib.hid (And.intro (H4.out.1.trans (hb.mono H4.out.1.size)) (And.intro (H4.out.2.1.below hb H4.out.2.1.lt) (And.intro (H4.out.2.2.1.below hb H4.out.2.2.1.lt) (H4.out.2.2.2.below hb H4.out.2.2.2.lt))))
  clear hb H4
  go_wp2_with fail
  refine (unhex_any _ _).mono ?_
  rw [unhex_hex d hd]
  rintro e w6 ⟨rfl, hb⟩
  have H6 := Lib.hid (And.intro (H5.out.1.trans (hb.mono H5.out.1.size)) (And.intro (H5.out.2.1.below hb H5.out.2.1.lt) (And.intro (H5.out.2.2.1.below hb H5.out.2.2.1.lt) (H5.out.2.2.2.below hb H5.out.2.2.2.lt))))
  clear hb H5
  go_upto_region 5 with (refine wpList_store_blk rfl 31 (.tmp 9) (.tmp 30) rfl w6.heap.size 0 (Vb d) rfl rfl (Blk.new w6 31 (List.replicate 32 (.int .u8 0))) (by simp [Vb_length, hd]) (info31.trans (by simp [Vb_length, hd])) (Vb_oneCell _) ?_; intro w7 hA hO; rw [over_whole (by simp [Vb_length, hd])] at hA; have hO1 : Below w6.heap.size w6 w7 := ((Below.refl _ _).alloc (Nat.le_refl _) _).trans (hO.below (B := w6.heap.size) (by simp) (by simp)); have H7 := Lib.hid (And.intro (H6.out.1.trans (hO1.mono H6.out.1.size)) (And.intro (H6.out.2.1.below hO1 H6.out.2.1.lt) (And.intro (H6.out.2.2.1.below hO1 H6.out.2.2.1.lt) (And.intro (H6.out.2.2.2.below hO1 H6.out.2.2.2.lt) hA)))); clear hA hO hO1)
  have s7 : HexS w w1.heap.size w3.heap.size w6.heap.size d X.1 w7.drew := HexS.below (w := w7) ⟨H7.out.2.1.range, H7.out.2.2.1.range, H7.out.2.2.2.1.range, H7.out.2.2.2.2.range, H7.out.1⟩ ⟨rfl, rfl, rfl, Nat.le_refl _, fun _ _ => rfl⟩
  have HS7 := Lib.hid s7
  have hu31 := Tryd.underlying31
  have hi1 : (Tryd.prog.info? 31).map (·.size) = some (Vb d).length := info31.trans (by rw [Vb_length, hd])
  have hi2 : (Tryd.prog.info? 31).map (·.size) = some (Vb X.1).length := info31.trans (by rw [Vb_length, hXl])
  have heq1 : ∀ W, (Op.equalIn 10000 31 (.agg (Vb d).toArray) (.agg (Vb d).toArray)).run Tryd.prog W = .ok true W := fun W => by
    rw [eql32 _ _ hd hd]
    simp
  have heq2 : ∀ W, (Op.equalIn 10000 31 (.agg (Vb X.1).toArray) (.agg (Vb X.1).toArray)).run Tryd.prog W = .ok true W := fun W => by
    rw [eql32 _ _ hXl hXl]
    simp
  have hs1 : ∀ op t x y W, (eqGuard op t x y (strOf (hexS d 32)) (strOf (hexS d 32))).run Tryd.prog W = .ok () W := fun op t x y W => str_guard op t x y _ _ W
  have hs2 : ∀ t W, (binOp .eql t (strOf (hexS d 32)) (strOf (hexS d 32))).run Tryd.prog W = .ok (.bool true) W := fun t W => by rw [str_eql]; simp
  clear s7 H6 H7 HU HR hlen hcut hm
  refine wp_region_held_drew (S := fun w' => w'.rangeAt w.heap.size 0 (Vb d) ∧ w'.rangeAt w1.heap.size 0 (Vb X.1) ∧ w'.rangeAt w3.heap.size 0 (Vb X.1) ∧ w'.rangeAt w6.heap.size 0 (Vb d) ∧ Below w.heap.size w w') (by kernel_rfl) ?_ (fun hHeld => ?_)
  · exact HS7.out
  refine wpAnyH_ready (rs := [0]) (by kernel_rfl) (by simp) ?_
  refine AllReadyH.cons (by simp only [List.getElem?_toArray, List.getElem?_cons_succ, List.getElem?_cons_zero]; rfl) (fun K hK => ?_) AllReadyH.nil
  go_simp
  refine (known_walk w7.drew (HK.out.below HS7.out.2.2.2.2 hpos)).mono ?_; rintro e w' ⟨rfl, hb⟩
  go_wp2_with fail
  refine hK.out _ _ ?_ (fun hHeld => ?_)
  · exact HexS.below (w0 := w) (p5 := w1.heap.size) (p7 := w3.heap.size) (p9 := w6.heap.size) (d := d) (x := X.1) (by assumption) hb
  clear hK K
  try simp only [Act.put, List.setIfInBounds_toArray, List.set_cons_zero, List.set_cons_succ]
  refine wpAnyH_take (i := 1) (v := ?_) (by simp only [List.getElem?_toArray, List.getElem?_cons_succ, List.getElem?_cons_zero]; rfl) (by kernel_rfl) (by kernel_rfl) (by kernel_rfl) (by exact fun _ _ _ h => h) (Or.inl ⟨by rfl, fun _ hSw => ?_⟩) (by assumption) ?_
  rotate_left
  · go_simp
    first | done | with_reducible rfl
  try simp only [Act.put, List.setIfInBounds_toArray, List.set_cons_zero, List.set_cons_succ]
  refine wpAnyH_take (i := 2) (v := .agg (List.toArray (Vb X.1))) (by simp only [List.getElem?_toArray, List.getElem?_cons_succ, List.getElem?_cons_zero]; rfl) (by kernel_rfl) (by kernel_rfl) (by kernel_rfl) (by exact fun _ _ _ h => h) (yieldsIf_load_mid (by rfl) _ _ rfl w1.heap.size 0 rfl (Vb X.1) _ (fun w h => h.2.1) hu31 rfl hi2) (by assumption) ?_
  try simp only [Act.put, List.setIfInBounds_toArray, List.set_cons_zero, List.set_cons_succ]
  refine wpAnyH_take (i := 3) (v := .agg (List.toArray (Vb X.1))) (by simp only [List.getElem?_toArray, List.getElem?_cons_succ, List.getElem?_cons_zero]; rfl) (by kernel_rfl) (by kernel_rfl) (by kernel_rfl) (by exact fun _ _ _ h => h) (yieldsIf_load_mid (by rfl) _ _ rfl w3.heap.size 0 rfl (Vb X.1) _ (fun w h => h.2.2.1) hu31 rfl hi2) (by assumption) ?_
  try simp only [Act.put, List.setIfInBounds_toArray, List.set_cons_zero, List.set_cons_succ]
  refine wpAnyH_take (i := 4) (v := ?_) (by simp only [List.getElem?_toArray, List.getElem?_cons_succ, List.getElem?_cons_zero]; rfl) (by kernel_rfl) (by kernel_rfl) (by kernel_rfl) (by exact fun _ _ _ h => h) (Or.inl ⟨by rfl, fun _ hSw => ?_⟩) (by assumption) ?_
  rotate_left
  · go_simp
    first | done | with_reducible rfl
  try simp only [Act.put, List.setIfInBounds_toArray, List.set_cons_zero, List.set_cons_succ]
  refine wpAnyH_take (i := 5) (v := ?_) (by simp only [List.getElem?_toArray, List.getElem?_cons_succ, List.getElem?_cons_zero]; rfl) (by kernel_rfl) (by kernel_rfl) (by kernel_rfl) (by exact fun _ _ _ h => h) (Or.inl ⟨by rfl, fun _ hSw => ?_⟩) (by assumption) ?_
  rotate_left
  · go_simp
    first | done | with_reducible rfl
  try simp only [Act.put, List.setIfInBounds_toArray, List.set_cons_zero, List.set_cons_succ]
  refine wpAnyH_take (i := 6) (v := ?_) (by simp only [List.getElem?_toArray, List.getElem?_cons_succ, List.getElem?_cons_zero]; rfl) (by kernel_rfl) (by kernel_rfl) (by kernel_rfl) (by exact fun _ _ _ h => h) (Or.inl ⟨by rfl, fun _ hSw => ?_⟩) (by assumption) ?_
  rotate_left
  · go_simp
    first | done | with_reducible rfl
  try simp only [Act.put, List.setIfInBounds_toArray, List.set_cons_zero, List.set_cons_succ]
  refine wpAnyH_take (i := 7) (v := ?_) (by simp only [List.getElem?_toArray, List.getElem?_cons_succ, List.getElem?_cons_zero]; rfl) (by kernel_rfl) (by kernel_rfl) (by kernel_rfl) (by exact fun _ _ _ h => h) (Or.inl ⟨by rfl, fun _ hSw => ?_⟩) (by assumption) ?_
  rotate_left
  · go_simp
    first | done | with_reducible rfl
  try simp only [Act.put, List.setIfInBounds_toArray, List.set_cons_zero, List.set_cons_succ]
  refine wpAnyH_take (i := 8) (v := ?_) (by simp only [List.getElem?_toArray, List.getElem?_cons_succ, List.getElem?_cons_zero]; rfl) (by kernel_rfl) (by kernel_rfl) (by kernel_rfl) (by exact fun _ _ _ h => h) (Or.inl ⟨by rfl, fun _ hSw => ?_⟩) (by assumption) ?_
  rotate_left
  · go_simp
    first | done | with_reducible rfl
  try simp only [Act.put, List.setIfInBounds_toArray, List.set_cons_zero, List.set_cons_succ]
  refine wpAnyH_take (i := 9) (v := ?_) (by simp only [List.getElem?_toArray, List.getElem?_cons_succ, List.getElem?_cons_zero]; rfl) (by kernel_rfl) (by kernel_rfl) (by kernel_rfl) (by exact fun _ _ _ h => h) (Or.inl ⟨by rfl, fun _ hSw => ?_⟩) (by assumption) ?_
  rotate_left
  · go_simp
    first | done | with_reducible rfl
  try simp only [Act.put, List.setIfInBounds_toArray, List.set_cons_zero, List.set_cons_succ]
  refine wpAnyH_take (i := 10) (v := ?_) (by simp only [List.getElem?_toArray, List.getElem?_cons_succ, List.getElem?_cons_zero]; rfl) (by kernel_rfl) (by kernel_rfl) (by kernel_rfl) (by exact fun _ _ _ h => h) (Or.inl ⟨by rfl, fun _ hSw => ?_⟩) (by assumption) ?_
  rotate_left
  · go_simp
    first | done | with_reducible rfl
  try simp only [Act.put, List.setIfInBounds_toArray, List.set_cons_zero, List.set_cons_succ]
  refine wpAnyH_take (i := 11) (v := ?_) (by simp only [List.getElem?_toArray, List.getElem?_cons_succ, List.getElem?_cons_zero]; rfl) (by kernel_rfl) (by kernel_rfl) (by kernel_rfl) (by exact fun _ _ _ h => h) (Or.inl ⟨by rfl, fun _ hSw => ?_⟩) (by assumption) ?_
  rotate_left
  · go_simp
    first | done | with_reducible rfl
  try simp only [Act.put, List.setIfInBounds_toArray, List.set_cons_zero, List.set_cons_succ]
  refine wpAnyH_take (i := 12) (v := .agg (List.toArray (Vb d))) (by simp only [List.getElem?_toArray, List.getElem?_cons_succ, List.getElem?_cons_zero]; rfl) (by kernel_rfl) (by kernel_rfl) (by kernel_rfl) (by exact fun _ _ _ h => h) (yieldsIf_load_mid (by rfl) _ _ rfl w.heap.size 0 rfl (Vb d) _ (fun w h => h.1) hu31 rfl hi1) (by assumption) ?_
  try simp only [Act.put, List.setIfInBounds_toArray, List.set_cons_zero, List.set_cons_succ]
  refine wpAnyH_take (i := 14) (v := .agg (List.toArray (Vb d))) (by simp only [List.getElem?_toArray, List.getElem?_cons_succ, List.getElem?_cons_zero]; rfl) (by kernel_rfl) (by kernel_rfl) (by kernel_rfl) (by exact fun _ _ _ h => h) (yieldsIf_load_mid (by rfl) _ _ rfl w.heap.size 0 rfl (Vb d) _ (fun w h => h.1) hu31 rfl hi1) (by assumption) ?_
  try simp only [Act.put, List.setIfInBounds_toArray, List.set_cons_zero, List.set_cons_succ]
  refine wpAnyH_ready (rs := [13]) (by kernel_rfl) (by simp) ?_
  refine AllReadyH.cons (by simp only [List.getElem?_toArray, List.getElem?_cons_succ, List.getElem?_cons_zero]; rfl) (fun K hK => ?_) AllReadyH.nil
  go_simp
  refine (hex_any _ d hd).mono ?_; rintro e w' ⟨rfl, hb⟩
  go_wp2_with fail
  refine hK.out _ _ ?_ (fun hHeld => ?_)
  · exact HexS.below (w0 := w) (p5 := w1.heap.size) (p7 := w3.heap.size) (p9 := w6.heap.size) (d := d) (x := X.1) (by assumption) hb
  clear hK K
  try simp only [Act.put, List.setIfInBounds_toArray, List.set_cons_zero, List.set_cons_succ]
  refine wpAnyH_ready (rs := [15]) (by kernel_rfl) (by simp) ?_
  refine AllReadyH.cons (by simp only [List.getElem?_toArray, List.getElem?_cons_succ, List.getElem?_cons_zero]; rfl) (fun K hK => ?_) AllReadyH.nil
  go_simp
  refine (refhex_any _ d hd).mono ?_; rintro e w' ⟨rfl, hb⟩
  go_wp2_with fail
  refine hK.out _ _ ?_ (fun hHeld => ?_)
  · exact HexS.below (w0 := w) (p5 := w1.heap.size) (p7 := w3.heap.size) (p9 := w6.heap.size) (d := d) (x := X.1) (by assumption) hb
  clear hK K
  try simp only [Act.put, List.setIfInBounds_toArray, List.set_cons_zero, List.set_cons_succ]
  refine wpAnyH_take (i := 16) (v := ?_) (by simp only [List.getElem?_toArray, List.getElem?_cons_succ, List.getElem?_cons_zero]; rfl) (by kernel_rfl) (by kernel_rfl) (by kernel_rfl) (by exact fun _ _ _ h => h) (Or.inl ⟨by rfl, fun _ hSw => ?_⟩) (by assumption) ?_
  rotate_left
  · go_simp
    first | done | with_reducible rfl
  try simp only [Act.put, List.setIfInBounds_toArray, List.set_cons_zero, List.set_cons_succ]
  refine wpAnyH_take (i := 17) (v := ?_) (by simp only [List.getElem?_toArray, List.getElem?_cons_succ, List.getElem?_cons_zero]; rfl) (by kernel_rfl) (by kernel_rfl) (by kernel_rfl) (by exact fun _ _ _ h => h) (Or.inl ⟨by rfl, fun _ hSw => ?_⟩) (by assumption) ?_
  rotate_left
  · go_simp
    first | done | with_reducible rfl
  try simp only [Act.put, List.setIfInBounds_toArray, List.set_cons_zero, List.set_cons_succ]
  refine wpAnyH_take (i := 18) (v := ?_) (by simp only [List.getElem?_toArray, List.getElem?_cons_succ, List.getElem?_cons_zero]; rfl) (by kernel_rfl) (by kernel_rfl) (by kernel_rfl) (by exact fun _ _ _ h => h) (Or.inl ⟨by rfl, fun _ hSw => ?_⟩) (by assumption) ?_
  rotate_left
  · go_simp
    first | done | with_reducible rfl
  try simp only [Act.put, List.setIfInBounds_toArray, List.set_cons_zero, List.set_cons_succ]
  refine wpAnyH_take (i := 19) (v := ?_) (by simp only [List.getElem?_toArray, List.getElem?_cons_succ, List.getElem?_cons_zero]; rfl) (by kernel_rfl) (by kernel_rfl) (by kernel_rfl) (by exact fun _ _ _ h => h) (Or.inl ⟨by rfl, fun _ hSw => ?_⟩) (by assumption) ?_
  rotate_left
  · go_simp
    first | done | with_reducible rfl
  try simp only [Act.put, List.setIfInBounds_toArray, List.set_cons_zero, List.set_cons_succ]
  refine wpAnyH_take (i := 20) (v := ?_) (by simp only [List.getElem?_toArray, List.getElem?_cons_succ, List.getElem?_cons_zero]; rfl) (by kernel_rfl) (by kernel_rfl) (by kernel_rfl) (by exact fun _ _ _ h => h) (Or.inl ⟨by rfl, fun _ hSw => ?_⟩) (by assumption) ?_
  rotate_left
  · go_simp
    first | done | with_reducible rfl
  try simp only [Act.put, List.setIfInBounds_toArray, List.set_cons_zero, List.set_cons_succ]
  refine wpAnyH_take (i := 21) (v := ?_) (by simp only [List.getElem?_toArray, List.getElem?_cons_succ, List.getElem?_cons_zero]; rfl) (by kernel_rfl) (by kernel_rfl) (by kernel_rfl) (by exact fun _ _ _ h => h) (Or.inl ⟨by rfl, fun _ hSw => ?_⟩) (by assumption) ?_
  rotate_left
  · go_simp
    first | done | with_reducible rfl
  try simp only [Act.put, List.setIfInBounds_toArray, List.set_cons_zero, List.set_cons_succ]
  refine wpAnyH_take (i := 22) (v := ?_) (by simp only [List.getElem?_toArray, List.getElem?_cons_succ, List.getElem?_cons_zero]; rfl) (by kernel_rfl) (by kernel_rfl) (by kernel_rfl) (by exact fun _ _ _ h => h) (Or.inl ⟨by rfl, fun _ hSw => ?_⟩) (by assumption) ?_
  rotate_left
  · go_simp
    first | done | with_reducible rfl
  try simp only [Act.put, List.setIfInBounds_toArray, List.set_cons_zero, List.set_cons_succ]
  refine wpAnyH_take (i := 23) (v := .agg (List.toArray (Vb d))) (by simp only [List.getElem?_toArray, List.getElem?_cons_succ, List.getElem?_cons_zero]; rfl) (by kernel_rfl) (by kernel_rfl) (by kernel_rfl) (by exact fun _ _ _ h => h) (yieldsIf_load_mid (by rfl) _ _ rfl w6.heap.size 0 rfl (Vb d) _ (fun w h => h.2.2.2.1) hu31 rfl hi1) (by assumption) ?_
  try simp only [Act.put, List.setIfInBounds_toArray, List.set_cons_zero, List.set_cons_succ]
  refine wpAnyH_take (i := 24) (v := .agg (List.toArray (Vb d))) (by simp only [List.getElem?_toArray, List.getElem?_cons_succ, List.getElem?_cons_zero]; rfl) (by kernel_rfl) (by kernel_rfl) (by kernel_rfl) (by exact fun _ _ _ h => h) (yieldsIf_load_mid (by rfl) _ _ rfl w.heap.size 0 rfl (Vb d) _ (fun w h => h.1) hu31 rfl hi1) (by assumption) ?_
  try simp only [Act.put, List.setIfInBounds_toArray, List.set_cons_zero, List.set_cons_succ]
  refine wpAnyH_take (i := 25) (v := ?_) (by simp only [List.getElem?_toArray, List.getElem?_cons_succ, List.getElem?_cons_zero]; rfl) (by kernel_rfl) (by kernel_rfl) (by kernel_rfl) (by exact fun _ _ _ h => h) (Or.inl ⟨by rfl, fun _ hSw => ?_⟩) (by assumption) ?_
  rotate_left
  · go_simp
    first | done | with_reducible rfl
  try simp only [Act.put, List.setIfInBounds_toArray, List.set_cons_zero, List.set_cons_succ]
  refine wpAnyH_take (i := 26) (v := ?_) (by simp only [List.getElem?_toArray, List.getElem?_cons_succ, List.getElem?_cons_zero]; rfl) (by kernel_rfl) (by kernel_rfl) (by kernel_rfl) (by exact fun _ _ _ h => h) (Or.inl ⟨by rfl, fun _ hSw => ?_⟩) (by assumption) ?_
  rotate_left
  · go_simp
    first | done | with_reducible rfl
  try simp only [Act.put, List.setIfInBounds_toArray, List.set_cons_zero, List.set_cons_succ]
  refine wpAnyH_take (i := 27) (v := ?_) (by simp only [List.getElem?_toArray, List.getElem?_cons_succ, List.getElem?_cons_zero]; rfl) (by kernel_rfl) (by kernel_rfl) (by kernel_rfl) (by exact fun _ _ _ h => h) (Or.inl ⟨by rfl, fun _ hSw => ?_⟩) (by assumption) ?_
  rotate_left
  · go_simp
    first | done | with_reducible rfl
  try simp only [Act.put, List.setIfInBounds_toArray, List.set_cons_zero, List.set_cons_succ]
  refine wpAnyH_done (by kernel_rfl) ?_ _
  go_wp2_with fail
  have hB := (show HexS w w1.heap.size w3.heap.size w6.heap.size d X.1 w' by assumption).2.2.2.2
  go_ret
  exact ⟨rfl, hB⟩

end Go.Proofs.YtkblpcegdfhmoaaDoor
