/-
  The document's Encode, walked: the bytes of entries. Conditions: the entries lie in memory, and are no longer than what is written.
-/
import Derived.Test.YtdnaiiagblcohaaGreatDoorM19
import Derived.Test.YtdnaiiagblcohaaGreatDoorM23
import Derived.Test.YtdnaiiagblcohaaGreatDoorM24
section
set_option linter.unusedSimpArgs false
set_option linter.unusedVariables false
set_option maxRecDepth 100000
namespace Go.Proofs.YtdnaiiagblcohaaGreatDoor
open Go.RowKit

/-- While an entry is written: the bytes so far, the entry's box, the table's. -/
structure RAt (w0 w : World) (T g : Nat) (x : Ev) (u : Value) (bs : List B8) : Prop where
  own : w.ownsRow w0.heap.size 5 1 u bs.length (Vb bs)
  box : Blk w g 90 (evC x)
  tbl : Blk w T 42 Tbl
  b : Below w0.heap.size w0 w
theorem RAt.below {w0 w w' : World} {T g : Nat} {x : Ev} {u : Value} {bs : List B8} (h : RAt w0 w T g x u bs) (hb : Below w.heap.size w w') : RAt w0 w' T g x u bs :=
  ⟨ownsRow_only (S := []) h.own (Only.of_below hb) (by simp), h.box.below hb h.box.lt, h.tbl.below hb h.tbl.lt, h.b.trans (hb.mono h.b.size)⟩
theorem RAt.put {w0 w w' : World} {T g : Nat} {x : Ev} {u u' : Value} {bs cs : List B8} (h : RAt w0 w T g x u bs) (ho : w'.ownsRow w0.heap.size 5 1 u' cs.length (Vb cs)) (hO : Only u.ownBlock.toList w w') : RAt w0 w' T g x u' cs :=
  ⟨ho, h.box.only hO (by
    have := own_blk_ne h.own h.box (by decide)
    simpa using this), h.tbl.only hO (by
    have := own_blk_ne h.own h.tbl (by decide)
    simpa using this), h.b.trans (hO.below h.b.size (fun k hk => (h.own.lt k (by simpa using hk)).1))⟩
section
variable {ops : Array Oper} {Q : Exit → Act → World → Prop} {rest : List Oper} {o : Oper} {a : Act}
theorem rat_app {w0 w : World} {T g : Nat} {x : Ev} {u : Value} {bs ds : List B8} {A : Option Addr} {m c : Nat} {s y : Operand} (h : RAt w0 w T g x u bs) (hgd : o.guard = none) (ho : o.op = .call { callee := .builtin .append, args := #[s, y], argTypes := #[26, 26] }) (hs : a.eval s = u) (hx : a.eval y = .slice A m c) (hd : DIn w A m c ds) (hmx : bs.length + m ≤ 1000000)
    (k : ∀ v' w', RAt w0 w' T g x v' (bs ++ ds) → wpList Tryz.prog ops Q rest (a.put o.dst v') w') : wpList Tryz.prog ops Q (o :: rest) a w := by
  refine wpList_app (v := u) (base := w0.heap.size) (n := bs.length) hgd ho Tryz.underlying26 byt_info rfl (by decide) (Vb ds) hs h.own hx (by rw [Vb_length, hd.len]; omega) (fun h0 => din_rows hd h0) (Vb_oneCell _) hmx (by decide) h.b.size ?_
  intro v' w' k1 k2 _
  refine k v' w' (h.put ?_ k2)
  rw [List.length_append, hd.len, Vb_app]
  exact k1
end
theorem din_new (w : World) (ds : List B8) (cs : List Value) (n : Nat) (h : cs = Vb ds) (hn : ds.length = n) (hb : n ≤ 1000000) : DIn (w.alloc (.cells cs.toArray 5)) (some ⟨w.heap.size, 0, none⟩) n n ds := by
  subst h
  refine ⟨hn, Nat.le_refl _, by omega, (fun h => by cases h), fun _ => ⟨w.heap.size, 0, rfl, by simp, fun j u hu => ?_⟩⟩
  rw [Nat.zero_add, (Blk.new w 5 (Vb ds)).cell]
  exact hu
theorem big2_val (m : Nat) (h : m ≤ 65535) : Vb (big 2 m) = [.int .u8 ((m : Int) / 256), .int .u8 ((m : Int) % 256)] := by
  have : big 2 m = [BitVec.ofNat 8 (m / 256), BitVec.ofNat 8 m] := by
    rw [big_snoc12 1 m]
    have h1 : big 1 (m / 256) = [BitVec.ofNat 8 (m / 256)] := by simp [big, bigAt]
    rw [h1]
    rfl
  rw [this]
  unfold Vb nb
  simp
  omega
theorem big1_mod (t : Nat) : Vb (big 1 t) = [.int .u8 ((t : Int) % 256)] := by
  have : big 1 t = [BitVec.ofNat 8 t] := by simp [big, bigAt]
  rw [this]
  unfold Vb nb
  simp
theorem four_val {k m t : Nat} (hk : k ≤ 255) (hm : m ≤ 65535) : [.int .u8 (k : Int), .int .u8 ((m : Int) / 256), .int .u8 ((m : Int) % 256), .int .u8 ((t : Int) % 256)] = Vb (big 1 k ++ (big 2 m ++ big 1 t)) := by
  rw [Vb_app, Vb_app, big1_mod, big1_mod, big2_val m hm]
  have : (k : Int) % 256 = k := by omega
  rw [this]
  rfl
theorem tbl_info : (Tryz.prog.info? 42).map (·.size) = some Tbl.length := by rw [Tbl_length]; kernel_rfl
theorem rev_size : (Tryz.prog.info? 90).map (·.size) = some 4 := by kernel_rfl
theorem big1_val {n : Nat} (h : n < 256) : Vb (big 1 n) = [.int .u8 (n : Int)] := by
  have : big 1 n = [BitVec.ofNat 8 n] := by simp [big, bigAt]
  rw [this]
  unfold Vb nb
  simp
  omega
set_option maxHeartbeats 8000000 in
theorem rencode_any (w : World) (A : Option Addr) (n c : Nat) (xs : List Ev) (es : List En) (h : EIn w A n c xs es) (hn : n ≤ 100) (hwr : ∀ e ∈ es, WrE e) :
    Calls Tryz.prog 16 #[.agg Tbl.toArray, .slice A n c] w fun e w' => ∃ B d, e = .returned (.slice B (arcB n es).length d) ∧ DIn w' B (arcB n es).length d (arcB n es) ∧ Below w.heap.size w w' := by
  have hcs := conv_const
  have hb0 := pnew w (.cells Tbl.toArray 42)
  obtain ⟨w1, hw1⟩ : ∃ w1, w1 = w.alloc (.cells Tbl.toArray 42) := ⟨_, rfl⟩
  have hT : Blk w1 w.heap.size 42 Tbl := by rw [hw1]; exact Blk.new w _ Tbl
  have H0 : Hid (Below w.heap.size w w1 ∧ Blk w1 w.heap.size 42 Tbl ∧ EIn w A n c xs es ∧ ∀ e ∈ es, WrE e) := Lib.hid ⟨by rw [hw1]; exact hb0, hT, h, hwr⟩
  have HL := Lib.hid h.elen
  clear hb0 hT h hwr
  go_enter Tryz.func16, Tryz.ntmps16
  go_upto_region 1 with fail
  rw [← hw1]
  clear hw1
  have HC : Hid (∀ (j : Nat) u, crel[j]? = some u → ((w1.alloc (.cells #[.int .u8 67, .int .u8 82, .int .u8 69, .int .u8 76] 5 (4, 5))).alloc (.cells #[.int .u8 (n : Int)] 5)).cell? ⟨w1.heap.size, 0 + j, none⟩ = some u) := Lib.hid (fun j u hu => by
    refine pcell_below ?_ (pnew _ _)
    rw [Nat.zero_add]
    exact (marked_cell w1 crel _ 4 5 j).trans hu)
  have HN : Hid (∀ (j : Nat) u, (Vb (big 1 n))[j]? = some u → ((w1.alloc (.cells #[.int .u8 67, .int .u8 82, .int .u8 69, .int .u8 76] 5 (4, 5))).alloc (.cells #[.int .u8 (n : Int)] 5)).cell? ⟨w1.heap.size + 1, 0 + j, none⟩ = some u) := Lib.hid (fun j u hu => by
    rw [big1_val (by omega)] at hu
    have h1 := (Blk.new (w1.alloc (.cells #[.int .u8 67, .int .u8 82, .int .u8 69, .int .u8 76] 5 (4, 5))) 5 [.int .u8 (n : Int)]).cell j
    rw [World.size_alloc] at h1
    rw [Nat.zero_add]
    exact h1.trans hu)
  have HB2 : Hid (Below w.heap.size w ((w1.alloc (.cells #[.int .u8 67, .int .u8 82, .int .u8 69, .int .u8 76] 5 (4, 5))).alloc (.cells #[.int .u8 (n : Int)] 5)) ∧ Below w1.heap.size w1 ((w1.alloc (.cells #[.int .u8 67, .int .u8 82, .int .u8 69, .int .u8 76] 5 (4, 5))).alloc (.cells #[.int .u8 (n : Int)] 5))) := Lib.hid (by
    have h1 := pnew w1 (.cells #[.int .u8 67, .int .u8 82, .int .u8 69, .int .u8 76] 5 (4, 5))
    have h2 := h1.trans ((pnew (w1.alloc (.cells #[.int .u8 67, .int .u8 82, .int .u8 69, .int .u8 76] 5 (4, 5))) (.cells #[.int .u8 (n : Int)] 5)).mono h1.size)
    exact ⟨H0.out.1.trans (h2.mono H0.out.1.size), h2⟩)
  go_wp2_with (refine wpList_app_full (n := 4) (A := some ⟨w1.heap.size, 0, none⟩) rfl rfl Tryz.underlying26 byt_info rfl crel (Vb (big 1 n)) rfl rfl (fun _ => ⟨_, _, rfl, HC.out⟩) rfl rfl HN.out (Vb_oneCell _) (by decide) (by decide) (by decide) ?_; intro cap9 w9 k1 k2; have K9 := Lib.hid (And.intro k1 k2); clear k1 k2)
  have hb9 := HB2.out.1.trans (K9.out.2.mono HB2.out.1.size)
  have k1' := own_base K9.out.1 HB2.out.1.size
  rw [show crel ++ Vb (big 1 n) = Vb (arcB n (es.take 0)) from by unfold arcB; simp only [List.take_zero, List.flatMap_nil, List.append_nil, Vb_app, crel_Vb]] at k1'
  have H9 : Hid (w9.ownsRow w.heap.size 5 1 (.slice (some ⟨w1.heap.size + 1 + 1, 0, none⟩) 5 cap9) (arcB n (es.take 0)).length (Vb (arcB n (es.take 0))) ∧ Below w.heap.size w w9 ∧ Blk w9 w.heap.size 42 Tbl) := Lib.hid ⟨by simpa [arcB, big_length] using k1', hb9, (H0.out.2.1.below HB2.out.2 H0.out.2.1.lt).below K9.out.2 (by have := HB2.out.2.size; have := H0.out.2.1.lt; omega)⟩
  clear k1' hb9
  go_loopw [5, 6] (fun u3 iv wr => ∃ i : Nat, i ≤ n ∧ iv = .int .i64 i ∧ Hid (wr.ownsRow w.heap.size 5 1 u3 (arcB n (es.take i)).length (Vb (arcB n (es.take i)))) ∧ Hid (Below w.heap.size w wr ∧ Blk wr w.heap.size 42 Tbl)) (fun _ iv _ => n - (intOf iv).toNat)
  case atStart => exact ⟨0, by omega, rfl, Lib.hid H9.out.1, Lib.hid H9.out.2⟩
  case round =>
    obtain ⟨i, hi, rfl, HO, HBW⟩ := hrel
    by_cases hlt : i < n
    · obtain ⟨g, o, x, e, rfl, hg, hx, he, hok, hcl⟩ := (H0.out.2.2.1.below HBW.out.1).row hlt
      have HWe := Lib.hid (H0.out.2.2.2 e (List.mem_of_getElem? he))
      have HCl := Lib.hid hcl
      have HZ := Lib.hid (Blk.new wr 90 [.slice none 0 0, .int .i64 0, .int .i64 0, .slice none 0 0])
      have HE : Hid (EvOk w x e) := Lib.hid (H0.out.2.2.1.ok i x e hx he)
      have hpn : x.pn ≤ 1000000 := by have := hok.small.names; rw [hok.path.len] at this; omega
      have hjn : (joinP e.path).size ≤ 900 := HWe.out.text
      have hdl : e.data.length ≤ 1000 := HWe.out.data
      have HDN : Hid (x.dn = e.data.length) := Lib.hid hok.data.len.symm
      have hdn : x.dn ≤ 1000 := by rw [HDN.out]; exact hdl
      obtain ⟨kn, hkn⟩ : ∃ kn : Nat, x.k = (kn : Int) := ⟨x.k.toNat, by have := HWe.out.k0; rw [hok.kind] at this; omega⟩
      obtain ⟨mn, hmn⟩ : ∃ mn : Nat, x.m = (mn : Int) := ⟨x.m.toNat, by have := HWe.out.m0; rw [hok.mode] at this; omega⟩
      have HKM : Hid (e.kind.toNat = kn ∧ e.mode.toNat = mn) := Lib.hid ⟨by rw [hok.kind, hkn]; omega, by rw [hok.mode, hmn]; omega⟩
      have hk255 : kn ≤ 255 := by have := HWe.out.k1; rw [hok.kind, hkn] at this; omega
      have hm64 : mn ≤ 65535 := by have := HWe.out.m1; rw [hok.mode, hmn] at this; omega
      obtain ⟨tx, htx⟩ : ∃ t, textP e.path = t := ⟨_, rfl⟩
      have htl : tx.size ≤ 901 := by
        rw [← htx]
        unfold textP
        rw [ByteArray.size_append]
        have : slashB.size = 1 := rfl
        omega
      have HX : Hid (textP e.path = tx ∧ es[i]? = some e) := Lib.hid ⟨htx, he⟩
      obtain ⟨bs, hbs⟩ : ∃ bs, bs = arcB n (es.take i) := ⟨_, rfl⟩
      have hbl : bs.length ≤ 205000 := by
        rw [hbs]
        have h1 := arcB_small (n := n) (es := es.take i) (fun e he => H0.out.2.2.2 e (List.mem_of_mem_take he))
        have h2 : (es.take i).length ≤ 100 := by rw [List.length_take]; omega
        omega
      rw [← hbs] at HO
      have HBS := Lib.hid hbs
      clear hcl hx he hok htx hbs
      obtain ⟨PA, pn, pc, k, m, DA, dn, dc⟩ := x
      simp only at hpn hdn hkn hmn
      subst hkn hmn
      have b0 : (0 : Int) ≤ (i : Int) := by omega
      have b1 : (i : Int) < (n : Int) := by omega
      go_wp2_with (first
        | (refine wpList_load_mid rfl 90 (.tmp 24) rfl g (o + i * 4) rfl _ _ HCl.out Tryz.underlying90 rfl rev_size ?_)
        | (refine wpList_store_blk rfl 90 (.tmp 7) (.tmp 25) rfl wr.heap.size 0 (evC ⟨PA, pn, pc, (kn : Int), (mn : Int), DA, dn, dc⟩) rfl rfl HZ.out (by simp [evC]) rev_size (evC_one _) ?_; intro w2 hA hO; rw [over_whole (by simp [evC])] at hA; have hb2 : Below wr.heap.size wr w2 := (pnew wr _).trans (hO.below (B := wr.heap.size) (by simp) (by simp)); have WA : Hid (RAt w w2 w.heap.size wr.heap.size ⟨PA, pn, pc, (kn : Int), (mn : Int), DA, dn, dc⟩ u5 bs) := Lib.hid ⟨ownsRow_only (S := []) HO.out (Only.of_below hb2) (by simp), hA, HBW.out.2.below hb2 HBW.out.2.lt, HBW.out.1.trans (hb2.mono HBW.out.1.size)⟩; obtain ⟨y0, y1, y2, y3⟩ := four_ev hA; clear hA hO hb2))
      refine (rptext_any w2 PA pn pc e.path (HE.out.path.below WA.out.b) (by omega)).mono ?_
      rintro en w3 ⟨rfl, h3⟩
      rw [HX.out.1]
      have WA := Lib.hid (WA.out.below h3)
      obtain ⟨y0, y1, y2, y3⟩ := four_ev WA.out.box
      clear h3
      have HV4 := Lib.hid (four_val (t := tx.size) hk255 hm64)
      have HV2 := Lib.hid (big2_val dn (by omega)).symm
      have hcs2 := fun W => conv_str W tx
      have hdn0 : dn ≤ 1000 := hdn
      have hcap := HE.out.data.cap
      simp only at hcap
      go_wp2_with (first
        | (refine rat_app (WA.out.below (pnew _ _)) rfl rfl rfl rfl (din_new _ (big 1 kn ++ (big 2 mn ++ big 1 tx.size)) _ 4 HV4.out (by simp only [List.length_append, big_length]) (by omega)) (by omega) ?_; intro v4 w4 WB; have WA := Lib.hid WB; obtain ⟨y0, y1, y2, y3⟩ := four_ev WB.box; clear WB)
        | (refine rat_app (WA.out.below (Lib.bytesWorld_below _ _ tx)) rfl rfl rfl rfl (din_conv _ tx (by omega)) (by (try simp only [List.length_append, big_length, bytB_length]); omega) ?_; intro v5 w5 WB; have WA := Lib.hid WB; obtain ⟨y0, y1, y2, y3⟩ := four_ev WB.box; clear WB)
        | (refine rat_app (WA.out.below (pnew _ _)) rfl rfl rfl rfl (din_new _ (big 2 dn) _ 2 HV2.out (big_length 2 dn) (by omega)) (by (try simp only [List.length_append, big_length, bytB_length]); omega) ?_; intro v6 w6 WB; have WA := Lib.hid WB; obtain ⟨y0, y1, y2, y3⟩ := four_ev WB.box; clear WB)
        | (refine rat_app WA.out rfl rfl rfl rfl (HE.out.data.below WA.out.b) (by (try simp only [List.length_append, big_length, bytB_length]); omega) ?_; intro v7 w7 WB; have WA := Lib.hid WB; obtain ⟨y0, y1, y2, y3⟩ := four_ev WB.box; clear WB)
        | (refine wpList_load_mid rfl 42 (.tmp 2) rfl w.heap.size 0 rfl _ _ WA.out.tbl.range Tryz.underlying42 rfl tbl_info ?_)
        | (refine wpList_load_mid rfl 90 (.tmp 7) rfl wr.heap.size 0 rfl _ _ WA.out.box.range Tryz.underlying90 rfl rev_size ?_))
      refine (seal_any w7 ⟨PA, pn, pc, (kn : Int), (mn : Int), DA, dn, dc⟩ e (HE.out.below WA.out.b) hjn hdl).mono ?_
      rintro en w8 ⟨A8, rfl, hd8, hb8⟩
      have WA := Lib.hid (WA.out.below hb8)
      have HD8 := Lib.hid hd8
      have hsl : (sumE e).length = 8 := hd8.len
      clear hd8 hb8
      go_wp2_with (refine rat_app WA.out rfl rfl rfl rfl HD8.out (by (try simp only [List.length_append, big_length, bytB_length]); omega) ?_; intro v9 w9b WB; have WA := Lib.hid WB; clear WB)
      have HF : Hid (w9b.ownsRow w.heap.size 5 1 v9 (arcB n (es.take (i + 1))).length (Vb (arcB n (es.take (i + 1)))) ∧ Below w.heap.size w w9b ∧ Blk w9b w.heap.size 42 Tbl) := Lib.hid (by
        have e1 : arcB n (es.take (i + 1)) = bs ++ (big 1 kn ++ (big 2 mn ++ big 1 tx.size)) ++ bytB tx ++ big 2 dn ++ e.data ++ sumE e := by
          rw [arcB_next HX.out.2, HBS.out]
          unfold entB
          rw [HX.out.1, HKM.out.1, HKM.out.2, ← HDN.out]
          simp only [List.append_assoc]
        rw [e1]
        exact ⟨WA.out.own, WA.out.b, WA.out.tbl⟩)
      exact ⟨⟨i + 1, by omega, by go_num, Lib.hid HF.out.1, Lib.hid HF.out.2⟩, by simp [intOf]; omega⟩
    · obtain rfl : i = n := by omega
      have HE : Hid (es.take i = es) := Lib.hid (by rw [← HL.out, List.take_length])
      have hu := HO.out
      rw [HE.out] at hu
      obtain ⟨B, d, rfl⟩ := own_slice hu
      have HU := Lib.hid (din_own hu)
      clear hu HO
      go_wp2_with fail
      go_ret
      exact ⟨B, d, rfl, HU.out, HBW.out.1⟩
end Go.Proofs.YtdnaiiagblcohaaGreatDoor
end
