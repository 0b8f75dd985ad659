/-
  The document's digits, product, root: as the plain ones say. Conditions: digits below 65536; at most 100 of them; a prime below 1000, power 2 or 3.
-/
import Derived.Test.YtlpljedacohngaaGreatDoorM9
import Derived.Test.YtlpljedacohngaaGreatDoorM5
section
set_option maxRecDepth 100000
set_option linter.unusedSimpArgs false
set_option linter.unusedVariables false
namespace Go.Proofs.YtlpljedacohngaaGreatDoor
open Go.RowKit

def Us (l : List Nat) : List Value := l.map fun (n : Nat) => .int .u64 n
theorem below_drewN {B : Nat} {a w : World} (h : Below B a w) (n : Nat) : Below B a (w.drewN n) := h.trans ⟨rfl, rfl, rfl, Nat.le_refl _, fun _ _ => rfl⟩
theorem Us_length (l : List Nat) : (Us l).length = l.length := by simp [Us]
theorem Us_get {l : List Nat} {i : Nat} (h : i < l.length) : (Us l)[i]? = some (.int .u64 (l.getD i 0 : Nat)) := by
  simp [Us, List.getD_eq_getElem?_getD, List.getElem?_eq_getElem h]
theorem us_set {w : World} {g j : Nat} {l : List Nat} (h : Blk w g 58 (Us l)) (m : Nat) {v : Int} (hv : v = m) : Blk (w.setCell ⟨g, j, none⟩ (.int .u64 v)) g 58 (Us (l.set j m)) := by
  have := h.set_ j (.int .u64 v)
  rw [hv] at this ⊢
  unfold Us at this ⊢
  rw [List.map_set]
  exact this

theorem wpList_make_u64 {w : World} {ops : Array Oper} {rest : List Oper} {o : Oper} {a : Act} {Q : Exit → Act → World → Prop}
    (hg : o.guard = none) (x y : Operand) (hop : o.op = Op.makeSlice 78 x y) (c : Nat) (kx ky : IntKind) (X Y : Int) (hx : a.eval x = .int kx X) (hy : a.eval y = .int ky Y) (hX : X = c) (hY : Y = c) (hc : c ≤ 1000)
    (hK : wpList Tryz.prog ops Q rest (a.put o.dst (.slice (some ⟨w.heap.size, 0, none⟩) c c)) (w.alloc (.cells (Us (List.replicate c 0)).toArray 58))) :
    wpList Tryz.prog ops Q (o :: rest) a w := by
  subst hX hY
  obtain ⟨i0, hi, hz0, hz1, hz2⟩ := info_parts (show (Tryz.prog.info? 58).map (fun i => (i.zero, i.size, i.bytes)) = some (some (.int .u64 0), 1, 8) by kernel_rfl)
  have hr := run_make (P := Tryz.prog) w 78 58 i0 (.int .u64 0) Tryz.underlying78 hi hz0 kx ky c c (by omega) (by omega) (by rw [hz2]; omega) (by omega)
  have hm : madeCells (Value.int .u64 0).cells ((c : Int).toNat * i0.size) = (Us (List.replicate c 0)).toArray := by
    rw [hz1]
    simp only [madeCells, Value.cells, Int.toNat_natCast, Nat.mul_one]
    apply Array.ext
    · simp [Us]
    · intro j h1 h2
      simp [Nat.mod_one, Us]
  rw [hm] at hr
  simp only [Int.toNat_natCast] at hr
  refine wpList_plain hg fun K hK' => ?_
  unfold Oper.wp execOp
  simp only [hop, hx, hy, Sem.run_bind, hr, Result.andThen_ok, Sem.run_pure]
  exact hK' _ _ hK

theorem digits_any (w : World) (y : Nat) (hy : y < 281474976710656) : Calls Tryz.prog 33 #[.int .u64 y] w fun e w' => e = .returned (.slice (some ⟨w.heap.size, 0, none⟩) 3 3) ∧ Blk w' w.heap.size 58 (Us (digs y)) ∧ Below w.heap.size w w' := by
  go_enter Tryz.func33, Tryz.ntmps33
  go_wp2
  go_ret
  have e : [Value.int .u64 ((y : Int) % 65536), .int .u64 ((y : Int) / 65536 % 65536), .int .u64 ((y : Int) / 65536 / 65536 % 65536)] = Us (digs y) := by
    simp [Us, digs]
  refine ⟨rfl, ?_, (Below.refl _ _).alloc (Nat.le_refl _) _⟩
  rw [← e]
  exact Blk.new w _ _

set_option maxHeartbeats 1000000 in
theorem product_any (w : World) (ga gb ca cb : Nat) (a b : List Nat) (ha : Blk w ga 58 (Us a)) (hb : Blk w gb 58 (Us b)) (sa : S16 a) (sb : S16 b) (la : a.length ≤ 100) (lb : b.length ≤ 100) :
    Calls Tryz.prog 34 #[.slice (some ⟨ga, 0, none⟩) a.length ca, .slice (some ⟨gb, 0, none⟩) b.length cb] w fun e w' => e = .returned (.slice (some ⟨w.heap.size, 0, none⟩) (a.length + b.length) (a.length + b.length)) ∧ Blk w' w.heap.size 58 (Us (prodN a b)) ∧ Below w.heap.size w w' := by
  have HA := Lib.hid (And.intro ha sa)
  have HB := Lib.hid (And.intro hb sb)
  have HL := Lib.hid (mulOut_length a b)
  obtain ⟨na, hna⟩ : ∃ n, n = a.length := ⟨_, rfl⟩
  obtain ⟨nb, hnb⟩ : ∃ n, n = b.length := ⟨_, rfl⟩
  have hal := ha.lt
  have hbl := hb.lt
  rw [← hna, ← hnb]
  rw [← hna] at la
  rw [← hnb] at lb
  have HN := Lib.hid (And.intro hna hnb)
  clear ha hb sa sb hna hnb
  go_enter Tryz.func34, Tryz.ntmps34
  go_wp2_with (refine wpList_make_u64 rfl (.tmp 14) (.tmp 14) rfl (na + nb) .i64 .i64 _ _ rfl rfl (by simp) (by simp) (by omega) ?_)
  go_loopw [6] (fun i wr => ∃ k : Nat, k ≤ na ∧ i = .int .i64 k ∧ Blk wr w.heap.size 58 (Us (mulOut a b k)) ∧ Below w.heap.size w wr) (fun i _ => na - (intOf i).toNat)
  case atStart => exact ⟨0, by omega, rfl, by rw [HN.out.1, HN.out.2]; exact Blk.new w _ _, (Below.refl _ _).alloc (Nat.le_refl _) _⟩
  case round =>
    obtain ⟨i, hi, rfl, hblk, hbel⟩ := hrel
    by_cases hin : i < na
    · have HI := Lib.hid (And.intro hblk hbel)
      clear hblk hbel
      obtain ⟨wo, rfl⟩ : ∃ wo : World, wo = wr := ⟨_, rfl⟩
      go_wp2_with fail
      go_loopw [8, 7] (fun kv cv wr => ∃ k : Nat, k ≤ nb ∧ kv = .int .i64 k ∧ cv = .int .u64 ((mulIn a b (mulOut a b i) i k).2 : Nat) ∧ Blk wr w.heap.size 58 (Us (mulIn a b (mulOut a b i) i k).1) ∧ Below w.heap.size w wr) (fun kv _ _ => nb - (intOf kv).toNat)
      case atStart => exact ⟨0, by omega, rfl, rfl, HI.out.1, HI.out.2⟩
      case round =>
        obtain ⟨k, hk, rfl, rfl, hblk, hbel⟩ := hrel
        have hs := mulIn_small HA.out.2 HB.out.2 (mulOut_small HA.out.2 HB.out.2 i) i k
        have hln := mulIn_length a b (mulOut a b i) i k
        rw [HL.out, ← HN.out.1, ← HN.out.2] at hln
        by_cases hkn : k < nb
        · have hm := mul_small (hs.1 (i + k)) (HA.out.2 i) (HB.out.2 k) hs.2
          have cO : wr.cell? ⟨w.heap.size, i + k, none⟩ = some (.int .u64 ((mulIn a b (mulOut a b i) i k).1.getD (i + k) 0 : Nat)) := (hblk.cell _).trans (Us_get (by omega))
          have cA : wr.cell? ⟨ga, i, none⟩ = some (.int .u64 (a.getD i 0 : Nat)) := ((HA.out.1.below hbel hal).cell _).trans (Us_get (by rw [← HN.out.1]; omega))
          have cB : wr.cell? ⟨gb, k, none⟩ = some (.int .u64 (b.getD k 0 : Nat)) := ((HB.out.1.below hbel hbl).cell _).trans (Us_get (by rw [← HN.out.2]; omega))
          have hf := hblk.frozen (i + k)
          have hS : mulIn a b (mulOut a b i) i (k + 1) = ((mulIn a b (mulOut a b i) i k).1.set (i + k) (((mulIn a b (mulOut a b i) i k).1.getD (i + k) 0 + a.getD i 0 * b.getD k 0 + (mulIn a b (mulOut a b i) i k).2) % 65536), ((mulIn a b (mulOut a b i) i k).1.getD (i + k) 0 + a.getD i 0 * b.getD k 0 + (mulIn a b (mulOut a b i) i k).2) / 65536) := rfl
          have HS := Lib.hid hS
          have HW := Lib.hid (And.intro hblk hbel)
          have hcc := hs.2
          have hoo := hs.1 (i + k)
          have haa := HA.out.2 i
          have hbb := HB.out.2 k
          clear hS hblk hbel hs hln
          generalize (mulIn a b (mulOut a b i) i k).1 = out at *
          generalize (mulIn a b (mulOut a b i) i k).2 = c at *
          generalize out.getD (i + k) 0 = o at *
          generalize a.getD i 0 = x at *
          generalize b.getD k 0 = y at *
          have hxy : (x : Int) * (y : Int) ≤ 4294836225 := by rw [← Int.natCast_mul]; omega
          have hxy0 : 0 ≤ (x : Int) * (y : Int) := Int.mul_nonneg (by omega) (by omega)
          clear hm
          have hik : (i : Int) + (k : Int) < (na : Int) + (nb : Int) := by omega
          have hik0 : 0 ≤ (i : Int) + (k : Int) := by omega
          go_wp2_with fail
          go_quiet (fail)
          go_wp2_with fail
          go_roundw
          case rel =>
            refine ⟨k + 1, by omega, by go_num, ?_, ?_, ?_⟩
            · rw [HS.out]
              simp
            · rw [HS.out]
              exact us_set (HW.out.1.drewN nq) _ (by simp)
            · exact (below_drewN HW.out.2 nq).setCell (p := ⟨w.heap.size, i + k, none⟩) (by simp) _
          case measure => simp [intOf]; omega
        · obtain rfl : k = nb := by omega
          have hz := hblk.cell (i + k)
          rw [Us_get (by omega)] at hz
          have hf := hblk.frozen (i + k)
          have hcc := hs.2
          have HW := Lib.hid (And.intro hblk hbel)
          have hS : mulOut a b (i + 1) = (mulIn a b (mulOut a b i) i k).1.set (i + k) (mulIn a b (mulOut a b i) i k).2 := by rw [HN.out.2]; rfl
          have HS := Lib.hid hS
          clear hS hblk hbel hs hln
          generalize (mulIn a b (mulOut a b i) i k).1 = out at *
          generalize (mulIn a b (mulOut a b i) i k).2 = c at *
          go_wp2_with fail
          go_roundw
          case rel =>
            refine ⟨i + 1, by omega, by go_num, ?_, ?_⟩
            · rw [HS.out]
              exact us_set HW.out.1 _ rfl
            · exact HW.out.2.setCell (p := ⟨w.heap.size, i + k, none⟩) (by simp) _
          case measure => simp [intOf]; omega
    · obtain rfl : i = na := by omega
      go_wp2_with fail
      go_ret
      refine ⟨rfl, ?_, hbel⟩
      rw [HN.out.1] at hblk
      exact hblk

theorem product_len (w : World) (ga gb ca cb na nb : Nat) (a b : List Nat) (hna : a.length = na) (hnb : b.length = nb) (ha : Blk w ga 58 (Us a)) (hb : Blk w gb 58 (Us b)) (sa : S16 a) (sb : S16 b) (la : na ≤ 100) (lb : nb ≤ 100) :
    Calls Tryz.prog 34 #[.slice (some ⟨ga, 0, none⟩) na ca, .slice (some ⟨gb, 0, none⟩) nb cb] w fun e w' => e = .returned (.slice (some ⟨w.heap.size, 0, none⟩) (na + nb) (na + nb)) ∧ Blk w' w.heap.size 58 (Us (prodN a b)) ∧ Below w.heap.size w w' := by
  subst hna hnb
  exact product_any w ga gb ca cb a b ha hb sa sb la lb
theorem powD_succ (y k : Nat) : powD y (k + 1) = prodN (powD y k) (digs y) := rfl
theorem pow_small (j : Nat) (h : j ≤ 3) : 65536 ^ j ≤ 281474976710656 := by
  match j, h with
  | 0, _ | 1, _ | 2, _ | 3, _ => decide
theorem two_small (j : Nat) : 0 < 2 ^ (36 - j) ∧ 2 ^ (36 - j) ≤ 68719476736 := ⟨Nat.two_pow_pos _, by
  have := Nat.pow_le_pow_right (n := 2) (by omega) (show 36 - j ≤ 36 by omega)
  simpa using this⟩
set_option maxHeartbeats 1000000 in
theorem root_any (w : World) (p pw : Nat) (hp : p ≤ 1000) (hw2 : 2 ≤ pw) (hw3 : pw ≤ 3) :
    Calls Tryz.prog 18 #[.int .u64 p, .int .i64 pw] w fun e w' => e = .returned (.int .i64 (rootN p pw : Nat)) ∧ Below w.heap.size w w' := by
  go_enter Tryz.func18, Tryz.ntmps18
  go_wp2_with fail
  go_loopw [5, 6] (fun xv iv wr => ∃ j : Nat, j ≤ 37 ∧ xv = .int .u64 (rootX p pw j : Nat) ∧ iv = .int .i64 (36 - j) ∧ Below w.heap.size w wr) (fun _ iv _ => (intOf iv + 1).toNat)
  case atStart => exact ⟨0, by omega, rfl, rfl, Below.refl _ _⟩
  case round =>
    obtain ⟨j, hj, rfl, rfl, hbel⟩ := hrel
    have hx := rootX_small p pw j hj
    by_cases hj37 : j < 37
    · have h2 := two_small j
      have hX : rootX p pw (j + 1) = if goodR p pw (rootX p pw j + 2 ^ (36 - j)) then rootX p pw j + 2 ^ (36 - j) else rootX p pw j := rfl
      have HX := Lib.hid hX
      have HW := Lib.hid hbel
      have hsz := hbel.size
      clear hX hbel
      generalize rootX p pw j = x at *
      have hcast : (2 : Int) ^ (36 - j) = ((2 ^ (36 - j) : Nat) : Int) := by simp
      have hxe : x ≤ 137438953472 := by have := Nat.two_pow_pos (37 - j); omega
      clear hx
      generalize 2 ^ (36 - j) = e at *
      obtain ⟨y, hy⟩ : ∃ y, y = x + e := ⟨_, rfl⟩
      rw [← hy] at HX
      have hye : (x : Int) + (e : Int) = (y : Int) := by omega
      have hyl : y ≤ 206158430208 := by omega
      have HY := Lib.hid hy
      clear hy
      go_wp2_with fail
      refine (digits_any wr y (by omega)).mono ?_
      rintro e1 w1 ⟨rfl, hd, hb1⟩
      have HD := Lib.hid (And.intro hd (hb1.mono (B' := w.heap.size) hsz))
      clear hd hb1
      clear hye
      go_wp2_with fail
      go_loopw [8, 9] (fun zv kv w2 => ∃ d g : Nat, d + 1 ≤ pw ∧ kv = .int .i64 (1 + d) ∧ zv = .slice (some ⟨g, 0, none⟩) (3 + 3 * d) (3 + 3 * d) ∧ Blk w2 g 58 (Us (powD y d)) ∧ w.heap.size ≤ g ∧ Below w.heap.size w w2) (fun _ kv _ => pw - (intOf kv).toNat)
      case atStart => exact ⟨0, _, by omega, rfl, rfl, HD.out.1, hsz, HW.out.trans HD.out.2⟩
      case round =>
        clear HD
        obtain ⟨d, g, hd, rfl, rfl, hblk, hgs, hbel⟩ := hrel
        have hgl := hblk.lt
        have hbs := hbel.size
        have HB := Lib.hid (And.intro hblk hbel)
        clear hblk hbel
        by_cases hdp : d + 1 < pw
        · go_wp2_with fail
          refine (digits_any _ y (by omega)).mono ?_
          rintro e1 w2 ⟨rfl, hd2, hb2⟩
          have HD := Lib.hid (And.intro hd2 hb2)
          clear hd2 hb2
          go_wp2_with fail
          refine (product_len w2 g _ _ _ (3 + 3 * d) 3 (powD y d) (digs y) (powD_length y d) rfl (HB.out.1.below HD.out.2 hgl) HD.out.1 (powD_small y d) (S16.digs y) (by omega) (by omega)).mono ?_
          rintro e1 w3 ⟨rfl, hb3, hbel3⟩
          have hs2 := HD.out.2.size
          have H3 := Lib.hid (And.intro hb3 (HB.out.2.trans ((HD.out.2.mono hbs).trans (hbel3.mono (by omega)))))
          clear hb3 hbel3
          go_wp2_with fail
          go_roundw
          case rel => exact ⟨d + 1, w2.heap.size, by omega, by go_num, rfl, H3.out.1, by omega, H3.out.2⟩
          case measure => simp [intOf]; omega
        · obtain rfl : pw = d + 1 := by omega
          have hzl := powD_length y d
          have HZ := Lib.hid (And.intro hzl (powD_small y d))
          clear hzl
          go_wp2_with fail
          obtain ⟨wo, rfl⟩ : ∃ wo : World, wo = wr := ⟨_, rfl⟩
          go_loopw [10, 11, 12] (fun av bv kv w2 => ∃ n : Nat, n ≤ 3 + 3 * d ∧ av = .int .u64 ((wholeR (powD y d) (2 * (d + 1)) n).1 : Nat) ∧ bv = .int .u64 ((wholeR (powD y d) (2 * (d + 1)) n).2 : Nat) ∧ kv = .int .i64 (2 + 3 * d - n) ∧ w2 = wo) (fun _ _ kv _ => (intOf kv + 1).toNat)
          case atStart => exact ⟨0, by omega, rfl, rfl, by go_num, rfl⟩
          case round =>
            obtain ⟨n, hn, rfl, rfl, rfl, rfl⟩ := hrel
            have hr := wholeR_small HZ.out.2 (2 * (d + 1)) n (by rw [HZ.out.1]; omega)
            rw [HZ.out.1] at hr
            by_cases hn3 : n < 3 + 3 * d
            · have cZ : wr.cell? ⟨g, 2 + 3 * d - n, none⟩ = some (.int .u64 ((powD y d).getD (2 + 3 * d - n) 0 : Nat)) := (HB.out.1.cell _).trans (Us_get (by rw [HZ.out.1]; omega))
              have hzd := HZ.out.2 (2 + 3 * d - n)
              have hS : wholeR (powD y d) (2 * (d + 1)) (n + 1) = if 2 * (d + 1) ≤ 2 + 3 * d - n then (65536 * (wholeR (powD y d) (2 * (d + 1)) n).1 + (powD y d).getD (2 + 3 * d - n) 0, (wholeR (powD y d) (2 * (d + 1)) n).2) else ((wholeR (powD y d) (2 * (d + 1)) n).1, (wholeR (powD y d) (2 * (d + 1)) n).2 + (powD y d).getD (2 + 3 * d - n) 0) := by
                rw [wholeR, HZ.out.1, show 3 + 3 * d - 1 - n = 2 + 3 * d - n by omega]
              have HS := Lib.hid hS
              clear hS
              generalize wholeR (powD y d) (2 * (d + 1)) n = r at *
              generalize (powD y d).getD (2 + 3 * d - n) 0 = z at *
              obtain ⟨r1, r2⟩ := r
              have hr2 : r2 ≤ 65536 * n := hr.2
              have hki : (0 : Int) ≤ 2 + 3 * (d : Int) - (n : Int) := by omega
              by_cases ht : 2 * (d + 1) ≤ 2 + 3 * d - n
              · have hr1 : r1 ≤ 4294967296 := by
                  have h1 : r1 < 65536 ^ (min n (3 + 3 * d - 2 * (d + 1))) := hr.1
                  have h2 := Nat.pow_le_pow_right (n := 65536) (by omega) (show min n (3 + 3 * d - 2 * (d + 1)) ≤ 2 by omega)
                  have h3 : 65536 ^ 2 = 4294967296 := by decide
                  omega
                clear hr
                have hti : (2 : Int) * ((d : Int) + 1) ≤ 2 + 3 * (d : Int) - (n : Int) := by omega
                go_wp2_with fail
                go_roundw
                case rel =>
                  refine ⟨n + 1, by omega, ?_, ?_, by go_num, trivial⟩
                  · rw [HS.out, if_pos ht]; go_num
                  · rw [HS.out, if_pos ht]
                case measure => simp [intOf]; omega
              · clear hr
                have hti : 2 + 3 * (d : Int) - (n : Int) < 2 * ((d : Int) + 1) := by omega
                go_wp2_with fail
                go_roundw
                case rel =>
                  refine ⟨n + 1, by omega, ?_, ?_, by go_num, trivial⟩
                  · rw [HS.out, if_neg ht]
                  · rw [HS.out, if_neg ht]; go_num
                case measure => simp [intOf]; omega
            · have hki : 2 + 3 * (d : Int) - (n : Int) < 0 := by omega
              have hG : goodR p (d + 1) y = (decide ((wholeR (powD y d) (2 * (d + 1)) n).1 < p) || ((wholeR (powD y d) (2 * (d + 1)) n).1 == p && (wholeR (powD y d) (2 * (d + 1)) n).2 == 0)) := by
                rw [show n = 3 * (d + 1) by omega]
                rfl
              have HG := Lib.hid hG
              clear hG hr
              generalize wholeR (powD y d) (2 * (d + 1)) n = r at *
              obtain ⟨r1, r2⟩ := r
              by_cases h1 : r1 < p
              · have HX1 : Hid (rootX p (d + 1) (j + 1) = y) := Lib.hid (by rw [HX.out, HG.out]; simp [h1])
                go_wp2_with fail
                go_roundw
                case rel => exact ⟨j + 1, by omega, by rw [HX1.out], by go_num, HB.out.2⟩
                case measure => simp [intOf]; omega
              · by_cases h2 : r1 = p
                · subst h2
                  by_cases h3 : r2 = 0
                  · subst h3
                    have HX1 : Hid (rootX r1 (d + 1) (j + 1) = y) := Lib.hid (by rw [HX.out, HG.out]; simp)
                    go_wp2_with fail
                    go_roundw
                    case rel => exact ⟨j + 1, by omega, by rw [HX1.out], by go_num, HB.out.2⟩
                    case measure => simp [intOf]; omega
                  · have HX1 : Hid (rootX r1 (d + 1) (j + 1) = x) := Lib.hid (by rw [HX.out, HG.out]; simp [h3])
                    have q3 : ((r2 : Int) == 0) = false := by simp; omega
                    go_wp2_with fail
                    go_roundw
                    case rel => exact ⟨j + 1, by omega, by rw [HX1.out], by go_num, HB.out.2⟩
                    case measure => simp [intOf]; omega
                · have HX1 : Hid (rootX p (d + 1) (j + 1) = x) := Lib.hid (by rw [HX.out, HG.out]; simp [h1, h2])
                  have q2 : ((r1 : Int) == (p : Int)) = false := by simp; omega
                  go_wp2_with fail
                  go_roundw
                  case rel => exact ⟨j + 1, by omega, by rw [HX1.out], by go_num, HB.out.2⟩
                  case measure => simp [intOf]; omega
    · obtain rfl : j = 37 := by omega
      have hR : ((rootX p pw 37 : Nat) : Int) % 4294967296 = (rootN p pw : Nat) := by unfold rootN; omega
      generalize rootX p pw 37 = x at *
      go_wp2_with fail
      go_ret
      exact ⟨rfl, hbel⟩

end Go.Proofs.YtlpljedacohngaaGreatDoor
end

/-
  The document's table, reckoned by the kernel from its primes: it is the program's own constants. No condition.
-/

section
set_option maxRecDepth 100000
set_option linter.unusedSimpArgs false
set_option linter.unusedVariables false
namespace Go.Proofs.YtlpljedacohngaaGreatDoor
open Go.RowKit

set_option maxRecDepth 1000000 in
theorem squares : [2, 3, 5, 7, 11, 13, 17, 19].map (fun p => rootN p 2) = [1779033703, 3144134277, 1013904242, 2773480762, 1359893119, 2600822924, 528734635, 1541459225] := by decide +kernel
set_option maxRecDepth 1000000 in
theorem cubes0 : [2, 3, 5, 7, 11, 13, 17, 19].map (fun p => rootN p 3) = [1116352408, 1899447441, 3049323471, 3921009573, 961987163, 1508970993, 2453635748, 2870763221] := by decide +kernel
set_option maxRecDepth 1000000 in
theorem cubes1 : [23, 29, 31, 37, 41, 43, 47, 53].map (fun p => rootN p 3) = [3624381080, 310598401, 607225278, 1426881987, 1925078388, 2162078206, 2614888103, 3248222580] := by decide +kernel
set_option maxRecDepth 1000000 in
theorem cubes2 : [59, 61, 67, 71, 73, 79, 83, 89].map (fun p => rootN p 3) = [3835390401, 4022224774, 264347078, 604807628, 770255983, 1249150122, 1555081692, 1996064986] := by decide +kernel
set_option maxRecDepth 1000000 in
theorem cubes3 : [97, 101, 103, 107, 109, 113, 127, 131].map (fun p => rootN p 3) = [2554220882, 2821834349, 2952996808, 3210313671, 3336571891, 3584528711, 113926993, 338241895] := by decide +kernel
set_option maxRecDepth 1000000 in
theorem cubes4 : [137, 139, 149, 151, 157, 163, 167, 173].map (fun p => rootN p 3) = [666307205, 773529912, 1294757372, 1396182291, 1695183700, 1986661051, 2177026350, 2456956037] := by decide +kernel
set_option maxRecDepth 1000000 in
theorem cubes5 : [179, 181, 191, 193, 197, 199, 211, 223].map (fun p => rootN p 3) = [2730485921, 2820302411, 3259730800, 3345764771, 3516065817, 3600352804, 4094571909, 275423344] := by decide +kernel
set_option maxRecDepth 1000000 in
theorem cubes6 : [227, 229, 233, 239, 241, 251, 257, 263].map (fun p => rootN p 3) = [430227734, 506948616, 659060556, 883997877, 958139571, 1322822218, 1537002063, 1747873779] := by decide +kernel
set_option maxRecDepth 1000000 in
theorem cubes7 : [269, 271, 277, 281, 283, 293, 307, 311].map (fun p => rootN p 3) = [1955562222, 2024104815, 2227730452, 2361852424, 2428436474, 2756734187, 3204031479, 3329325298] := by decide +kernel
def primesL : List Nat := [2, 3, 5, 7, 11, 13, 17, 19, 23, 29, 31, 37, 41, 43, 47, 53, 59, 61, 67, 71, 73, 79, 83, 89, 97, 101, 103, 107, 109, 113, 127, 131, 137, 139, 149, 151, 157, 163, 167, 173, 179, 181, 191, 193, 197, 199, 211, 223, 227, 229, 233, 239, 241, 251, 257, 263, 269, 271, 277, 281, 283, 293, 307, 311]
theorem primes_parts : primesL = [2, 3, 5, 7, 11, 13, 17, 19] ++ [23, 29, 31, 37, 41, 43, 47, 53] ++ [59, 61, 67, 71, 73, 79, 83, 89] ++ [97, 101, 103, 107, 109, 113, 127, 131] ++ [137, 139, 149, 151, 157, 163, 167, 173] ++ [179, 181, 191, 193, 197, 199, 211, 223] ++ [227, 229, 233, 239, 241, 251, 257, 263] ++ [269, 271, 277, 281, 283, 293, 307, 311] := rfl
theorem cubes_all : primesL.map (fun p => rootN p 3) = [1116352408, 1899447441, 3049323471, 3921009573, 961987163, 1508970993, 2453635748, 2870763221] ++ [3624381080, 310598401, 607225278, 1426881987, 1925078388, 2162078206, 2614888103, 3248222580] ++ [3835390401, 4022224774, 264347078, 604807628, 770255983, 1249150122, 1555081692, 1996064986] ++ [2554220882, 2821834349, 2952996808, 3210313671, 3336571891, 3584528711, 113926993, 338241895] ++ [666307205, 773529912, 1294757372, 1396182291, 1695183700, 1986661051, 2177026350, 2456956037] ++ [2730485921, 2820302411, 3259730800, 3345764771, 3516065817, 3600352804, 4094571909, 275423344] ++ [430227734, 506948616, 659060556, 883997877, 958139571, 1322822218, 1537002063, 1747873779] ++ [1955562222, 2024104815, 2227730452, 2361852424, 2428436474, 2756734187, 3204031479, 3329325298] := by
  rw [primes_parts]
  simp only [List.map_append, cubes0, cubes1, cubes2, cubes3, cubes4, cubes5, cubes6, cubes7]
theorem squares_all : (primesL.take 8).map (fun p => rootN p 2) = [1779033703, 3144134277, 1013904242, 2773480762, 1359893119, 2600822924, 528734635, 1541459225] := squares
theorem table_now : tabN (primesN 310) = (start8.list ++ Ks).map BitVec.toNat := by
  have e : primesN 310 = primesL := primes_now
  unfold tabN
  rw [e, cubes_all, squares_all]
  decide +kernel
theorem table_is : Vn (tabN (primesN 310)) = Wi start8.list ++ Wi Ks := by
  rw [table_now]
  simp only [Vn, Wi, nw, List.map_map, List.map_append]
  rfl

end Go.Proofs.YtlpljedacohngaaGreatDoor
end

/-
  The document's Make: the table of the program's own constants. No condition.
-/

section
set_option maxRecDepth 100000
set_option linter.unusedSimpArgs false
set_option linter.unusedVariables false
namespace Go.Proofs.YtlpljedacohngaaGreatDoor
open Go.RowKit

theorem root_2 (w : World) (p r : Nat) (hp : p ≤ 1000) (hr : Hid (r = rootN p 2)) : Calls Tryz.prog 18 #[.int .u64 p, .int .i64 2] w fun e w' => e = .returned (.int .i64 (r : Nat)) ∧ Below w.heap.size w w' := by
  rw [hr.out]
  exact root_any w p 2 hp (by omega) (by omega)
theorem root_3 (w : World) (p r : Nat) (hp : p ≤ 1000) (hr : Hid (r = rootN p 3)) : Calls Tryz.prog 18 #[.int .u64 p, .int .i64 3] w fun e w' => e = .returned (.int .i64 (r : Nat)) ∧ Below w.heap.size w w' := by
  rw [hr.out]
  exact root_any w p 3 hp (by omega) (by omega)

theorem padN_set {n : Nat} {l : List Nat} (h : l.length < n) (x : Nat) : (padN n l).set l.length x = padN n (l ++ [x]) := by
  unfold padN
  rw [List.set_append_right _ _ (Nat.le_refl _), Nat.sub_self]
  obtain ⟨m, hm⟩ : ∃ m, n - l.length = m + 1 := ⟨n - l.length - 1, by omega⟩
  rw [hm, List.replicate_succ, List.set_cons_zero, List.append_assoc]
  have : n - (l ++ [x]).length = m := by simp; omega
  rw [this]
  rfl
theorem padN_length {n : Nat} {l : List Nat} (h : l.length ≤ n) : (padN n l).length = n := by simp [padN]; omega
theorem tabN_length {ps : List Nat} (h : ps.length ≤ 64) : (tabN ps).length = 72 := by
  unfold tabN
  rw [List.length_append, padN_length (by simp; omega), padN_length (by simpa using h)]
theorem tab_cube {ps : List Nat} (h : ps.length < 64) (x : Nat) (l : List Nat) (hl : l.length = 8) : (l ++ padN 64 (ps.map fun p => rootN p 3)).set (8 + ps.length) (rootN x 3) = l ++ padN 64 ((ps ++ [x]).map fun p => rootN p 3) := by
  rw [List.set_append_right _ _ (by omega), hl, Nat.add_sub_cancel_left]
  have := padN_set (n := 64) (l := ps.map fun p => rootN p 3) (by simpa using h) (rootN x 3)
  rw [List.length_map] at this
  rw [this, List.map_append]
  rfl
theorem tab_late {ps : List Nat} (h : ps.length < 64) (h8 : 8 ≤ ps.length) (x : Nat) : (tabN ps).set (8 + ps.length) (rootN x 3) = tabN (ps ++ [x]) := by
  unfold tabN
  rw [tab_cube h x _ (padN_length (by simp; omega)), List.take_append_of_le_length h8]
theorem tab_early {ps : List Nat} (h8 : ps.length < 8) (x : Nat) : ((tabN ps).set ps.length (rootN x 2)).set (8 + ps.length) (rootN x 3) = tabN (ps ++ [x]) := by
  unfold tabN
  have e := padN_set (n := 8) (l := (ps.take 8).map fun p => rootN p 2) (by simp; omega) (rootN x 2)
  have el : ((ps.take 8).map fun p => rootN p 2).length = ps.length := by simp; omega
  rw [el] at e
  rw [List.set_append_left _ _ (by rw [padN_length (by simp; omega)]; omega), e, tab_cube (by omega) x _ (padN_length (by simp; omega))]
  rw [List.take_of_length_le (l := ps) (by omega), List.take_of_length_le (l := ps ++ [x]) (by simp; omega)]
  simp only [List.map_append, List.map_cons, List.map_nil]
theorem Vn_set (l : List Nat) (j x : Nat) : (Vn l).set j (.int .i64 x) = Vn (l.set j x) := by
  unfold Vn
  rw [List.map_set]
theorem Vn_get {l : List Nat} {j : Nat} (h : j < l.length) : ∃ n : Int, (Vn l)[j]? = some (.int .i64 n) := ⟨l[j], by simp [Vn, List.getElem?_eq_getElem h]⟩
theorem Vn_oneCell (xs : List Nat) : ∀ u ∈ Vn xs, u.oneCell' = true := by
  intro u hu
  simp only [Vn, List.mem_map] at hu
  obtain ⟨x, _, rfl⟩ := hu
  rfl
theorem zero29 (w : World) : (zeroValue 33).run Tryz.prog w = .ok (.agg (List.replicate 72 (Value.int .i64 0)).toArray) w :=
  (zero_of_info (P := Tryz.prog) (t := 33) (v := .agg (List.replicate 72 (Value.int .i64 0)).toArray) (n := 72) (by kernel_rfl)).1 w
attribute [local go_sem] zero29
theorem primes_on (p : Nat) (h : 2 ≤ p) : primesN (p + 1 - 2) = if isP p then primesN (p - 2) ++ [p] else primesN (p - 2) := by
  rw [show p + 1 - 2 = (p - 2) + 1 by omega, primesN, show p - 2 + 2 = p by omega]
theorem divs_on (p q : Nat) (h : 1 ≤ q) : divsN p (q + 1 - 1) = divsN p (q - 1) + if p % q = 0 then 1 else 0 := by
  rw [show q + 1 - 1 = (q - 1) + 1 by omega, divsN, show q - 1 + 1 = q by omega]

set_option maxHeartbeats 1000000 in
set_option maxRecDepth 100000 in
theorem make_any (w : World) : Calls Tryz.prog 6 #[] w fun e w' => e = .returned (.agg (Wi start8.list ++ Wi Ks).toArray) ∧ Below w.heap.size w w' := by
  have i29 : (Tryz.prog.info? 33).map (·.size) = some 72 := by kernel_rfl
  have I29 := Lib.hid i29
  clear i29
  go_enter Tryz.func6, Tryz.ntmps6
  go_wp2_with fail
  go_loopw [2, 3] (fun nv pv wr => ∃ p : Nat, 2 ≤ p ∧ p ≤ 312 ∧ pv = .int .u64 p ∧ nv = .int .i64 ((primesN (p - 2)).length : Nat) ∧ Blk wr (w.heap.size + 1) 33 (Vn (tabN (primesN (p - 2)))) ∧ Blk wr w.heap.size 33 (List.replicate 72 (.int .i64 0)) ∧ Below w.heap.size w wr) (fun _ pv _ => 312 - (intOf pv).toNat)
  case atStart => exact ⟨2, by omega, by omega, rfl, rfl, blk_two w _ _ (List.replicate 72 (.int .i64 0)) (List.replicate 72 (.int .i64 0)), (Blk.new w _ (List.replicate 72 (.int .i64 0))).alloc _, ((Below.refl _ _).alloc (Nat.le_refl _) _).alloc (by simp) _⟩
  case round =>
    obtain ⟨p, hp2, hp3, rfl, rfl, hb1, hb0, hbel⟩ := hrel
    have HW := Lib.hid (And.intro hb1 (And.intro hb0 hbel))
    have hs0 := hbel.size
    have hs1 := hb1.lt
    clear hb1 hb0 hbel
    by_cases hn : (primesN (p - 2)).length < 64
    · have hp311 : p ≤ 311 := by
        rcases Nat.lt_or_ge p 312 with h | h
        · omega
        · exfalso
          obtain rfl : p = 312 := by omega
          rw [show 312 - 2 = 310 by omega, primes_now] at hn
          simp at hn
      have hon := Lib.hid (primes_on p hp2)
      have htl := tabN_length (ps := primesN (p - 2)) (by omega)
      have hte := Lib.hid (fun h => tab_early (ps := primesN (p - 2)) h p)
      have htt := Lib.hid (fun h => tab_late (ps := primesN (p - 2)) hn h p)
      generalize primesN (p - 2) = ps at *
      obtain ⟨m, hm⟩ : ∃ m, m = ps.length := ⟨_, rfl⟩
      rw [← hm] at hn hte htt
      rw [← hm]
      have HM := Lib.hid (And.intro hm htl)
      clear hm htl
      obtain ⟨wo, rfl⟩ : ∃ wo : World, wo = wr := ⟨_, rfl⟩
      go_wp2_with fail
      go_loopw [4, 5] (fun cv qv wr => ∃ q : Nat, 1 ≤ q ∧ q ≤ p + 1 ∧ qv = .int .u64 q ∧ cv = .int .i64 (divsN p (q - 1) : Nat) ∧ wr = wo) (fun _ qv _ => p + 1 - (intOf qv).toNat)
      case atStart => exact ⟨1, by omega, by omega, rfl, rfl, rfl⟩
      case round =>
        obtain ⟨q, hq1, hq2, rfl, rfl, rfl⟩ := hrel
        have hdl := divsN_le p (q - 1)
        by_cases hqp : q ≤ p
        · have hdo := Lib.hid (divs_on p q hq1)
          generalize divsN p (q - 1) = c at *
          by_cases hz : p % q = 0
          · have hz1 : ((p : Int) % (q : Int) == 0) = true := by
              rw [← Int.natCast_emod, hz]; rfl
            have hz2 : (p : Int) % (q : Int) = 0 := by
              rw [← Int.natCast_emod, hz]; rfl
            clear hz2
            go_wp2_with fail
            go_roundw
            case rel => exact ⟨q + 1, by omega, by omega, by go_num, by rw [hdo.out, if_pos hz]; go_num, trivial⟩
            case measure => simp [intOf]; omega
          · have hz1 : ((p : Int) % (q : Int) == 0) = false := by
              rw [← Int.natCast_emod]; simp; omega
            go_wp2_with fail
            go_roundw
            case rel => exact ⟨q + 1, by omega, by omega, by go_num, by rw [hdo.out, if_neg hz]; go_num, trivial⟩
            case measure => simp [intOf]; omega
        · obtain rfl : q = p + 1 := by omega
          have hip : isP p = (divsN p (p + 1 - 1) == 2) := rfl
          have HI := Lib.hid hip
          clear hip
          generalize divsN p (p + 1 - 1) = c at *
          by_cases hc : c = 2
          · subst hc
            have hon2 := Lib.hid (show primesN (p + 1 - 2) = ps ++ [p] by rw [hon.out, HI.out]; rfl)
            obtain ⟨z0, hz0⟩ := Vn_get (l := tabN ps) (j := m) (by rw [HM.out.2]; omega)
            obtain ⟨z1, hz1⟩ := Vn_get (l := tabN ps) (j := 8 + m) (by rw [HM.out.2]; omega)
            have HZ := Lib.hid (And.intro hz0 hz1)
            clear hz0 hz1
            obtain ⟨r2, hr2⟩ : ∃ r, r = rootN p 2 := ⟨_, rfl⟩
            obtain ⟨r3, hr3⟩ : ∃ r, r = rootN p 3 := ⟨_, rfl⟩
            have HR2 := Lib.hid hr2
            have HR3 := Lib.hid hr3
            clear hr2 hr3
            by_cases hm8 : m < 8
            · go_wp2_with fail
              refine (root_2 _ p r2 (by omega) HR2).mono ?_
              rintro e w2 ⟨rfl, hb2⟩
              have HB2 := Lib.hid hb2
              have hb1 := HW.out.1.below hb2 (by omega)
              have hc1 := (hb1.cell m).trans HZ.out.1
              have hf1 := hb1.frozen m
              have hs2 := hb2.size
              clear hb2
              have HB1 := Lib.hid (hb1.set_ m (.int .i64 r2))
              clear hb1
              go_wp2_with fail
              refine (root_3 _ p r3 (by omega) HR3).mono ?_
              rintro e w3 ⟨rfl, hb3⟩
              have hb1 := HB1.out.below hb3 (by simp; omega)
              have hc2 := (hb1.cell (8 + m)).trans ((List.getElem?_set_ne (by omega)).trans HZ.out.2)
              have hf2 := hb1.frozen (8 + m)
              have h0 := (((HW.out.2.1.below HB2.out (by omega)).far (p := ⟨w.heap.size + 1, m, none⟩) (by simp) (.int .i64 r2)).below hb3 (by simp; omega))
              have hbel := ((HW.out.2.2.trans (HB2.out.mono hs0)).setCell (p := ⟨w.heap.size + 1, m, none⟩) (by simp) (.int .i64 r2)).trans (hb3.mono (by simp; omega))
              have H3 := Lib.hid (And.intro hb1 (And.intro h0 hbel))
              clear hb1 hb3 h0 hbel hc1 hf1
              go_wp2_with fail
              go_roundw
              case rel =>
                refine ⟨p + 1, by omega, by omega, by go_num, ?_, ?_, ?_, ?_⟩
                · rw [hon2.out, List.length_append, ← HM.out.1]; go_num
                · rw [hon2.out, ← hte.out hm8, ← HR2.out, ← HR3.out, ← Vn_set, ← Vn_set]
                  exact H3.out.1.set_ (8 + m) (.int .i64 r3)
                · exact H3.out.2.1.far (p := ⟨w.heap.size + 1, 8 + m, none⟩) (by simp) _
                · exact H3.out.2.2.setCell (p := ⟨w.heap.size + 1, 8 + m, none⟩) (by simp) _
              case measure => simp [intOf]; omega
            · go_wp2_with fail
              refine (root_3 _ p r3 (by omega) HR3).mono ?_
              rintro e w3 ⟨rfl, hb3⟩
              have hb1 := HW.out.1.below hb3 (by omega)
              have hc2 := (hb1.cell (8 + m)).trans HZ.out.2
              have hf2 := hb1.frozen (8 + m)
              have h0 := HW.out.2.1.below hb3 (by omega)
              have hbel := HW.out.2.2.trans (hb3.mono hs0)
              have H3 := Lib.hid (And.intro hb1 (And.intro h0 hbel))
              clear hb1 hb3 h0 hbel
              go_wp2_with fail
              go_roundw
              case rel =>
                refine ⟨p + 1, by omega, by omega, by go_num, ?_, ?_, ?_, ?_⟩
                · rw [hon2.out, List.length_append, ← HM.out.1]; go_num
                · rw [hon2.out, ← htt.out (by omega), ← HR3.out, ← Vn_set]
                  exact H3.out.1.set_ (8 + m) (.int .i64 r3)
                · exact H3.out.2.1.far (p := ⟨w.heap.size + 1, 8 + m, none⟩) (by simp) _
                · exact H3.out.2.2.setCell (p := ⟨w.heap.size + 1, 8 + m, none⟩) (by simp) _
              case measure => simp [intOf]; omega
          · have hon2 := Lib.hid (show primesN (p + 1 - 2) = ps by rw [hon.out, HI.out, if_neg (by simp [hc])])
            have q1 : ((c : Int) == 2) = false := by simp; omega
            have q2 : ((c : Int) != 2) = true := by simp; omega
            go_wp2_with fail
            go_roundw
            case rel => exact ⟨p + 1, by omega, by omega, by go_num, by rw [hon2.out, ← HM.out.1], by rw [hon2.out]; exact HW.out.1, HW.out.2.1, HW.out.2.2⟩
            case measure => simp [intOf]; omega
    · have hp312 : p = 312 := by
        rcases Nat.lt_or_ge p 312 with h | h
        · exact absurd (primes_63 (k := p - 2) (by omega)) hn
        · omega
      have hT : Vn (tabN (primesN (p - 2))) = Wi start8.list ++ Wi Ks := by rw [hp312]; exact table_is
      have hW1 := HW.out.1
      rw [hT] at hW1
      have hl72 : (Wi start8.list ++ Wi Ks).length = 72 := by simp [Wi_length, S8.list, Ks, rootsZ]
      have hone : ∀ u ∈ Wi start8.list ++ Wi Ks, u.oneCell' = true := by
        intro u hu
        rcases List.mem_append.1 hu with hu | hu
        · exact Wi_oneCell _ u hu
        · exact Wi_oneCell _ u hu
      have H1 := Lib.hid (And.intro hW1 hone)
      clear hT hW1 hone
      obtain ⟨T, hT⟩ : ∃ T, T = Wi start8.list ++ Wi Ks := ⟨_, rfl⟩
      rw [← hT] at H1 hl72
      have HT := Lib.hid hT
      clear hT
      generalize (primesN (p - 2)).length = m at *
      go_wp2_with (first
        | (refine wpList_load_mid rfl 33 (.tmp 1) rfl (w.heap.size + 1) 0 rfl _ _ H1.out.1.range Tryz.underlying33 rfl (I29.out.trans (by rw [hl72])) ?_)
        | (refine wpList_store_blk rfl 33 (.tmp 0) (.tmp 37) rfl w.heap.size 0 T rfl rfl HW.out.2.1 (by simp [hl72]) (I29.out.trans (by simp [hl72])) H1.out.2 ?_; intro wF hF hO))
      rw [over_whole (by simp [hl72])] at hF
      refine bodyPost_ret (v := .agg T.toArray) ?_ rfl ⟨by rw [HT.out], ?_⟩
      · exact ret_cell rfl rfl (run_loadVar_mid _ _ 0 33 _ _ hF.range Tryz.underlying33 rfl (I29.out.trans (by rw [hl72])))
      · exact HW.out.2.2.trans (hO.below (B := w.heap.size) (by omega) (by simp))

end Go.Proofs.YtlpljedacohngaaGreatDoor
end
