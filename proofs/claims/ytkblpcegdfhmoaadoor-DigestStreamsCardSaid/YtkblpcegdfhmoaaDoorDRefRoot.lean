/-
  The document's digits, product, root: as the plain ones say. Conditions: digits below 65536; at most 100 of them; a prime below 1000, power 2 or 3.
-/
import Derived.Test.YtkblpcegdfhmoaaDoorDRefNum
import Derived.Test.YtkblpcegdfhmoaaDoorDEnding
namespace Go.Proofs.YtkblpcegdfhmoaaDoor
open Go.RowKit

def Us (l : List Nat) : List Value := l.map fun (n : Nat) => .int .u64 n
theorem below_drewN {B : Nat} {a w : World} (h : Below B a w) (n : Nat) : Below B a (w.drewN n) := h.trans ⟨rfl, rfl, rfl, Nat.le_refl _, fun _ _ => rfl⟩
theorem Us_length (l : List Nat) : (Us l).length = l.length := by simp [Us]
theorem Us_get {l : List Nat} {i : Nat} (h : i < l.length) : (Us l)[i]? = some (.int .u64 (l.getD i 0 : Nat)) := by
  simp [Us, List.getD_eq_getElem?_getD, List.getElem?_eq_getElem h]
theorem us_set {w : World} {g j : Nat} {l : List Nat} (h : Blk w g 34 (Us l)) (m : Nat) {v : Int} (hv : v = m) : Blk (w.setCell ⟨g, j, none⟩ (.int .u64 v)) g 34 (Us (l.set j m)) := by
  have := h.set_ j (.int .u64 v)
  rw [hv] at this ⊢
  unfold Us at this ⊢
  rw [List.map_set]
  exact this

theorem wpList_make_u64 {w : World} {ops : Array Oper} {rest : List Oper} {o : Oper} {a : Act} {Q : Exit → Act → World → Prop}
    (hg : o.guard = none) (x y : Operand) (hop : o.op = Op.makeSlice 68 x y) (c : Nat) (kx ky : IntKind) (X Y : Int) (hx : a.eval x = .int kx X) (hy : a.eval y = .int ky Y) (hX : X = c) (hY : Y = c) (hc : c ≤ 1000)
    (hK : wpList Tryd.prog ops Q rest (a.put o.dst (.slice (some ⟨w.heap.size, 0, none⟩) c c)) (w.alloc (.cells (Us (List.replicate c 0)).toArray 34))) :
    wpList Tryd.prog ops Q (o :: rest) a w := by
  subst hX hY
  obtain ⟨i0, hi, hz0, hz1, hz2⟩ := info_parts (show (Tryd.prog.info? 34).map (fun i => (i.zero, i.size, i.bytes)) = some (some (.int .u64 0), 1, 8) by kernel_rfl)
  have hr := run_make (P := Tryd.prog) w 68 34 i0 (.int .u64 0) Tryd.underlying68 hi hz0 kx ky c c (by omega) (by omega) (by rw [hz2]; omega) (by omega)
  have hm : madeCells (Value.int .u64 0).cells ((c : Int).toNat * i0.size) = (Us (List.replicate c 0)).toArray := by
    rw [hz1]
    simp only [madeCells, Value.cells, Int.toNat_natCast, Nat.mul_one]
    apply Array.ext
    · simp [Us]
    · intro j h1 h2
      simp [Nat.mod_one, Us]
  rw [hm] at hr
  simp only [Int.toNat_natCast] at hr
  refine wpList_plain hg fun K hK' => ?_
  unfold Oper.wp execOp
  simp only [hop, hx, hy, Sem.run_bind, hr, Result.andThen_ok, Sem.run_pure]
  exact hK' _ _ hK

theorem digits_any (w : World) (y : Nat) (hy : y < 281474976710656) : Calls Tryd.prog 31 #[.int .u64 y] w fun e w' => e = .returned (.slice (some ⟨w.heap.size, 0, none⟩) 3 3) ∧ Blk w' w.heap.size 34 (Us (digs y)) ∧ Below w.heap.size w w' := by
  go_enter Tryd.func31, Tryd.ntmps31
  go_wp2
  go_ret
  have e : [Value.int .u64 ((y : Int) % 65536), .int .u64 ((y : Int) / 65536 % 65536), .int .u64 ((y : Int) / 65536 / 65536 % 65536)] = Us (digs y) := by
    simp [Us, digs]
  refine ⟨rfl, ?_, (Below.refl _ _).alloc (Nat.le_refl _) _⟩
  rw [← e]
  exact Blk.new w _ _

set_option maxHeartbeats 1000000 in
theorem product_any (w : World) (ga gb ca cb : Nat) (a b : List Nat) (ha : Blk w ga 34 (Us a)) (hb : Blk w gb 34 (Us b)) (sa : S16 a) (sb : S16 b) (la : a.length ≤ 100) (lb : b.length ≤ 100) :
    Calls Tryd.prog 32 #[.slice (some ⟨ga, 0, none⟩) a.length ca, .slice (some ⟨gb, 0, none⟩) b.length cb] w fun e w' => e = .returned (.slice (some ⟨w.heap.size, 0, none⟩) (a.length + b.length) (a.length + b.length)) ∧ Blk w' w.heap.size 34 (Us (prodN a b)) ∧ Below w.heap.size w w' := by
  have HA := Lib.hid (And.intro ha sa)
  have HB := Lib.hid (And.intro hb sb)
  have HL := Lib.hid (mulOut_length a b)
  obtain ⟨na, hna⟩ : ∃ n, n = a.length := ⟨_, rfl⟩
  obtain ⟨nb, hnb⟩ : ∃ n, n = b.length := ⟨_, rfl⟩
  have hal := ha.lt
  have hbl := hb.lt
  rw [← hna, ← hnb]
  rw [← hna] at la
  rw [← hnb] at lb
  have HN := Lib.hid (And.intro hna hnb)
  clear ha hb sa sb hna hnb
  go_enter Tryd.func32, Tryd.ntmps32
  go_wp2_with (refine wpList_make_u64 rfl (.tmp 14) (.tmp 14) rfl (na + nb) .i64 .i64 _ _ rfl rfl (by simp) (by simp) (by omega) ?_)
  go_loopw [6] (fun i wr => ∃ k : Nat, k ≤ na ∧ i = .int .i64 k ∧ Blk wr w.heap.size 34 (Us (mulOut a b k)) ∧ Below w.heap.size w wr) (fun i _ => na - (intOf i).toNat)
  case atStart => exact ⟨0, by omega, rfl, by rw [HN.out.1, HN.out.2]; exact Blk.new w _ _, (Below.refl _ _).alloc (Nat.le_refl _) _⟩
  case round =>
    obtain ⟨i, hi, rfl, hblk, hbel⟩ := hrel
    by_cases hin : i < na
    · have HI := Lib.hid (And.intro hblk hbel)
      clear hblk hbel
      obtain ⟨wo, rfl⟩ : ∃ wo : World, wo = wr := ⟨_, rfl⟩
      go_wp2_with fail
      go_loopw [8, 7] (fun kv cv wr => ∃ k : Nat, k ≤ nb ∧ kv = .int .i64 k ∧ cv = .int .u64 ((mulIn a b (mulOut a b i) i k).2 : Nat) ∧ Blk wr w.heap.size 34 (Us (mulIn a b (mulOut a b i) i k).1) ∧ Below w.heap.size w wr) (fun kv _ _ => nb - (intOf kv).toNat)
      case atStart => exact ⟨0, by omega, rfl, rfl, HI.out.1, HI.out.2⟩
      case round =>
        obtain ⟨k, hk, rfl, rfl, hblk, hbel⟩ := hrel
        have hs := mulIn_small HA.out.2 HB.out.2 (mulOut_small HA.out.2 HB.out.2 i) i k
        have hln := mulIn_length a b (mulOut a b i) i k
        rw [HL.out, ← HN.out.1, ← HN.out.2] at hln
        by_cases hkn : k < nb
        · have hm := mul_small (hs.1 (i + k)) (HA.out.2 i) (HB.out.2 k) hs.2
          have cO : wr.cell? ⟨w.heap.size, i + k, none⟩ = some (.int .u64 ((mulIn a b (mulOut a b i) i k).1.getD (i + k) 0 : Nat)) := (hblk.cell _).trans (Us_get (by omega))
          have cA : wr.cell? ⟨ga, i, none⟩ = some (.int .u64 (a.getD i 0 : Nat)) := ((HA.out.1.below hbel hal).cell _).trans (Us_get (by rw [← HN.out.1]; omega))
          have cB : wr.cell? ⟨gb, k, none⟩ = some (.int .u64 (b.getD k 0 : Nat)) := ((HB.out.1.below hbel hbl).cell _).trans (Us_get (by rw [← HN.out.2]; omega))
          have hf := hblk.frozen (i + k)
          have hS : mulIn a b (mulOut a b i) i (k + 1) = ((mulIn a b (mulOut a b i) i k).1.set (i + k) (((mulIn a b (mulOut a b i) i k).1.getD (i + k) 0 + a.getD i 0 * b.getD k 0 + (mulIn a b (mulOut a b i) i k).2) % 65536), ((mulIn a b (mulOut a b i) i k).1.getD (i + k) 0 + a.getD i 0 * b.getD k 0 + (mulIn a b (mulOut a b i) i k).2) / 65536) := rfl
          have HS := Lib.hid hS
          have HW := Lib.hid (And.intro hblk hbel)
          have hcc := hs.2
          have hoo := hs.1 (i + k)
          have haa := HA.out.2 i
          have hbb := HB.out.2 k
          clear hS hblk hbel hs hln
          generalize (mulIn a b (mulOut a b i) i k).1 = out at *
          generalize (mulIn a b (mulOut a b i) i k).2 = c at *
          generalize out.getD (i + k) 0 = o at *
          generalize a.getD i 0 = x at *
          generalize b.getD k 0 = y at *
          have hxy : (x : Int) * (y : Int) ≤ 4294836225 := by rw [← Int.natCast_mul]; omega
          have hxy0 : 0 ≤ (x : Int) * (y : Int) := Int.mul_nonneg (by omega) (by omega)
          clear hm
          have hik : (i : Int) + (k : Int) < (na : Int) + (nb : Int) := by omega
          have hik0 : 0 ≤ (i : Int) + (k : Int) := by omega
          go_wp2_with fail
          go_quiet (fail)
          go_wp2_with fail
          go_roundw
          case rel =>
            refine ⟨k + 1, by omega, by go_num, ?_, ?_, ?_⟩
            · rw [HS.out]
              simp
            · rw [HS.out]
              exact us_set (HW.out.1.drewN nq) _ (by simp)
            · exact (below_drewN HW.out.2 nq).setCell (p := ⟨w.heap.size, i + k, none⟩) (by simp) _
          case measure => simp [intOf]; omega
        · obtain rfl : k = nb := by omega
          have hz := hblk.cell (i + k)
          rw [Us_get (by omega)] at hz
          have hf := hblk.frozen (i + k)
          have hcc := hs.2
          have HW := Lib.hid (And.intro hblk hbel)
          have hS : mulOut a b (i + 1) = (mulIn a b (mulOut a b i) i k).1.set (i + k) (mulIn a b (mulOut a b i) i k).2 := by rw [HN.out.2]; rfl
          have HS := Lib.hid hS
          clear hS hblk hbel hs hln
          generalize (mulIn a b (mulOut a b i) i k).1 = out at *
          generalize (mulIn a b (mulOut a b i) i k).2 = c at *
          go_wp2_with fail
          go_roundw
          case rel =>
            refine ⟨i + 1, by omega, by go_num, ?_, ?_⟩
            · rw [HS.out]
              exact us_set HW.out.1 _ rfl
            · exact HW.out.2.setCell (p := ⟨w.heap.size, i + k, none⟩) (by simp) _
          case measure => simp [intOf]; omega
    · obtain rfl : i = na := by omega
      go_wp2_with fail
      go_ret
      refine ⟨rfl, ?_, hbel⟩
      rw [HN.out.1] at hblk
      exact hblk

theorem product_len (w : World) (ga gb ca cb na nb : Nat) (a b : List Nat) (hna : a.length = na) (hnb : b.length = nb) (ha : Blk w ga 34 (Us a)) (hb : Blk w gb 34 (Us b)) (sa : S16 a) (sb : S16 b) (la : na ≤ 100) (lb : nb ≤ 100) :
    Calls Tryd.prog 32 #[.slice (some ⟨ga, 0, none⟩) na ca, .slice (some ⟨gb, 0, none⟩) nb cb] w fun e w' => e = .returned (.slice (some ⟨w.heap.size, 0, none⟩) (na + nb) (na + nb)) ∧ Blk w' w.heap.size 34 (Us (prodN a b)) ∧ Below w.heap.size w w' := by
  subst hna hnb
  exact product_any w ga gb ca cb a b ha hb sa sb la lb
theorem powD_succ (y k : Nat) : powD y (k + 1) = prodN (powD y k) (digs y) := rfl
theorem pow_small (j : Nat) (h : j ≤ 3) : 65536 ^ j ≤ 281474976710656 := by
  match j, h with
  | 0, _ | 1, _ | 2, _ | 3, _ => decide
theorem two_small (j : Nat) : 0 < 2 ^ (36 - j) ∧ 2 ^ (36 - j) ≤ 68719476736 := ⟨Nat.two_pow_pos _, by
  have := Nat.pow_le_pow_right (n := 2) (by omega) (show 36 - j ≤ 36 by omega)
  simpa using this⟩
set_option maxHeartbeats 1000000 in
theorem root_any (w : World) (p pw : Nat) (hp : p ≤ 1000) (hw2 : 2 ≤ pw) (hw3 : pw ≤ 3) :
    Calls Tryd.prog 24 #[.int .u64 p, .int .i64 pw] w fun e w' => e = .returned (.int .i64 (rootN p pw : Nat)) ∧ Below w.heap.size w w' := by
  go_enter Tryd.func24, Tryd.ntmps24
  go_wp2_with fail
  go_loopw [5, 6] (fun xv iv wr => ∃ j : Nat, j ≤ 37 ∧ xv = .int .u64 (rootX p pw j : Nat) ∧ iv = .int .i64 (36 - j) ∧ Below w.heap.size w wr) (fun _ iv _ => (intOf iv + 1).toNat)
  case atStart => exact ⟨0, by omega, rfl, rfl, Below.refl _ _⟩
  case round =>
    obtain ⟨j, hj, rfl, rfl, hbel⟩ := hrel
    have hx := rootX_small p pw j hj
    by_cases hj37 : j < 37
    · have h2 := two_small j
      have hX : rootX p pw (j + 1) = if goodR p pw (rootX p pw j + 2 ^ (36 - j)) then rootX p pw j + 2 ^ (36 - j) else rootX p pw j := rfl
      have HX := Lib.hid hX
      have HW := Lib.hid hbel
      have hsz := hbel.size
      clear hX hbel
      generalize rootX p pw j = x at *
      have hcast : (2 : Int) ^ (36 - j) = ((2 ^ (36 - j) : Nat) : Int) := by simp
      have hxe : x ≤ 137438953472 := by have := Nat.two_pow_pos (37 - j); omega
      clear hx
      generalize 2 ^ (36 - j) = e at *
      obtain ⟨y, hy⟩ : ∃ y, y = x + e := ⟨_, rfl⟩
      rw [← hy] at HX
      have hye : (x : Int) + (e : Int) = (y : Int) := by omega
      have hyl : y ≤ 206158430208 := by omega
      have HY := Lib.hid hy
      clear hy
      go_wp2_with fail
      refine (digits_any wr y (by omega)).mono ?_
      rintro e1 w1 ⟨rfl, hd, hb1⟩
      have HD := Lib.hid (And.intro hd (hb1.mono (B' := w.heap.size) hsz))
      clear hd hb1
      clear hye
      go_wp2_with fail
      go_loopw [8, 9] (fun zv kv w2 => ∃ d g : Nat, d + 1 ≤ pw ∧ kv = .int .i64 (1 + d) ∧ zv = .slice (some ⟨g, 0, none⟩) (3 + 3 * d) (3 + 3 * d) ∧ Blk w2 g 34 (Us (powD y d)) ∧ w.heap.size ≤ g ∧ Below w.heap.size w w2) (fun _ kv _ => pw - (intOf kv).toNat)
      case atStart => exact ⟨0, _, by omega, rfl, rfl, HD.out.1, hsz, HW.out.trans HD.out.2⟩
      case round =>
        clear HD
        obtain ⟨d, g, hd, rfl, rfl, hblk, hgs, hbel⟩ := hrel
        have hgl := hblk.lt
        have hbs := hbel.size
        have HB := Lib.hid (And.intro hblk hbel)
        clear hblk hbel
        by_cases hdp : d + 1 < pw
        · go_wp2_with fail
          refine (digits_any _ y (by omega)).mono ?_
          rintro e1 w2 ⟨rfl, hd2, hb2⟩
          have HD := Lib.hid (And.intro hd2 hb2)
          clear hd2 hb2
          go_wp2_with fail
          refine (product_len w2 g _ _ _ (3 + 3 * d) 3 (powD y d) (digs y) (powD_length y d) rfl (HB.out.1.below HD.out.2 hgl) HD.out.1 (powD_small y d) (S16.digs y) (by omega) (by omega)).mono ?_
          rintro e1 w3 ⟨rfl, hb3, hbel3⟩
          have hs2 := HD.out.2.size
          have H3 := Lib.hid (And.intro hb3 (HB.out.2.trans ((HD.out.2.mono hbs).trans (hbel3.mono (by omega)))))
          clear hb3 hbel3
          go_wp2_with fail
          go_roundw
          case rel => exact ⟨d + 1, w2.heap.size, by omega, by go_num, rfl, H3.out.1, by omega, H3.out.2⟩
          case measure => simp [intOf]; omega
        · obtain rfl : pw = d + 1 := by omega
          have hzl := powD_length y d
          have HZ := Lib.hid (And.intro hzl (powD_small y d))
          clear hzl
          go_wp2_with fail
          obtain ⟨wo, rfl⟩ : ∃ wo : World, wo = wr := ⟨_, rfl⟩
          go_loopw [10, 11, 12] (fun av bv kv w2 => ∃ n : Nat, n ≤ 3 + 3 * d ∧ av = .int .u64 ((wholeR (powD y d) (2 * (d + 1)) n).1 : Nat) ∧ bv = .int .u64 ((wholeR (powD y d) (2 * (d + 1)) n).2 : Nat) ∧ kv = .int .i64 (2 + 3 * d - n) ∧ w2 = wo) (fun _ _ kv _ => (intOf kv + 1).toNat)
          case atStart => exact ⟨0, by omega, rfl, rfl, by go_num, rfl⟩
          case round =>
            obtain ⟨n, hn, rfl, rfl, rfl, rfl⟩ := hrel
            have hr := wholeR_small HZ.out.2 (2 * (d + 1)) n (by rw [HZ.out.1]; omega)
            rw [HZ.out.1] at hr
            by_cases hn3 : n < 3 + 3 * d
            · have cZ : wr.cell? ⟨g, 2 + 3 * d - n, none⟩ = some (.int .u64 ((powD y d).getD (2 + 3 * d - n) 0 : Nat)) := (HB.out.1.cell _).trans (Us_get (by rw [HZ.out.1]; omega))
              have hzd := HZ.out.2 (2 + 3 * d - n)
              have hS : wholeR (powD y d) (2 * (d + 1)) (n + 1) = if 2 * (d + 1) ≤ 2 + 3 * d - n then (65536 * (wholeR (powD y d) (2 * (d + 1)) n).1 + (powD y d).getD (2 + 3 * d - n) 0, (wholeR (powD y d) (2 * (d + 1)) n).2) else ((wholeR (powD y d) (2 * (d + 1)) n).1, (wholeR (powD y d) (2 * (d + 1)) n).2 + (powD y d).getD (2 + 3 * d - n) 0) := by
                rw [wholeR, HZ.out.1, show 3 + 3 * d - 1 - n = 2 + 3 * d - n by omega]
              have HS := Lib.hid hS
              clear hS
              generalize wholeR (powD y d) (2 * (d + 1)) n = r at *
              generalize (powD y d).getD (2 + 3 * d - n) 0 = z at *
              obtain ⟨r1, r2⟩ := r
              have hr2 : r2 ≤ 65536 * n := hr.2
              have hki : (0 : Int) ≤ 2 + 3 * (d : Int) - (n : Int) := by omega
              by_cases ht : 2 * (d + 1) ≤ 2 + 3 * d - n
              · have hr1 : r1 ≤ 4294967296 := by
                  have h1 : r1 < 65536 ^ (min n (3 + 3 * d - 2 * (d + 1))) := hr.1
                  have h2 := Nat.pow_le_pow_right (n := 65536) (by omega) (show min n (3 + 3 * d - 2 * (d + 1)) ≤ 2 by omega)
                  have h3 : 65536 ^ 2 = 4294967296 := by decide
                  omega
                clear hr
                have hti : (2 : Int) * ((d : Int) + 1) ≤ 2 + 3 * (d : Int) - (n : Int) := by omega
                go_wp2_with fail
                go_roundw
                case rel =>
                  refine ⟨n + 1, by omega, ?_, ?_, by go_num, trivial⟩
                  · rw [HS.out, if_pos ht]; go_num
                  · rw [HS.out, if_pos ht]
                case measure => simp [intOf]; omega
              · clear hr
                have hti : 2 + 3 * (d : Int) - (n : Int) < 2 * ((d : Int) + 1) := by omega
                go_wp2_with fail
                go_roundw
                case rel =>
                  refine ⟨n + 1, by omega, ?_, ?_, by go_num, trivial⟩
                  · rw [HS.out, if_neg ht]
                  · rw [HS.out, if_neg ht]; go_num
                case measure => simp [intOf]; omega
            · have hki : 2 + 3 * (d : Int) - (n : Int) < 0 := by omega
              have hG : goodR p (d + 1) y = (decide ((wholeR (powD y d) (2 * (d + 1)) n).1 < p) || ((wholeR (powD y d) (2 * (d + 1)) n).1 == p && (wholeR (powD y d) (2 * (d + 1)) n).2 == 0)) := by
                rw [show n = 3 * (d + 1) by omega]
                rfl
              have HG := Lib.hid hG
              clear hG hr
              generalize wholeR (powD y d) (2 * (d + 1)) n = r at *
              obtain ⟨r1, r2⟩ := r
              by_cases h1 : r1 < p
              · have HX1 : Hid (rootX p (d + 1) (j + 1) = y) := Lib.hid (by rw [HX.out, HG.out]; simp [h1])
                go_wp2_with fail
                go_roundw
                case rel => exact ⟨j + 1, by omega, by rw [HX1.out], by go_num, HB.out.2⟩
                case measure => simp [intOf]; omega
              · by_cases h2 : r1 = p
                · subst h2
                  by_cases h3 : r2 = 0
                  · subst h3
                    have HX1 : Hid (rootX r1 (d + 1) (j + 1) = y) := Lib.hid (by rw [HX.out, HG.out]; simp)
                    go_wp2_with fail
                    go_roundw
                    case rel => exact ⟨j + 1, by omega, by rw [HX1.out], by go_num, HB.out.2⟩
                    case measure => simp [intOf]; omega
                  · have HX1 : Hid (rootX r1 (d + 1) (j + 1) = x) := Lib.hid (by rw [HX.out, HG.out]; simp [h3])
                    have q3 : ((r2 : Int) == 0) = false := by simp; omega
                    go_wp2_with fail
                    go_roundw
                    case rel => exact ⟨j + 1, by omega, by rw [HX1.out], by go_num, HB.out.2⟩
                    case measure => simp [intOf]; omega
                · have HX1 : Hid (rootX p (d + 1) (j + 1) = x) := Lib.hid (by rw [HX.out, HG.out]; simp [h1, h2])
                  have q2 : ((r1 : Int) == (p : Int)) = false := by simp; omega
                  go_wp2_with fail
                  go_roundw
                  case rel => exact ⟨j + 1, by omega, by rw [HX1.out], by go_num, HB.out.2⟩
                  case measure => simp [intOf]; omega
    · obtain rfl : j = 37 := by omega
      have hR : ((rootX p pw 37 : Nat) : Int) % 4294967296 = (rootN p pw : Nat) := by unfold rootN; omega
      generalize rootX p pw 37 = x at *
      go_wp2_with fail
      go_ret
      exact ⟨rfl, hbel⟩

end Go.Proofs.YtkblpcegdfhmoaaDoor
