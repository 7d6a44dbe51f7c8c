/-
  simplex.Compare at two lists.
-/
import Derived.Test.YtjggeombkbianaaEvSxCmp
namespace Go.Proofs.Ytjggeombkbianaa.Sx
open Go Go.RowKit Go.Law Go.Sx

set_option maxRecDepth 100000 in
set_option maxHeartbeats 2000000 in
theorem cmpf (a1 a2 : Option Addr) (n1 n2 k1 k2 b1 o1 b2 o2 : Nat) (A B : List V) (w : World) (h1 : VIn w a1 n1 k1 b1 o1 A) (h2 : VIn w a2 n2 k2 b2 o2 B) (hs : n1 ≤ 4096) (ht : n2 ≤ 4096) :
    Calls Try.prog 62 #[.slice a1 n1 k1, .slice a2 n2 k2, .func (.func 52) #[] #[]] w fun e w' => e = .returned (.int .i64 (cmpL A B)) ∧ Below w.heap.size w w' := by
  have HA := Lib.hid (fun (w1 : World) (hb : Below w.heap.size w w1) => (h1.below hb).cells)
  have HB := Lib.hid (fun (w1 : World) (hb : Below w.heap.size w w1) => (h2.below hb).cells)
  have H1 := Lib.hid h1.head
  have H2 := Lib.hid h2.head
  have S1 := Lib.hid h1.size
  have S2 := Lib.hid h2.size
  clear h1 h2
  have HV := Lib.hid vcmp
  have TW := Lib.hid (Below.refl w.heap.size w)
  go_enter Try.func62, Try.ntmps62
  go_wp2
  go_loopw [13] (fun i wr => ∃ k : Nat, k ≤ n1 ∧ k ≤ n2 ∧ i = .int .i64 k ∧ Below w.heap.size w wr ∧ cmpL A B = cmpL (A.drop k) (B.drop k)) (fun i _ => n1 - (intOf i).toNat)
  case atStart => exact ⟨0, Nat.zero_le _, Nat.zero_le _, rfl, TW.out, rfl⟩
  case round =>
    obtain ⟨k, hk, hk2, rfl, hB, hC⟩ := hrel
    have T := Lib.hid hB
    have HC := Lib.hid hC
    clear hB hC
    by_cases hlt : k < n1
    · obtain rfl := H1.out (by omega)
      obtain ⟨c0, c1⟩ := HA.out wr T.out k hlt
      have hg1 := vx_get (l := A) (k := k) (by rw [S1.out]; exact hlt)
      by_cases hlt2 : k < n2
      · obtain rfl := H2.out (by omega)
        have hge : ¬ (k : Int) ≥ (n2 : Int) := by omega
        obtain ⟨d0, d1⟩ := HB.out wr T.out k hlt2
        have hg2 := vx_get (l := B) (k := k) (by rw [S2.out]; exact hlt2)
        have HS := Lib.hid (cmpL_step (a := A) (b := B) (i := k) (by rw [S1.out]; exact hlt) (by rw [S2.out]; exact hlt2))
        rw [← hg1, ← hg2] at HS
        have HP := Lib.hid (HV.out (vx A k) (vx B k))
        clear hg1 hg2
        generalize vx A k = p at *
        generalize vx B k = q at *
        obtain ⟨x, y⟩ := p
        obtain ⟨u, v⟩ := q
        simp only at c0 c1 d0 d1 HP
        have T1 := Lib.hid (T.out.alloc T.out.size (.cells #[.int .i64 x, .int .i64 y] 56))
        have T2 := Lib.hid (T1.out.alloc T1.out.size (.cells #[.int .i64 u, .int .i64 v] 56))
        obtain ⟨⟨e0, e1⟩, f0, f1⟩ := row2_two wr x y u v
        have d0' := (below_alloc wr (.cells #[.int .i64 x, .int .i64 y] 56)).cell (cell_lt d0) |>.trans d0
        have d1' := (below_alloc wr (.cells #[.int .i64 x, .int .i64 y] 56)).cell (cell_lt d1) |>.trans d1
        by_cases hz : cmpV (x, y) (u, v) = 0
        · rw [hz] at HP HS
          rw [if_neg (by simp)] at HS
          go_wp2_with (go_at_call 52; refine (HP.out _).mono ?_; rintro e w3 ⟨rfl, hb⟩; have T3 := Lib.hid (T2.out.trans (bel_le hb T2.out.size)); clear hb)
          go_roundw
          case rel => exact ⟨k + 1, by omega, by omega, by go_num, T3.out, by rw [HC.out, HS.out]⟩
          case measure => simp [intOf]; omega
        · rw [if_pos hz] at HS
          generalize cmpV (x, y) (u, v) = c at *
          have hb : (c != 0) = true := by simpa using hz
          clear hz
          go_wp2_with (go_at_call 52; refine (HP.out _).mono ?_; rintro e w3 ⟨rfl, hb3⟩; have T3 := Lib.hid (T2.out.trans (bel_le hb3 T2.out.size)); clear hb3)
          go_ret
          exact ⟨ret_int (by rw [HC.out, HS.out]), T3.out⟩
      · have hge : (k : Int) ≥ (n2 : Int) := by omega
        have HS := Lib.hid (cmpL_short (a := A) (b := B) (i := k) (by rw [S1.out]; exact hlt) (by rw [S2.out]; omega))
        have T1 := Lib.hid (T.out.alloc T.out.size (.cells #[.int .i64 (vx A k).1, .int .i64 (vx A k).2] 56))
        clear hg1
        go_wp2
        go_ret
        exact ⟨ret_int (by rw [HC.out, HS.out]), T1.out⟩
    · obtain rfl : k = n1 := by omega
      have hd := cmpL_done (a := A) (b := B) (by rw [S1.out, S2.out]; exact hk2)
      rw [S1.out, S2.out] at hd
      by_cases hl : k < n2
      · rw [if_pos hl] at hd
        have HD := Lib.hid hd
        have hi : (k : Int) < (n2 : Int) := by omega
        clear hd
        go_wp2
        go_ret
        exact ⟨ret_int (by rw [HC.out, HD.out]), T.out⟩
      · rw [if_neg hl] at hd
        have HD := Lib.hid hd
        have hi : ¬ (k : Int) < (n2 : Int) := by omega
        clear hd
        go_wp2
        go_ret
        exact ⟨ret_int (by rw [HC.out, HD.out]), T.out⟩
theorem compare_in (a1 a2 : Option Addr) (n1 n2 k1 k2 b1 o1 b2 o2 : Nat) (A B : List V) (w : World) (h1 : VIn w a1 n1 k1 b1 o1 A) (h2 : VIn w a2 n2 k2 b2 o2 B) (hs : n1 ≤ 4096) (ht : n2 ≤ 4096) :
    Calls Try.prog 25 #[.slice a1 n1 k1, .slice a2 n2 k2] w fun e w' => e = .returned (.int .i64 (cmpL A B)) ∧ Below w.heap.size w w' := by
  have H := Lib.hid (cmpf a1 a2 n1 n2 k1 k2 b1 o1 b2 o2 A B w h1 h2 hs ht)
  clear h1 h2
  go_enter Try.func25, Try.ntmps25
  go_wp2_with (go_at_call 62; refine (H.out).mono ?_; rintro e w1 ⟨rfl, hb⟩; have T := Lib.hid hb; clear hb)
  go_ret
  exact ⟨rfl, T.out⟩
theorem few_any (a : Option Addr) (len cap : Nat) (w : World) : Calls Try.prog 10 #[.slice a len cap] w fun e w' => e = .returned (.bool (decide (len ≤ 10))) ∧ w = w' := by
  by_cases h : len ≤ 10
  · have h1 : (len : Int) ≤ 10 := by omega
    have H := Lib.hid (decide_eq_true h)
    clear h
    go_enter Try.func10, Try.ntmps10
    go_wp2
    go_ret
    exact ⟨ret_bool H.out.symm, rfl⟩
  · have h1 : ¬ (len : Int) ≤ 10 := by omega
    have H := Lib.hid (decide_eq_false h)
    clear h
    go_enter Try.func10, Try.ntmps10
    go_wp2
    go_ret
    exact ⟨ret_bool H.out.symm, rfl⟩
end Go.Proofs.Ytjggeombkbianaa.Sx
