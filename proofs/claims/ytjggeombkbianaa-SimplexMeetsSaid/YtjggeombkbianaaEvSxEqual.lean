/-
  slices.Equal at lists of vertices.
-/
import Derived.Test.YtjggeombkbianaaEvSxOrder
import Derived.ChangeKeysEq
import Derived.Laws.StructEq
namespace Go.Proofs.Ytjggeombkbianaa.Sx
open Go Go.RowKit Go.Law Go.Sx

theorem take_same {A B : List V} {k : Nat} (hA : k < A.length) (hB : k < B.length) (h : A.take k = B.take k) (e : vx A k = vx B k) : A.take (k + 1) = B.take (k + 1) := by
  rw [← List.take_append_getElem hA, ← List.take_append_getElem hB, h, ← vx_get hA, ← vx_get hB, e]
theorem take_diff {A B : List V} {k : Nat} (e : vx A k ≠ vx B k) : A ≠ B := by
  rintro rfl; exact e rfl
set_option maxRecDepth 100000 in
set_option maxHeartbeats 2000000 in
theorem equal_in (a1 a2 : Option Addr) (n1 n2 k1 k2 b1 o1 b2 o2 : Nat) (A B : List V) (w : World) (h1 : VIn w a1 n1 k1 b1 o1 A) (h2 : VIn w a2 n2 k2 b2 o2 B) (hs : n1 ≤ 4096) (ht : n2 ≤ 4096) :
    Calls Try.prog 38 #[.slice a1 n1 k1, .slice a2 n2 k2] w fun e w' => e = .returned (.bool (decide (A = B))) ∧ Below w.heap.size w w' := by
  have HA := Lib.hid h1.cells
  have HB := Lib.hid h2.cells
  have H1 := Lib.hid h1.head
  have H2 := Lib.hid h2.head
  have S1 := Lib.hid h1.size
  have S2 := Lib.hid h2.size
  clear h1 h2
  by_cases hn : n1 = n2
  · subst hn
    have hne : ((n1 : Int) != (n1 : Int)) = false := by simp
    go_enter Try.func38, Try.ntmps38
    go_wp2
    go_loopw [13] (fun i wr => ∃ k m : Nat, k ≤ n1 ∧ i = .int .i64 k ∧ wr = w.drewN m ∧ A.take k = B.take k) (fun i _ => n1 - (intOf i).toNat)
    case atStart => exact ⟨0, 0, Nat.zero_le _, rfl, rfl, rfl⟩
    case round =>
      obtain ⟨k, m, hk, rfl, rfl, hC⟩ := hrel
      have HC := Lib.hid hC
      clear hC
      by_cases hlt : k < n1
      · obtain rfl := H1.out (by omega)
        obtain rfl := H2.out (by omega)
        obtain ⟨c0, c1⟩ := HA.out k hlt
        obtain ⟨d0, d1⟩ := HB.out k hlt
        have HT := Lib.hid (fun e => take_same (A := A) (B := B) (k := k) (by rw [S1.out]; exact hlt) (by rw [S2.out]; exact hlt) HC.out e)
        have HD := Lib.hid (fun e => take_diff (A := A) (B := B) (k := k) e)
        generalize vx A k = p at *
        generalize vx B k = q at *
        obtain ⟨x, y⟩ := p
        obtain ⟨u, v⟩ := q
        simp only at c0 c1 d0 d1
        by_cases hx : x = u
        · subst hx
          by_cases hy : y = v
          · subst hy
            have HT1 := Lib.hid (HT.out rfl)
            clear HT HD
            go_wp2
            go_quiet (fail)
            go_wp2
            exact ⟨⟨k + 1, m + nq, by omega, by go_num, rfl, HT1.out⟩, by simp [intOf]; omega⟩
          · have hb : (y == v) = false := by simpa using hy
            have HD1 := Lib.hid (decide_eq_false (HD.out (fun e => hy (by injection e))))
            clear HT HD hy
            go_wp2
            go_quiet (fail)
            go_wp2
            go_ret
            exact ⟨ret_bool HD1.out.symm, below_drewN (below_drewN (Below.refl _ _) _) _⟩
        · have hb : (x == u) = false := by simpa using hx
          have HD1 := Lib.hid (decide_eq_false (HD.out (fun e => hx (by injection e))))
          clear HT HD hx
          go_wp2
          go_quiet (fail)
          go_wp2
          go_ret
          exact ⟨ret_bool HD1.out.symm, below_drewN (below_drewN (Below.refl _ _) _) _⟩
      · obtain rfl : k = n1 := by omega
        have HT : Hid (decide (A = B) = true) := Lib.hid (decide_eq_true (by have := HC.out; rw [List.take_of_length_le (by rw [S1.out]; exact Nat.le_refl _), List.take_of_length_le (by rw [S2.out]; exact Nat.le_refl _)] at this; exact this))
        go_wp2
        go_ret
        exact ⟨ret_bool HT.out.symm, below_drewN (Below.refl _ _) _⟩
  · have hne : ((n1 : Int) != (n2 : Int)) = true := by simp only [bne_iff_ne, ne_eq]; omega
    have HF : Hid (decide (A = B) = false) := Lib.hid (decide_eq_false (fun e => hn (by rw [← S1.out, ← S2.out, e])))
    clear hn
    go_enter Try.func38, Try.ntmps38
    go_wp2
    go_ret
    exact ⟨ret_bool HF.out.symm, Below.refl _ _⟩
end Go.Proofs.Ytjggeombkbianaa.Sx
