/-
  The check of two simplices; the closures of filter.
-/
import Derived.Test.YtjggeombkbianaaEvSxFilter
import Derived.Test.YtjggeombkbianaaEvSxCheck
namespace Go.Proofs.Ytjggeombkbianaa.Sx
open Go Go.RowKit Go.Law Go.Sx

/-- The first error of two simplices. -/
def two (A B : List V) : Int := if chk A ≠ 0 then chk A else chk B
set_option maxRecDepth 100000 in
set_option maxHeartbeats 1000000 in
theorem two_in (a1 a2 : Option Addr) (n1 n2 k1 k2 b1 o1 b2 o2 : Nat) (A B : List V) (w : World) (h1 : VIn w a1 n1 k1 b1 o1 A) (h2 : VIn w a2 n2 k2 b2 o2 B) (hs : n1 ≤ 4096) (ht : n2 ≤ 4096) :
    Calls Try.prog 54 #[.slice a1 n1 k1, .slice a2 n2 k2] w fun e w' => e = .returned (.int .i64 (two A B)) ∧ Below w.heap.size w w' := by
  have HA := Lib.hid (check_in a1 n1 k1 b1 o1 A w h1 hs)
  have HB := Lib.hid (fun (w1 : World) (hb : Below w.heap.size w w1) => check_in a2 n2 k2 b2 o2 B w1 (h2.below hb) ht)
  have H2 := Lib.hid (show two A B = if chk A ≠ 0 then chk A else chk B from rfl)
  clear h1 h2
  generalize two A B = r at *
  generalize chk A = x at *
  generalize chk B = y at *
  by_cases hx : x = 0
  · subst hx
    rw [if_neg (by simp)] at H2
    go_enter Try.func54, Try.ntmps54
    go_wp2_with fail
    refine (HA.out).mono ?_
    rintro e w1 ⟨he, hb⟩
    subst he
    have T1 := Lib.hid hb
    clear hb
    have HBB := Lib.hid (HB.out _ T1.out)
    go_wp2_with fail
    refine (HBB.out).mono ?_
    rintro e w2 ⟨he, hb⟩
    subst he
    have T2 := Lib.hid (T1.out.trans (bel_le hb T1.out.size))
    clear hb
    go_wp2
    go_ret
    exact ⟨ret_int H2.out.symm, T2.out⟩
  · rw [if_pos hx] at H2
    have hb0 : (x != 0) = true := by simpa using hx
    clear hx
    go_enter Try.func54, Try.ntmps54
    go_wp2_with fail
    refine (HA.out).mono ?_
    rintro e w1 ⟨he, hb⟩
    subst he
    have T1 := Lib.hid hb
    clear hb
    go_wp2
    go_ret
    exact ⟨ret_int H2.out.symm, T1.out⟩
set_option maxRecDepth 100000 in
set_option maxHeartbeats 1000000 in
theorem rtwo_in (a1 a2 : Option Addr) (n1 n2 k1 k2 b1 o1 b2 o2 : Nat) (A B : List V) (w : World) (h1 : VIn w a1 n1 k1 b1 o1 A) (h2 : VIn w a2 n2 k2 b2 o2 B) (hs : n1 ≤ 4096) (ht : n2 ≤ 4096) :
    Calls Try.prog 57 #[.slice a1 n1 k1, .slice a2 n2 k2] w fun e w' => e = .returned (.int .i64 (two A B)) ∧ Below w.heap.size w w' := by
  have HA := Lib.hid (rcheck_in a1 n1 k1 b1 o1 A w h1 hs)
  have HB := Lib.hid (fun (w1 : World) (hb : Below w.heap.size w w1) => rcheck_in a2 n2 k2 b2 o2 B w1 (h2.below hb) ht)
  have H2 := Lib.hid (show two A B = if chk A ≠ 0 then chk A else chk B from rfl)
  clear h1 h2
  generalize two A B = r at *
  generalize chk A = x at *
  generalize chk B = y at *
  by_cases hx : x = 0
  · subst hx
    rw [if_neg (by simp)] at H2
    go_enter Try.func57, Try.ntmps57
    go_wp2_with fail
    refine (HA.out).mono ?_
    rintro e w1 ⟨he, hb⟩
    subst he
    have T1 := Lib.hid hb
    clear hb
    have HBB := Lib.hid (HB.out _ T1.out)
    go_wp2_with fail
    refine (HBB.out).mono ?_
    rintro e w2 ⟨he, hb⟩
    subst he
    have T2 := Lib.hid (T1.out.trans (bel_le hb T1.out.size))
    clear hb
    go_wp2
    go_ret
    exact ⟨ret_int H2.out.symm, T2.out⟩
  · rw [if_pos hx] at H2
    have hb0 : (x != 0) = true := by simpa using hx
    clear hx
    go_enter Try.func57, Try.ntmps57
    go_wp2_with fail
    refine (HA.out).mono ?_
    rintro e w1 ⟨he, hb⟩
    subst he
    have T1 := Lib.hid hb
    clear hb
    go_wp2
    go_ret
    exact ⟨ret_int H2.out.symm, T1.out⟩
theorem among_call (a : Option Addr) (n cap : Nat) (w : World) :
    Calls Try.prog 56 #[.slice a n cap] w fun e w' => e = .returned (.func (.func 77) #[] #[.pointer (some ⟨w.heap.size, 0, none⟩)]) ∧ w' = w.alloc (.cells #[.slice a n cap] 22) := by
  go_enter Try.func56, Try.ntmps56
  go_wp2
  go_ret
  exact ⟨rfl, rfl⟩
set_option maxRecDepth 100000 in
set_option maxHeartbeats 1000000 in
theorem clos77 (B0 : Nat) (a : Option Addr) (n cap b off : Nat) (B : List V) (p : V) (w : World) (hc : w.cell? ⟨B0, 0, none⟩ = some (.slice a n cap)) (h : VIn w a n cap b off B) (hn : n ≤ 4096) :
    Calls Try.prog 77 #[.agg #[.int .i64 p.1, .int .i64 p.2], .pointer (some ⟨B0, 0, none⟩)] w fun e w' => e = .returned (.bool (decide (p ∈ B))) ∧ Below w.heap.size w w' := by
  obtain ⟨x, y⟩ := p
  have T0 := Lib.hid (below_alloc w (.cells #[.int .i64 x, .int .i64 y] 56))
  have HC := Lib.hid (contains_in a n cap b off B (x, y) _ (h.below T0.out) hn)
  obtain ⟨r0, r1⟩ := row2_new w x y
  have c0 := (T0.out.cell (p := ⟨B0, 0, none⟩) (cell_lt hc)).trans hc
  clear h hc
  generalize decide (((x, y) : V) ∈ B) = c at *
  simp only at HC
  go_enter Try.func77, Try.ntmps77
  go_wp2_with (go_at_call 43; refine (HC.out).mono ?_; rintro e w1 ⟨rfl, hb⟩; have T1 := Lib.hid (T0.out.trans (bel_le hb T0.out.size)); clear hb)
  go_ret
  exact ⟨rfl, T1.out⟩
set_option maxRecDepth 100000 in
set_option maxHeartbeats 1000000 in
theorem clos66 (B1 B0 : Nat) (a : Option Addr) (n cap b off : Nat) (B : List V) (p : V) (w : World) (hf : w.cell? ⟨B1, 0, none⟩ = some (.func (.func 77) #[] #[.pointer (some ⟨B0, 0, none⟩)])) (hc : w.cell? ⟨B0, 0, none⟩ = some (.slice a n cap)) (h : VIn w a n cap b off B) (hn : n ≤ 4096) :
    Calls Try.prog 66 #[.agg #[.int .i64 p.1, .int .i64 p.2], .pointer (some ⟨B1, 0, none⟩)] w fun e w' => e = .returned (.bool (!decide (p ∈ B))) ∧ Below w.heap.size w w' := by
  have T0 := Lib.hid (below_alloc w (.cells #[.int .i64 p.1, .int .i64 p.2] 56))
  have c0 := (T0.out.cell (p := ⟨B0, 0, none⟩) (cell_lt hc)).trans hc
  have c1 := (T0.out.cell (p := ⟨B1, 0, none⟩) (cell_lt hf)).trans hf
  have HC := Lib.hid (clos77 B0 a n cap b off B p _ c0 (h.below T0.out) hn)
  obtain ⟨r0, r1⟩ := row2_new w p.1 p.2
  clear h hc hf c0
  generalize decide (p ∈ B) = c at *
  obtain ⟨x, y⟩ := p
  simp only at HC T0 r0 r1 c1
  go_enter Try.func66, Try.ntmps66
  go_wp2_with (go_at_call 77; refine (HC.out).mono ?_; rintro e w1 ⟨rfl, hb⟩; have T1 := Lib.hid (T0.out.trans (bel_le hb T0.out.size)); clear hb)
  go_ret
  exact ⟨rfl, T1.out⟩
end Go.Proofs.Ytjggeombkbianaa.Sx
