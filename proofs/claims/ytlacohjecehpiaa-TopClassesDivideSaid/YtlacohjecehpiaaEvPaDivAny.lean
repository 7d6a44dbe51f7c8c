/-
  TopClassesDivide answers true on any two lists.
-/
import Derived.Test.YtlacohjecehpiaaEvPaDivWalk
namespace Go.Proofs.Ytlacohjecehpiaa.Part
open Go Go.RowKit Go.Law Go.Part Go.Col

set_option maxHeartbeats 4000000 in
set_option maxRecDepth 100000 in
theorem divide_small {w : World} {x0 x1 : Option Addr} {n m cap0 cap1 : Nat} (hn : n < 1) : Calls Try.prog 11 #[.slice x0 n cap0, .slice x1 m cap1] w fun e w' => e = .returned (.bool true) ∧ Below w.heap.size w w' := by
  have n1 : (n : Int) < 1 := by omega
  go_enter Try.func11, Try.ntmps11
  go_wp2_with (go_at_call 39; ((with_reducible refine (Ev.awake39 _).mono ?_); rintro e w0 ⟨rfl, hb0⟩))
  go_ret
  exact ⟨rfl, hb0⟩
set_option maxHeartbeats 4000000 in
set_option maxRecDepth 100000 in
theorem divide_great {w : World} {x0 x1 : Option Addr} {n m cap0 cap1 : Nat} (hn : 5 < n) : Calls Try.prog 11 #[.slice x0 n cap0, .slice x1 m cap1] w fun e w' => e = .returned (.bool true) ∧ Below w.heap.size w w' := by
  have n1 : ¬ (n : Int) < 1 := by omega
  have n5 : (n : Int) > 5 := by omega
  go_enter Try.func11, Try.ntmps11
  go_wp2_with (go_at_call 39; ((with_reducible refine (Ev.awake39 _).mono ?_); rintro e w0 ⟨rfl, hb0⟩))
  go_ret
  exact ⟨rfl, hb0⟩
set_option maxHeartbeats 4000000 in
set_option maxRecDepth 100000 in
theorem divide_other {w : World} {x0 x1 : Option Addr} {n m cap0 cap1 : Nat} (h1 : 1 ≤ n) (h5 : n ≤ 5) (hm : m ≠ n) : Calls Try.prog 11 #[.slice x0 n cap0, .slice x1 m cap1] w fun e w' => e = .returned (.bool true) ∧ Below w.heap.size w w' := by
  have n1 : ¬ (n : Int) < 1 := by omega
  have n5 : ¬ (n : Int) > 5 := by omega
  have n6 : ((m : Int) != (n : Int)) = true := by simpa using (fun e => hm (by exact_mod_cast e))
  clear hm
  go_enter Try.func11, Try.ntmps11
  go_wp2_with (go_at_call 39; ((with_reducible refine (Ev.awake39 _).mono ?_); rintro e w0 ⟨rfl, hb0⟩))
  go_ret
  exact ⟨rfl, hb0⟩
set_option maxHeartbeats 4000000 in
set_option maxRecDepth 100000 in
theorem divide_first {w : World} {x0 x1 : Option Addr} {n cap0 cap1 : Nat} {c : Int} (h1 : 1 ≤ n) (h5 : n ≤ 5) (hc : c ≠ 0) (ra : ∀ w1, Below w.heap.size w w1 → Calls Try.prog 19 #[.slice x0 n cap0] w1 fun e w' => e = .returned (.int .i64 c) ∧ w1 = w') :
    Calls Try.prog 11 #[.slice x0 n cap0, .slice x1 n cap1] w fun e w' => e = .returned (.bool true) ∧ Below w.heap.size w w' := by
  have RA := Lib.hid ra
  clear ra
  have n1 : ¬ (n : Int) < 1 := by omega
  have n5 : ¬ (n : Int) > 5 := by omega
  have n6 : ((n : Int) != (n : Int)) = false := by simp
  have hcb : (c != 0) = true := by simpa using hc
  clear hc
  go_enter Try.func11, Try.ntmps11
  go_wp2_with (first
    | (go_at_call 39; ((with_reducible refine (Ev.awake39 _).mono ?_); rintro e w0 ⟨rfl, hb0⟩))
    | (go_at_call 19; ((with_reducible refine (RA.out _ hb0).mono ?_); rintro e w' ⟨rfl, rfl⟩)))
  go_ret
  exact ⟨rfl, hb0⟩
set_option maxHeartbeats 4000000 in
set_option maxRecDepth 100000 in
theorem divide_second {w : World} {x0 x1 : Option Addr} {n cap0 cap1 : Nat} {c : Int} (h1 : 1 ≤ n) (h5 : n ≤ 5) (hc : c ≠ 0) (ra : ∀ w1, Below w.heap.size w w1 → Calls Try.prog 19 #[.slice x0 n cap0] w1 fun e w' => e = .returned (.int .i64 0) ∧ w1 = w')
    (rb : ∀ w1, Below w.heap.size w w1 → Calls Try.prog 19 #[.slice x1 n cap1] w1 fun e w' => e = .returned (.int .i64 c) ∧ w1 = w') :
    Calls Try.prog 11 #[.slice x0 n cap0, .slice x1 n cap1] w fun e w' => e = .returned (.bool true) ∧ Below w.heap.size w w' := by
  by_cases hsame : (Value.slice x0 n cap0) = .slice x1 n cap1
  · obtain ⟨rfl, rfl⟩ : x0 = x1 ∧ cap0 = cap1 := by cases hsame; exact ⟨rfl, rfl⟩
    exact divide_first h1 h5 hc rb
  · have RA := Lib.hid ra
    have RB := Lib.hid rb
    clear ra rb hsame
    have n1 : ¬ (n : Int) < 1 := by omega
    have n5 : ¬ (n : Int) > 5 := by omega
    have n6 : ((n : Int) != (n : Int)) = false := by simp
    have hcb : (c != 0) = true := by simpa using hc
    clear hc
    go_enter Try.func11, Try.ntmps11
    go_wp2_with (first
      | (go_at_call 39; ((with_reducible refine (Ev.awake39 _).mono ?_); rintro e w0 ⟨rfl, hb0⟩))
      | (go_at_call 19; ((with_reducible refine (RA.out _ hb0).mono ?_); rintro e w' ⟨rfl, rfl⟩))
      | (go_at_call 19; ((with_reducible refine (RB.out _ hb0).mono ?_); rintro e w' ⟨rfl, rfl⟩)))
    go_ret
    exact ⟨rfl, hb0⟩
theorem divide_walk {w : World} {v u : Value} {a b : List Int} (h0 : IntsAt w .i64 v a) (h1 : IntsAt w .i64 u b) :
    Calls Try.prog 11 #[v, u] w fun e w' => e = .returned (.bool true) ∧ Below w.heap.size w w' := by
  have k0 := h0
  have k1 := h1
  obtain ⟨x0, cap0, rfl, _⟩ := k0
  obtain ⟨x1, cap1, rfl, _⟩ := k1
  by_cases hs : a.length < 1
  · exact divide_small hs
  by_cases hg : 5 < a.length
  · exact divide_great hg
  by_cases hl : b.length = a.length
  · obtain ⟨n, hn⟩ : ∃ n, a.length = n := ⟨_, rfl⟩
    rw [hn] at hl h0 hs hg ⊢
    rw [hl] at h1 ⊢
    have RA : ∀ w1, Below w.heap.size w w1 → Calls Try.prog 19 #[.slice x0 n cap0] w1 fun e w' => e = .returned (.int .i64 (code a)) ∧ w1 = w' := fun w1 hb => rcheck_any (ints_below h0 hb)
    have RB : ∀ w1, Below w.heap.size w w1 → Calls Try.prog 19 #[.slice x1 n cap1] w1 fun e w' => e = .returned (.int .i64 (code b)) ∧ w1 = w' := fun w1 hb => rcheck_any (ints_below h1 hb)
    by_cases ha : code a = 0
    · by_cases hb : code b = 0
      · exact divide_ok (by omega) (by omega) hn hl (code_ok ha).2 (code_ok hb).2 h0 h1
      · rw [ha] at RA
        exact divide_second (by omega) (by omega) hb RA RB
    · exact divide_first (by omega) (by omega) ha RA
  · exact divide_other (by omega) (by omega) hl
end Go.Proofs.Ytlacohjecehpiaa.Part
