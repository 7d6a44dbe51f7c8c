/-
  ProcsetCollects answers true: both sets of a list are the same, found from the left.
-/
import Derived.Test.YtpdlnijdcgcfbaaDoorEvColWalks
import Derived.Test.YtpdlnijdcgcfbaaDoorEvDoorSeat
namespace Go.Proofs.YtpdlnijdcgcfbaaDoor.Col
open Go Go.Ev Go.RowKit Go.Col
open Go.Proofs.YtpdlnijdcgcfbaaDoor.Ev

theorem walk_long (n : Int) (a : Option Addr) (len cap : Nat) (hlen : 60 < len) {W : World} {e0 e1 e2 : TypeId} (H : Held W (tabs e0 e1 e2)) :
    Calls Tryd.prog 4 #[.int .i64 n, .slice a len cap] W fun e w' => e = .returned (.bool true) ∧ Below W.heap.size W w' := by
  have HB := Lib.hid (show decide (len ≤ 60) = false by simpa using hlen)
  have HA := Lib.hid (awake H)
  go_enter Tryd.func4, Tryd.ntmps4
  go_wp2_with (first | (go_at_call 27; refine (few_any _ _ _ _).mono ?_; rintro e w' ⟨rfl, rfl⟩; rw [HB.out]) | (go_at_call 26; refine (HA.out).mono ?_; rintro e w' ⟨rfl, hb⟩))
  go_ret
  exact ⟨rfl, hb⟩
theorem walk_both (n r x : Int) (a : Option Addr) (len cap : Nat) (hlen : len ≤ 60) {W : World} {e0 e1 e2 : TypeId} (H : Held W (tabs e0 e1 e2))
    (h1 : Calls Tryd.prog 28 #[.int .i64 n, .slice a len cap] W fun e w' => e = .returned (.tuple #[.int .i64 r, .int .i64 x]) ∧ W = w')
    (h2 : Calls Tryd.prog 29 #[.int .i64 n, .slice a len cap] W fun e w' => e = .returned (.tuple #[.int .i64 r, .int .i64 x]) ∧ W = w') :
    Calls Tryd.prog 4 #[.int .i64 n, .slice a len cap] W fun e w' => e = .returned (.bool true) ∧ Below W.heap.size W w' := by
  have HB := Lib.hid (show decide (len ≤ 60) = true by simpa using hlen)
  have HA := Lib.hid (awake H)
  have H1 := Lib.hid h1
  have H2 := Lib.hid h2
  clear h1 h2
  go_enter Tryd.func4, Tryd.ntmps4
  go_wp2_with (first | (go_at_call 27; refine (few_any _ _ _ _).mono ?_; rintro e w' ⟨rfl, rfl⟩; rw [HB.out]) | (go_at_call 28; refine (H1.out).mono ?_; rintro e w' ⟨rfl, rfl⟩) | (go_at_call 29; refine (H2.out).mono ?_; rintro e w' ⟨rfl, rfl⟩) | (go_at_call 26; refine (HA.out).mono ?_; rintro e w' ⟨rfl, hb⟩))
  go_ret
  exact ⟨rfl, hb⟩
/-- The law, at a list that starts somewhere. -/
theorem walk_some (n : Int) (b off len cap : Nat) (zs : List Int) (hz : zs.length = len) (hlen : len ≤ 9223372036854775807) {W : World} {e0 e1 e2 : TypeId} (H : Held W (tabs e0 e1 e2))
    (hc : ∀ j, j < zs.length → W.cell? ⟨b, off + j, none⟩ = some (.int .i64 (zs.getD j 0))) :
    Calls Tryd.prog 4 #[.int .i64 n, .slice (some ⟨b, off, none⟩) len cap] W fun e w' => e = .returned (.bool true) ∧ Below W.heap.size W w' := by
  by_cases hl : 60 < len
  · exact walk_long n _ len cap hl H
  · by_cases hn : n < 1 ∨ 5 < n
    · exact walk_both n 0 1 _ len cap (by omega) H (of_bad n hn _ _) (rof_bad n hn _ _)
    · obtain ⟨m, rfl⟩ := Int.eq_ofNat_of_zero_le (show 0 ≤ n by omega)
      exact walk_both m _ _ _ len cap (by omega) H (of_any m (by omega) (by omega) b off len cap zs hz hlen W hc) (rof_any m (by omega) (by omega) b off len cap zs hz hlen W hc)
/-- The law, at the empty list. -/
theorem walk_nil (n : Int) (a : Option Addr) (cap : Nat) {W : World} {e0 e1 e2 : TypeId} (H : Held W (tabs e0 e1 e2)) :
    Calls Tryd.prog 4 #[.int .i64 n, .slice a 0 cap] W fun e w' => e = .returned (.bool true) ∧ Below W.heap.size W w' := by
  by_cases hn : n < 1 ∨ 5 < n
  · exact walk_both n 0 1 _ 0 cap (by omega) H (of_bad n hn _ _) (rof_bad n hn _ _)
  · exact walk_both n _ _ _ 0 cap (by omega) H (of_nil n (by omega) (by omega) _ _ W) (rof_nil n (by omega) (by omega) _ _ W)
end Go.Proofs.YtpdlnijdcgcfbaaDoor.Col
