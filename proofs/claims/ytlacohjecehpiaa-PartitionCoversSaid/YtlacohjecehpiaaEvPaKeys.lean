/-
  The key functions: of one list, of two.
-/
import Derived.Test.YtlacohjecehpiaaEvPaNumber
import Derived.StillTailTactics
namespace Go.Proofs.Ytlacohjecehpiaa.Part
open Go Go.RowKit Go.Part Go.Law Go.Maps

theorem key51 (i len b off cap bx : Nat) (x : Int) (w : World) (hi : i < len) (hp : w.cell? ⟨bx, 0, none⟩ = some (.slice (some ⟨b, off, none⟩) len cap)) (hx : w.cell? ⟨b, off + i, none⟩ = some (.int .i64 x)) :
    Calls Try.prog 51 #[.int .i64 i, .pointer (some ⟨bx, 0, none⟩)] w fun e w' => e = .returned (.int .i64 x) ∧ w = w' := by
  go_enter Try.func51, Try.ntmps51
  go_wp2
  go_ret
  exact ⟨rfl, rfl⟩
set_option maxRecDepth 100000 in
set_option maxHeartbeats 1000000 in
theorem key74 (i len b off cap bx lem c pff cbp bz : Nat) (x y : Int) (w : World) (hi : i < len) (hj : i < lem) (hp : w.cell? ⟨bx, 0, none⟩ = some (.slice (some ⟨b, off, none⟩) len cap)) (hx : w.cell? ⟨b, off + i, none⟩ = some (.int .i64 x))
    (hq : w.cell? ⟨bz, 0, none⟩ = some (.slice (some ⟨c, pff, none⟩) lem cbp)) (hy : w.cell? ⟨c, pff + i, none⟩ = some (.int .i64 y)) :
    Calls Try.prog 74 #[.int .i64 i, .pointer (some ⟨bx, 0, none⟩), .pointer (some ⟨bz, 0, none⟩)] w fun e w' => e = .returned (.agg #[.int .i64 x, .int .i64 y]) ∧ Below w.heap.size w w' := by
  have h1 := cell_lt hp
  have h2 := cell_lt hq
  have h3 := cell_lt hx
  have h4 := cell_lt hy
  go_enter Try.func74, Try.ntmps74
  go_wp2
  refine wp_region_still_tail 9 (by kernel_rfl) (by kernel_rfl) ?_
  change wpStill _ _ (World.drew _) _ _ _
  simp only [List.take_succ_cons, List.take_zero, List.drop_succ_cons, List.drop_zero]
  repeat still_step
  refine wpStill_nil ?_
  change wpList _ _ _ _ _ (World.drew _)
  go_wp2
  refine bodyPost_ret (v := .agg #[.int .i64 x, .int .i64 y]) (by simp [results, Try.results74, go_sem]) rfl ⟨rfl, ((Below.refl _ _).alloc (Nat.le_refl _) _).drew⟩
end Go.Proofs.Ytlacohjecehpiaa.Part
