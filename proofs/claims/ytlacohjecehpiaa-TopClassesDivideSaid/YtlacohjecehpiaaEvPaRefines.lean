/-
  PartitionRefines answers true: both partitions of keys within a partition are the same.
-/
import Derived.Test.YtlacohjecehpiaaEvPaFew
namespace Go.Proofs.Ytlacohjecehpiaa.Part
open Go Go.RowKit Go.Part Go.Law Go.Maps
theorem rows2 {w : World} {v u : Value} {zs ys : List Int} (h : IntsAt w .i64 v zs) (h' : IntsAt w .i64 u ys) : Rows (w.alloc (.cells #[v, u] 22)) w.heap.size 2 [zs, ys] (fun j => if j = 0 then v else u) := by
  have hb : Below w.heap.size w (w.alloc (.cells #[v, u] 22)) := (Below.refl _ _).alloc (Nat.le_refl _) _
  refine ⟨rfl, fun j hj => ?_⟩
  match j, hj with
  | 0, _ => exact ⟨by rw [World.cell?_alloc_at _ _ _ _ rfl]; rfl, ints_below h hb⟩
  | 1, _ => exact ⟨by rw [World.cell?_alloc_at _ _ _ _ rfl]; rfl, ints_below h' hb⟩
theorem rows1 {w : World} {v : Value} {zs : List Int} (h : IntsAt w .i64 v zs) : Rows (w.alloc (.cells #[v] 22)) w.heap.size 1 [zs] (fun _ => v) := by
  have hb : Below w.heap.size w (w.alloc (.cells #[v] 22)) := (Below.refl _ _).alloc (Nat.le_refl _) _
  refine ⟨rfl, fun j hj => ?_⟩
  match j, hj with
  | 0, _ => exact ⟨by rw [World.cell?_alloc_at _ _ _ _ rfl]; rfl, ints_below h hb⟩
theorem rows3 {w : World} {v u t : Value} {zs ys xs : List Int} (h : IntsAt w .i64 v zs) (h' : IntsAt w .i64 u ys) (h'' : IntsAt w .i64 t xs) : Rows (w.alloc (.cells #[v, u, t] 22)) w.heap.size 3 [zs, ys, xs] (fun j => if j = 0 then v else if j = 1 then u else t) := by
  have hb : Below w.heap.size w (w.alloc (.cells #[v, u, t] 22)) := (Below.refl _ _).alloc (Nat.le_refl _) _
  refine ⟨rfl, fun j hj => ?_⟩
  match j, hj with
  | 0, _ => exact ⟨by rw [World.cell?_alloc_at _ _ _ _ rfl]; rfl, ints_below h hb⟩
  | 1, _ => exact ⟨by rw [World.cell?_alloc_at _ _ _ _ rfl]; rfl, ints_below h' hb⟩
  | 2, _ => exact ⟨by rw [World.cell?_alloc_at _ _ _ _ rfl]; rfl, ints_below h'' hb⟩
theorem same_true {w : World} {v u : Value} {zs : List Int} (h : IntsAt w .i64 v zs) (h' : IntsAt w .i64 u zs) : Calls Try.prog 25 #[v, u] w (Quiet (.bool true) w) := by
  have := same_any h h'
  rwa [show decide (zs = zs) = true by simp] at this
theorem equal_true {w : World} {v u : Value} {zs : List Int} (h : IntsAt w .i64 v zs) (h' : IntsAt w .i64 u zs) : Calls Try.prog 36 #[v, u] w (Quiet (.bool true) w) := by
  have := equal_any h h'
  rwa [show decide (zs = zs) = true by simp] at this
theorem below_one (w : World) (o : Obj) : Below w.heap.size w (w.alloc o) := (Below.refl _ _).alloc (Nat.le_refl _) _
theorem ints_drewN {w : World} {v : Value} {zs : List Int} (h : IntsAt w .i64 v zs) (m : Nat) : IntsAt (w.drewN m) .i64 v zs := by
  obtain ⟨a, cap, rfl, h1, h2, h3⟩ := h
  refine ⟨a, cap, rfl, h1, h2, h3.imp id ?_⟩
  rintro ⟨b, off, rfl, hlt, hc⟩
  exact ⟨b, off, rfl, hlt, fun j hj => by rw [World.cell?_drewN]; exact hc j hj⟩

set_option maxHeartbeats 1000000 in
set_option maxRecDepth 100000 in
theorem refines_walk {w : World} {v u : Value} {zs ys : List Int} (h : IntsAt w .i64 v zs) (h' : IntsAt w .i64 u ys) (hf : Fit ys) :
    Calls Try.prog 6 #[v, u] w fun e w' => e = .returned (.bool true) ∧ Below w.heap.size w w' := by
  have HB0 := Lib.hid (below_one w (.cells #[v, u] 22))
  obtain ⟨b, hb⟩ : ∃ b, [zs, ys].any bad = !b := ⟨![zs, ys].any bad, by simp⟩
  have HF := Lib.hid (few_any w.heap.size 2 2 _ _ _ (rows2 h h') (by omega) b hb)
  have HH := Lib.hid (ints_below h HB0.out)
  have HH' := Lib.hid (ints_below h' HB0.out)
  have HR := Lib.hid (refine_any HH.out HH'.out hf)
  obtain ⟨x, cap, rfl, h1, h2, h3⟩ := h
  obtain ⟨x', cap', rfl, h1', h2', h3'⟩ := h'
  clear h3 h3' h1 h1' h2 h2' hb hf
  have e1 : (refCode zs ys == refCode zs ys) = true := by simp
  cases b with
  | false =>
    go_enter Try.func6, Try.ntmps6
    go_wp2_with (first | (go_at_call 12; ((with_reducible refine (HF.out).mono ?_); rintro e w' ⟨rfl, rfl⟩)) | (go_at_call 13; ((with_reducible refine (Ev.awake _).mono ?_); rintro e w' ⟨rfl, hw⟩)))
    go_ret
    exact ⟨rfl, HB0.out.trans (bel_le hw HB0.out.size)⟩
  | true =>
    go_enter Try.func6, Try.ntmps6
    go_wp2_with (first
      | (go_at_call 13; ((with_reducible refine (Ev.awake _).mono ?_); rintro e w' ⟨rfl, hw⟩))
      | (go_at_call 25; ((with_reducible refine (same_true (ints_below HI1.out HB2.out) HI2.out).mono ?_); rintro e w' ⟨m, rfl, rfl⟩))
      | (go_at_call 33; ((with_reducible refine (rrefine_any (ints_below HH.out HB1.out) (ints_below HH'.out HB1.out)).mono ?_); rintro e w2 ⟨v2, rfl, hb2, hi2⟩; have HB2 := Lib.hid hb2; have HI2 := Lib.hid hi2; clear hb2 hi2))
      | (go_at_call 12; ((with_reducible refine (HF.out).mono ?_); rintro e w' ⟨rfl, rfl⟩))
      | (go_at_call 32; ((with_reducible refine (HR.out).mono ?_); rintro e w1 ⟨v1, rfl, hb1, hi1⟩; have HB1 := Lib.hid hb1; have HI1 := Lib.hid hi1; clear hb1 hi1)))
    go_ret
    exact ⟨rfl, HB0.out.trans ((bel_le HB1.out HB0.out.size).trans ((bel_le HB2.out (Nat.le_trans HB0.out.size HB1.out.size)).trans ((below_drewN (Below.refl _ _) _).trans (bel_le hw (Nat.le_trans HB0.out.size (Nat.le_trans HB1.out.size HB2.out.size))))))⟩
end Go.Proofs.Ytlacohjecehpiaa.Part
