/-
  RoundPermutes answers true.
-/
import Derived.Test.YtlineonmpbdkgaaDoorEvRoPermute
import Derived.Deep.RegionWith
namespace Go.Proofs.YtlineonmpbdkgaaDoor.Graph
open Go Go.RowKit Go.Graph Go.Law Go.Ev
open Go.Proofs.YtlineonmpbdkgaaDoor.Col
open Go.Proofs.YtlineonmpbdkgaaDoor.Ev (tabs Len awake)
open Go.Proofs.YtlineonmpbdkgaaDoor.Perm (Quiet check_ints rcheck_ints set_ints setR image_any)

@[reducible] def Zero7 (w : World) (B : Nat) : Prop := (w.cell? ⟨B, 0, none⟩ = some (.int .i64 0) ∧ w.cell? ⟨B, 1, none⟩ = some (.int .i64 0) ∧ w.cell? ⟨B, 2, none⟩ = some (.int .i64 0) ∧ w.cell? ⟨B, 3, none⟩ = some (.int .i64 0) ∧ w.cell? ⟨B, 4, none⟩ = some (.int .i64 0) ∧ w.cell? ⟨B, 5, none⟩ = some (.int .i64 0) ∧ w.cell? ⟨B, 6, none⟩ = some (.int .i64 0)) ∧ (w.frozen? ⟨B, 0, none⟩ = false ∧ w.frozen? ⟨B, 1, none⟩ = false ∧ w.frozen? ⟨B, 2, none⟩ = false ∧ w.frozen? ⟨B, 3, none⟩ = false ∧ w.frozen? ⟨B, 4, none⟩ = false ∧ w.frozen? ⟨B, 5, none⟩ = false ∧ w.frozen? ⟨B, 6, none⟩ = false)
theorem zero7_of {w : World} {B : Nat} (h : Own w B 26 [.int .i64 0, .int .i64 0, .int .i64 0, .int .i64 0, .int .i64 0, .int .i64 0, .int .i64 0]) : Zero7 w B :=
  ⟨⟨h.cell (j := 0) rfl, h.cell (j := 1) rfl, h.cell (j := 2) rfl, h.cell (j := 3) rfl, h.cell (j := 4) rfl, h.cell (j := 5) rfl, h.cell (j := 6) rfl⟩, h.free 0, h.free 1, h.free 2, h.free 3, h.free 4, h.free 5, h.free 6⟩
theorem zero7_below {w w' : World} {B : Nat} (h : Zero7 w B) (hb : Below w.heap.size w w') : Zero7 w' B :=
  have hl : B < w.heap.size := cell_lt h.1.1
  ⟨⟨(hb.cell hl).trans h.1.1, (hb.cell hl).trans h.1.2.1, (hb.cell hl).trans h.1.2.2.1, (hb.cell hl).trans h.1.2.2.2.1, (hb.cell hl).trans h.1.2.2.2.2.1, (hb.cell hl).trans h.1.2.2.2.2.2.1, (hb.cell hl).trans h.1.2.2.2.2.2.2⟩, (hb.frozen hl).trans h.2.1, (hb.frozen hl).trans h.2.2.1, (hb.frozen hl).trans h.2.2.2.1, (hb.frozen hl).trans h.2.2.2.2.1, (hb.frozen hl).trans h.2.2.2.2.2.1, (hb.frozen hl).trans h.2.2.2.2.2.2.1, (hb.frozen hl).trans h.2.2.2.2.2.2.2⟩
theorem keepZ {w w' : World} {X Y : Nat} {n r0 r1 r2 r3 r4 f : Int} (h : Row7 w X n r0 r1 r2 r3 r4 f ∧ Zero7 w Y) (hb : Below w.heap.size w w') : Row7 w' X n r0 r1 r2 r3 r4 f ∧ Zero7 w' Y := ⟨row7_below h.1 hb, zero7_below h.2 hb⟩
set_option maxRecDepth 100000 in
set_option maxHeartbeats 2000000 in
theorem renamed46 (n r0 r1 r2 r3 r4 f s0 s1 s2 s3 s4 q : Int) (v : Value) (zs : List Int)
    (hg : ∀ w : World, IntsAt w .i64 v zs → Calls Tryd.prog 69 #[.agg #[.int .i64 n, .int .i64 r0, .int .i64 r1, .int .i64 r2, .int .i64 r3, .int .i64 r4], v] w fun e w' => e = .returned (.agg #[.int .i64 n, .int .i64 s0, .int .i64 s1, .int .i64 s2, .int .i64 s3, .int .i64 s4]) ∧ Below w.heap.size w w')
    (hs : ∀ w : World, IntsAt w .i64 v zs → Calls Tryd.prog 70 #[v, .int .i64 f] w fun e w' => e = .returned (.int .i64 q) ∧ w = w') (w : World) (hi : IntsAt w .i64 v zs) :
    Calls Tryd.prog 46 #[.agg #[.int .i64 n, .int .i64 r0, .int .i64 r1, .int .i64 r2, .int .i64 r3, .int .i64 r4, .int .i64 f], v] w fun e w' => e = .returned (.agg #[.int .i64 n, .int .i64 s0, .int .i64 s1, .int .i64 s2, .int .i64 s3, .int .i64 s4, .int .i64 q]) ∧ Below w.heap.size w w' := by
  have HG := Lib.hid hg
  have HS := Lib.hid hs
  have HI := Lib.hid (fun (W : World) (hb : Below w.heap.size w W) => hi.below hb)
  clear hg hs hi
  have T0 := Lib.hid ((below_alloc w (.cells #[.int .i64 n, .int .i64 r0, .int .i64 r1, .int .i64 r2, .int .i64 r3, .int .i64 r4, .int .i64 f] 26)).alloc (by rw [size_alloc]; omega) (.cells #[.int .i64 0, .int .i64 0, .int .i64 0, .int .i64 0, .int .i64 0, .int .i64 0, .int .i64 0] 26))
  have RA := Lib.hid (row7_alloc (row7_new w n r0 r1 r2 r3 r4 f) (.cells #[.int .i64 0, .int .i64 0, .int .i64 0, .int .i64 0, .int .i64 0, .int .i64 0, .int .i64 0] 26))
  have RO := Lib.hid (own_new (w.alloc (.cells #[.int .i64 n, .int .i64 r0, .int .i64 r1, .int .i64 r2, .int .i64 r3, .int .i64 r4, .int .i64 f] 26)) [.int .i64 0, .int .i64 0, .int .i64 0, .int .i64 0, .int .i64 0, .int .i64 0, .int .i64 0] 26)
  rw [size_alloc] at RO
  have HR := Lib.hid (show Row7 ((w.alloc (.cells #[.int .i64 n, .int .i64 r0, .int .i64 r1, .int .i64 r2, .int .i64 r3, .int .i64 r4, .int .i64 f] 26)).alloc (.cells #[.int .i64 0, .int .i64 0, .int .i64 0, .int .i64 0, .int .i64 0, .int .i64 0, .int .i64 0] 26)) w.heap.size n r0 r1 r2 r3 r4 f ∧ Zero7 ((w.alloc (.cells #[.int .i64 n, .int .i64 r0, .int .i64 r1, .int .i64 r2, .int .i64 r3, .int .i64 r4, .int .i64 f] 26)).alloc (.cells #[.int .i64 0, .int .i64 0, .int .i64 0, .int .i64 0, .int .i64 0, .int .i64 0, .int .i64 0] 26)) (w.heap.size + 1) from ⟨RA.out, zero7_of RO.out⟩)
  clear RA RO
  go_enter Tryd.func46, Tryd.ntmps46
  go_wp2
  generalize hW2 : World.alloc (World.alloc w _) _ = W2 at *
  have hsd := HR.out
  obtain ⟨⟨a0, a1, a2, a3, a4, a5, a6⟩, _⟩ := hsd
  refine wp_region_any (by kernel_rfl) ?_
  change wpAny _ _ _ _ _ _ _ (World.drew _)
  refine wpAny_take (i := 0) (v := .pointer (some ⟨w.heap.size, 0, none⟩)) rfl (by kernel_rfl) (by kernel_rfl) (by kernel_rfl) (fun _ _ _ h => h) (Or.inl ⟨by kernel_rfl, fun w => by go_simp⟩) ?_
  (try go_simp)
  refine wpAny_take (i := 2) (v := v) rfl (by kernel_rfl) (by kernel_rfl) (by kernel_rfl) (fun _ _ _ h => h) (Or.inl ⟨by kernel_rfl, fun w => by go_simp⟩) ?_
  (try go_simp)
  refine wpAny_take (i := 4) (v := v) rfl (by kernel_rfl) (by kernel_rfl) (by kernel_rfl) (fun _ _ _ h => h) (Or.inl ⟨by kernel_rfl, fun w => by go_simp⟩) ?_
  (try go_simp)
  refine wpAny_take (i := 5) (v := .pointer (some ⟨w.heap.size, 6, none⟩)) rfl (by kernel_rfl) (by kernel_rfl) (by kernel_rfl) (fun _ _ _ h => h) (Or.inl ⟨by kernel_rfl, fun w => by go_simp⟩) ?_
  (try go_simp)
  refine wpAny_ready (rs := [1, 6]) (by kernel_rfl) (by simp) ?_
  refine (AllReady.cons rfl (fun K hK => ?_) (AllReady.cons rfl (fun K hK => ?_) AllReady.nil))
  · go_simp
    refine hK _ _ ?_
    clear hK K
    refine wpAny_ready (rs := [3, 6]) (by kernel_rfl) (by simp) ?_
    refine (AllReady.cons rfl (fun K hK => ?_) (AllReady.cons rfl (fun K hK => ?_) AllReady.nil))
    · go_simp
      go_wp2_with (go_at_call 69; refine (HG.out _ (HI.out _ T0.out.drew)).mono ?_; rintro e w1 ⟨rfl, hb69⟩; have T1 := Lib.hid (T0.out.drew.trans (bel_le hb69 T0.out.drew.size)); have K1 := Lib.hid (keepZ (show Row7 W2.drew w.heap.size n r0 r1 r2 r3 r4 f ∧ Zero7 W2.drew (w.heap.size + 1) from HR.out) hb69); clear hb69; obtain ⟨⟨x0, x1, x2, x3, x4, x5, x6⟩, ⟨y0, y1, y2, y3, y4, y5, y6⟩, z0, z1, z2, z3, z4, z5, z6⟩ := K1.out)
      refine wpAny_ready (rs := [6]) (by kernel_rfl) (by simp) ?_
      refine (AllReady.cons rfl (fun K hK => ?_) AllReady.nil)
      go_simp
      refine hK _ _ ?_
      clear hK K
      refine wpAny_ready (rs := [7]) (by kernel_rfl) (by simp) ?_
      refine (AllReady.cons rfl (fun K hK => ?_) AllReady.nil)
      go_simp
      go_wp2_with (go_at_call 70; refine (HS.out _ (HI.out _ T1.out)).mono ?_; rintro e w' ⟨rfl, rfl⟩)
      refine wpAny_take (i := 8) (v := .agg #[.int .i64 n, .int .i64 s0, .int .i64 s1, .int .i64 s2, .int .i64 s3, .int .i64 s4, .int .i64 q]) rfl (by kernel_rfl) (by kernel_rfl) (by kernel_rfl) (fun _ _ _ h => h) (Or.inl ⟨by kernel_rfl, fun w => by go_simp⟩) ?_
      (try go_simp)
      refine wpAny_ready (rs := [9]) (by kernel_rfl) (by simp) ?_
      refine (AllReady.cons rfl (fun K hK => ?_) AllReady.nil)
      go_simp
      refine hK _ _ ?_
      clear hK K
      refine wpAny_done (by kernel_rfl) ?_ _
      go_wp2
      (try simp only [Exit.inBlock, Exit.then])
      refine bodyPost_ret (v := .agg #[.int .i64 n, .int .i64 s0, .int .i64 s1, .int .i64 s2, .int .i64 s3, .int .i64 s4, .int .i64 q]) (by simp [results, Tryd.results46, go_sem, y0, y1, y2, y3, y4, y5, y6]) rfl ⟨rfl, below_set7 T1.out (by show w.heap.size ≤ w.heap.size + 1; omega) _ _ _ _ _ _ _⟩
    · go_simp
      refine hK _ _ ?_
      clear hK K
      refine wpAny_ready (rs := [3]) (by kernel_rfl) (by simp) ?_
      refine (AllReady.cons rfl (fun K hK => ?_) AllReady.nil)
      go_simp
      go_wp2_with (go_at_call 69; refine (HG.out _ (HI.out _ T0.out.drew)).mono ?_; rintro e w1 ⟨rfl, hb69⟩; have T1 := Lib.hid (T0.out.drew.trans (bel_le hb69 T0.out.drew.size)); have K1 := Lib.hid (keepZ (show Row7 W2.drew w.heap.size n r0 r1 r2 r3 r4 f ∧ Zero7 W2.drew (w.heap.size + 1) from HR.out) hb69); clear hb69; obtain ⟨⟨x0, x1, x2, x3, x4, x5, x6⟩, ⟨y0, y1, y2, y3, y4, y5, y6⟩, z0, z1, z2, z3, z4, z5, z6⟩ := K1.out)
      refine wpAny_ready (rs := [7]) (by kernel_rfl) (by simp) ?_
      refine (AllReady.cons rfl (fun K hK => ?_) AllReady.nil)
      go_simp
      go_wp2_with (go_at_call 70; refine (HS.out _ (HI.out _ T1.out)).mono ?_; rintro e w' ⟨rfl, rfl⟩)
      refine wpAny_take (i := 8) (v := .agg #[.int .i64 n, .int .i64 s0, .int .i64 s1, .int .i64 s2, .int .i64 s3, .int .i64 s4, .int .i64 q]) rfl (by kernel_rfl) (by kernel_rfl) (by kernel_rfl) (fun _ _ _ h => h) (Or.inl ⟨by kernel_rfl, fun w => by go_simp⟩) ?_
      (try go_simp)
      refine wpAny_ready (rs := [9]) (by kernel_rfl) (by simp) ?_
      refine (AllReady.cons rfl (fun K hK => ?_) AllReady.nil)
      go_simp
      refine hK _ _ ?_
      clear hK K
      refine wpAny_done (by kernel_rfl) ?_ _
      go_wp2
      (try simp only [Exit.inBlock, Exit.then])
      refine bodyPost_ret (v := .agg #[.int .i64 n, .int .i64 s0, .int .i64 s1, .int .i64 s2, .int .i64 s3, .int .i64 s4, .int .i64 q]) (by simp [results, Tryd.results46, go_sem, y0, y1, y2, y3, y4, y5, y6]) rfl ⟨rfl, below_set7 T1.out (by show w.heap.size ≤ w.heap.size + 1; omega) _ _ _ _ _ _ _⟩
  · go_simp
    refine hK _ _ ?_
    clear hK K
    refine wpAny_ready (rs := [1]) (by kernel_rfl) (by simp) ?_
    refine (AllReady.cons rfl (fun K hK => ?_) AllReady.nil)
    go_simp
    refine hK _ _ ?_
    clear hK K
    refine wpAny_ready (rs := [3]) (by kernel_rfl) (by simp) ?_
    refine (AllReady.cons rfl (fun K hK => ?_) AllReady.nil)
    go_simp
    go_wp2_with (go_at_call 69; refine (HG.out _ (HI.out _ T0.out.drew)).mono ?_; rintro e w1 ⟨rfl, hb69⟩; have T1 := Lib.hid (T0.out.drew.trans (bel_le hb69 T0.out.drew.size)); have K1 := Lib.hid (keepZ (show Row7 W2.drew w.heap.size n r0 r1 r2 r3 r4 f ∧ Zero7 W2.drew (w.heap.size + 1) from HR.out) hb69); clear hb69; obtain ⟨⟨x0, x1, x2, x3, x4, x5, x6⟩, ⟨y0, y1, y2, y3, y4, y5, y6⟩, z0, z1, z2, z3, z4, z5, z6⟩ := K1.out)
    refine wpAny_ready (rs := [7]) (by kernel_rfl) (by simp) ?_
    refine (AllReady.cons rfl (fun K hK => ?_) AllReady.nil)
    go_simp
    go_wp2_with (go_at_call 70; refine (HS.out _ (HI.out _ T1.out)).mono ?_; rintro e w' ⟨rfl, rfl⟩)
    refine wpAny_take (i := 8) (v := .agg #[.int .i64 n, .int .i64 s0, .int .i64 s1, .int .i64 s2, .int .i64 s3, .int .i64 s4, .int .i64 q]) rfl (by kernel_rfl) (by kernel_rfl) (by kernel_rfl) (fun _ _ _ h => h) (Or.inl ⟨by kernel_rfl, fun w => by go_simp⟩) ?_
    (try go_simp)
    refine wpAny_ready (rs := [9]) (by kernel_rfl) (by simp) ?_
    refine (AllReady.cons rfl (fun K hK => ?_) AllReady.nil)
    go_simp
    refine hK _ _ ?_
    clear hK K
    refine wpAny_done (by kernel_rfl) ?_ _
    go_wp2
    (try simp only [Exit.inBlock, Exit.then])
    refine bodyPost_ret (v := .agg #[.int .i64 n, .int .i64 s0, .int .i64 s1, .int .i64 s2, .int .i64 s3, .int .i64 s4, .int .i64 q]) (by simp [results, Tryd.results46, go_sem, y0, y1, y2, y3, y4, y5, y6]) rfl ⟨rfl, below_set7 T1.out (by show w.heap.size ≤ w.heap.size + 1; omega) _ _ _ _ _ _ _⟩
end Go.Proofs.YtlineonmpbdkgaaDoor.Graph
