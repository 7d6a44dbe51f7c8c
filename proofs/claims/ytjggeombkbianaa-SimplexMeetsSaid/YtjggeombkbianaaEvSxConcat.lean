/-
  slices.Concat of two lists of vertices.
-/
import Derived.Test.YtjggeombkbianaaEvSxIter
import Derived.Lib.AppendZeros
namespace Go.Proofs.Ytjggeombkbianaa.Sx
open Go Go.RowKit Go.Law Go.Sx

def cat (xs ys : List V) : Nat → List V
  | 0 => []
  | 1 => xs
  | _ => xs ++ ys
def catLen (n m : Nat) : Nat → Nat
  | 0 => 0
  | 1 => n
  | _ => n + m
theorem vs_cells {w : World} {b off len : Nat} {zs : List V} (hl : zs.length = len) (h : VsAt w b off len zs) : ∀ (j : Nat) (u : Value), (rowV zs)[j]? = some u → w.cell? ((⟨b, off, none⟩ : Addr).add j) = some u := by
  intro j u hu
  have hj : j < zs.length * 2 := by
    rw [← rowV_length]
    exact (List.getElem?_eq_some_iff.1 hu).1
  have h2 : j / 2 < zs.length := by omega
  obtain ⟨r0, r1⟩ := rowV_get zs (j / 2) h2
  obtain ⟨c0, c1⟩ := h (j / 2) (by omega)
  rw [Go.WideShapes.add_plain]
  rcases Nat.mod_two_eq_zero_or_one j with e | e
  · have e2 : j / 2 * 2 = j := by omega
    rw [e2] at r0 c0
    rw [r0] at hu
    rw [c0]; exact hu
  · have e2 : j / 2 * 2 + 1 = j := by omega
    have e3 : off + j / 2 * 2 + 1 = off + j := by omega
    rw [e2] at r1
    rw [e3] at c1
    rw [r1] at hu
    rw [c1]; exact hu
theorem vs_one (zs : List V) : ∀ u ∈ rowV zs, u.oneCell' = true := by
  intro u hu
  obtain ⟨z, _, hz⟩ := List.mem_flatMap.1 hu
  exact pair_one u hz
theorem vs_below {w w' : World} {b off len : Nat} {zs : List V} (h : VsAt w b off len zs) (hb : Below w.heap.size w w') (hlt : b < w.heap.size) : VsAt w' b off len zs :=
  fun k hk => ⟨(hb.cell (p := ⟨b, off + k * 2, none⟩) hlt).trans (h k hk).1, (hb.cell (p := ⟨b, off + k * 2 + 1, none⟩) hlt).trans (h k hk).2⟩
def GrowPost (W : World) (e : Ending) (w' : World) : Prop := ∃ g cap, e = .returned (.slice (some ⟨g, 0, none⟩) 0 cap) ∧ Below W.heap.size W w' ∧ w'.ownsRow W.heap.size 56 2 (.slice (some ⟨g, 0, none⟩) 0 cap) 0 []
set_option maxHeartbeats 2000000 in
set_option maxRecDepth 100000 in
theorem grow_nil (n : Nat) (h1 : 1 ≤ n) (h2 : n ≤ 100) (w : World) : Calls Try.prog 83 #[.slice none 0 0, .int .i64 n] w (GrowPost w) := by
  obtain ⟨i0, hi, hz0, hz1, hz2⟩ := info_parts info56
  have hrz := fun ty => Lib.run_append_nil_zeros (P := Try.prog) w 22 3 ty 56 i0 (.agg #[.int .i64 0, .int .i64 0]) .i64 .i64 Try.underlying22 Try.underlying3 hi hz0 n h1 (by rw [hz1]; decide) (by omega) (by rw [hz2]; omega)
  have hge := grownCap_ge w n 0 56
  have hle := grownCap_le_maxLen w n 0 56 (by unfold maxLen; omega)
  generalize grownCap w n 0 56 = G at *
  have HSz := Lib.hid (show (Builtin.zeroCells (Value.agg #[.int .i64 0, .int .i64 0]).cells n ++ Builtin.zeroCells (Value.agg #[.int .i64 0, .int .i64 0]).cells (G - n)).size = G * 2 by
    have e : (Value.agg #[.int .i64 0, .int .i64 0]).cells.size = 2 := rfl
    rw [Array.size_append, size_zeroCells, size_zeroCells, e]; omega)
  have h3 : ¬ ((n : Int) < 0) := by omega
  have h4 : wrap64 ((n : Int) - 0) = (n : Int) := by unfold wrap64; omega
  have h5 : (n : Int) > 0 := by omega
  have HR := Lib.hid hrz
  clear hrz hi hz0 hz1 hz2
  go_enter Try.func83, Try.ntmps83
  go_wp2_with (at_builtin; refine Lib.wpList_append_run _ rfl _ _ _ _ rfl _ _ rfl rfl _ _ (HR.out _) ?_)
  all_goals
    go_ret
    refine ⟨_, _, rfl, (Below.refl _ _).drew.alloc (Nat.le_refl _) _, ?_⟩
    have := World.ownsRow_made (base := w.heap.size) (e := 56) (size := 2) w.drew (Builtin.zeroCells (Value.agg #[.int .i64 0, .int .i64 0]).cells n ++ Builtin.zeroCells (Value.agg #[.int .i64 0, .int .i64 0]).cells (G - n)) G (Nat.le_refl _) hle HSz.out
    exact this
set_option maxHeartbeats 4000000 in
set_option maxRecDepth 100000 in
theorem concat_ok {w : World} {B b1 off1 n cap1 b2 off2 m cap2 : Nat} {xs ys : List V} (hn : xs.length = n) (hm : ys.length = m) (h1 : 0 < n) (h2 : n ≤ 40) (h3 : m ≤ 40)
    (c0 : w.cell? ⟨B, 0, none⟩ = some (.slice (some ⟨b1, off1, none⟩) n cap1)) (c1 : w.cell? ⟨B, 1, none⟩ = some (.slice (some ⟨b2, off2, none⟩) m cap2)) (hB : B < w.heap.size) (hb1 : b1 < w.heap.size) (hb2 : b2 < w.heap.size) (a1 : VsAt w b1 off1 n xs) (a2 : VsAt w b2 off2 m ys) :
    Calls Try.prog 63 #[.slice (some ⟨B, 0, none⟩) 2 2] w fun e w' => ∃ u, e = .returned u ∧ Below w.heap.size w w' ∧ VTop w' u (xs ++ ys) := by
  have HN := Lib.hid hn
  have HM := Lib.hid hm
  have A1 := Lib.hid a1
  have A2 := Lib.hid a2
  have C0 := Lib.hid c0
  have C1 := Lib.hid c1
  clear hn hm a1 a2
  obtain ⟨i0, hi, hz0, hz1, hz2⟩ := info_parts info56
  have hsum : ¬ ((n : Int) < 0) := by omega
  have hsum2 : wrap64 ((n : Int) + (m : Int)) = ((n + m : Nat) : Int) := by unfold wrap64; omega
  have hsum0 : wrap64 (0 + (n : Int)) = (n : Int) := by unfold wrap64; omega
  have hsum3 : ¬ (((n + m : Nat) : Int) < 0) := by omega
  go_enter Try.func63, Try.ntmps63
  go_wp2
  go_loop [3, 11] (fun s i => ∃ k : Nat, k ≤ 2 ∧ i = .int .i64 k ∧ s = .int .i64 (catLen n m k)) (fun _ i => 2 - (intOf i).toNat)
  case atStart => exact ⟨0, by omega, rfl, rfl⟩
  case round =>
    obtain ⟨k, hk, rfl, rfl⟩ := hrel
    rcases (by omega : k = 0 ∨ k = 1 ∨ k = 2) with rfl | rfl | rfl
    · simp only [catLen]
      go_wp2
      go_round
      case rel => exact ⟨1, by omega, rfl, rfl⟩
      case measure => simp [intOf]
    · simp only [catLen]
      go_wp2
      go_round
      case rel => exact ⟨2, by omega, rfl, rfl⟩
      case measure => simp [intOf]
    · simp only [catLen]
      go_wp2_with (go_at_call 83; refine (grow_nil (n + m) (by omega) (by omega) _).mono ?_; rintro e w1 ⟨g, cap, rfl, hb1, hr1⟩; have T1 := Lib.hid hb1; have R1 := Lib.hid hr1; clear hb1 hr1)
      have hsz := T1.out.size
      have R0 : Hid (w1.ownsRow w.heap.size 56 2 (.slice (some ⟨g, 0, none⟩) 0 cap) (cat xs ys 0).length (rowV (cat xs ys 0))) := Lib.hid R1.out
      go_loopw [6, 27] (fun v i wr => ∃ k : Nat, k ≤ 2 ∧ i = .int .i64 k ∧ Below w.heap.size w wr ∧ wr.ownsRow w.heap.size 56 2 v (cat xs ys k).length (rowV (cat xs ys k))) (fun _ i _ => 2 - (intOf i).toNat)
      case atStart => exact ⟨0, by omega, rfl, T1.out, R0.out⟩
      case round =>
        obtain ⟨k, hk, rfl, hbl, hown⟩ := hrel
        have HB := Lib.hid hbl
        have HO := Lib.hid hown
        have hszr := hbl.size
        have d0 := (hbl.cell (p := ⟨B, 0, none⟩) hB).trans C0.out
        have d1 := (hbl.cell (p := ⟨B, 1, none⟩) hB).trans C1.out
        have E1 := Lib.hid (vs_below A1.out hbl hb1)
        have E2 := Lib.hid (vs_below A2.out hbl hb2)
        clear hbl hown c0 c1
        rcases (by omega : k = 0 ∨ k = 1 ∨ k = 2) with rfl | rfl | rfl
        · have K1 : Hid (∀ (v' : Value) (w' : World), w'.ownsRow w.heap.size 56 2 v' ((cat xs ys 0).length + n) (rowV (cat xs ys 0) ++ rowV xs) → w'.ownsRow w.heap.size 56 2 v' (cat xs ys 1).length (rowV (cat xs ys 1))) := Lib.hid fun v' w' h => by
            simpa [cat, rowV, HN.out] using h
          go_wp2_with (at_builtin; refine wpList_append_own _ rfl _ _ 22 rfl w.heap.size 56 i0 (.agg #[.int .i64 0, .int .i64 0]) 2 16 Try.underlying22 hi hz0 hz1 hz2 rfl (by decide) _ _ _ rfl HO.out ⟨b1, off1, none⟩ n cap1 (rowV xs) rfl (by rw [rowV_length, HN.out]) (vs_cells HN.out E1.out) (vs_one xs) (by simp [cat, maxLen]; omega) (by simp [cat]; omega) (by omega) ?_; intro v' w' hown' hgrow _; have HO1 := Lib.hid (K1.out _ _ hown'); have HG1 := Lib.hid hgrow; clear hown' hgrow)
          go_roundw
          case rel => exact ⟨1, by omega, rfl, HB.out.grown HG1.out hszr (own_block HO.out), HO1.out⟩
          case measure => simp [intOf]
        · have K1 : Hid (∀ (v' : Value) (w' : World), w'.ownsRow w.heap.size 56 2 v' ((cat xs ys 1).length + m) (rowV (cat xs ys 1) ++ rowV ys) → w'.ownsRow w.heap.size 56 2 v' (cat xs ys 2).length (rowV (cat xs ys 2))) := Lib.hid fun v' w' h => by
            simpa [cat, rowV, HM.out] using h
          have hl1 : (cat xs ys 1).length = n := HN.out
          go_wp2_with (at_builtin; refine wpList_append_own _ rfl _ _ 22 rfl w.heap.size 56 i0 (.agg #[.int .i64 0, .int .i64 0]) 2 16 Try.underlying22 hi hz0 hz1 hz2 rfl (by decide) _ _ _ rfl HO.out ⟨b2, off2, none⟩ m cap2 (rowV ys) rfl (by rw [rowV_length, HM.out]) (vs_cells HM.out E2.out) (vs_one ys) (by rw [hl1]; unfold maxLen; omega) (by rw [hl1]; omega) (by omega) ?_; intro v' w' hown' hgrow _; have HO1 := Lib.hid (K1.out _ _ hown'); have HG1 := Lib.hid hgrow; clear hown' hgrow)
          go_roundw
          case rel => exact ⟨2, by omega, rfl, HB.out.grown HG1.out hszr (own_block HO.out), HO1.out⟩
          case measure => simp [intOf]
        · go_wp2
          go_ret
          exact ⟨_, rfl, HB.out, v_own HO.out⟩
end Go.Proofs.Ytjggeombkbianaa.Sx
