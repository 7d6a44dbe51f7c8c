/-
  The reference's Both.
-/
import Derived.Test.YtjggeombkbianaaEvSxUnion
namespace Go.Proofs.Ytjggeombkbianaa.Sx
open Go Go.RowKit Go.Law Go.Sx

set_option maxRecDepth 100000 in
set_option maxHeartbeats 2000000 in
theorem both_walk (b1 o1 n1 k1 n2 k2 b2 o2 : Nat) (a2 : Option Addr) (A B : List V) (w : World) (hA : VsAt w b1 o1 n1 A) (hl : A.length = n1) (hb1 : b1 < w.heap.size) (h2 : VIn w a2 n2 k2 b2 o2 B) (p1 : 0 < n1) (hs : n1 ≤ 40) (ht : n2 ≤ 40) :
    Calls Try.prog 64 #[.slice (some ⟨b1, o1, none⟩) n1 k1, .slice a2 n2 k2] w fun e w' => ∃ u, e = .returned u ∧ Below w.heap.size w w' ∧ VTop w' u (bothTo A B n2) := by
  obtain ⟨i0, hi, hz0, hz1, hz2⟩ := info_parts info56
  have HB := Lib.hid (fun (w1 : World) (hb : Below w.heap.size w w1) => (h2.below hb).cells)
  have H2 := Lib.hid h2.head
  have HAA := Lib.hid (fun (w1 : World) (hb : Below w.heap.size w w1) => vs_below hA hb hb1)
  have HL := Lib.hid hl
  have HR := Lib.hid (World.ownsRow_lit (base := w.heap.size) (e := 56) (size := 2) w #[] 0 (Nat.le_refl _) (by simp [maxLen]) rfl)
  have T0 := Lib.hid (below_alloc w (.cells #[] 56))
  have HP := Lib.hid (fun (k : Nat) (hk : k < n2) (u : Value) (w1 : World) (hu : VTop w1 u (bothTo A B k)) => show Calls Try.prog 48 #[u, .agg #[.int .i64 (vx B k).1, .int .i64 (vx B k).2]] w1 fun e w' => ∃ u', e = .returned u' ∧ Below w1.heap.size w1 w' ∧ VTop w' u' (bothTo A B (k + 1)) by
    obtain ⟨a, n, cap, b, off, rfl, i⟩ := hu
    have := bothTo_length A B k
    exact put_in a n cap b off _ (vx B k) w1 i (by rw [← i.size]; omega))
  clear hA h2 hl
  go_enter Try.func64, Try.ntmps64
  go_wp2_with (at_builtin; refine wpList_append_own _ rfl _ _ 22 rfl w.heap.size 56 i0 (.agg #[.int .i64 0, .int .i64 0]) 2 16 Try.underlying22 hi hz0 hz1 hz2 rfl (by decide) _ _ _ rfl HR.out ⟨b1, o1, none⟩ n1 k1 (rowV A) rfl (by rw [rowV_length, HL.out]) (vs_cells HL.out (HAA.out _ T0.out)) (vs_one A) (by unfold maxLen; omega) (by omega) (by simp) ?_; intro v' w1 hown' hgrow _; have HO := Lib.hid hown'; have T1 := Lib.hid (T0.out.grown hgrow (by simp) (own_block HR.out)); clear hown' hgrow)
  have HU : Hid (VTop w1 v' (bothTo A B 0)) := Lib.hid (by
    refine v_own (base := w.heap.size) (L := A) ?_
    have h := HO.out
    rw [HL.out]
    simpa using h)
  clear hi hz0 hz1 hz2 HO
  go_loopw [5, 6] (fun u i wr => ∃ k : Nat, k ≤ n2 ∧ i = .int .i64 k ∧ Below w.heap.size w wr ∧ VTop wr u (bothTo A B k)) (fun _ i _ => n2 - (intOf i).toNat)
  case atStart => exact ⟨0, Nat.zero_le _, rfl, T1.out, HU.out⟩
  case round =>
    obtain ⟨k, hk, rfl, hB, hU⟩ := hrel
    have T := Lib.hid hB
    have HU := Lib.hid hU
    clear hB hU
    by_cases hlt : k < n2
    · obtain rfl := H2.out (by omega)
      obtain ⟨c0, c1⟩ := HB.out wr T.out k hlt
      have HPP := Lib.hid (HP.out k hlt _ _ HU.out)
      generalize vx B k = p at *
      obtain ⟨x, y⟩ := p
      simp only at c0 c1 HPP
      go_wp2_with fail
      refine (HPP.out).mono ?_
      rintro e w3 ⟨u', he, hb, hv⟩
      subst he
      have T3 := Lib.hid (T.out.trans (bel_le hb T.out.size))
      have V3 := Lib.hid hv
      clear hb hv
      go_wp2
      go_roundw
      case rel => exact ⟨k + 1, by omega, by go_num, T3.out, V3.out⟩
      case measure => simp [intOf]; omega
    · obtain rfl : k = n2 := by omega
      go_wp2
      go_ret
      exact ⟨_, rfl, T.out, HU.out⟩
end Go.Proofs.Ytjggeombkbianaa.Sx
