/-
  PermutationActs answers true, at whatever can be read.
-/
import Derived.Test.YtpdlnijdcgcfbaaDoorEvPermActs
namespace Go.Proofs.YtpdlnijdcgcfbaaDoor.Perm
open Go Go.Ev Go.RowKit Go.Perm Go.Law
open Go.Proofs.YtpdlnijdcgcfbaaDoor.Col (ret_int ret_bool ret_two)
open Go.Proofs.YtpdlnijdcgcfbaaDoor.Ev

/-- What the list of layer 2's rows gives. -/
theorem held2 {W : World} (h : laidMetH Tryd.prog Rows.permutationActsRow.laid W) : ∃ e0 e1 e2, Held W (tabs e0 e1 e2) := by
  have h' : laidMet Tryd.prog Rows.permutationActsRow.laid W := h
  obtain ⟨ps, hl, _⟩ := h'
  obtain ⟨⟨e0, f0, h0⟩, q0, hl⟩ := tab_head (name := "math/bits.deBruijn32tab") (k := .u8) (zs := z0) (g := 0) (t := 158) (e := 5) (n := 32) (by kernel_rfl) (by kernel_rfl) Tryd.underlying158 Tryd.underlying5 (by kernel_rfl) (by kernel_rfl) hl
  obtain ⟨⟨e1, f1, h1⟩, q1, hl⟩ := tab_head (name := "math/bits.deBruijn64tab") (k := .u8) (zs := z1) (g := 1) (t := 159) (e := 5) (n := 64) (by kernel_rfl) (by kernel_rfl) Tryd.underlying159 Tryd.underlying5 (by kernel_rfl) (by kernel_rfl) hl
  obtain ⟨⟨e2, f2, h2⟩, q2, hl⟩ := tab_head (name := "internal/strconv.uint64pow10") (k := .u64) (zs := z2) (g := 2) (t := 178) (e := 135) (n := 20) (by kernel_rfl) (by kernel_rfl) Tryd.underlying178 Tryd.underlying135 (by kernel_rfl) (by kernel_rfl) hl
  refine ⟨e0, e1, e2, fun t ht => ?_⟩
  rcases List.mem_cons.1 ht with rfl | ht
  · exact held_of h0
  rcases List.mem_cons.1 ht with rfl | ht
  · exact held_of h1
  rcases List.mem_cons.1 ht with rfl | ht
  · exact held_of h2
  · cases ht

/-- The awake of layer 2. -/
theorem awake2_ev (e0 e1 e2 : TypeId) : isTrue ((F.evRec (fast fun _ => none) 50).call 42 [] (tabHp (tabs e0 e1 e2))) = true := by kernel_rfl
theorem awake2 {W : World} {e0 e1 e2 : TypeId} (H : Held W (tabs e0 e1 e2)) : Calls Tryd.prog 42 #[] W fun e w' => e = .returned (.bool true) ∧ Below W.heap.size W w' :=
  call_true (cfg_ok (pr := fun _ => none) fun _ _ _ f g h => (by cases h)) (glob_ok e0 e1 e2) (args := []) (args' := []) .nil (by rw [← fast_eq]; exact awake2_ev e0 e1 e2) H

theorem acts_long (a a' : Option Addr) (len cap len' cap' : Nat) (S : Int) (h : 60 < len ∨ 60 < len') {W : World} {e0 e1 e2 : TypeId} (H : Held W (tabs e0 e1 e2)) :
    Calls Tryd.prog 12 #[.slice a len cap, .int .i64 S, .slice a' len' cap'] W fun e w' => e = .returned (.bool true) ∧ Below W.heap.size W w' := by
  have HA := Lib.hid (awake2 H)
  by_cases h1 : 60 < len
  · clear h
    go_enter Tryd.func12, Tryd.ntmps12
    go_wp2_with (go_at_call 42; refine (HA.out).mono ?_; rintro e w' ⟨rfl, hb⟩)
    go_ret
    exact ⟨rfl, hb⟩
  · have h2 : 60 < len' := by omega
    clear h
    go_enter Tryd.func12, Tryd.ntmps12
    go_wp2_with (go_at_call 42; refine (HA.out).mono ?_; rintro e w' ⟨rfl, hb⟩)
    go_ret
    exact ⟨rfl, hb⟩
set_option maxHeartbeats 800000 in
theorem acts_walk (a a' : Option Addr) (len cap len' cap' : Nat) (S : Int) (zs vs : List Int) (h1 : len ≤ 60) (h2 : len' ≤ 60) {W : World} {e0 e1 e2 : TypeId} (H : Held W (tabs e0 e1 e2))
    (hz : IntsAt W .i64 (.slice a len cap) zs) (hv : IntsAt W .i64 (.slice a' len' cap') vs) :
    Calls Tryd.prog 12 #[.slice a len cap, .int .i64 S, .slice a' len' cap'] W fun e w' => e = .returned (.bool true) ∧ Below W.heap.size W w' := by
  have HZ := Lib.hid hz
  have HV := Lib.hid hv
  clear hz hv
  go_enter Tryd.func12, Tryd.ntmps12
  go_wp2_with fail
  refine (set_ints HZ.out S).mono ?_
  rintro e w' ⟨rfl, rfl⟩
  go_wp2_with fail
  refine (rset_ints HZ.out S).mono ?_
  rintro e w' ⟨rfl, m, rfl⟩
  go_wp2_with fail
  refine (vec_ints (HZ.out.drewN m) (HV.out.drewN m)).mono ?_
  rintro e w1 ⟨v1, rfl, hb1, hi1⟩
  have HB1 := Lib.hid ((below_drewN (Below.refl W.heap.size W) m).trans (hb1.mono (by simp)))
  have HI1 := Lib.hid hi1
  clear hb1 hi1
  go_wp2_with fail
  refine (rvec_ints (HZ.out.below HB1.out) (HV.out.below HB1.out)).mono ?_
  rintro e w2 ⟨v2, rfl, hb2, hi2⟩
  have HI1' := Lib.hid (HI1.out.below hb2)
  have HB2 := Lib.hid (HB1.out.trans (hb2.mono HB1.out.size))
  have HI2 := Lib.hid hi2
  clear hb2 hi2
  have HH : Hid (∃ f0 f1 f2, Held w2 (tabs f0 f1 f2)) := Lib.hid ⟨e0, e1, e2, fun t ht => by
    obtain ⟨cs, fz, hb, h3, h4⟩ := H t ht
    exact ⟨cs, fz, by rw [HB2.out.block _ (block_lt hb)]; exact hb, h3, h4⟩⟩
  go_wp2_with fail
  obtain ⟨f0, f1, f2, H2⟩ := HH.out
  refine (awake2 H2).mono ?_
  rintro e w3 ⟨rfl, hb3⟩
  have HB3 := Lib.hid hb3
  clear hb3
  have hs1 : ((setR zs S).1 == (setR zs S).1) = true := by simp
  have hs2 : ((setR zs S).2 == (setR zs S).2) = true := by simp
  have hs3 : ((vecR zs vs).2 == (vecR zs vs).2) = true := by simp
  go_wp2_with fail
  refine (equal_same (HI1'.out.below HB3.out) (HI2.out.below HB3.out)).mono ?_
  rintro e w4 ⟨rfl, m4, rfl⟩
  go_wp2
  go_ret
  exact ⟨rfl, HB2.out.trans (below_drewN (HB3.out.mono HB2.out.size) m4)⟩
theorem acts_any {W : World} {e0 e1 e2 : TypeId} (H : Held W (tabs e0 e1 e2)) {v u : Value} {zs vs : List Int} (hz : IntsAt W .i64 v zs) (S : Int) (hv : IntsAt W .i64 u vs) :
    Calls Tryd.prog 12 #[v, .int .i64 S, u] W fun e w' => e = .returned (.bool true) ∧ Below W.heap.size W w' := by
  have hz0 := hz
  have hv0 := hv
  obtain ⟨a, cap, rfl, _⟩ := hz0
  obtain ⟨a', cap', rfl, _⟩ := hv0
  by_cases h : 60 < zs.length ∨ 60 < vs.length
  · exact acts_long _ _ _ _ _ _ S h H
  · exact acts_walk _ _ _ _ _ _ S zs vs (by omega) (by omega) H hz hv
end Go.Proofs.YtpdlnijdcgcfbaaDoor.Perm
