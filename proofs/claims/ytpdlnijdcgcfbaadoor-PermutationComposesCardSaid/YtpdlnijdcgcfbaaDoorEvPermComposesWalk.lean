/-
  PermutationComposes answers true, at whatever can be read.
-/
import Derived.Test.YtpdlnijdcgcfbaaDoorEvPermComposes
import Derived.Test.YtpdlnijdcgcfbaaDoorEvPermChecksWalk
namespace Go.Proofs.YtpdlnijdcgcfbaaDoor.Perm
open Go Go.Ev Go.RowKit Go.Perm Go.Law
open Go.Proofs.YtpdlnijdcgcfbaaDoor.Col (ret_int ret_bool ret_two)
open Go.Proofs.YtpdlnijdcgcfbaaDoor.Ev

theorem composes_long (a a' : Option Addr) (len cap len' cap' : Nat) (n : Int) (h : 60 < len ∨ 60 < len') {W : World} {e0 e1 e2 : TypeId} (H : Held W (tabs e0 e1 e2)) :
    Calls Tryd.prog 11 #[.slice a len cap, .slice a' len' cap', .int .i64 n] W fun e w' => e = .returned (.bool true) ∧ Below W.heap.size W w' := by
  have HA := Lib.hid (awake2 H)
  by_cases h1 : 60 < len
  · clear h
    go_enter Tryd.func11, Tryd.ntmps11
    go_wp2_with (go_at_call 42; refine (HA.out).mono ?_; rintro e w' ⟨rfl, hb⟩)
    go_ret
    exact ⟨rfl, hb⟩
  · have h2 : 60 < len' := by omega
    clear h
    go_enter Tryd.func11, Tryd.ntmps11
    go_wp2_with (go_at_call 42; refine (HA.out).mono ?_; rintro e w' ⟨rfl, hb⟩)
    go_ret
    exact ⟨rfl, hb⟩
set_option maxHeartbeats 4000000 in
set_option maxRecDepth 100000 in
theorem composes_walk (a a' : Option Addr) (len cap len' cap' : Nat) (n : Int) (zs vs : List Int) (h1 : len ≤ 60) (h2 : len' ≤ 60) {W : World} {e0 e1 e2 : TypeId} (H : Held W (tabs e0 e1 e2))
    (hz : IntsAt W .i64 (.slice a len cap) zs) (hv : IntsAt W .i64 (.slice a' len' cap') vs) :
    Calls Tryd.prog 11 #[.slice a len cap, .slice a' len' cap', .int .i64 n] W fun e w' => e = .returned (.bool true) ∧ Below W.heap.size W w' := by
  have IZ0 := Lib.hid hz
  have IV0 := Lib.hid hv
  have HH := Lib.hid H
  clear hz hv H
  have B0 := Lib.hid (Below.refl W.heap.size W)
  go_enter Tryd.func11, Tryd.ntmps11
  go_wp2_with fail
  refine (comp_ints IZ0.out IV0.out).mono ?_
  rintro e w1 ⟨vx, rfl, hb, hi⟩
  have IZ1 := Lib.hid (IZ0.out.below hb)
  have IV1 := Lib.hid (IV0.out.below hb)
  have Ix1 := Lib.hid hi
  have B1 := Lib.hid (B0.out.trans (hb.mono B0.out.size))
  clear hb hi IZ0 IV0
  go_wp2_with fail
  refine (rcomp_ints IZ1.out IV1.out).mono ?_
  rintro e w2 ⟨vy, rfl, hb, hi⟩
  have IZ2 := Lib.hid (IZ1.out.below hb)
  have IV2 := Lib.hid (IV1.out.below hb)
  have Ix2 := Lib.hid (Ix1.out.below hb)
  have Iy2 := Lib.hid hi
  have B2 := Lib.hid (B1.out.trans (hb.mono B1.out.size))
  clear hb hi IZ1 IV1 Ix1
  go_wp2_with fail
  refine (id_any n _).mono ?_
  rintro e w3 ⟨vo, rfl, hb, hi⟩
  have IZ3 := Lib.hid (IZ2.out.below hb)
  have IV3 := Lib.hid (IV2.out.below hb)
  have Ix3 := Lib.hid (Ix2.out.below hb)
  have Iy3 := Lib.hid (Iy2.out.below hb)
  have Io3 := Lib.hid hi
  have B3 := Lib.hid (B2.out.trans (hb.mono B2.out.size))
  clear hb hi IZ2 IV2 Ix2 Iy2
  go_wp2_with fail
  refine (rid_any n _).mono ?_
  rintro e w4 ⟨vt, rfl, hb, hi⟩
  have IZ4 := Lib.hid (IZ3.out.below hb)
  have IV4 := Lib.hid (IV3.out.below hb)
  have Ix4 := Lib.hid (Ix3.out.below hb)
  have Iy4 := Lib.hid (Iy3.out.below hb)
  have Io4 := Lib.hid (Io3.out.below hb)
  have It4 := Lib.hid hi
  have B4 := Lib.hid (B3.out.trans (hb.mono B3.out.size))
  clear hb hi IZ3 IV3 Ix3 Iy3 Io3
  go_wp2_with fail
  refine (all_ints n _).mono ?_
  rintro e w5 ⟨vl, rfl, hb, hi, hnil⟩
  have IZ5 := Lib.hid (IZ4.out.below hb)
  have IV5 := Lib.hid (IV4.out.below hb)
  have Ix5 := Lib.hid (Ix4.out.below hb)
  have Iy5 := Lib.hid (Iy4.out.below hb)
  have Io5 := Lib.hid (Io4.out.below hb)
  have It5 := Lib.hid (It4.out.below hb)
  have Il5 := Lib.hid hi
  have Nl := Lib.hid hnil
  have B5 := Lib.hid (B4.out.trans (hb.mono B4.out.size))
  clear hb hi hnil IZ4 IV4 Ix4 Iy4 Io4 It4
  go_wp2_with fail
  refine (rall_ints n _).mono ?_
  rintro e w6 ⟨vm, rfl, hb, hi, hnil⟩
  have IZ6 := Lib.hid (IZ5.out.below hb)
  have IV6 := Lib.hid (IV5.out.below hb)
  have Ix6 := Lib.hid (Ix5.out.below hb)
  have Iy6 := Lib.hid (Iy5.out.below hb)
  have Io6 := Lib.hid (Io5.out.below hb)
  have It6 := Lib.hid (It5.out.below hb)
  have Il6 := Lib.hid (Il5.out.below hb)
  have Im6 := Lib.hid hi
  have Nm := Lib.hid hnil
  have B6 := Lib.hid (B5.out.trans (hb.mono B5.out.size))
  clear hb hi hnil IZ5 IV5 Ix5 Iy5 Io5 It5 Il5
  go_wp2_with fail
  refine (awake2 (HH.out.below B6.out)).mono ?_
  rintro e w7 ⟨rfl, hb⟩
  have IZ7 := Lib.hid (IZ6.out.below hb)
  have IV7 := Lib.hid (IV6.out.below hb)
  have Ix7 := Lib.hid (Ix6.out.below hb)
  have Iy7 := Lib.hid (Iy6.out.below hb)
  have Io7 := Lib.hid (Io6.out.below hb)
  have It7 := Lib.hid (It6.out.below hb)
  have Il7 := Lib.hid (Il6.out.below hb)
  have Im7 := Lib.hid (Im6.out.below hb)
  have B7 := Lib.hid (B6.out.trans (hb.mono B6.out.size))
  clear hb IZ6 IV6 Ix6 Iy6 Io6 It6 Il6 Im6
  have hs1 : ((compR zs vs).2 == (compR zs vs).2) = true := by simp
  have hs2 : ((idR n).2 == (idR n).2) = true := by simp
  have hs3 : ((allR n).2 == (allR n).2) = true := by simp
  go_wp2_with fail
  refine (equal_same Ix7.out Iy7.out).mono ?_
  rintro e w8 ⟨rfl, m7, rfl⟩
  have hq := below_drewN (Below.refl w7.heap.size w7) (m7)
  have IZ8 := Lib.hid (IZ7.out.below hq)
  have IV8 := Lib.hid (IV7.out.below hq)
  have Ix8 := Lib.hid (Ix7.out.below hq)
  have Iy8 := Lib.hid (Iy7.out.below hq)
  have Io8 := Lib.hid (Io7.out.below hq)
  have It8 := Lib.hid (It7.out.below hq)
  have Il8 := Lib.hid (Il7.out.below hq)
  have Im8 := Lib.hid (Im7.out.below hq)
  have B8 := Lib.hid (B7.out.trans (hq.mono B7.out.size))
  clear hq 
  go_wp2_with fail
  refine (equal_same Io8.out It8.out).mono ?_
  rintro e w9 ⟨rfl, m8, rfl⟩
  have hq := below_drewN (Below.refl w7.heap.size w7) (m7+m8)
  have IZ9 := Lib.hid (IZ7.out.below hq)
  have IV9 := Lib.hid (IV7.out.below hq)
  have Ix9 := Lib.hid (Ix7.out.below hq)
  have Iy9 := Lib.hid (Iy7.out.below hq)
  have Io9 := Lib.hid (Io7.out.below hq)
  have It9 := Lib.hid (It7.out.below hq)
  have Il9 := Lib.hid (Il7.out.below hq)
  have Im9 := Lib.hid (Im7.out.below hq)
  have B9 := Lib.hid (B7.out.trans (hq.mono B7.out.size))
  clear hq IZ8 IV8 Ix8 Iy8 Io8 It8 Il8 Im8
  go_wp2_with fail
  refine (sameAll_lists (allR_small n) Il9.out Im9.out (fun h => ⟨Nl.out h, Nm.out h⟩)).mono ?_
  rintro e w10 ⟨rfl, m9, rfl⟩
  have hq := below_drewN (Below.refl w7.heap.size w7) (m7+m8+m9)
  have IZ10 := Lib.hid (IZ7.out.below hq)
  have IV10 := Lib.hid (IV7.out.below hq)
  have Ix10 := Lib.hid (Ix7.out.below hq)
  have Iy10 := Lib.hid (Iy7.out.below hq)
  have Io10 := Lib.hid (Io7.out.below hq)
  have It10 := Lib.hid (It7.out.below hq)
  have Il10 := Lib.hid (Il7.out.below hq)
  have Im10 := Lib.hid (Im7.out.below hq)
  have B10 := Lib.hid (B7.out.trans (hq.mono B7.out.size))
  clear hq IZ9 IV9 Ix9 Iy9 Io9 It9 Il9 Im9
  go_wp2
  go_ret
  exact ⟨rfl, B10.out⟩
theorem composes_any {W : World} {e0 e1 e2 : TypeId} (H : Held W (tabs e0 e1 e2)) {v u : Value} {zs vs : List Int} (hz : IntsAt W .i64 v zs) (hv : IntsAt W .i64 u vs) (n : Int) :
    Calls Tryd.prog 11 #[v, u, .int .i64 n] W fun e w' => e = .returned (.bool true) ∧ Below W.heap.size W w' := by
  have hz0 := hz
  have hv0 := hv
  obtain ⟨a, cap, rfl, _⟩ := hz0
  obtain ⟨a', cap', rfl, _⟩ := hv0
  by_cases h : 60 < zs.length ∨ 60 < vs.length
  · exact composes_long _ _ _ _ _ _ n h H
  · exact composes_walk _ _ _ _ _ _ n zs vs (by omega) (by omega) H hz hv
end Go.Proofs.YtpdlnijdcgcfbaaDoor.Perm
