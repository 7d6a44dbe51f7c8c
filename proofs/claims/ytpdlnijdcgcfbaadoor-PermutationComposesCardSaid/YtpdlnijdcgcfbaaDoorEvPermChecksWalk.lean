/-
  PermutationChecks answers true, at whatever can be read.
-/
import Derived.Test.YtpdlnijdcgcfbaaDoorEvPermOdd
import Derived.Test.YtpdlnijdcgcfbaaDoorEvPermActsWalk
namespace Go.Proofs.YtpdlnijdcgcfbaaDoor.Perm
open Go Go.Ev Go.RowKit Go.Perm Go.Law
open Go.Proofs.YtpdlnijdcgcfbaaDoor.Col (ret_int ret_bool ret_two)
open Go.Proofs.YtpdlnijdcgcfbaaDoor.Ev

theorem _root_.Go.Ev.Held.below {W w : World} {ts : List Tab} (H : Held W ts) (hb : Below W.heap.size W w) : Held w ts := fun t ht => by
  obtain ⟨cs, fz, h, h3, h4⟩ := H t ht
  exact ⟨cs, fz, by rw [hb.block _ (block_lt h)]; exact h, h3, h4⟩
theorem checks_long (a : Option Addr) (len cap : Nat) (h : 60 < len) {W : World} {e0 e1 e2 : TypeId} (H : Held W (tabs e0 e1 e2)) :
    Calls Tryd.prog 10 #[.slice a len cap] W fun e w' => e = .returned (.bool true) ∧ Below W.heap.size W w' := by
  have HA := Lib.hid (awake2 H)
  go_enter Tryd.func10, Tryd.ntmps10
  go_wp2_with (go_at_call 42; refine (HA.out).mono ?_; rintro e w' ⟨rfl, hb⟩)
  go_ret
  exact ⟨rfl, hb⟩
set_option maxHeartbeats 1000000 in
set_option maxRecDepth 100000 in
theorem checks_walk (a : Option Addr) (len cap : Nat) (zs : List Int) (h1 : len ≤ 60) {W : World} {e0 e1 e2 : TypeId} (H : Held W (tabs e0 e1 e2)) (hz : IntsAt W .i64 (.slice a len cap) zs) :
    Calls Tryd.prog 10 #[.slice a len cap] W fun e w' => e = .returned (.bool true) ∧ Below W.heap.size W w' := by
  have HZ := Lib.hid hz
  have HH := Lib.hid H
  clear hz H
  go_enter Tryd.func10, Tryd.ntmps10
  go_wp2_with fail
  refine (inv_ints HZ.out).mono ?_
  rintro e w1 ⟨v1, rfl, hb1, hi1⟩
  have HB1 := Lib.hid hb1
  have HI1 := Lib.hid hi1
  clear hb1 hi1
  go_wp2_with fail
  refine (rinv_ints (HZ.out.below HB1.out)).mono ?_
  rintro e w2 ⟨v2, rfl, hb2, hi2⟩
  have HI1' := Lib.hid (HI1.out.below hb2)
  have HB2 := Lib.hid (HB1.out.trans (hb2.mono HB1.out.size))
  have HI2 := Lib.hid hi2
  clear hb2 hi2
  go_wp2_with fail
  refine (order_ints (HZ.out.below HB2.out)).mono ?_
  rintro e w3 ⟨rfl, hb3⟩
  have HJ1 := Lib.hid (HI1'.out.below hb3)
  have HJ2 := Lib.hid (HI2.out.below hb3)
  have HB3 := Lib.hid (HB2.out.trans (hb3.mono HB2.out.size))
  clear hb3
  go_wp2_with fail
  refine (rorder_ints (HZ.out.below HB3.out)).mono ?_
  rintro e w4 ⟨rfl, hb4⟩
  have HK1 := Lib.hid (HJ1.out.below hb4)
  have HK2 := Lib.hid (HJ2.out.below hb4)
  have HB4 := Lib.hid (HB3.out.trans (hb4.mono HB3.out.size))
  clear hb4
  go_wp2_with fail
  refine (odd_ints (HZ.out.below HB4.out)).mono ?_
  rintro e w5 ⟨rfl, m5, rfl⟩
  go_wp2_with fail
  refine (rodd_ints ((HZ.out.below HB4.out).drewN m5)).mono ?_
  rintro e w6 ⟨rfl, m6, rfl⟩
  go_wp2_with fail
  have hq := below_drewN (Below.refl w4.heap.size w4) (m5 + m6)
  have HQ1 := Lib.hid (HK1.out.below hq)
  have HQ2 := Lib.hid (HK2.out.below hq)
  have HB5 := Lib.hid (HB4.out.trans (hq.mono HB4.out.size))
  clear hq
  have HHH := Lib.hid (HH.out.below HB5.out)
  refine (awake2 HHH.out).mono ?_
  rintro e w7 ⟨rfl, hb7⟩
  have HR1 := Lib.hid (HQ1.out.below hb7)
  have HR2 := Lib.hid (HQ2.out.below hb7)
  have HB7 := Lib.hid (HB5.out.trans (hb7.mono (by have := HB5.out.size; simpa using this)))
  clear hb7
  have HZ7 := Lib.hid (HZ.out.below HB7.out)
  have hs0 : (check zs == check zs) = true := by simp
  have hs1 : ((invR zs).2 == (invR zs).2) = true := by simp
  have hs2 : ((ordR zs).1 == (ordR zs).1) = true := by simp
  have hs3 : ((ordR zs).2 == (ordR zs).2) = true := by simp
  have hs4 : ((oddR zs).1 == (oddR zs).1) = true := by simp
  have hs5 : ((oddR zs).2 == (oddR zs).2) = true := by simp
  go_wp2_with fail
  refine (check_ints HZ7.out).mono ?_
  rintro e w8 ⟨rfl, rfl⟩
  go_wp2_with fail
  refine (rcheck_ints HZ7.out).mono ?_
  rintro e w8 ⟨rfl, m8, rfl⟩
  go_wp2_with fail
  refine (equal_same (HR1.out.drewN m8) (HR2.out.drewN m8)).mono ?_
  rintro e w9 ⟨rfl, m9, rfl⟩
  go_wp2
  go_ret
  exact ⟨rfl, below_drewN HB7.out _⟩
theorem checks_any {W : World} {e0 e1 e2 : TypeId} (H : Held W (tabs e0 e1 e2)) {v : Value} {zs : List Int} (hz : IntsAt W .i64 v zs) :
    Calls Tryd.prog 10 #[v] W fun e w' => e = .returned (.bool true) ∧ Below W.heap.size W w' := by
  have hz0 := hz
  obtain ⟨a, cap, rfl, _⟩ := hz0
  by_cases h : 60 < zs.length
  · exact checks_long _ _ _ h H
  · exact checks_walk _ _ _ zs (by omega) H hz
end Go.Proofs.YtpdlnijdcgcfbaaDoor.Perm
