/-
  PermutationGroup answers true, at whatever can be read.
-/
import Derived.Test.YtpdlnijdcgcfbabDoorEvBGroup
import Derived.Test.YtpdlnijdcgcfbabDoorEvBSeat
namespace Go.Proofs.YtpdlnijdcgcfbabDoor.Perm
open Go Go.Ev Go.RowKit Go.Perm Go.Law
open Go.Proofs.YtpdlnijdcgcfbabDoor.Col (ret_int ret_bool ret_two)
open Go.Proofs.YtpdlnijdcgcfbabDoor.Ev

theorem _root_.Go.Ev.Held.below {W w : World} {ts : List Tab} (H : Held W ts) (hb : Below W.heap.size W w) : Held w ts := fun t ht => by
  obtain ⟨cs, fz, h, h3, h4⟩ := H t ht
  exact ⟨cs, fz, by rw [hb.block _ (block_lt h)]; exact h, h3, h4⟩
theorem below_alloc (w : World) (o : Obj) : Below w.heap.size w (w.alloc o) := (Below.refl _ _).alloc (Nat.le_refl _) o
theorem three_cells (w : World) (a b c : Value) (t : TypeId) : ∀ j, j < 3 → (w.alloc (.cells #[a, b, c] t)).cell? ⟨w.heap.size, j, none⟩ = some ([a, b, c].getD j undef) := by
  intro j hj
  rw [World.cell?_alloc_at _ _ _ _ rfl]
  match j, hj with
  | 0, _ => rfl
  | 1, _ => rfl
  | 2, _ => rfl
theorem three_ints {w : World} {a b c : Value} {x y z : List Int} (h1 : IntsAt w .i64 a x) (h2 : IntsAt w .i64 b y) (h3 : IntsAt w .i64 c z) : ∀ j, j < 3 → IntsAt w .i64 ([a, b, c].getD j undef) ([x, y, z].getD j []) := by
  intro j hj
  match j, hj with
  | 0, _ => exact h1
  | 1, _ => exact h2
  | 2, _ => exact h3
set_option maxHeartbeats 1000000 in
theorem group_no (a a1 a2 : Option Addr) (cap cap1 cap2 : Nat) (x y z : List Int) {W : World} {e0 e1 e2 : TypeId} (H : Held W (tabs e0 e1 e2)) (h1 : IntsAt W .i64 (.slice a x.length cap) x) (h2 : IntsAt W .i64 (.slice a1 y.length cap1) y) (h3 : IntsAt W .i64 (.slice a2 z.length cap2) z)
    (hg : [x, y, z].all (good x.length) = false) : Calls Tryd.prog 3 #[.slice a x.length cap, .slice a1 y.length cap1, .slice a2 z.length cap2] W fun e w' => e = .returned (.bool true) ∧ Below W.heap.size W w' := by
  have HH := Lib.hid H
  have HG := Lib.hid hg
  have HR := Lib.hid (right_any W.heap.size [.slice a x.length cap, .slice a1 y.length cap1, .slice a2 z.length cap2] [x, y, z] 3 x.length _ rfl (by omega) (by omega) (three_cells W _ _ _ 22) (three_ints (h1.below (below_alloc _ _)) (h2.below (below_alloc _ _)) (h3.below (below_alloc _ _))) rfl)
  clear H hg h1 h2 h3
  generalize x.length = n at *
  go_enter Tryd.func3, Tryd.ntmps3
  go_wp2_with fail
  refine (HR.out).mono ?_
  rintro e w1 ⟨rfl, m, rfl⟩
  rw [HG.out]
  go_wp2_with fail
  have HB := Lib.hid ((below_drewN (below_alloc W (.cells #[.slice a n cap, .slice a1 y.length cap1, .slice a2 z.length cap2] 22)) m))
  refine (awake (HH.out.below HB.out)).mono ?_
  rintro e w2 ⟨rfl, hb2⟩
  have HB2 := Lib.hid (HB.out.trans (hb2.mono HB.out.size))
  clear hb2
  go_wp2
  go_ret
  exact ⟨rfl, HB2.out⟩
set_option maxHeartbeats 4000000 in
set_option maxRecDepth 100000 in
theorem group_yes (a a1 a2 : Option Addr) (cap cap1 cap2 : Nat) (x y z : List Int) {W : World} {e0 e1 e2 : TypeId} (H : Held W (tabs e0 e1 e2)) (h1 : IntsAt W .i64 (.slice a x.length cap) x) (h2 : IntsAt W .i64 (.slice a1 y.length cap1) y) (h3 : IntsAt W .i64 (.slice a2 z.length cap2) z)
    (ha : check x = 0) (hb : check y = 0) (hc : check z = 0) (lb : y.length = x.length) (lc : z.length = x.length) (hg : [x, y, z].all (good x.length) = true) : Calls Tryd.prog 3 #[.slice a x.length cap, .slice a1 y.length cap1, .slice a2 z.length cap2] W fun e w' => e = .returned (.bool true) ∧ Below W.heap.size W w' := by
  obtain ⟨ok1, ok5, _, _⟩ := check_ok ha
  have Ka := Lib.hid ha
  have Kb := Lib.hid hb
  have Kc := Lib.hid hc
  have Lb := Lib.hid lb
  have Lc := Lib.hid lc
  have HH := Lib.hid H
  have HG := Lib.hid hg
  have HR := Lib.hid (right_any W.heap.size [.slice a x.length cap, .slice a1 y.length cap1, .slice a2 z.length cap2] [x, y, z] 3 x.length _ rfl (by omega) (by omega) (three_cells W _ _ _ 22) (three_ints (h1.below (below_alloc _ _)) (h2.below (below_alloc _ _)) (h3.below (below_alloc _ _))) rfl)
  have Ia0 := Lib.hid h1
  have Ib0 := Lib.hid h2
  have Ic0 := Lib.hid h3
  have uA := unary ha
  have Kab := Lib.hid (comp_ok ha hb lb)
  have Kbc := Lib.hid (comp_ok hb hc (by omega))
  have Kinv := Lib.hid uA.ok
  have Linv := Lib.hid (show (inv x).length = x.length by unfold inv; rw [mv_length, ids_length])
  have Lab := Lib.hid (show (comp x y).length = x.length by rw [comp_length, lb])
  have Lbc := Lib.hid (show (comp y z).length = x.length by rw [comp_length, lc])
  have Kid := Lib.hid (ids_ok x.length (by omega) ok1)
  have Lid := Lib.hid (ids_length x.length)
  have E1 := Lib.hid (show comp (comp x y) z = comp x (comp y z) from comp_assoc (by have := (check_ok hc).2.2.1; rw [lb, ← lc]; exact this))
  have E2 := Lib.hid uA.left
  have E3 := Lib.hid uA.right
  have E4 := Lib.hid uA.neutral
  have E5 := Lib.hid (par_comp ha hb lb)
  clear uA ha hb hc lb lc H hg h1 h2 h3
  generalize hn : x.length = n at *
  have HN := Lib.hid hn
  clear hn
  go_enter Tryd.func3, Tryd.ntmps3
  go_wp2_with fail
  refine (HR.out).mono ?_
  rintro e w1 ⟨rfl, m, rfl⟩
  rw [HG.out]
  have B0 := Lib.hid ((below_drewN (below_alloc W (.cells #[.slice a n cap, .slice a1 y.length cap1, .slice a2 z.length cap2] 22)) m))
  have Ia1 := Lib.hid (Ia0.out.below B0.out)
  have Ib1 := Lib.hid (Ib0.out.below B0.out)
  have Ic1 := Lib.hid (Ic0.out.below B0.out)
  go_wp2_with fail
  refine (compose2 Ia1.out Ib1.out Ka.out Kb.out (by rw [HN.out, Lb.out])).mono ?_
  rintro e w2 ⟨vab, rfl, hb, hi⟩
  have Ia2 := Lib.hid (Ia1.out.below hb)
  have Ib2 := Lib.hid (Ib1.out.below hb)
  have Ic2 := Lib.hid (Ic1.out.below hb)
  have Iab2 := Lib.hid hi
  have B1 := Lib.hid (B0.out.trans (hb.mono B0.out.size))
  clear hb hi Ia1 Ib1 Ic1
  go_wp2_with fail
  refine (compose2 Ib2.out Ic2.out Kb.out Kc.out (by rw [Lb.out, Lc.out])).mono ?_
  rintro e w3 ⟨vbc, rfl, hb, hi⟩
  have Ia3 := Lib.hid (Ia2.out.below hb)
  have Ib3 := Lib.hid (Ib2.out.below hb)
  have Ic3 := Lib.hid (Ic2.out.below hb)
  have Iab3 := Lib.hid (Iab2.out.below hb)
  have Ibc3 := Lib.hid hi
  have B2 := Lib.hid (B1.out.trans (hb.mono B1.out.size))
  clear hb hi Ia2 Ib2 Ic2 Iab2
  go_wp2_with fail
  refine (compose2 Iab3.out Ic3.out Kab.out Kc.out (by rw [Lab.out, Lc.out])).mono ?_
  rintro e w4 ⟨vx, rfl, hb, hi⟩
  have Ia4 := Lib.hid (Ia3.out.below hb)
  have Ib4 := Lib.hid (Ib3.out.below hb)
  have Ic4 := Lib.hid (Ic3.out.below hb)
  have Iab4 := Lib.hid (Iab3.out.below hb)
  have Ibc4 := Lib.hid (Ibc3.out.below hb)
  have Ix14 := Lib.hid hi
  have B3 := Lib.hid (B2.out.trans (hb.mono B2.out.size))
  clear hb hi Ia3 Ib3 Ic3 Iab3 Ibc3
  go_wp2_with fail
  refine (compose2 Ia4.out Ibc4.out Ka.out Kbc.out (by rw [HN.out, Lbc.out])).mono ?_
  rintro e w5 ⟨vy, rfl, hb, hi⟩
  have Ia5 := Lib.hid (Ia4.out.below hb)
  have Ib5 := Lib.hid (Ib4.out.below hb)
  have Ic5 := Lib.hid (Ic4.out.below hb)
  have Iab5 := Lib.hid (Iab4.out.below hb)
  have Ibc5 := Lib.hid (Ibc4.out.below hb)
  have Ix15 := Lib.hid (Ix14.out.below hb)
  have Iy15 := Lib.hid hi
  have B4 := Lib.hid (B3.out.trans (hb.mono B3.out.size))
  clear hb hi Ia4 Ib4 Ic4 Iab4 Ibc4 Ix14
  go_wp2_with fail
  refine (identity2 n ok1 ok5 _).mono ?_
  rintro e w6 ⟨vone, rfl, hb, hi⟩
  have Ia6 := Lib.hid (Ia5.out.below hb)
  have Ib6 := Lib.hid (Ib5.out.below hb)
  have Ic6 := Lib.hid (Ic5.out.below hb)
  have Iab6 := Lib.hid (Iab5.out.below hb)
  have Ibc6 := Lib.hid (Ibc5.out.below hb)
  have Ix16 := Lib.hid (Ix15.out.below hb)
  have Iy16 := Lib.hid (Iy15.out.below hb)
  have Ione6 := Lib.hid hi
  have B5 := Lib.hid (B4.out.trans (hb.mono B4.out.size))
  clear hb hi Ia5 Ib5 Ic5 Iab5 Ibc5 Ix15 Iy15
  go_wp2_with fail
  refine (inv2 Ia6.out Ka.out).mono ?_
  rintro e w7 ⟨vback, rfl, hb, hi⟩
  have Ia7 := Lib.hid (Ia6.out.below hb)
  have Ib7 := Lib.hid (Ib6.out.below hb)
  have Ic7 := Lib.hid (Ic6.out.below hb)
  have Iab7 := Lib.hid (Iab6.out.below hb)
  have Ibc7 := Lib.hid (Ibc6.out.below hb)
  have Ix17 := Lib.hid (Ix16.out.below hb)
  have Iy17 := Lib.hid (Iy16.out.below hb)
  have Ione7 := Lib.hid (Ione6.out.below hb)
  have Iback7 := Lib.hid hi
  have B6 := Lib.hid (B5.out.trans (hb.mono B5.out.size))
  clear hb hi Ia6 Ib6 Ic6 Iab6 Ibc6 Ix16 Iy16 Ione6
  go_wp2_with fail
  refine (compose2 Iback7.out Ia7.out Kinv.out Ka.out (by rw [Linv.out, HN.out])).mono ?_
  rintro e w8 ⟨vleft, rfl, hb, hi⟩
  have Ia8 := Lib.hid (Ia7.out.below hb)
  have Ib8 := Lib.hid (Ib7.out.below hb)
  have Ic8 := Lib.hid (Ic7.out.below hb)
  have Iab8 := Lib.hid (Iab7.out.below hb)
  have Ibc8 := Lib.hid (Ibc7.out.below hb)
  have Ix18 := Lib.hid (Ix17.out.below hb)
  have Iy18 := Lib.hid (Iy17.out.below hb)
  have Ione8 := Lib.hid (Ione7.out.below hb)
  have Iback8 := Lib.hid (Iback7.out.below hb)
  have Ileft8 := Lib.hid hi
  have B7 := Lib.hid (B6.out.trans (hb.mono B6.out.size))
  clear hb hi Ia7 Ib7 Ic7 Iab7 Ibc7 Ix17 Iy17 Ione7 Iback7
  go_wp2_with fail
  refine (compose2 Ia8.out Iback8.out Ka.out Kinv.out (by rw [Linv.out, HN.out])).mono ?_
  rintro e w9 ⟨vm, rfl, hb, hi⟩
  have Ia9 := Lib.hid (Ia8.out.below hb)
  have Ib9 := Lib.hid (Ib8.out.below hb)
  have Ic9 := Lib.hid (Ic8.out.below hb)
  have Iab9 := Lib.hid (Iab8.out.below hb)
  have Ibc9 := Lib.hid (Ibc8.out.below hb)
  have Ix19 := Lib.hid (Ix18.out.below hb)
  have Iy19 := Lib.hid (Iy18.out.below hb)
  have Ione9 := Lib.hid (Ione8.out.below hb)
  have Iback9 := Lib.hid (Iback8.out.below hb)
  have Ileft9 := Lib.hid (Ileft8.out.below hb)
  have Imm9 := Lib.hid hi
  have B8 := Lib.hid (B7.out.trans (hb.mono B7.out.size))
  clear hb hi Ia8 Ib8 Ic8 Iab8 Ibc8 Ix18 Iy18 Ione8 Iback8 Ileft8
  go_wp2_with fail
  refine (compose2 Ione9.out Ia9.out Kid.out Ka.out (by rw [Lid.out, HN.out])).mono ?_
  rintro e w10 ⟨vneu, rfl, hb, hi⟩
  have Ia10 := Lib.hid (Ia9.out.below hb)
  have Ib10 := Lib.hid (Ib9.out.below hb)
  have Ic10 := Lib.hid (Ic9.out.below hb)
  have Iab10 := Lib.hid (Iab9.out.below hb)
  have Ibc10 := Lib.hid (Ibc9.out.below hb)
  have Ix110 := Lib.hid (Ix19.out.below hb)
  have Iy110 := Lib.hid (Iy19.out.below hb)
  have Ione10 := Lib.hid (Ione9.out.below hb)
  have Iback10 := Lib.hid (Iback9.out.below hb)
  have Ileft10 := Lib.hid (Ileft9.out.below hb)
  have Imm10 := Lib.hid (Imm9.out.below hb)
  have Ineu10 := Lib.hid hi
  have B9 := Lib.hid (B8.out.trans (hb.mono B8.out.size))
  clear hb hi Ia9 Ib9 Ic9 Iab9 Ibc9 Ix19 Iy19 Ione9 Iback9 Ileft9 Imm9
  go_wp2_with fail
  refine (equal_yes Ix110.out Iy110.out E1.out).mono ?_
  rintro e w11 ⟨rfl, m10, rfl⟩
  have hq := below_drewN (Below.refl w10.heap.size w10) (m10)
  have Ia11 := Lib.hid (Ia10.out.below hq)
  have Ib11 := Lib.hid (Ib10.out.below hq)
  have Ic11 := Lib.hid (Ic10.out.below hq)
  have Iab11 := Lib.hid (Iab10.out.below hq)
  have Ibc11 := Lib.hid (Ibc10.out.below hq)
  have Ix111 := Lib.hid (Ix110.out.below hq)
  have Iy111 := Lib.hid (Iy110.out.below hq)
  have Ione11 := Lib.hid (Ione10.out.below hq)
  have Iback11 := Lib.hid (Iback10.out.below hq)
  have Ileft11 := Lib.hid (Ileft10.out.below hq)
  have Imm11 := Lib.hid (Imm10.out.below hq)
  have Ineu11 := Lib.hid (Ineu10.out.below hq)
  have B10 := Lib.hid (B9.out.trans (hq.mono B9.out.size))
  clear hq 
  go_wp2_with fail
  refine (equal_yes Ileft11.out Ione11.out E2.out).mono ?_
  rintro e w12 ⟨rfl, m11, rfl⟩
  have hq := below_drewN (Below.refl w10.heap.size w10) (m10+m11)
  have Ia12 := Lib.hid (Ia10.out.below hq)
  have Ib12 := Lib.hid (Ib10.out.below hq)
  have Ic12 := Lib.hid (Ic10.out.below hq)
  have Iab12 := Lib.hid (Iab10.out.below hq)
  have Ibc12 := Lib.hid (Ibc10.out.below hq)
  have Ix112 := Lib.hid (Ix110.out.below hq)
  have Iy112 := Lib.hid (Iy110.out.below hq)
  have Ione12 := Lib.hid (Ione10.out.below hq)
  have Iback12 := Lib.hid (Iback10.out.below hq)
  have Ileft12 := Lib.hid (Ileft10.out.below hq)
  have Imm12 := Lib.hid (Imm10.out.below hq)
  have Ineu12 := Lib.hid (Ineu10.out.below hq)
  have B11 := Lib.hid (B9.out.trans (hq.mono B9.out.size))
  clear hq Ia11 Ib11 Ic11 Iab11 Ibc11 Ix111 Iy111 Ione11 Iback11 Ileft11 Imm11 Ineu11
  go_wp2_with fail
  refine (equal_yes Imm12.out Ione12.out E3.out).mono ?_
  rintro e w13 ⟨rfl, m12, rfl⟩
  have hq := below_drewN (Below.refl w10.heap.size w10) (m10+m11+m12)
  have Ia13 := Lib.hid (Ia10.out.below hq)
  have Ib13 := Lib.hid (Ib10.out.below hq)
  have Ic13 := Lib.hid (Ic10.out.below hq)
  have Iab13 := Lib.hid (Iab10.out.below hq)
  have Ibc13 := Lib.hid (Ibc10.out.below hq)
  have Ix113 := Lib.hid (Ix110.out.below hq)
  have Iy113 := Lib.hid (Iy110.out.below hq)
  have Ione13 := Lib.hid (Ione10.out.below hq)
  have Iback13 := Lib.hid (Iback10.out.below hq)
  have Ileft13 := Lib.hid (Ileft10.out.below hq)
  have Imm13 := Lib.hid (Imm10.out.below hq)
  have Ineu13 := Lib.hid (Ineu10.out.below hq)
  have B12 := Lib.hid (B9.out.trans (hq.mono B9.out.size))
  clear hq Ia12 Ib12 Ic12 Iab12 Ibc12 Ix112 Iy112 Ione12 Iback12 Ileft12 Imm12 Ineu12
  go_wp2_with fail
  refine (equal_yes Ineu13.out Ia13.out E4.out).mono ?_
  rintro e w14 ⟨rfl, m13, rfl⟩
  have hq := below_drewN (Below.refl w10.heap.size w10) (m10+m11+m12+m13)
  have Ia14 := Lib.hid (Ia10.out.below hq)
  have Ib14 := Lib.hid (Ib10.out.below hq)
  have Ic14 := Lib.hid (Ic10.out.below hq)
  have Iab14 := Lib.hid (Iab10.out.below hq)
  have Ibc14 := Lib.hid (Ibc10.out.below hq)
  have Ix114 := Lib.hid (Ix110.out.below hq)
  have Iy114 := Lib.hid (Iy110.out.below hq)
  have Ione14 := Lib.hid (Ione10.out.below hq)
  have Iback14 := Lib.hid (Iback10.out.below hq)
  have Ileft14 := Lib.hid (Ileft10.out.below hq)
  have Imm14 := Lib.hid (Imm10.out.below hq)
  have Ineu14 := Lib.hid (Ineu10.out.below hq)
  have B13 := Lib.hid (B9.out.trans (hq.mono B9.out.size))
  clear hq Ia13 Ib13 Ic13 Iab13 Ibc13 Ix113 Iy113 Ione13 Iback13 Ileft13 Imm13 Ineu13
  generalize hpa : outer x n = pa at *
  generalize hpb : outer y n = pb at *
  have PA := Lib.hid hpa
  have PB := Lib.hid hpb
  clear hpa hpb
  go_wp2_with fail
  refine (odd2 Ia14.out Ka.out (b := pa) (by rw [HN.out]; exact PA.out)).mono ?_
  rintro e w15 ⟨rfl, m14, rfl⟩
  have hq := below_drewN (Below.refl w10.heap.size w10) (m10+m11+m12+m13+m14)
  have Ia15 := Lib.hid (Ia10.out.below hq)
  have Ib15 := Lib.hid (Ib10.out.below hq)
  have Ic15 := Lib.hid (Ic10.out.below hq)
  have Iab15 := Lib.hid (Iab10.out.below hq)
  have Ibc15 := Lib.hid (Ibc10.out.below hq)
  have Ix115 := Lib.hid (Ix110.out.below hq)
  have Iy115 := Lib.hid (Iy110.out.below hq)
  have Ione15 := Lib.hid (Ione10.out.below hq)
  have Iback15 := Lib.hid (Iback10.out.below hq)
  have Ileft15 := Lib.hid (Ileft10.out.below hq)
  have Imm15 := Lib.hid (Imm10.out.below hq)
  have Ineu15 := Lib.hid (Ineu10.out.below hq)
  have B14 := Lib.hid (B9.out.trans (hq.mono B9.out.size))
  clear hq Ia14 Ib14 Ic14 Iab14 Ibc14 Ix114 Iy114 Ione14 Iback14 Ileft14 Imm14 Ineu14
  go_wp2_with fail
  refine (odd2 Ib15.out Kb.out (b := pb) (by rw [Lb.out]; exact PB.out)).mono ?_
  rintro e w16 ⟨rfl, m15, rfl⟩
  have hq := below_drewN (Below.refl w10.heap.size w10) (m10+m11+m12+m13+m14+m15)
  have Ia16 := Lib.hid (Ia10.out.below hq)
  have Ib16 := Lib.hid (Ib10.out.below hq)
  have Ic16 := Lib.hid (Ic10.out.below hq)
  have Iab16 := Lib.hid (Iab10.out.below hq)
  have Ibc16 := Lib.hid (Ibc10.out.below hq)
  have Ix116 := Lib.hid (Ix110.out.below hq)
  have Iy116 := Lib.hid (Iy110.out.below hq)
  have Ione16 := Lib.hid (Ione10.out.below hq)
  have Iback16 := Lib.hid (Iback10.out.below hq)
  have Ileft16 := Lib.hid (Ileft10.out.below hq)
  have Imm16 := Lib.hid (Imm10.out.below hq)
  have Ineu16 := Lib.hid (Ineu10.out.below hq)
  have B15 := Lib.hid (B9.out.trans (hq.mono B9.out.size))
  clear hq Ia15 Ib15 Ic15 Iab15 Ibc15 Ix115 Iy115 Ione15 Iback15 Ileft15 Imm15 Ineu15
  go_wp2_with fail
  refine (odd2 Iab16.out Kab.out (b := (pa != pb)) (by rw [Lab.out]; exact E5.out)).mono ?_
  rintro e w17 ⟨rfl, m16, rfl⟩
  have hq := below_drewN (Below.refl w10.heap.size w10) (m10+m11+m12+m13+m14+m15+m16)
  have Ia17 := Lib.hid (Ia10.out.below hq)
  have Ib17 := Lib.hid (Ib10.out.below hq)
  have Ic17 := Lib.hid (Ic10.out.below hq)
  have Iab17 := Lib.hid (Iab10.out.below hq)
  have Ibc17 := Lib.hid (Ibc10.out.below hq)
  have Ix117 := Lib.hid (Ix110.out.below hq)
  have Iy117 := Lib.hid (Iy110.out.below hq)
  have Ione17 := Lib.hid (Ione10.out.below hq)
  have Iback17 := Lib.hid (Iback10.out.below hq)
  have Ileft17 := Lib.hid (Ileft10.out.below hq)
  have Imm17 := Lib.hid (Imm10.out.below hq)
  have Ineu17 := Lib.hid (Ineu10.out.below hq)
  have B16 := Lib.hid (B9.out.trans (hq.mono B9.out.size))
  clear hq Ia16 Ib16 Ic16 Iab16 Ibc16 Ix116 Iy116 Ione16 Iback16 Ileft16 Imm16 Ineu16
  go_wp2_with fail
  refine (awake (HH.out.below B16.out)).mono ?_
  rintro e w18 ⟨rfl, hb⟩
  have B17 := Lib.hid (B16.out.trans (hb.mono B16.out.size))
  clear hb
  have hs : ((pa != pb) == (pa != pb)) = true := by simp
  go_wp2
  go_ret
  refine ⟨ret_bool ?_, B17.out⟩
  cases pa <;> cases pb <;> rfl
theorem group_any {W : World} {e0 e1 e2 : TypeId} (H : Held W (tabs e0 e1 e2)) {t u v : Value} {x y z : List Int} (h1 : IntsAt W .i64 t x) (h2 : IntsAt W .i64 u y) (h3 : IntsAt W .i64 v z) :
    Calls Tryd.prog 3 #[t, u, v] W fun e w' => e = .returned (.bool true) ∧ Below W.heap.size W w' := by
  have h1' := h1
  have h2' := h2
  have h3' := h3
  obtain ⟨a, cap, rfl, _⟩ := h1'
  obtain ⟨a1, cap1, rfl, _⟩ := h2'
  obtain ⟨a2, cap2, rfl, _⟩ := h3'
  cases hg : [x, y, z].all (good x.length) with
  | false => exact group_no a a1 a2 cap cap1 cap2 x y z H h1 h2 h3 hg
  | true =>
    have hg' := hg
    simp only [List.all_cons, List.all_nil, good, Bool.and_true, Bool.and_eq_true, beq_iff_eq] at hg'
    obtain ⟨⟨k1, _⟩, ⟨k2, l2⟩, k3, l3⟩ := hg'
    exact group_yes a a1 a2 cap cap1 cap2 x y z H h1 h2 h3 k1 k2 k3 l2 l3 hg
end Go.Proofs.YtpdlnijdcgcfbabDoor.Perm
