/-
  Three graphs: their test, their products and unions.
-/
import Derived.Test.YtajhejdeijhccaaDoorEvGAny
import Derived.Deep.Cut
import Derived.Deep.MidRow
namespace Go.Proofs.YtajhejdeijhccaaDoor.Graph
open Go Go.RowKit Go.Graph Go.Law
open Go.Proofs.YtajhejdeijhccaaDoor.Col

theorem sil_fun (n : Nat) (h1 : 1 ≤ n) (h5 : n ≤ 5) (w : World) : Calls Tryd.prog 14 #[.int .i64 n] w fun e w' => e = .returned (pairV n (sil n 0 : Nat) (sil n 1 : Nat) (sil n 2 : Nat) (sil n 3 : Nat) (sil n 4 : Nat) 0) ∧ Below w.heap.size w w' := by
  rcases (by omega : n = 1 ∨ n = 2 ∨ n = 3 ∨ n = 4 ∨ n = 5) with rfl | rfl | rfl | rfl | rfl
  · have h := closed run14_1 w
    rwa [show ((sil 1 0 : Nat) : Int) = 1 from by decide, show ((sil 1 1 : Nat) : Int) = 0 from by decide, show ((sil 1 2 : Nat) : Int) = 0 from by decide, show ((sil 1 3 : Nat) : Int) = 0 from by decide, show ((sil 1 4 : Nat) : Int) = 0 from by decide]
  · have h := closed run14_2 w
    rwa [show ((sil 2 0 : Nat) : Int) = 1 from by decide, show ((sil 2 1 : Nat) : Int) = 2 from by decide, show ((sil 2 2 : Nat) : Int) = 0 from by decide, show ((sil 2 3 : Nat) : Int) = 0 from by decide, show ((sil 2 4 : Nat) : Int) = 0 from by decide]
  · have h := closed run14_3 w
    rwa [show ((sil 3 0 : Nat) : Int) = 1 from by decide, show ((sil 3 1 : Nat) : Int) = 2 from by decide, show ((sil 3 2 : Nat) : Int) = 4 from by decide, show ((sil 3 3 : Nat) : Int) = 0 from by decide, show ((sil 3 4 : Nat) : Int) = 0 from by decide]
  · have h := closed run14_4 w
    rwa [show ((sil 4 0 : Nat) : Int) = 1 from by decide, show ((sil 4 1 : Nat) : Int) = 2 from by decide, show ((sil 4 2 : Nat) : Int) = 4 from by decide, show ((sil 4 3 : Nat) : Int) = 8 from by decide, show ((sil 4 4 : Nat) : Int) = 0 from by decide]
  · have h := closed run14_5 w
    rwa [show ((sil 5 0 : Nat) : Int) = 1 from by decide, show ((sil 5 1 : Nat) : Int) = 2 from by decide, show ((sil 5 2 : Nat) : Int) = 4 from by decide, show ((sil 5 3 : Nat) : Int) = 8 from by decide, show ((sil 5 4 : Nat) : Int) = 16 from by decide]
/-- What Compose, Union and Silent give. -/
def Comp (n : Nat) (a b r : Nat → Nat) : Prop := ∀ w : World, Calls Tryd.prog 21 #[.agg #[.int .i64 n, .int .i64 (a 0), .int .i64 (a 1), .int .i64 (a 2), .int .i64 (a 3), .int .i64 (a 4)], .agg #[.int .i64 n, .int .i64 (b 0), .int .i64 (b 1), .int .i64 (b 2), .int .i64 (b 3), .int .i64 (b 4)]] w fun e w' => e = .returned (.tuple #[.agg #[.int .i64 n, .int .i64 (r 0), .int .i64 (r 1), .int .i64 (r 2), .int .i64 (r 3), .int .i64 (r 4)], .int .i64 0]) ∧ Below w.heap.size w w'
def Unite (n : Nat) (a b r : Nat → Nat) : Prop := ∀ w : World, Calls Tryd.prog 23 #[.agg #[.int .i64 n, .int .i64 (a 0), .int .i64 (a 1), .int .i64 (a 2), .int .i64 (a 3), .int .i64 (a 4)], .agg #[.int .i64 n, .int .i64 (b 0), .int .i64 (b 1), .int .i64 (b 2), .int .i64 (b 3), .int .i64 (b 4)]] w fun e w' => e = .returned (.tuple #[.agg #[.int .i64 n, .int .i64 (r 0), .int .i64 (r 1), .int .i64 (r 2), .int .i64 (r 3), .int .i64 (r 4)], .int .i64 0]) ∧ Below w.heap.size w w'
def Still (n : Nat) (r : Nat → Nat) : Prop := ∀ w : World, Calls Tryd.prog 14 #[.int .i64 n] w fun e w' => e = .returned (.tuple #[.agg #[.int .i64 n, .int .i64 (r 0), .int .i64 (r 1), .int .i64 (r 2), .int .i64 (r 3), .int .i64 (r 4)], .int .i64 0]) ∧ Below w.heap.size w w'
theorem comp_of {n : Nat} {a b r : Nat → Nat} (ha : WF n a) (hb : WF n b) (h : prod n a b = r) : Comp n a b r := by subst h; exact product_wf ha hb
theorem unite_of {n : Nat} {a b r : Nat → Nat} (ha : WF n a) (hb : WF n b) (h : join a b = r) : Unite n a b r := by subst h; exact union_wf ha hb
theorem still_of (n : Nat) (h1 : 1 ≤ n) (h5 : n ≤ 5) : Still n (sil n) := sil_fun n h1 h5
theorem assoc_pack {n : Nat} {a b c : Nat → Nat} (ha : WF n a) (hb : WF n b) (hc : WF n c) : ∃ ab L bc u x ac z ba ca s : Nat → Nat,
    Comp n a b ab ∧ Comp n ab c L ∧ Comp n b c bc ∧ Comp n a bc L ∧ Unite n b c u ∧ Comp n a u x ∧ Comp n a c ac ∧ Unite n ab ac x ∧ Comp n u a z ∧ Comp n b a ba ∧ Comp n c a ca ∧ Unite n ba ca z ∧ Still n s ∧ Comp n a s a ∧ Comp n s a a :=
  ⟨prod n a b, prod n (prod n a b) c, prod n b c, join b c, prod n a (join b c), prod n a c, prod n (join b c) a, prod n b a, prod n c a, sil n,
    comp_of ha hb rfl, comp_of (ha.prod hb) hc rfl, comp_of hb hc rfl, comp_of ha (hb.prod hc) (prod_assoc n a b c).symm, unite_of hb hc rfl, comp_of ha (hb.join hc) rfl, comp_of ha hc rfl,
    unite_of (ha.prod hb) (ha.prod hc) (prod_join n a b c).symm, comp_of (hb.join hc) ha rfl, comp_of hb ha rfl, comp_of hc ha rfl, unite_of (hb.prod ha) (hc.prod ha) (join_prod n a b c).symm,
    still_of n ha.pos ha.top, comp_of ha (WF.sil ha.pos ha.top) (prod_sil ha), comp_of (WF.sil ha.pos ha.top) ha (sil_prod ha)⟩
set_option maxRecDepth 100000 in
set_option maxHeartbeats 1000000 in
theorem three_first (n r0 r1 r2 r3 r4 m s0 s1 s2 s3 s4 k g0 g1 g2 g3 g4 c : Int) (hc : c ≠ 0) (h : ∀ w : World, Calls Tryd.prog 47 #[.agg #[.int .i64 n, .int .i64 r0, .int .i64 r1, .int .i64 r2, .int .i64 r3, .int .i64 r4], .agg #[.int .i64 m, .int .i64 s0, .int .i64 s1, .int .i64 s2, .int .i64 s3, .int .i64 s4]] w fun e w' => e = .returned (.int .i64 c) ∧ Below w.heap.size w w') (w : World) :
    Calls Tryd.prog 46 #[.agg #[.int .i64 n, .int .i64 r0, .int .i64 r1, .int .i64 r2, .int .i64 r3, .int .i64 r4, .int .i64 m, .int .i64 s0, .int .i64 s1, .int .i64 s2, .int .i64 s3, .int .i64 s4, .int .i64 k, .int .i64 g0, .int .i64 g1, .int .i64 g2, .int .i64 g3, .int .i64 g4]] w fun e w' => e = .returned (.bool false) ∧ Below w.heap.size w w' := by
  have e1 : (c == 0) = false := by simpa using hc
  have H := Lib.hid h
  clear h hc
  have T0 := Lib.hid (below_alloc w (.cells #[.int .i64 n, .int .i64 r0, .int .i64 r1, .int .i64 r2, .int .i64 r3, .int .i64 r4, .int .i64 m, .int .i64 s0, .int .i64 s1, .int .i64 s2, .int .i64 s3, .int .i64 s4, .int .i64 k, .int .i64 g0, .int .i64 g1, .int .i64 g2, .int .i64 g3, .int .i64 g4] 67))
  go_enter Tryd.func46, Tryd.ntmps46
  go_wp2_with (go_at_call 47; refine (H.out _).mono ?_; rintro e w1 ⟨rfl, hb1⟩; have t1 := Lib.hid (T0.out.trans (bel_le hb1 T0.out.size)); clear hb1)
  go_ret
  exact ⟨rfl, t1.out⟩
set_option maxRecDepth 100000 in
set_option maxHeartbeats 1000000 in
theorem three_second (n r0 r1 r2 r3 r4 m s0 s1 s2 s3 s4 k g0 g1 g2 g3 g4 c : Int) (d : Bool) (hd : (c == 0) = d) (g : ∀ w : World, Calls Tryd.prog 47 #[.agg #[.int .i64 n, .int .i64 r0, .int .i64 r1, .int .i64 r2, .int .i64 r3, .int .i64 r4], .agg #[.int .i64 m, .int .i64 s0, .int .i64 s1, .int .i64 s2, .int .i64 s3, .int .i64 s4]] w fun e w' => e = .returned (.int .i64 0) ∧ Below w.heap.size w w') (h : ∀ w : World, Calls Tryd.prog 47 #[.agg #[.int .i64 m, .int .i64 s0, .int .i64 s1, .int .i64 s2, .int .i64 s3, .int .i64 s4], .agg #[.int .i64 k, .int .i64 g0, .int .i64 g1, .int .i64 g2, .int .i64 g3, .int .i64 g4]] w fun e w' => e = .returned (.int .i64 c) ∧ Below w.heap.size w w') (w : World) :
    Calls Tryd.prog 46 #[.agg #[.int .i64 n, .int .i64 r0, .int .i64 r1, .int .i64 r2, .int .i64 r3, .int .i64 r4, .int .i64 m, .int .i64 s0, .int .i64 s1, .int .i64 s2, .int .i64 s3, .int .i64 s4, .int .i64 k, .int .i64 g0, .int .i64 g1, .int .i64 g2, .int .i64 g3, .int .i64 g4]] w fun e w' => e = .returned (.bool d) ∧ Below w.heap.size w w' := by
  have H := Lib.hid h
  have HG := Lib.hid g
  clear h g
  have T0 := Lib.hid (below_alloc w (.cells #[.int .i64 n, .int .i64 r0, .int .i64 r1, .int .i64 r2, .int .i64 r3, .int .i64 r4, .int .i64 m, .int .i64 s0, .int .i64 s1, .int .i64 s2, .int .i64 s3, .int .i64 s4, .int .i64 k, .int .i64 g0, .int .i64 g1, .int .i64 g2, .int .i64 g3, .int .i64 g4] 67))
  have O0 := Lib.hid (own_new w [.int .i64 n, .int .i64 r0, .int .i64 r1, .int .i64 r2, .int .i64 r3, .int .i64 r4, .int .i64 m, .int .i64 s0, .int .i64 s1, .int .i64 s2, .int .i64 s3, .int .i64 s4, .int .i64 k, .int .i64 g0, .int .i64 g1, .int .i64 g2, .int .i64 g3, .int .i64 g4] 67)
  go_enter Tryd.func46, Tryd.ntmps46
  go_wp2_with first
    | (go_at_call 47; (with_reducible refine (H.out _).mono ?_); rintro e w2 ⟨rfl, hb2⟩; have t2 := Lib.hid (t1.out.trans (bel_le hb2 t1.out.size)); clear hb2)
    | (go_at_call 47; (with_reducible refine (HG.out _).mono ?_); rintro e w1 ⟨rfl, hb1⟩; have t1 := Lib.hid (T0.out.trans (bel_le hb1 T0.out.size)); have O1 := Lib.hid (O0.out.below hb1 O0.out.lt); clear hb1; have c6 := O1.out.cell (j := 6) (v := .int .i64 m) rfl; have c7 := O1.out.cell (j := 7) (v := .int .i64 s0) rfl; have c8 := O1.out.cell (j := 8) (v := .int .i64 s1) rfl; have c9 := O1.out.cell (j := 9) (v := .int .i64 s2) rfl; have c10 := O1.out.cell (j := 10) (v := .int .i64 s3) rfl; have c11 := O1.out.cell (j := 11) (v := .int .i64 s4) rfl; have c12 := O1.out.cell (j := 12) (v := .int .i64 k) rfl; have c13 := O1.out.cell (j := 13) (v := .int .i64 g0) rfl; have c14 := O1.out.cell (j := 14) (v := .int .i64 g1) rfl; have c15 := O1.out.cell (j := 15) (v := .int .i64 g2) rfl; have c16 := O1.out.cell (j := 16) (v := .int .i64 g3) rfl; have c17 := O1.out.cell (j := 17) (v := .int .i64 g4) rfl)
  go_ret
  exact ⟨rfl, t2.out⟩
/-- Three graphs are well-formed and of one size, or the test of them says no. -/
theorem three_or (n r0 r1 r2 r3 r4 m s0 s1 s2 s3 s4 k g0 g1 g2 g3 g4 : Int) : (∃ (q : Nat) (a b c : Nat → Nat), WF q a ∧ WF q b ∧ WF q c ∧ (n = q ∧ r0 = a 0 ∧ r1 = a 1 ∧ r2 = a 2 ∧ r3 = a 3 ∧ r4 = a 4) ∧ (m = q ∧ s0 = b 0 ∧ s1 = b 1 ∧ s2 = b 2 ∧ s3 = b 3 ∧ s4 = b 4) ∧ (k = q ∧ g0 = c 0 ∧ g1 = c 1 ∧ g2 = c 2 ∧ g3 = c 3 ∧ g4 = c 4) ∧ ∀ w : World, Calls Tryd.prog 46 #[.agg #[.int .i64 n, .int .i64 r0, .int .i64 r1, .int .i64 r2, .int .i64 r3, .int .i64 r4, .int .i64 m, .int .i64 s0, .int .i64 s1, .int .i64 s2, .int .i64 s3, .int .i64 s4, .int .i64 k, .int .i64 g0, .int .i64 g1, .int .i64 g2, .int .i64 g3, .int .i64 g4]] w fun e w' => e = .returned (.bool true) ∧ Below w.heap.size w w') ∨ ∀ w : World, Calls Tryd.prog 46 #[.agg #[.int .i64 n, .int .i64 r0, .int .i64 r1, .int .i64 r2, .int .i64 r3, .int .i64 r4, .int .i64 m, .int .i64 s0, .int .i64 s1, .int .i64 s2, .int .i64 s3, .int .i64 s4, .int .i64 k, .int .i64 g0, .int .i64 g1, .int .i64 g2, .int .i64 g3, .int .i64 g4]] w fun e w' => e = .returned (.bool false) ∧ Below w.heap.size w w' := by
  rcases two_or n r0 r1 r2 r3 r4 m s0 s1 s2 s3 s4 with ⟨q, a, b, ha, hb, rfl, rfl, ⟨rfl, rfl, rfl, rfl, rfl⟩, rfl, rfl, rfl, rfl, rfl⟩ | ⟨c, hc, _, h2⟩
  · rcases two_or q (b 0) (b 1) (b 2) (b 3) (b 4) k g0 g1 g2 g3 g4 with ⟨q', b', c, hb', hc', e1, e2, ⟨f0, f1, f2, f3, f4⟩, rfl, rfl, rfl, rfl, rfl⟩ | ⟨c, hc, _, h2⟩
    · have hq : q = q' := by omega
      subst hq
      have h := three_second q (a 0) (a 1) (a 2) (a 3) (a 4) q (b 0) (b 1) (b 2) (b 3) (b 4) q (c 0) (c 1) (c 2) (c 3) (c 4) 0 true rfl (rboth_wf ha hb) (rboth_wf hb hc')
      refine .inl ⟨q, a, b, c, ha, hb, hc', ⟨rfl, rfl, rfl, rfl, rfl, rfl⟩, ⟨rfl, rfl, rfl, rfl, rfl, rfl⟩, ⟨e2, rfl, rfl, rfl, rfl, rfl⟩, ?_⟩
      rw [e2]; exact h
    · exact .inr (three_second _ _ _ _ _ _ _ _ _ _ _ _ _ _ _ _ _ _ c false (by simpa using hc) (rboth_wf ha hb) h2)
  · exact .inr (three_first _ _ _ _ _ _ _ _ _ _ _ _ _ _ _ _ _ _ c hc h2)
theorem _root_.Go.Law.Own.range {w : World} {B : Nat} {t : TypeId} {cs : List Value} (h : Own w B t cs) : w.rangeAt B 0 cs := fun j v hj => by rw [Nat.zero_add]; exact h.cell hj
set_option maxRecDepth 100000 in
set_option maxHeartbeats 1000000 in
theorem assoc_bad (n r0 r1 r2 r3 r4 m s0 s1 s2 s3 s4 k g0 g1 g2 g3 g4 : Int) (h : ∀ w : World, Calls Tryd.prog 46 #[.agg #[.int .i64 n, .int .i64 r0, .int .i64 r1, .int .i64 r2, .int .i64 r3, .int .i64 r4, .int .i64 m, .int .i64 s0, .int .i64 s1, .int .i64 s2, .int .i64 s3, .int .i64 s4, .int .i64 k, .int .i64 g0, .int .i64 g1, .int .i64 g2, .int .i64 g3, .int .i64 g4]] w fun e w' => e = .returned (.bool false) ∧ Below w.heap.size w w') (w : World) :
    Calls Tryd.prog 8 #[.agg #[.int .i64 n, .int .i64 r0, .int .i64 r1, .int .i64 r2, .int .i64 r3, .int .i64 r4, .int .i64 m, .int .i64 s0, .int .i64 s1, .int .i64 s2, .int .i64 s3, .int .i64 s4, .int .i64 k, .int .i64 g0, .int .i64 g1, .int .i64 g2, .int .i64 g3, .int .i64 g4]] w fun e w' => e = .returned (.bool true) ∧ Below w.heap.size w w' := by
  have H := Lib.hid h
  clear h
  have T0 := Lib.hid (below_alloc w (.cells #[.int .i64 n, .int .i64 r0, .int .i64 r1, .int .i64 r2, .int .i64 r3, .int .i64 r4, .int .i64 m, .int .i64 s0, .int .i64 s1, .int .i64 s2, .int .i64 s3, .int .i64 s4, .int .i64 k, .int .i64 g0, .int .i64 g1, .int .i64 g2, .int .i64 g3, .int .i64 g4] 67))
  have O0 := Lib.hid (own_new w [.int .i64 n, .int .i64 r0, .int .i64 r1, .int .i64 r2, .int .i64 r3, .int .i64 r4, .int .i64 m, .int .i64 s0, .int .i64 s1, .int .i64 s2, .int .i64 s3, .int .i64 s4, .int .i64 k, .int .i64 g0, .int .i64 g1, .int .i64 g2, .int .i64 g3, .int .i64 g4] 67)
  go_enter Tryd.func8, Tryd.ntmps8
  go_upto_region 1 with (fail)
  refine wp_region_lit ?_
  refine wpList_load_mid rfl 67 (.tmp 1) rfl w.heap.size 0 rfl [.int .i64 n, .int .i64 r0, .int .i64 r1, .int .i64 r2, .int .i64 r3, .int .i64 r4, .int .i64 m, .int .i64 s0, .int .i64 s1, .int .i64 s2, .int .i64 s3, .int .i64 s4, .int .i64 k, .int .i64 g0, .int .i64 g1, .int .i64 g2, .int .i64 g3, .int .i64 g4] _ O0.out.range Tryd.underlying67 rfl (by kernel_rfl) ?_
  go_wp2_with first
    | (go_at_call 20; refine (Go.Proofs.YtajhejdeijhccaaDoor.Ev.awake _).mono ?_; rintro e w2 ⟨rfl, hb2⟩; have t2 := Lib.hid (t1.out.trans (bel_le hb2 t1.out.size)); clear hb2)
    | (go_at_call 46; refine (H.out _).mono ?_; rintro e w1 ⟨rfl, hb1⟩; have t1 := Lib.hid (T0.out.trans (bel_le hb1 T0.out.size)); clear hb1)
  go_ret
  exact ⟨rfl, t2.out⟩
end Go.Proofs.YtajhejdeijhccaaDoor.Graph
