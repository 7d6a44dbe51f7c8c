/-
  GraphRenames answers true.
-/
import Derived.Test.YtajhejdeijhccaaDoorEvGInv
import Derived.Test.YtajhejdeijhccaaDoorEvGRefRev
namespace Go.Proofs.YtajhejdeijhccaaDoor.Graph
open Go Go.RowKit Go.Graph Go.Law
open Go.Proofs.YtajhejdeijhccaaDoor.Col

open Go.Proofs.YtajhejdeijhccaaDoor.Perm (check_ints inv_ints VecPost)
theorem ints_alloc {w : World} {v : Value} {zs : List Int} (h : IntsAt w .i64 v zs) (o : Obj) : IntsAt (w.alloc o) .i64 v zs := h.below (below_alloc w o)
def Comp (n : Nat) (a b r : Nat → Nat) : Prop := ∀ w : World, Calls Tryd.prog 21 #[.agg #[.int .i64 n, .int .i64 (a 0), .int .i64 (a 1), .int .i64 (a 2), .int .i64 (a 3), .int .i64 (a 4)], .agg #[.int .i64 n, .int .i64 (b 0), .int .i64 (b 1), .int .i64 (b 2), .int .i64 (b 3), .int .i64 (b 4)]] w fun e w' => e = .returned (.tuple #[.agg #[.int .i64 n, .int .i64 (r 0), .int .i64 (r 1), .int .i64 (r 2), .int .i64 (r 3), .int .i64 (r 4)], .int .i64 0]) ∧ Below w.heap.size w w'
def Rename (n : Nat) (a : Nat → Nat) (zs : List Int) (r : Nat → Nat) : Prop := ∀ (w : World) (v : Value), IntsAt w .i64 v zs → Calls Tryd.prog 27 #[.agg #[.int .i64 n, .int .i64 (a 0), .int .i64 (a 1), .int .i64 (a 2), .int .i64 (a 3), .int .i64 (a 4)], v] w fun e w' => e = .returned (.tuple #[.agg #[.int .i64 n, .int .i64 (r 0), .int .i64 (r 1), .int .i64 (r 2), .int .i64 (r 3), .int .i64 (r 4)], .int .i64 0]) ∧ Below w.heap.size w w'
def Turn (n : Nat) (a r : Nat → Nat) : Prop := ∀ w : World, Calls Tryd.prog 25 #[.agg #[.int .i64 n, .int .i64 (a 0), .int .i64 (a 1), .int .i64 (a 2), .int .i64 (a 3), .int .i64 (a 4)]] w fun e w' => e = .returned (.tuple #[.agg #[.int .i64 n, .int .i64 (r 0), .int .i64 (r 1), .int .i64 (r 2), .int .i64 (r 3), .int .i64 (r 4)], .int .i64 0]) ∧ Below w.heap.size w w'
theorem comp_of {n : Nat} {a b r : Nat → Nat} (ha : WF n a) (hb : WF n b) (h : prod n a b = r) : Comp n a b r := by subst h; exact product_wf ha hb
theorem rename_of {n : Nat} {a r : Nat → Nat} {zs : List Int} (ha : WF n a) (hl : zs.length = n) (hc : Go.Perm.check zs = 0) (h : ren n a (idx zs) = r) : Rename n a zs r := by subst h; exact fun w v hi => permute_ints ha zs hl hc w v hi
theorem turn_of {n : Nat} {a r : Nat → Nat} (ha : WF n a) (h : rev n a = r) : Turn n a r := by subst h; exact reverse_wf ha
theorem renames_pack {n : Nat} {a b : Nat → Nat} (ha : WF n a) (hb : WF n b) {zs : List Int} (hl : zs.length = n) (hc : Go.Perm.check zs = 0) : ∃ ab x pa pb r ra rb : Nat → Nat,
    Comp n a b ab ∧ Rename n ab zs x ∧ Rename n a zs pa ∧ Rename n b zs pb ∧ Comp n pa pb x ∧ Rename n pa (Go.Perm.mv zs (Go.Perm.ids zs.length) zs.length) a ∧ Turn n ab r ∧ Turn n a ra ∧ Turn n b rb ∧ Comp n rb ra r ∧ Turn n r ab := by
  subst hl
  have u := undo_of hc
  have hi := (Go.Perm.inverse hc).1
  have hil : (Go.Perm.mv zs (Go.Perm.ids zs.length) zs.length).length = zs.length := by rw [Go.Perm.mv_length, Go.Perm.ids_length]
  exact ⟨prod zs.length a b, ren zs.length (prod zs.length a b) (idx zs), ren zs.length a (idx zs), ren zs.length b (idx zs), rev zs.length (prod zs.length a b), rev zs.length a, rev zs.length b,
    comp_of ha hb rfl, rename_of (ha.prod hb) rfl hc rfl, rename_of ha rfl hc rfl, rename_of hb rfl hc rfl, comp_of (ha.ren u) (hb.ren u) (ren_prod ha u).symm, rename_of (ha.ren u) hil hi (ren_ren ha u),
    turn_of (ha.prod hb) rfl, turn_of ha rfl, turn_of hb rfl, comp_of hb.rev ha.rev (rev_prod zs.length a b).symm, turn_of (ha.prod hb).rev (rev_rev (ha.prod hb))⟩
set_option maxRecDepth 100000 in
set_option maxHeartbeats 1000000 in
theorem renames_first (n r0 r1 r2 r3 r4 m s0 s1 s2 s3 s4 c : Int) (v : Value) (hc : c ≠ 0) (hb : ∀ w : World, Calls Tryd.prog 47 #[.agg #[.int .i64 n, .int .i64 r0, .int .i64 r1, .int .i64 r2, .int .i64 r3, .int .i64 r4], .agg #[.int .i64 m, .int .i64 s0, .int .i64 s1, .int .i64 s2, .int .i64 s3, .int .i64 s4]] w fun e w' => e = .returned (.int .i64 c) ∧ Below w.heap.size w w') (w : World) :
    Calls Tryd.prog 9 #[.agg #[.int .i64 n, .int .i64 r0, .int .i64 r1, .int .i64 r2, .int .i64 r3, .int .i64 r4], .agg #[.int .i64 m, .int .i64 s0, .int .i64 s1, .int .i64 s2, .int .i64 s3, .int .i64 s4], v] w fun e w' => e = .returned (.bool true) ∧ Below w.heap.size w w' := by
  have e1 : (c != 0) = true := by simpa using hc
  clear hc
  have HB := Lib.hid hb
  clear hb
  have T0 := Lib.hid ((below_alloc w (.cells #[.int .i64 n, .int .i64 r0, .int .i64 r1, .int .i64 r2, .int .i64 r3, .int .i64 r4] 24)).alloc (by rw [size_alloc]; omega) (.cells #[.int .i64 m, .int .i64 s0, .int .i64 s1, .int .i64 s2, .int .i64 s3, .int .i64 s4] 24))
  go_enter Tryd.func9, Tryd.ntmps9
  go_wp2_with first
    | (go_at_call 20; refine (Go.Proofs.YtajhejdeijhccaaDoor.Ev.awake _).mono ?_; rintro e w20 ⟨rfl, hb20⟩)
    | (go_at_call 47; refine (HB.out _).mono ?_; rintro e w1 ⟨rfl, hb1⟩; have t1 := Lib.hid (T0.out.trans (bel_le hb1 T0.out.size)); clear hb1)
  go_ret
  exact ⟨rfl, t1.out.trans (bel_le hb20 t1.out.size)⟩
set_option maxRecDepth 100000 in
set_option maxHeartbeats 1000000 in
theorem renames_second {n : Nat} {a b : Nat → Nat} (ha : WF n a) (hb : WF n b) (p : Option Addr) (len cap : Nat) (hne : len ≠ n) (w : World) :
    Calls Tryd.prog 9 #[.agg #[.int .i64 n, .int .i64 (a 0), .int .i64 (a 1), .int .i64 (a 2), .int .i64 (a 3), .int .i64 (a 4)], .agg #[.int .i64 n, .int .i64 (b 0), .int .i64 (b 1), .int .i64 (b 2), .int .i64 (b 3), .int .i64 (b 4)], .slice p len cap] w fun e w' => e = .returned (.bool true) ∧ Below w.heap.size w w' := by
  have e1 : ((len : Int) != (n : Int)) = true := bne_iff_ne.2 (by omega)
  clear hne
  have HB := Lib.hid (rboth_wf ha hb)
  clear ha hb
  have T0 := Lib.hid ((below_alloc w (.cells #[.int .i64 n, .int .i64 (a 0), .int .i64 (a 1), .int .i64 (a 2), .int .i64 (a 3), .int .i64 (a 4)] 24)).alloc (by rw [size_alloc]; omega) (.cells #[.int .i64 n, .int .i64 (b 0), .int .i64 (b 1), .int .i64 (b 2), .int .i64 (b 3), .int .i64 (b 4)] 24))
  have RA := Lib.hid (row_alloc (row_new w n (a 0) (a 1) (a 2) (a 3) (a 4)) (.cells #[.int .i64 n, .int .i64 (b 0), .int .i64 (b 1), .int .i64 (b 2), .int .i64 (b 3), .int .i64 (b 4)] 24))
  go_enter Tryd.func9, Tryd.ntmps9
  go_wp2_with first
    | (go_at_call 20; refine (Go.Proofs.YtajhejdeijhccaaDoor.Ev.awake _).mono ?_; rintro e w20 ⟨rfl, hb20⟩)
    | (go_at_call 47; refine (HB.out _).mono ?_; rintro e w1 ⟨rfl, hb1⟩; have t1 := Lib.hid (T0.out.trans (bel_le hb1 T0.out.size)); have hn1 := (row_below RA.out hb1).1; clear hb1)
  go_ret
  exact ⟨rfl, t1.out.trans (bel_le hb20 t1.out.size)⟩
set_option maxRecDepth 100000 in
set_option maxHeartbeats 1000000 in
theorem renames_third {n : Nat} {a b : Nat → Nat} (ha : WF n a) (hb : WF n b) (p : Option Addr) (cap : Nat) (zs : List Int) (hne : Go.Perm.check zs ≠ 0) (w : World) (hi : IntsAt w .i64 (.slice p n cap) zs) :
    Calls Tryd.prog 9 #[.agg #[.int .i64 n, .int .i64 (a 0), .int .i64 (a 1), .int .i64 (a 2), .int .i64 (a 3), .int .i64 (a 4)], .agg #[.int .i64 n, .int .i64 (b 0), .int .i64 (b 1), .int .i64 (b 2), .int .i64 (b 3), .int .i64 (b 4)], .slice p n cap] w fun e w' => e = .returned (.bool true) ∧ Below w.heap.size w w' := by
  have e1 : (Go.Perm.check zs != 0) = true := by simpa using hne
  clear hne
  have HB := Lib.hid (rboth_wf ha hb)
  clear ha hb
  have T0 := Lib.hid ((below_alloc w (.cells #[.int .i64 n, .int .i64 (a 0), .int .i64 (a 1), .int .i64 (a 2), .int .i64 (a 3), .int .i64 (a 4)] 24)).alloc (by rw [size_alloc]; omega) (.cells #[.int .i64 n, .int .i64 (b 0), .int .i64 (b 1), .int .i64 (b 2), .int .i64 (b 3), .int .i64 (b 4)] 24))
  have RA := Lib.hid (row_alloc (row_new w n (a 0) (a 1) (a 2) (a 3) (a 4)) (.cells #[.int .i64 n, .int .i64 (b 0), .int .i64 (b 1), .int .i64 (b 2), .int .i64 (b 3), .int .i64 (b 4)] 24))
  have I0 := Lib.hid (hi.below T0.out)
  clear hi
  have HK := Lib.hid (fun (w : World) (h : IntsAt w .i64 (.slice p n cap) zs) => check_ints h)
  generalize Go.Perm.check zs = c at *
  go_enter Tryd.func9, Tryd.ntmps9
  go_wp2_with first
    | (go_at_call 20; refine (Go.Proofs.YtajhejdeijhccaaDoor.Ev.awake _).mono ?_; rintro e w20 ⟨rfl, hb20⟩)
    | (go_at_call 48; refine (HK.out _ I1.out).mono ?_; rintro e w2 ⟨rfl, rfl⟩)
    | (go_at_call 47; refine (HB.out _).mono ?_; rintro e w1 ⟨rfl, hb1⟩; have t1 := Lib.hid (T0.out.trans (bel_le hb1 T0.out.size)); have hn1 := (row_below RA.out hb1).1; have I1 := Lib.hid (I0.out.below hb1); clear hb1)
  go_ret
  exact ⟨rfl, t1.out.trans (bel_le hb20 t1.out.size)⟩
set_option maxRecDepth 100000 in
set_option maxHeartbeats 8000000 in
theorem renames_ok {n : Nat} {a b ab x pa pb r ra rb : Nat → Nat} (ha : WF n a) (hb : WF n b) (p : Option Addr) (cap : Nat) (zs ts : List Int) (hok : Go.Perm.check zs = 0) (hts : ts = Go.Perm.mv zs (Go.Perm.ids zs.length) zs.length)
    (c1 : Comp n a b ab) (c2 : Rename n ab zs x) (c3 : Rename n a zs pa) (c4 : Rename n b zs pb) (c5 : Comp n pa pb x) (c7 : Rename n pa ts a) (c8 : Turn n ab r) (c9 : Turn n a ra) (c10 : Turn n b rb) (c11 : Comp n rb ra r) (c12 : Turn n r ab) (w : World) (hi : IntsAt w .i64 (.slice p n cap) zs) :
    Calls Tryd.prog 9 #[.agg #[.int .i64 n, .int .i64 (a 0), .int .i64 (a 1), .int .i64 (a 2), .int .i64 (a 3), .int .i64 (a 4)], .agg #[.int .i64 n, .int .i64 (b 0), .int .i64 (b 1), .int .i64 (b 2), .int .i64 (b 3), .int .i64 (b 4)], .slice p n cap] w fun e w' => e = .returned (.bool true) ∧ Below w.heap.size w w' := by
  have HB := Lib.hid (rboth_wf ha hb)
  have HK := Lib.hid (fun (w : World) (h : IntsAt w .i64 (.slice p n cap) zs) => (by have := check_ints h; rw [hok] at this; exact this : Calls Tryd.prog 48 #[.slice p n cap] w fun e w' => e = .returned (.int .i64 0) ∧ w = w'))
  have C6 := Lib.hid (fun (w : World) (h : IntsAt w .i64 (.slice p n cap) zs) => (by have := inv_ints hok h; rw [← hts] at this; exact this : Calls Tryd.prog 49 #[.slice p n cap] w (VecPost ts 0 w)))
  clear ha hb hok hts
  unfold Comp at c1
  have C1 := Lib.hid c1
  clear c1
  unfold Rename at c2
  have C2 := Lib.hid c2
  clear c2
  unfold Rename at c3
  have C3 := Lib.hid c3
  clear c3
  unfold Rename at c4
  have C4 := Lib.hid c4
  clear c4
  unfold Comp at c5
  have C5 := Lib.hid c5
  clear c5
  unfold Rename at c7
  have C7 := Lib.hid c7
  clear c7
  unfold Turn at c8
  have C8 := Lib.hid c8
  clear c8
  unfold Turn at c9
  have C9 := Lib.hid c9
  clear c9
  unfold Turn at c10
  have C10 := Lib.hid c10
  clear c10
  unfold Comp at c11
  have C11 := Lib.hid c11
  clear c11
  unfold Turn at c12
  have C12 := Lib.hid c12
  clear c12
  have hex := eq_self (x 0) (x 1) (x 2) (x 3) (x 4)
  have hea := eq_self (a 0) (a 1) (a 2) (a 3) (a 4)
  have her := eq_self (r 0) (r 1) (r 2) (r 3) (r 4)
  have heab := eq_self (ab 0) (ab 1) (ab 2) (ab 3) (ab 4)
  have T00 := Lib.hid ((below_alloc w (.cells #[.int .i64 n, .int .i64 (a 0), .int .i64 (a 1), .int .i64 (a 2), .int .i64 (a 3), .int .i64 (a 4)] 24)).alloc (by rw [size_alloc]; omega) (.cells #[.int .i64 n, .int .i64 (b 0), .int .i64 (b 1), .int .i64 (b 2), .int .i64 (b 3), .int .i64 (b 4)] 24))
  have Ra_ := Lib.hid (row_alloc (row_new w n (a 0) (a 1) (a 2) (a 3) (a 4)) (.cells #[.int .i64 n, .int .i64 (b 0), .int .i64 (b 1), .int .i64 (b 2), .int .i64 (b 3), .int .i64 (b 4)] 24))
  have Rb_ := Lib.hid (row_new (w.alloc (.cells #[.int .i64 n, .int .i64 (a 0), .int .i64 (a 1), .int .i64 (a 2), .int .i64 (a 3), .int .i64 (a 4)] 24)) n (b 0) (b 1) (b 2) (b 3) (b 4))
  rw [size_alloc] at Rb_
  have I_ := Lib.hid (hi.below T00.out)
  clear hi
  go_enter Tryd.func9, Tryd.ntmps9
  go_wp2_with first
    | (go_at_call 20; refine (Go.Proofs.YtajhejdeijhccaaDoor.Ev.awake _).mono ?_; rintro e w20 ⟨rfl, hb20⟩)
    | (go_at_call 25; (with_reducible refine (C12.out _).mono ?_); rintro e w12 ⟨rfl, hb12⟩; have T12 := Lib.hid ((T11.out.trans (bel_le hb12 T11.out.size)).alloc (by have := T11.out.size; have := hb12.size; omega) (.cells #[.int .i64 n, .int .i64 (ab 0), .int .i64 (ab 1), .int .i64 (ab 2), .int .i64 (ab 3), .int .i64 (ab 4)] 24)); have Rab12 := Lib.hid (row_alloc (row_below Rab11.out hb12) (.cells #[.int .i64 n, .int .i64 (ab 0), .int .i64 (ab 1), .int .i64 (ab 2), .int .i64 (ab 3), .int .i64 (ab 4)] 24)); have Rr1_12 := Lib.hid (row_alloc (row_below Rr1_11.out hb12) (.cells #[.int .i64 n, .int .i64 (ab 0), .int .i64 (ab 1), .int .i64 (ab 2), .int .i64 (ab 3), .int .i64 (ab 4)] 24)); have Rr2_12 := Lib.hid (row_alloc (row_below Rr2_11.out hb12) (.cells #[.int .i64 n, .int .i64 (ab 0), .int .i64 (ab 1), .int .i64 (ab 2), .int .i64 (ab 3), .int .i64 (ab 4)] 24)); have Rab2_12 := Lib.hid (row_new w12 n (ab 0) (ab 1) (ab 2) (ab 3) (ab 4)); obtain ⟨abq0, abq1, abq2, abq3, abq4, abq5⟩ := Rab12.out; obtain ⟨r1q0, r1q1, r1q2, r1q3, r1q4, r1q5⟩ := Rr1_12.out; obtain ⟨r2q0, r2q1, r2q2, r2q3, r2q4, r2q5⟩ := Rr2_12.out; obtain ⟨ab2q0, ab2q1, ab2q2, ab2q3, ab2q4, ab2q5⟩ := Rab2_12.out; clear hb12)
    | (go_at_call 21; (with_reducible refine (C11.out _).mono ?_); rintro e w11 ⟨rfl, hb11⟩; have T11 := Lib.hid ((T10.out.trans (bel_le hb11 T10.out.size)).alloc (by have := T10.out.size; have := hb11.size; omega) (.cells #[.int .i64 n, .int .i64 (r 0), .int .i64 (r 1), .int .i64 (r 2), .int .i64 (r 3), .int .i64 (r 4)] 24)); have Rab11 := Lib.hid (row_alloc (row_below Rab10.out hb11) (.cells #[.int .i64 n, .int .i64 (r 0), .int .i64 (r 1), .int .i64 (r 2), .int .i64 (r 3), .int .i64 (r 4)] 24)); have Rr1_11 := Lib.hid (row_alloc (row_below Rr1_10.out hb11) (.cells #[.int .i64 n, .int .i64 (r 0), .int .i64 (r 1), .int .i64 (r 2), .int .i64 (r 3), .int .i64 (r 4)] 24)); have Rr2_11 := Lib.hid (row_new w11 n (r 0) (r 1) (r 2) (r 3) (r 4)); obtain ⟨r1q0, r1q1, r1q2, r1q3, r1q4, r1q5⟩ := Rr1_11.out; clear hb11)
    | (go_at_call 25; (with_reducible refine (C10.out _).mono ?_); rintro e w10 ⟨rfl, hb10⟩; have T10 := Lib.hid ((T9.out.trans (bel_le hb10 T9.out.size)).alloc (by have := T9.out.size; have := hb10.size; omega) (.cells #[.int .i64 n, .int .i64 (rb 0), .int .i64 (rb 1), .int .i64 (rb 2), .int .i64 (rb 3), .int .i64 (rb 4)] 24)); have Rab10 := Lib.hid (row_alloc (row_below Rab9.out hb10) (.cells #[.int .i64 n, .int .i64 (rb 0), .int .i64 (rb 1), .int .i64 (rb 2), .int .i64 (rb 3), .int .i64 (rb 4)] 24)); have Rr1_10 := Lib.hid (row_alloc (row_below Rr1_9.out hb10) (.cells #[.int .i64 n, .int .i64 (rb 0), .int .i64 (rb 1), .int .i64 (rb 2), .int .i64 (rb 3), .int .i64 (rb 4)] 24)); have Rra10 := Lib.hid (row_alloc (row_below Rra9.out hb10) (.cells #[.int .i64 n, .int .i64 (rb 0), .int .i64 (rb 1), .int .i64 (rb 2), .int .i64 (rb 3), .int .i64 (rb 4)] 24)); have Rrb10 := Lib.hid (row_new w10 n (rb 0) (rb 1) (rb 2) (rb 3) (rb 4)); obtain ⟨raq0, raq1, raq2, raq3, raq4, raq5⟩ := Rra10.out; obtain ⟨rbq0, rbq1, rbq2, rbq3, rbq4, rbq5⟩ := Rrb10.out; clear hb10)
    | (go_at_call 25; (with_reducible refine (C9.out _).mono ?_); rintro e w9 ⟨rfl, hb9⟩; have T9 := Lib.hid ((T8.out.trans (bel_le hb9 T8.out.size)).alloc (by have := T8.out.size; have := hb9.size; omega) (.cells #[.int .i64 n, .int .i64 (ra 0), .int .i64 (ra 1), .int .i64 (ra 2), .int .i64 (ra 3), .int .i64 (ra 4)] 24)); have Rb9 := Lib.hid (row_alloc (row_below Rb8.out hb9) (.cells #[.int .i64 n, .int .i64 (ra 0), .int .i64 (ra 1), .int .i64 (ra 2), .int .i64 (ra 3), .int .i64 (ra 4)] 24)); have Rab9 := Lib.hid (row_alloc (row_below Rab8.out hb9) (.cells #[.int .i64 n, .int .i64 (ra 0), .int .i64 (ra 1), .int .i64 (ra 2), .int .i64 (ra 3), .int .i64 (ra 4)] 24)); have Rr1_9 := Lib.hid (row_alloc (row_below Rr1_8.out hb9) (.cells #[.int .i64 n, .int .i64 (ra 0), .int .i64 (ra 1), .int .i64 (ra 2), .int .i64 (ra 3), .int .i64 (ra 4)] 24)); have Rra9 := Lib.hid (row_new w9 n (ra 0) (ra 1) (ra 2) (ra 3) (ra 4)); obtain ⟨bq0, bq1, bq2, bq3, bq4, bq5⟩ := Rb9.out; clear hb9)
    | (go_at_call 25; (with_reducible refine (C8.out _).mono ?_); rintro e w8 ⟨rfl, hb8⟩; have T8 := Lib.hid ((T7.out.trans (bel_le hb8 T7.out.size)).alloc (by have := T7.out.size; have := hb8.size; omega) (.cells #[.int .i64 n, .int .i64 (r 0), .int .i64 (r 1), .int .i64 (r 2), .int .i64 (r 3), .int .i64 (r 4)] 24)); have Ra8 := Lib.hid (row_alloc (row_below Ra7.out hb8) (.cells #[.int .i64 n, .int .i64 (r 0), .int .i64 (r 1), .int .i64 (r 2), .int .i64 (r 3), .int .i64 (r 4)] 24)); have Rb8 := Lib.hid (row_alloc (row_below Rb7.out hb8) (.cells #[.int .i64 n, .int .i64 (r 0), .int .i64 (r 1), .int .i64 (r 2), .int .i64 (r 3), .int .i64 (r 4)] 24)); have Rab8 := Lib.hid (row_alloc (row_below Rab7.out hb8) (.cells #[.int .i64 n, .int .i64 (r 0), .int .i64 (r 1), .int .i64 (r 2), .int .i64 (r 3), .int .i64 (r 4)] 24)); have Rr1_8 := Lib.hid (row_new w8 n (r 0) (r 1) (r 2) (r 3) (r 4)); obtain ⟨aq0, aq1, aq2, aq3, aq4, aq5⟩ := Ra8.out; clear hb8)
    | (go_at_call 27; (with_reducible refine (C7.out _ _ J6.out).mono ?_); rintro e w7 ⟨rfl, hb7⟩; have T7 := Lib.hid ((T6.out.trans (bel_le hb7 T6.out.size)).alloc (by have := T6.out.size; have := hb7.size; omega) (.cells #[.int .i64 n, .int .i64 (a 0), .int .i64 (a 1), .int .i64 (a 2), .int .i64 (a 3), .int .i64 (a 4)] 24)); have Ra7 := Lib.hid (row_alloc (row_below Ra6.out hb7) (.cells #[.int .i64 n, .int .i64 (a 0), .int .i64 (a 1), .int .i64 (a 2), .int .i64 (a 3), .int .i64 (a 4)] 24)); have Rb7 := Lib.hid (row_alloc (row_below Rb6.out hb7) (.cells #[.int .i64 n, .int .i64 (a 0), .int .i64 (a 1), .int .i64 (a 2), .int .i64 (a 3), .int .i64 (a 4)] 24)); have Rab7 := Lib.hid (row_alloc (row_below Rab6.out hb7) (.cells #[.int .i64 n, .int .i64 (a 0), .int .i64 (a 1), .int .i64 (a 2), .int .i64 (a 3), .int .i64 (a 4)] 24)); have Rx1_7 := Lib.hid (row_alloc (row_below Rx1_6.out hb7) (.cells #[.int .i64 n, .int .i64 (a 0), .int .i64 (a 1), .int .i64 (a 2), .int .i64 (a 3), .int .i64 (a 4)] 24)); have Rx2_7 := Lib.hid (row_alloc (row_below Rx2_6.out hb7) (.cells #[.int .i64 n, .int .i64 (a 0), .int .i64 (a 1), .int .i64 (a 2), .int .i64 (a 3), .int .i64 (a 4)] 24)); have Ra2_7 := Lib.hid (row_new w7 n (a 0) (a 1) (a 2) (a 3) (a 4)); obtain ⟨aq0, aq1, aq2, aq3, aq4, aq5⟩ := Ra7.out; obtain ⟨abq0, abq1, abq2, abq3, abq4, abq5⟩ := Rab7.out; obtain ⟨x1q0, x1q1, x1q2, x1q3, x1q4, x1q5⟩ := Rx1_7.out; obtain ⟨x2q0, x2q1, x2q2, x2q3, x2q4, x2q5⟩ := Rx2_7.out; obtain ⟨a2q0, a2q1, a2q2, a2q3, a2q4, a2q5⟩ := Ra2_7.out; clear hb7)
    | (go_at_call 49; refine (C6.out _ I5.out).mono ?_; rintro e w6 ⟨vi, rfl, hb6, hI6⟩; have T6 := Lib.hid (T5.out.trans (bel_le hb6 T5.out.size)); have J6 := Lib.hid hI6; have Ra6 := Lib.hid (row_below Ra5.out hb6); have Rb6 := Lib.hid (row_below Rb5.out hb6); have Rab6 := Lib.hid (row_below Rab5.out hb6); have Rx1_6 := Lib.hid (row_below Rx1_5.out hb6); have Rpa6 := Lib.hid (row_below Rpa5.out hb6); have Rx2_6 := Lib.hid (row_below Rx2_5.out hb6); obtain ⟨paq0, paq1, paq2, paq3, paq4, paq5⟩ := Rpa6.out; clear hb6 hI6)
    | (go_at_call 21; (with_reducible refine (C5.out _).mono ?_); rintro e w5 ⟨rfl, hb5⟩; have T5 := Lib.hid ((T4.out.trans (bel_le hb5 T4.out.size)).alloc (by have := T4.out.size; have := hb5.size; omega) (.cells #[.int .i64 n, .int .i64 (x 0), .int .i64 (x 1), .int .i64 (x 2), .int .i64 (x 3), .int .i64 (x 4)] 24)); have I5 := Lib.hid (ints_alloc (I4.out.below hb5) (.cells #[.int .i64 n, .int .i64 (x 0), .int .i64 (x 1), .int .i64 (x 2), .int .i64 (x 3), .int .i64 (x 4)] 24)); have Ra5 := Lib.hid (row_alloc (row_below Ra4.out hb5) (.cells #[.int .i64 n, .int .i64 (x 0), .int .i64 (x 1), .int .i64 (x 2), .int .i64 (x 3), .int .i64 (x 4)] 24)); have Rb5 := Lib.hid (row_alloc (row_below Rb4.out hb5) (.cells #[.int .i64 n, .int .i64 (x 0), .int .i64 (x 1), .int .i64 (x 2), .int .i64 (x 3), .int .i64 (x 4)] 24)); have Rab5 := Lib.hid (row_alloc (row_below Rab4.out hb5) (.cells #[.int .i64 n, .int .i64 (x 0), .int .i64 (x 1), .int .i64 (x 2), .int .i64 (x 3), .int .i64 (x 4)] 24)); have Rx1_5 := Lib.hid (row_alloc (row_below Rx1_4.out hb5) (.cells #[.int .i64 n, .int .i64 (x 0), .int .i64 (x 1), .int .i64 (x 2), .int .i64 (x 3), .int .i64 (x 4)] 24)); have Rpa5 := Lib.hid (row_alloc (row_below Rpa4.out hb5) (.cells #[.int .i64 n, .int .i64 (x 0), .int .i64 (x 1), .int .i64 (x 2), .int .i64 (x 3), .int .i64 (x 4)] 24)); have Rx2_5 := Lib.hid (row_new w5 n (x 0) (x 1) (x 2) (x 3) (x 4)); clear hb5)
    | (go_at_call 27; (with_reducible refine (C4.out _ _ I3.out).mono ?_); rintro e w4 ⟨rfl, hb4⟩; have T4 := Lib.hid ((T3.out.trans (bel_le hb4 T3.out.size)).alloc (by have := T3.out.size; have := hb4.size; omega) (.cells #[.int .i64 n, .int .i64 (pb 0), .int .i64 (pb 1), .int .i64 (pb 2), .int .i64 (pb 3), .int .i64 (pb 4)] 24)); have I4 := Lib.hid (ints_alloc (I3.out.below hb4) (.cells #[.int .i64 n, .int .i64 (pb 0), .int .i64 (pb 1), .int .i64 (pb 2), .int .i64 (pb 3), .int .i64 (pb 4)] 24)); have Ra4 := Lib.hid (row_alloc (row_below Ra3.out hb4) (.cells #[.int .i64 n, .int .i64 (pb 0), .int .i64 (pb 1), .int .i64 (pb 2), .int .i64 (pb 3), .int .i64 (pb 4)] 24)); have Rb4 := Lib.hid (row_alloc (row_below Rb3.out hb4) (.cells #[.int .i64 n, .int .i64 (pb 0), .int .i64 (pb 1), .int .i64 (pb 2), .int .i64 (pb 3), .int .i64 (pb 4)] 24)); have Rab4 := Lib.hid (row_alloc (row_below Rab3.out hb4) (.cells #[.int .i64 n, .int .i64 (pb 0), .int .i64 (pb 1), .int .i64 (pb 2), .int .i64 (pb 3), .int .i64 (pb 4)] 24)); have Rx1_4 := Lib.hid (row_alloc (row_below Rx1_3.out hb4) (.cells #[.int .i64 n, .int .i64 (pb 0), .int .i64 (pb 1), .int .i64 (pb 2), .int .i64 (pb 3), .int .i64 (pb 4)] 24)); have Rpa4 := Lib.hid (row_alloc (row_below Rpa3.out hb4) (.cells #[.int .i64 n, .int .i64 (pb 0), .int .i64 (pb 1), .int .i64 (pb 2), .int .i64 (pb 3), .int .i64 (pb 4)] 24)); have Rpb4 := Lib.hid (row_new w4 n (pb 0) (pb 1) (pb 2) (pb 3) (pb 4)); obtain ⟨paq0, paq1, paq2, paq3, paq4, paq5⟩ := Rpa4.out; obtain ⟨pbq0, pbq1, pbq2, pbq3, pbq4, pbq5⟩ := Rpb4.out; clear hb4)
    | (go_at_call 27; (with_reducible refine (C3.out _ _ I2.out).mono ?_); rintro e w3 ⟨rfl, hb3⟩; have T3 := Lib.hid ((T2.out.trans (bel_le hb3 T2.out.size)).alloc (by have := T2.out.size; have := hb3.size; omega) (.cells #[.int .i64 n, .int .i64 (pa 0), .int .i64 (pa 1), .int .i64 (pa 2), .int .i64 (pa 3), .int .i64 (pa 4)] 24)); have I3 := Lib.hid (ints_alloc (I2.out.below hb3) (.cells #[.int .i64 n, .int .i64 (pa 0), .int .i64 (pa 1), .int .i64 (pa 2), .int .i64 (pa 3), .int .i64 (pa 4)] 24)); have Ra3 := Lib.hid (row_alloc (row_below Ra2.out hb3) (.cells #[.int .i64 n, .int .i64 (pa 0), .int .i64 (pa 1), .int .i64 (pa 2), .int .i64 (pa 3), .int .i64 (pa 4)] 24)); have Rb3 := Lib.hid (row_alloc (row_below Rb2.out hb3) (.cells #[.int .i64 n, .int .i64 (pa 0), .int .i64 (pa 1), .int .i64 (pa 2), .int .i64 (pa 3), .int .i64 (pa 4)] 24)); have Rab3 := Lib.hid (row_alloc (row_below Rab2.out hb3) (.cells #[.int .i64 n, .int .i64 (pa 0), .int .i64 (pa 1), .int .i64 (pa 2), .int .i64 (pa 3), .int .i64 (pa 4)] 24)); have Rx1_3 := Lib.hid (row_alloc (row_below Rx1_2.out hb3) (.cells #[.int .i64 n, .int .i64 (pa 0), .int .i64 (pa 1), .int .i64 (pa 2), .int .i64 (pa 3), .int .i64 (pa 4)] 24)); have Rpa3 := Lib.hid (row_new w3 n (pa 0) (pa 1) (pa 2) (pa 3) (pa 4)); obtain ⟨bq0, bq1, bq2, bq3, bq4, bq5⟩ := Rb3.out; clear hb3)
    | (go_at_call 27; (with_reducible refine (C2.out _ _ I1.out).mono ?_); rintro e w2 ⟨rfl, hb2⟩; have T2 := Lib.hid ((T1.out.trans (bel_le hb2 T1.out.size)).alloc (by have := T1.out.size; have := hb2.size; omega) (.cells #[.int .i64 n, .int .i64 (x 0), .int .i64 (x 1), .int .i64 (x 2), .int .i64 (x 3), .int .i64 (x 4)] 24)); have I2 := Lib.hid (ints_alloc (I1.out.below hb2) (.cells #[.int .i64 n, .int .i64 (x 0), .int .i64 (x 1), .int .i64 (x 2), .int .i64 (x 3), .int .i64 (x 4)] 24)); have Ra2 := Lib.hid (row_alloc (row_below Ra1.out hb2) (.cells #[.int .i64 n, .int .i64 (x 0), .int .i64 (x 1), .int .i64 (x 2), .int .i64 (x 3), .int .i64 (x 4)] 24)); have Rb2 := Lib.hid (row_alloc (row_below Rb1.out hb2) (.cells #[.int .i64 n, .int .i64 (x 0), .int .i64 (x 1), .int .i64 (x 2), .int .i64 (x 3), .int .i64 (x 4)] 24)); have Rab2 := Lib.hid (row_alloc (row_below Rab1.out hb2) (.cells #[.int .i64 n, .int .i64 (x 0), .int .i64 (x 1), .int .i64 (x 2), .int .i64 (x 3), .int .i64 (x 4)] 24)); have Rx1_2 := Lib.hid (row_new w2 n (x 0) (x 1) (x 2) (x 3) (x 4)); obtain ⟨aq0, aq1, aq2, aq3, aq4, aq5⟩ := Ra2.out; clear hb2)
    | (go_at_call 21; (with_reducible refine (C1.out _).mono ?_); rintro e w1 ⟨rfl, hb1⟩; have T1 := Lib.hid ((T0.out.trans (bel_le hb1 T0.out.size)).alloc (by have := T0.out.size; have := hb1.size; omega) (.cells #[.int .i64 n, .int .i64 (ab 0), .int .i64 (ab 1), .int .i64 (ab 2), .int .i64 (ab 3), .int .i64 (ab 4)] 24)); have I1 := Lib.hid (ints_alloc (I0.out.below hb1) (.cells #[.int .i64 n, .int .i64 (ab 0), .int .i64 (ab 1), .int .i64 (ab 2), .int .i64 (ab 3), .int .i64 (ab 4)] 24)); have Ra1 := Lib.hid (row_alloc (row_below Ra0.out hb1) (.cells #[.int .i64 n, .int .i64 (ab 0), .int .i64 (ab 1), .int .i64 (ab 2), .int .i64 (ab 3), .int .i64 (ab 4)] 24)); have Rb1 := Lib.hid (row_alloc (row_below Rb0.out hb1) (.cells #[.int .i64 n, .int .i64 (ab 0), .int .i64 (ab 1), .int .i64 (ab 2), .int .i64 (ab 3), .int .i64 (ab 4)] 24)); have Rab1 := Lib.hid (row_new w1 n (ab 0) (ab 1) (ab 2) (ab 3) (ab 4)); obtain ⟨abq0, abq1, abq2, abq3, abq4, abq5⟩ := Rab1.out; clear hb1)
    | (go_at_call 48; refine (HK.out _ I0.out).mono ?_; rintro e w02 ⟨rfl, rfl⟩)
    | (go_at_call 47; refine (HB.out _).mono ?_; rintro e w0 ⟨rfl, hb0⟩; have T0 := Lib.hid (T00.out.trans (bel_le hb0 T00.out.size)); have Ra0 := Lib.hid (row_below Ra_.out hb0); have Rb0 := Lib.hid (row_below Rb_.out hb0); have I0 := Lib.hid (I_.out.below hb0); obtain ⟨a0, a1, a2, a3, a4, a5⟩ := Ra0.out; obtain ⟨b0, b1, b2, b3, b4, b5⟩ := Rb0.out; clear hb0)
  go_ret
  exact ⟨rfl, T12.out.trans (bel_le hb20 T12.out.size)⟩
theorem graphRenames_walk {W : World} (n r0 r1 r2 r3 r4 m s0 s1 s2 s3 s4 : Int) {v : Value} {zs : List Int} (h : IntsAt W .i64 v zs) : Calls Tryd.prog 9 #[.agg #[.int .i64 n, .int .i64 r0, .int .i64 r1, .int .i64 r2, .int .i64 r3, .int .i64 r4], .agg #[.int .i64 m, .int .i64 s0, .int .i64 s1, .int .i64 s2, .int .i64 s3, .int .i64 s4], v] W fun e w' => e = .returned (.bool true) ∧ Below W.heap.size W w' := by
  rcases two_or n r0 r1 r2 r3 r4 m s0 s1 s2 s3 s4 with ⟨k, a, b, ha, hb, rfl, rfl, ⟨rfl, rfl, rfl, rfl, rfl⟩, rfl, rfl, rfl, rfl, rfl⟩ | ⟨c, hc, _, h2⟩
  · have h' := h
    obtain ⟨p, cap, rfl, h1, h2, h0⟩ := h
    by_cases hl : zs.length = k
    · by_cases hck : Go.Perm.check zs = 0
      · obtain ⟨ab, x, pa, pb, r, ra, rb, c1, c2, c3, c4, c5, c7, c8, c9, c10, c11, c12⟩ := renames_pack ha hb hl hck
        subst hl
        exact renames_ok ha hb p cap zs _ hck rfl c1 c2 c3 c4 c5 c7 c8 c9 c10 c11 c12 W h'
      · subst hl
        exact renames_third ha hb p cap zs hck W h'
    · exact renames_second ha hb p _ cap hl W
  · exact renames_first _ _ _ _ _ _ _ _ _ _ _ _ c v hc h2 W
end Go.Proofs.YtajhejdeijhccaaDoor.Graph
