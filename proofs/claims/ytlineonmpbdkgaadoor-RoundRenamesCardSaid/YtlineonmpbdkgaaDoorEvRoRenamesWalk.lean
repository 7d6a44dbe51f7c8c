/-
  RoundRenames answers true.
-/
import Derived.Test.YtlineonmpbdkgaaDoorEvRoRenamed
import Derived.Test.YtlineonmpbdkgaaDoorEvRoJoinsWalk
namespace Go.Proofs.YtlineonmpbdkgaaDoor.Word
open Go Go.RowKit Go.Graph Go.Law Go.Ev
open Go.Proofs.YtlineonmpbdkgaaDoor.Graph
open Go.Proofs.YtlineonmpbdkgaaDoor.Ev (tabs Len awake)
open Go.Proofs.YtlineonmpbdkgaaDoor.Col (ret_int ret_bool)
open Go.Proofs.YtlineonmpbdkgaaDoor.Perm (Quiet check_ints rcheck_ints set_ints setR comp_ints compR times_ints)
open Go.Perm (img check_ok comp comp_length comp_ok)

set_option maxRecDepth 100000 in
set_option maxHeartbeats 2000000 in
theorem same_any {W : World} {u v : Value} {L : List Rd} (hu : WordAt W u L) (hv : WordAt W v L) (hL : L.length ≤ 1024) : Calls Tryd.prog 33 #[u, v] W fun e w' => e = .returned (.bool true) ∧ Below W.heap.size W w' := by
  obtain ⟨a, cap, b, off, rfl, ha, _, hc, _⟩ := hu
  obtain ⟨a', cap', b', off', rfl, ha', _, hc', _⟩ := hv
  have HA := Lib.hid ha
  have HA' := Lib.hid ha'
  have HC := Lib.hid hc
  have HC' := Lib.hid hc'
  clear ha ha' hc hc'
  generalize L.length = len at *
  go_enter Tryd.func33, Tryd.ntmps33
  go_wp2
  go_loopw [5] (fun i wr => ∃ k m : Nat, k ≤ len ∧ i = .int .i64 k ∧ wr = W.drewN m) (fun i _ => len - (intOf i).toNat)
  case atStart => exact ⟨0, 0, Nat.zero_le _, rfl, rfl⟩
  case round =>
    obtain ⟨k, m, hk, rfl, rfl⟩ := hrel
    by_cases hlt : k < len
    · obtain rfl := HA.out (by omega)
      obtain rfl := HA'.out (by omega)
      have hx := HC.out k hlt
      have hy := HC'.out k hlt
      obtain ⟨x, e⟩ : ∃ x, rd L k = x := ⟨_, rfl⟩
      rw [e] at hx hy
      clear e
      have c0 := hx 0 (by omega)
      have c1 := hx 1 (by omega)
      have c2 := hx 2 (by omega)
      have c3 := hx 3 (by omega)
      have c4 := hx 4 (by omega)
      have c5 := hx 5 (by omega)
      have c6 := hx 6 (by omega)
      have d0 := hy 0 (by omega)
      have d1 := hy 1 (by omega)
      have d2 := hy 2 (by omega)
      have d3 := hy 3 (by omega)
      have d4 := hy 4 (by omega)
      have d5 := hy 5 (by omega)
      have d6 := hy 6 (by omega)
      simp only [Rd.vs, List.getD_cons_zero, List.getD_cons_succ, Nat.add_zero] at c0 c1 c2 c3 c4 c5 c6 d0 d1 d2 d3 d4 d5 d6
      clear hx hy
      obtain ⟨xn, x0, x1, x2, x3, x4, xf⟩ := x
      simp only at c0 c1 c2 c3 c4 c5 c6 d0 d1 d2 d3 d4 d5 d6
      have he9 := arr_known (r0 := x0) (r1 := x1) (r2 := x2) (r3 := x3) (r4 := x4) (s0 := x0) (s1 := x1) (s2 := x2) (s3 := x3) (s4 := x4) (d := true) (by simp) 9997
      have he8 := arr_known (r0 := x0) (r1 := x1) (r2 := x2) (r3 := x3) (r4 := x4) (s0 := x0) (s1 := x1) (s2 := x2) (s3 := x3) (s4 := x4) (d := true) (by simp) 9996
      have he7 := arr_known (r0 := x0) (r1 := x1) (r2 := x2) (r3 := x3) (r4 := x4) (s0 := x0) (s1 := x1) (s2 := x2) (s3 := x3) (s4 := x4) (d := true) (by simp) 9995
      go_wp2
      go_quiet (fail)
      go_wp2
      exact ⟨⟨k + 1, m + nq, by omega, by go_num, rfl⟩, by simp [intOf]; omega⟩
    · obtain rfl : k = len := by omega
      go_wp2
      go_ret
      exact ⟨rfl, below_drewN (Below.refl _ _) _⟩
theorem rcheck_below {w : World} {v : Value} {zs : List Int} (h : IntsAt w .i64 v zs) : Calls Tryd.prog 27 #[v] w fun e w' => e = .returned (.int .i64 (Go.Perm.check zs)) ∧ Below w.heap.size w w' :=
  (rcheck_ints h).mono fun e w' ⟨he, m, hw⟩ => ⟨he, by rw [hw]; exact below_drewN (Below.refl _ _) m⟩
theorem comp_main {w : World} {v u : Value} {x y : List Int} {len : Nat} (h : IntsAt w .i64 v x) (g : IntsAt w .i64 u y) (hx : Go.Perm.check x = 0) (hy : Go.Perm.check y = 0) (lx : x.length = len) (ly : y.length = len) :
    Calls Tryd.prog 29 #[v, u] w fun e w' => ∃ p cap, e = .returned (.tuple #[.slice p len cap, .int .i64 0]) ∧ Below w.heap.size w w' ∧ IntsAt w' .i64 (.slice p len cap) (comp x y) := by
  refine (comp_ints h g).mono fun e w' ⟨z, he, hb, hi⟩ => ?_
  unfold compR at he hi
  rw [if_neg (by simpa using hx), if_neg (by simpa using hy), if_neg (by omega)] at he hi
  have hi' := hi
  obtain ⟨p, cap, rfl, _⟩ := hi'
  have hl : (comp x y).length = len := by rw [comp_length]; exact ly
  simp only at he hi
  rw [hl] at he hi
  exact ⟨p, cap, he, hb, hi⟩
theorem times_main {w : World} {v u : Value} {x y : List Int} {len : Nat} (h : IntsAt w .i64 v x) (g : IntsAt w .i64 u y) (hx : Go.Perm.check x = 0) (hy : Go.Perm.check y = 0) (lx : x.length = len) (ly : y.length = len) :
    Calls Tryd.prog 30 #[v, u] w fun e w' => ∃ z, e = .returned z ∧ Below w.heap.size w w' ∧ IntsAt w' .i64 z (comp x y) := by
  obtain ⟨h1, h5, hf, _⟩ := check_ok hy
  obtain ⟨g1, g5, _, _⟩ := check_ok hx
  exact times_ints h g (by omega) g1 g5 (by rw [lx, ← ly]; exact hf)
theorem permute_main {w : World} {pv : Value} {zs : List Int} {len : Nat} {a : Nat → Nat} (hw : WF len a) (hz : Go.Perm.check zs = 0) (hl : zs.length = len) (h : IntsAt w .i64 pv zs) :
    Calls Tryd.prog 31 #[.agg #[.int .i64 len, .int .i64 (a 0 : Nat), .int .i64 (a 1 : Nat), .int .i64 (a 2 : Nat), .int .i64 (a 3 : Nat), .int .i64 (a 4 : Nat)], pv] w fun e w' => e = .returned (.tuple #[.agg #[.int .i64 len, .int .i64 (ren len a (idx zs) 0 : Nat), .int .i64 (ren len a (idx zs) 1 : Nat), .int .i64 (ren len a (idx zs) 2 : Nat), .int .i64 (ren len a (idx zs) 3 : Nat), .int .i64 (ren len a (idx zs) 4 : Nat)], .int .i64 0]) ∧ Below w.heap.size w w' := by
  subst hl
  have hi := h
  obtain ⟨hp1, hp5, _, _⟩ := check_ok hz
  obtain ⟨p, cap, rfl, _⟩ := hi
  obtain ⟨b, off, rfl, e1, e2, e3, e4⟩ := ints_form h (by omega)
  refine permute_wf hw b off cap zs e1 hz e2 w e3 e4 fun w' h' => ?_
  have hk := check_ints (w := w') (v := .slice (some ⟨b, off, none⟩) zs.length cap) (zs := zs) (by
    obtain ⟨_, _, e, g1, g2, _⟩ := h
    cases e
    exact ⟨_, _, rfl, by omega, g2, .inr ⟨b, off, rfl, h'.lt (by omega), h'⟩⟩)
  rw [hz] at hk
  exact hk
theorem set_main {w : World} {pv : Value} {zs : List Int} {len S : Nat} (hl : zs.length = len) (hz : Go.Perm.check zs = 0) (hS : S < 2 ^ len) (h : IntsAt w .i64 pv zs) :
    Calls Tryd.prog 32 #[pv, .int .i64 S] w fun e w' => e = .returned (.tuple #[.int .i64 (img S zs 0 0 : Nat), .int .i64 0]) ∧ Below w.heap.size w w' := by
  have := set_ints h (S : Int)
  unfold setR at this
  have hlt : ¬ ((S : Int) < 0 ∨ 2 ^ zs.length ≤ (S : Int)) := by
    have : (S : Int) < 2 ^ zs.length := by rw [hl]; exact_mod_cast hS
    omega
  rw [if_neg (by omega), if_neg hlt, Int.toNat_natCast] at this
  exact this.mono fun e w' ⟨he, hw⟩ => ⟨he, by rw [← hw]; exact Below.refl _ _⟩
set_option maxRecDepth 100000 in
set_option maxHeartbeats 1000000 in
theorem ren_e1 {w : World} {e0 e1 : TypeId} (hH : Held w (tabs e0 e1)) (hM : Len w) (v : Value) (p q : Option Addr) (len len2 cap cap2 : Nat) (hn : len = 0) :
    Calls Tryd.prog 8 #[v, .slice p len cap, .slice q len2 cap2] w fun e w' => e = .returned (.bool true) ∧ Below w.heap.size w w' := by
  have HH := Lib.hid hH
  have HM := Lib.hid hM
  clear hH hM
  have T0 := Lib.hid (Below.refl w.heap.size w)
  subst hn
  go_enter Tryd.func8, Tryd.ntmps8
  go_wp2_with first
    | (go_at_call 13; refine (still_true HH.out HM.out T0.out).mono ?_; rintro e w9 ⟨rfl, hb⟩; have TZ := Lib.hid (T0.out.trans (bel_le hb T0.out.size)); clear hb)
  go_ret
  exact ⟨rfl, TZ.out⟩
set_option maxRecDepth 100000 in
set_option maxHeartbeats 1000000 in
theorem ren_e2 {w : World} {e0 e1 : TypeId} (hH : Held w (tabs e0 e1)) (hM : Len w) (v : Value) (p q : Option Addr) (len len2 cap cap2 : Nat) (hn : len ≠ 0) (he : len ≠ len2) :
    Calls Tryd.prog 8 #[v, .slice p len cap, .slice q len2 cap2] w fun e w' => e = .returned (.bool true) ∧ Below w.heap.size w w' := by
  have HH := Lib.hid hH
  have HM := Lib.hid hM
  clear hH hM
  have T0 := Lib.hid (Below.refl w.heap.size w)
  have n0 : ((len : Int) == 0) = false := by simpa using hn
  have n1 : ((len : Int) != (len2 : Int)) = true := by simp only [bne_iff_ne, ne_eq]; omega
  clear hn he
  go_enter Tryd.func8, Tryd.ntmps8
  go_wp2_with first
    | (go_at_call 13; refine (still_true HH.out HM.out T0.out).mono ?_; rintro e w9 ⟨rfl, hb⟩; have TZ := Lib.hid (T0.out.trans (bel_le hb T0.out.size)); clear hb)
  go_ret
  exact ⟨rfl, TZ.out⟩
set_option maxRecDepth 100000 in
set_option maxHeartbeats 1000000 in
theorem ren_e3 {w : World} {e0 e1 : TypeId} (hH : Held w (tabs e0 e1)) (hM : Len w) (v : Value) (p q : Option Addr) (len len2 cap cap2 : Nat) (hn : len ≠ 0) (he : len = len2) (c : Int) (hc : c ≠ 0) (h1 : ∀ w1, Below w.heap.size w w1 → Calls Tryd.prog 27 #[.slice p len cap] w1 fun e w' => e = .returned (.int .i64 c) ∧ Below w1.heap.size w1 w') :
    Calls Tryd.prog 8 #[v, .slice p len cap, .slice q len2 cap2] w fun e w' => e = .returned (.bool true) ∧ Below w.heap.size w w' := by
  have HH := Lib.hid hH
  have HM := Lib.hid hM
  clear hH hM
  have T0 := Lib.hid (Below.refl w.heap.size w)
  have n0 : ((len : Int) == 0) = false := by simpa using hn
  have n1 : ((len : Int) != (len2 : Int)) = false := by rw [he]; simp
  have c1 : (c != 0) = true := by simpa using hc
  clear hn hc
  subst he
  have H1 := Lib.hid h1
  clear h1
  go_enter Tryd.func8, Tryd.ntmps8
  go_wp2_with first
    | (go_at_call 27; with_reducible refine (H1.out _ T0.out).mono ?_; rintro e w1 ⟨rfl, hb⟩; have T1 := Lib.hid (T0.out.trans (bel_le hb T0.out.size)); clear hb)
    | (go_at_call 13; refine (still_true HH.out HM.out T1.out).mono ?_; rintro e w9 ⟨rfl, hb⟩; have TZ := Lib.hid (T1.out.trans (bel_le hb T1.out.size)); clear hb)
  go_ret
  exact ⟨rfl, TZ.out⟩
set_option maxRecDepth 100000 in
set_option maxHeartbeats 1000000 in
theorem ren_e4 {w : World} {e0 e1 : TypeId} (hH : Held w (tabs e0 e1)) (hM : Len w) (v : Value) (p q : Option Addr) (len len2 cap cap2 : Nat) (hn : len ≠ 0) (he : len = len2) (d : Int) (hd : d ≠ 0) (h1 : ∀ w1, Below w.heap.size w w1 → Calls Tryd.prog 27 #[.slice p len cap] w1 fun e w' => e = .returned (.int .i64 0) ∧ Below w1.heap.size w1 w') (h2 : ∀ w1, Below w.heap.size w w1 → Calls Tryd.prog 27 #[.slice q len cap2] w1 fun e w' => e = .returned (.int .i64 d) ∧ Below w1.heap.size w1 w') :
    Calls Tryd.prog 8 #[v, .slice p len cap, .slice q len2 cap2] w fun e w' => e = .returned (.bool true) ∧ Below w.heap.size w w' := by
  have HH := Lib.hid hH
  have HM := Lib.hid hM
  clear hH hM
  have T0 := Lib.hid (Below.refl w.heap.size w)
  have n0 : ((len : Int) == 0) = false := by simpa using hn
  have n1 : ((len : Int) != (len2 : Int)) = false := by rw [he]; simp
  have c1 : (d != 0) = true := by simpa using hd
  clear hn hd
  subst he
  have H1 := Lib.hid h1
  have H2 := Lib.hid h2
  clear h1 h2
  go_enter Tryd.func8, Tryd.ntmps8
  go_wp2_with first
    | (go_at_call 27; with_reducible refine (H1.out _ T0.out).mono ?_; rintro e w1 ⟨rfl, hb⟩; have T1 := Lib.hid (T0.out.trans (bel_le hb T0.out.size)); clear hb)
    | (go_at_call 27; with_reducible refine (H2.out _ T1.out).mono ?_; rintro e w1 ⟨rfl, hb⟩; have T2 := Lib.hid (T1.out.trans (bel_le hb T1.out.size)); clear hb)
    | (go_at_call 13; refine (still_true HH.out HM.out T2.out).mono ?_; rintro e w9 ⟨rfl, hb⟩; have TZ := Lib.hid (T2.out.trans (bel_le hb T2.out.size)); clear hb)
  go_ret
  exact ⟨rfl, TZ.out⟩
set_option maxRecDepth 100000 in
set_option maxHeartbeats 1000000 in
theorem ren_e5 {w : World} {e0 e1 : TypeId} (hH : Held w (tabs e0 e1)) (hM : Len w) (v : Value) (p q : Option Addr) (len len2 cap cap2 : Nat) (hn : len ≠ 0) (he : len = len2) (h1 : ∀ w1, Below w.heap.size w w1 → Calls Tryd.prog 27 #[.slice p len cap] w1 fun e w' => e = .returned (.int .i64 0) ∧ Below w1.heap.size w1 w') (h2 : ∀ w1, Below w.heap.size w w1 → Calls Tryd.prog 27 #[.slice q len cap2] w1 fun e w' => e = .returned (.int .i64 0) ∧ Below w1.heap.size w1 w') (h3 : ∀ w1, Below w.heap.size w w1 → Calls Tryd.prog 25 #[.int .i64 len, v] w1 fun e w' => e = .returned (.bool false) ∧ Below w1.heap.size w1 w') :
    Calls Tryd.prog 8 #[v, .slice p len cap, .slice q len2 cap2] w fun e w' => e = .returned (.bool true) ∧ Below w.heap.size w w' := by
  have HH := Lib.hid hH
  have HM := Lib.hid hM
  clear hH hM
  have T0 := Lib.hid (Below.refl w.heap.size w)
  have n0 : ((len : Int) == 0) = false := by simpa using hn
  have n1 : ((len : Int) != (len2 : Int)) = false := by rw [he]; simp
  clear hn
  subst he
  have H1 := Lib.hid h1
  have H2 := Lib.hid h2
  have H3 := Lib.hid h3
  clear h1 h2 h3
  go_enter Tryd.func8, Tryd.ntmps8
  go_wp2_with first
    | (go_at_call 27; with_reducible refine (H1.out _ T0.out).mono ?_; rintro e w1 ⟨rfl, hb⟩; have T1 := Lib.hid (T0.out.trans (bel_le hb T0.out.size)); clear hb)
    | (go_at_call 27; with_reducible refine (H2.out _ T1.out).mono ?_; rintro e w1 ⟨rfl, hb⟩; have T2 := Lib.hid (T1.out.trans (bel_le hb T1.out.size)); clear hb)
    | (go_at_call 25; with_reducible refine (H3.out _ T2.out).mono ?_; rintro e w1 ⟨rfl, hb⟩; have T3 := Lib.hid (T2.out.trans (bel_le hb T2.out.size)); clear hb)
    | (go_at_call 13; refine (still_true HH.out HM.out T3.out).mono ?_; rintro e w9 ⟨rfl, hb⟩; have TZ := Lib.hid (T3.out.trans (bel_le hb T3.out.size)); clear hb)
  go_ret
  exact ⟨rfl, TZ.out⟩
set_option maxRecDepth 100000 in
set_option maxHeartbeats 8000000 in
theorem ren_main {w : World} (v pv qv : Value) (p q : Option Addr) (len cap cap2 : Nat) (epv : pv = .slice p len cap) (eqv : qv = .slice q len cap2) (hn : len ≠ 0) (lx lz : List Rd) (ab : List Int) (P R : Nat → Nat) (s t : Int)
    (c1 : ∀ w1, Below w.heap.size w w1 → Calls Tryd.prog 27 #[pv] w1 fun e w' => e = .returned (.int .i64 0) ∧ Below w1.heap.size w1 w')
    (c2 : ∀ w1, Below w.heap.size w w1 → Calls Tryd.prog 27 #[qv] w1 fun e w' => e = .returned (.int .i64 0) ∧ Below w1.heap.size w1 w')
    (c3 : ∀ w1, Below w.heap.size w w1 → Calls Tryd.prog 25 #[.int .i64 len, v] w1 fun e w' => e = .returned (.bool true) ∧ Below w1.heap.size w1 w')
    (ca : ∀ w1, Below w.heap.size w w1 → Calls Tryd.prog 28 #[v, pv] w1 fun e w' => ∃ u, e = .returned (.tuple #[u, .bool true]) ∧ Below w1.heap.size w1 w' ∧ WordAt w' u lx)
    (cb : ∀ w1, Below w.heap.size w w1 → ∀ x, WordAt w1 x lx → Calls Tryd.prog 28 #[x, qv] w1 fun e w' => ∃ u, e = .returned (.tuple #[u, .bool true]) ∧ Below w1.heap.size w1 w' ∧ WordAt w' u lz)
    (cc : ∀ w1, Below w.heap.size w w1 → Calls Tryd.prog 29 #[qv, pv] w1 fun e w' => ∃ p cap, e = .returned (.tuple #[.slice p len cap, .int .i64 0]) ∧ Below w1.heap.size w1 w' ∧ IntsAt w' .i64 (.slice p len cap) ab)
    (cw : ∀ w1 x, WordAt w1 x lx → Calls Tryd.prog 23 #[.int .i64 len, x] w1 fun e w' => e = .returned (.int .i64 0) ∧ Below w1.heap.size w1 w')
    (cz : ∀ w1, Below w.heap.size w w1 → ∀ x, IntsAt w1 .i64 x ab → Calls Tryd.prog 28 #[v, x] w1 fun e w' => ∃ u, e = .returned (.tuple #[u, .bool true]) ∧ Below w1.heap.size w1 w' ∧ WordAt w' u lz)
    (ct : ∀ w1, Below w.heap.size w w1 → Calls Tryd.prog 30 #[qv, pv] w1 fun e w' => ∃ z, e = .returned z ∧ Below w1.heap.size w1 w' ∧ IntsAt w' .i64 z ab)
    (cp : ∀ w1, Below w.heap.size w w1 → Calls Tryd.prog 21 #[.int .i64 len, v] w1 fun e w' => e = .returned (.tuple #[.agg #[.int .i64 len, .int .i64 (P 0 : Nat), .int .i64 (P 1 : Nat), .int .i64 (P 2 : Nat), .int .i64 (P 3 : Nat), .int .i64 (P 4 : Nat)], .int .i64 0]) ∧ Below w1.heap.size w1 w')
    (cq : ∀ w1 x, WordAt w1 x lx → Calls Tryd.prog 21 #[.int .i64 len, x] w1 fun e w' => e = .returned (.tuple #[.agg #[.int .i64 len, .int .i64 (R 0 : Nat), .int .i64 (R 1 : Nat), .int .i64 (R 2 : Nat), .int .i64 (R 3 : Nat), .int .i64 (R 4 : Nat)], .int .i64 0]) ∧ Below w1.heap.size w1 w')
    (cr : ∀ w1, Below w.heap.size w w1 → Calls Tryd.prog 31 #[.agg #[.int .i64 len, .int .i64 (P 0 : Nat), .int .i64 (P 1 : Nat), .int .i64 (P 2 : Nat), .int .i64 (P 3 : Nat), .int .i64 (P 4 : Nat)], pv] w1 fun e w' => e = .returned (.tuple #[.agg #[.int .i64 len, .int .i64 (R 0 : Nat), .int .i64 (R 1 : Nat), .int .i64 (R 2 : Nat), .int .i64 (R 3 : Nat), .int .i64 (R 4 : Nat)], .int .i64 0]) ∧ Below w1.heap.size w1 w')
    (co : ∀ w1, Below w.heap.size w w1 → Calls Tryd.prog 19 #[.int .i64 len, v] w1 fun e w' => e = .returned (.tuple #[.int .i64 s, .int .i64 0]) ∧ Below w1.heap.size w1 w')
    (cu : ∀ w1 x, WordAt w1 x lx → Calls Tryd.prog 19 #[.int .i64 len, x] w1 fun e w' => e = .returned (.tuple #[.int .i64 t, .int .i64 0]) ∧ Below w1.heap.size w1 w')
    (cs : ∀ w1, Below w.heap.size w w1 → Calls Tryd.prog 32 #[pv, .int .i64 s] w1 fun e w' => e = .returned (.tuple #[.int .i64 t, .int .i64 0]) ∧ Below w1.heap.size w1 w')
    (ce : ∀ w1 x y, WordAt w1 x lz → WordAt w1 y lz → Calls Tryd.prog 33 #[x, y] w1 fun e w' => e = .returned (.bool true) ∧ Below w1.heap.size w1 w')
    (caw : ∀ w1, Below w.heap.size w w1 → Calls Tryd.prog 13 #[] w1 fun e w' => e = .returned (.bool true) ∧ Below w1.heap.size w1 w') :
    Calls Tryd.prog 8 #[v, pv, qv] w fun e w' => e = .returned (.bool true) ∧ Below w.heap.size w w' := by
  subst epv eqv
  have C1 := Lib.hid c1
  have C2 := Lib.hid c2
  have C3 := Lib.hid c3
  have CA := Lib.hid ca
  have CB := Lib.hid cb
  have CC := Lib.hid cc
  have CW := Lib.hid cw
  have CZ := Lib.hid cz
  have CT := Lib.hid ct
  have CP := Lib.hid cp
  have CQ := Lib.hid cq
  have CR := Lib.hid cr
  have CO := Lib.hid co
  have CU := Lib.hid cu
  have CS := Lib.hid cs
  have CE := Lib.hid ce
  have CF := Lib.hid ce
  have CAW := Lib.hid caw
  clear c1 c2 c3 ca cb cc cw cz ct cp cq cr co cu cs ce caw
  have n0 : ((len : Int) == 0) = false := by simpa using hn
  clear hn
  have he9 := arr_known (r0 := (R 0 : Nat)) (r1 := (R 1 : Nat)) (r2 := (R 2 : Nat)) (r3 := (R 3 : Nat)) (r4 := (R 4 : Nat)) (s0 := (R 0 : Nat)) (s1 := (R 1 : Nat)) (s2 := (R 2 : Nat)) (s3 := (R 3 : Nat)) (s4 := (R 4 : Nat)) (d := true) (by simp) 9997
  have he8 := arr_known (r0 := (R 0 : Nat)) (r1 := (R 1 : Nat)) (r2 := (R 2 : Nat)) (r3 := (R 3 : Nat)) (r4 := (R 4 : Nat)) (s0 := (R 0 : Nat)) (s1 := (R 1 : Nat)) (s2 := (R 2 : Nat)) (s3 := (R 3 : Nat)) (s4 := (R 4 : Nat)) (d := true) (by simp) 9996
  have T0 := Lib.hid (Below.refl w.heap.size w)
  go_enter Tryd.func8, Tryd.ntmps8
  go_wp2_with first
    | (go_at_call 27; with_reducible refine (C1.out _ T0.out).mono ?_; rintro e w1 ⟨rfl, hb⟩; have T1 := Lib.hid (T0.out.trans (bel_le hb T0.out.size)); clear hb)
    | (go_at_call 27; with_reducible refine (C2.out _ T1.out).mono ?_; rintro e w2 ⟨rfl, hb⟩; have T2 := Lib.hid (T1.out.trans (bel_le hb T1.out.size)); clear hb)
    | (go_at_call 25; with_reducible refine (C3.out _ T2.out).mono ?_; rintro e w3 ⟨rfl, hb⟩; have T3 := Lib.hid (T2.out.trans (bel_le hb T2.out.size)); clear hb)
    | (go_at_call 28; with_reducible refine (CA.out _ T3.out).mono ?_; rintro e w4 ⟨x, rfl, hb, hx⟩; have T4 := Lib.hid (T3.out.trans (bel_le hb T3.out.size)); have X_4 := Lib.hid hx; clear hb hx)
    | (go_at_call 28; with_reducible refine (CB.out _ T4.out _ X_4.out).mono ?_; rintro e w5 ⟨y, rfl, hb, hy⟩; have T5 := Lib.hid (T4.out.trans (bel_le hb T4.out.size)); have X_5 := Lib.hid (X_4.out.below hb); have Y_5 := Lib.hid hy; clear hb hy)
    | (go_at_call 29; with_reducible refine (CC.out _ T5.out).mono ?_; rintro e w6 ⟨p6, cap6, rfl, hb, hab⟩; have T6 := Lib.hid (T5.out.trans (bel_le hb T5.out.size)); have X_6 := Lib.hid (X_5.out.below hb); have Y_6 := Lib.hid (Y_5.out.below hb); have AB_6 := Lib.hid hab; clear hb hab)
    | (go_at_call 23; with_reducible refine (CW.out _ _ X_6.out).mono ?_; rintro e w7 ⟨rfl, hb⟩; have T7 := Lib.hid (T6.out.trans (bel_le hb T6.out.size)); have X_7 := Lib.hid (X_6.out.below hb); have Y_7 := Lib.hid (Y_6.out.below hb); have AB_7 := Lib.hid (AB_6.out.below hb); clear hb)
    | (go_at_call 28; with_reducible refine (CZ.out _ T7.out _ AB_7.out).mono ?_; rintro e w8 ⟨z, rfl, hb, hz⟩; have T8 := Lib.hid (T7.out.trans (bel_le hb T7.out.size)); have X_8 := Lib.hid (X_7.out.below hb); have Y_8 := Lib.hid (Y_7.out.below hb); have AB_8 := Lib.hid (AB_7.out.below hb); have Z_8 := Lib.hid hz; clear hb hz)
    | (go_at_call 30; with_reducible refine (CT.out _ T8.out).mono ?_; rintro e w9 ⟨bk, rfl, hb, hbk⟩; have T9 := Lib.hid (T8.out.trans (bel_le hb T8.out.size)); have X_9 := Lib.hid (X_8.out.below hb); have Y_9 := Lib.hid (Y_8.out.below hb); have AB_9 := Lib.hid (AB_8.out.below hb); have Z_9 := Lib.hid (Z_8.out.below hb); have BK_9 := Lib.hid hbk; clear hb hbk)
    | (go_at_call 28; with_reducible refine (CZ.out _ T9.out _ BK_9.out).mono ?_; rintro e w10 ⟨back, rfl, hb, hback⟩; have T10 := Lib.hid (T9.out.trans (bel_le hb T9.out.size)); have X_10 := Lib.hid (X_9.out.below hb); have Y_10 := Lib.hid (Y_9.out.below hb); have AB_10 := Lib.hid (AB_9.out.below hb); have Z_10 := Lib.hid (Z_9.out.below hb); have BK_10 := Lib.hid (BK_9.out.below hb); have BA_10 := Lib.hid hback; clear hb hback)
    | (go_at_call 21; with_reducible refine (CP.out _ T10.out).mono ?_; rintro e w11 ⟨rfl, hb⟩; have T11o := Lib.hid (T10.out.trans (bel_le hb T10.out.size)); have X_11 := Lib.hid (X_10.out.below hb); have Y_11 := Lib.hid (Y_10.out.below hb); have AB_11 := Lib.hid (AB_10.out.below hb); have Z_11 := Lib.hid (Z_10.out.below hb); have BK_11 := Lib.hid (BK_10.out.below hb); have BA_11 := Lib.hid (BA_10.out.below hb); have X_11a := Lib.hid (X_11.out.below (below_alloc _ (.cells #[.int .i64 len, .int .i64 (P 0 : Nat), .int .i64 (P 1 : Nat), .int .i64 (P 2 : Nat), .int .i64 (P 3 : Nat), .int .i64 (P 4 : Nat)] 24))); have Y_11a := Lib.hid (Y_11.out.below (below_alloc _ (.cells #[.int .i64 len, .int .i64 (P 0 : Nat), .int .i64 (P 1 : Nat), .int .i64 (P 2 : Nat), .int .i64 (P 3 : Nat), .int .i64 (P 4 : Nat)] 24))); have AB_11a := Lib.hid (AB_11.out.below (below_alloc _ (.cells #[.int .i64 len, .int .i64 (P 0 : Nat), .int .i64 (P 1 : Nat), .int .i64 (P 2 : Nat), .int .i64 (P 3 : Nat), .int .i64 (P 4 : Nat)] 24))); have Z_11a := Lib.hid (Z_11.out.below (below_alloc _ (.cells #[.int .i64 len, .int .i64 (P 0 : Nat), .int .i64 (P 1 : Nat), .int .i64 (P 2 : Nat), .int .i64 (P 3 : Nat), .int .i64 (P 4 : Nat)] 24))); have BK_11a := Lib.hid (BK_11.out.below (below_alloc _ (.cells #[.int .i64 len, .int .i64 (P 0 : Nat), .int .i64 (P 1 : Nat), .int .i64 (P 2 : Nat), .int .i64 (P 3 : Nat), .int .i64 (P 4 : Nat)] 24))); have BA_11a := Lib.hid (BA_11.out.below (below_alloc _ (.cells #[.int .i64 len, .int .i64 (P 0 : Nat), .int .i64 (P 1 : Nat), .int .i64 (P 2 : Nat), .int .i64 (P 3 : Nat), .int .i64 (P 4 : Nat)] 24))); have T11 := Lib.hid (T11o.out.alloc T11o.out.size (.cells #[.int .i64 len, .int .i64 (P 0 : Nat), .int .i64 (P 1 : Nat), .int .i64 (P 2 : Nat), .int .i64 (P 3 : Nat), .int .i64 (P 4 : Nat)] 24)); have RP_11 := Lib.hid (row_new w11 len (P 0 : Nat) (P 1 : Nat) (P 2 : Nat) (P 3 : Nat) (P 4 : Nat)); clear hb)
    | (go_at_call 21; with_reducible refine (CQ.out _ _ X_11a.out).mono ?_; rintro e w12 ⟨rfl, hb⟩; have T12o := Lib.hid (T11.out.trans (bel_le hb T11.out.size)); have X_12 := Lib.hid (X_11a.out.below hb); have Y_12 := Lib.hid (Y_11a.out.below hb); have AB_12 := Lib.hid (AB_11a.out.below hb); have Z_12 := Lib.hid (Z_11a.out.below hb); have BK_12 := Lib.hid (BK_11a.out.below hb); have BA_12 := Lib.hid (BA_11a.out.below hb); have RP_12 := Lib.hid (row_below RP_11.out hb); have X_12a := Lib.hid (X_12.out.below (below_alloc _ (.cells #[.int .i64 len, .int .i64 (R 0 : Nat), .int .i64 (R 1 : Nat), .int .i64 (R 2 : Nat), .int .i64 (R 3 : Nat), .int .i64 (R 4 : Nat)] 24))); have Y_12a := Lib.hid (Y_12.out.below (below_alloc _ (.cells #[.int .i64 len, .int .i64 (R 0 : Nat), .int .i64 (R 1 : Nat), .int .i64 (R 2 : Nat), .int .i64 (R 3 : Nat), .int .i64 (R 4 : Nat)] 24))); have AB_12a := Lib.hid (AB_12.out.below (below_alloc _ (.cells #[.int .i64 len, .int .i64 (R 0 : Nat), .int .i64 (R 1 : Nat), .int .i64 (R 2 : Nat), .int .i64 (R 3 : Nat), .int .i64 (R 4 : Nat)] 24))); have Z_12a := Lib.hid (Z_12.out.below (below_alloc _ (.cells #[.int .i64 len, .int .i64 (R 0 : Nat), .int .i64 (R 1 : Nat), .int .i64 (R 2 : Nat), .int .i64 (R 3 : Nat), .int .i64 (R 4 : Nat)] 24))); have BK_12a := Lib.hid (BK_12.out.below (below_alloc _ (.cells #[.int .i64 len, .int .i64 (R 0 : Nat), .int .i64 (R 1 : Nat), .int .i64 (R 2 : Nat), .int .i64 (R 3 : Nat), .int .i64 (R 4 : Nat)] 24))); have BA_12a := Lib.hid (BA_12.out.below (below_alloc _ (.cells #[.int .i64 len, .int .i64 (R 0 : Nat), .int .i64 (R 1 : Nat), .int .i64 (R 2 : Nat), .int .i64 (R 3 : Nat), .int .i64 (R 4 : Nat)] 24))); have RP_12a := Lib.hid (row_alloc RP_12.out (.cells #[.int .i64 len, .int .i64 (R 0 : Nat), .int .i64 (R 1 : Nat), .int .i64 (R 2 : Nat), .int .i64 (R 3 : Nat), .int .i64 (R 4 : Nat)] 24)); have T12 := Lib.hid (T12o.out.alloc T12o.out.size (.cells #[.int .i64 len, .int .i64 (R 0 : Nat), .int .i64 (R 1 : Nat), .int .i64 (R 2 : Nat), .int .i64 (R 3 : Nat), .int .i64 (R 4 : Nat)] 24)); have RQ_12 := Lib.hid (row_new w12 len (R 0 : Nat) (R 1 : Nat) (R 2 : Nat) (R 3 : Nat) (R 4 : Nat)); obtain ⟨p0, p1, p2, p3, p4, p5⟩ := RP_12a.out; clear hb)
    | (go_at_call 31; with_reducible refine (CR.out _ T12.out).mono ?_; rintro e w13 ⟨rfl, hb⟩; have T13o := Lib.hid (T12.out.trans (bel_le hb T12.out.size)); have X_13 := Lib.hid (X_12a.out.below hb); have Y_13 := Lib.hid (Y_12a.out.below hb); have AB_13 := Lib.hid (AB_12a.out.below hb); have Z_13 := Lib.hid (Z_12a.out.below hb); have BK_13 := Lib.hid (BK_12a.out.below hb); have BA_13 := Lib.hid (BA_12a.out.below hb); have RP_13 := Lib.hid (row_below RP_12a.out hb); have RQ_13 := Lib.hid (row_below RQ_12.out hb); have X_13a := Lib.hid (X_13.out.below (below_alloc _ (.cells #[.int .i64 len, .int .i64 (R 0 : Nat), .int .i64 (R 1 : Nat), .int .i64 (R 2 : Nat), .int .i64 (R 3 : Nat), .int .i64 (R 4 : Nat)] 24))); have Y_13a := Lib.hid (Y_13.out.below (below_alloc _ (.cells #[.int .i64 len, .int .i64 (R 0 : Nat), .int .i64 (R 1 : Nat), .int .i64 (R 2 : Nat), .int .i64 (R 3 : Nat), .int .i64 (R 4 : Nat)] 24))); have AB_13a := Lib.hid (AB_13.out.below (below_alloc _ (.cells #[.int .i64 len, .int .i64 (R 0 : Nat), .int .i64 (R 1 : Nat), .int .i64 (R 2 : Nat), .int .i64 (R 3 : Nat), .int .i64 (R 4 : Nat)] 24))); have Z_13a := Lib.hid (Z_13.out.below (below_alloc _ (.cells #[.int .i64 len, .int .i64 (R 0 : Nat), .int .i64 (R 1 : Nat), .int .i64 (R 2 : Nat), .int .i64 (R 3 : Nat), .int .i64 (R 4 : Nat)] 24))); have BK_13a := Lib.hid (BK_13.out.below (below_alloc _ (.cells #[.int .i64 len, .int .i64 (R 0 : Nat), .int .i64 (R 1 : Nat), .int .i64 (R 2 : Nat), .int .i64 (R 3 : Nat), .int .i64 (R 4 : Nat)] 24))); have BA_13a := Lib.hid (BA_13.out.below (below_alloc _ (.cells #[.int .i64 len, .int .i64 (R 0 : Nat), .int .i64 (R 1 : Nat), .int .i64 (R 2 : Nat), .int .i64 (R 3 : Nat), .int .i64 (R 4 : Nat)] 24))); have RP_13a := Lib.hid (row_alloc RP_13.out (.cells #[.int .i64 len, .int .i64 (R 0 : Nat), .int .i64 (R 1 : Nat), .int .i64 (R 2 : Nat), .int .i64 (R 3 : Nat), .int .i64 (R 4 : Nat)] 24)); have RQ_13a := Lib.hid (row_alloc RQ_13.out (.cells #[.int .i64 len, .int .i64 (R 0 : Nat), .int .i64 (R 1 : Nat), .int .i64 (R 2 : Nat), .int .i64 (R 3 : Nat), .int .i64 (R 4 : Nat)] 24)); have T13 := Lib.hid (T13o.out.alloc T13o.out.size (.cells #[.int .i64 len, .int .i64 (R 0 : Nat), .int .i64 (R 1 : Nat), .int .i64 (R 2 : Nat), .int .i64 (R 3 : Nat), .int .i64 (R 4 : Nat)] 24)); have RR_13 := Lib.hid (row_new w13 len (R 0 : Nat) (R 1 : Nat) (R 2 : Nat) (R 3 : Nat) (R 4 : Nat)); clear hb)
    | (go_at_call 19; with_reducible refine (CO.out _ T13.out).mono ?_; rintro e w14 ⟨rfl, hb⟩; have T14 := Lib.hid (T13.out.trans (bel_le hb T13.out.size)); have X_14 := Lib.hid (X_13a.out.below hb); have Y_14 := Lib.hid (Y_13a.out.below hb); have AB_14 := Lib.hid (AB_13a.out.below hb); have Z_14 := Lib.hid (Z_13a.out.below hb); have BK_14 := Lib.hid (BK_13a.out.below hb); have BA_14 := Lib.hid (BA_13a.out.below hb); have RP_14 := Lib.hid (row_below RP_13a.out hb); have RQ_14 := Lib.hid (row_below RQ_13a.out hb); have RR_14 := Lib.hid (row_below RR_13.out hb); clear hb)
    | (go_at_call 19; with_reducible refine (CU.out _ _ X_14.out).mono ?_; rintro e w15 ⟨rfl, hb⟩; have T15 := Lib.hid (T14.out.trans (bel_le hb T14.out.size)); have X_15 := Lib.hid (X_14.out.below hb); have Y_15 := Lib.hid (Y_14.out.below hb); have AB_15 := Lib.hid (AB_14.out.below hb); have Z_15 := Lib.hid (Z_14.out.below hb); have BK_15 := Lib.hid (BK_14.out.below hb); have BA_15 := Lib.hid (BA_14.out.below hb); have RP_15 := Lib.hid (row_below RP_14.out hb); have RQ_15 := Lib.hid (row_below RQ_14.out hb); have RR_15 := Lib.hid (row_below RR_14.out hb); clear hb)
    | (go_at_call 32; with_reducible refine (CS.out _ T15.out).mono ?_; rintro e w16 ⟨rfl, hb⟩; have T16 := Lib.hid (T15.out.trans (bel_le hb T15.out.size)); have X_16 := Lib.hid (X_15.out.below hb); have Y_16 := Lib.hid (Y_15.out.below hb); have AB_16 := Lib.hid (AB_15.out.below hb); have Z_16 := Lib.hid (Z_15.out.below hb); have BK_16 := Lib.hid (BK_15.out.below hb); have BA_16 := Lib.hid (BA_15.out.below hb); have RP_16 := Lib.hid (row_below RP_15.out hb); have RQ_16 := Lib.hid (row_below RQ_15.out hb); have RR_16 := Lib.hid (row_below RR_15.out hb); clear hb)
    | (go_at_call 33; with_reducible refine (CE.out _ _ _ Y_16.out Z_16.out).mono ?_; rintro e w17 ⟨rfl, hb⟩; have T17 := Lib.hid (T16.out.trans (bel_le hb T16.out.size)); have X_17 := Lib.hid (X_16.out.below hb); have Y_17 := Lib.hid (Y_16.out.below hb); have AB_17 := Lib.hid (AB_16.out.below hb); have Z_17 := Lib.hid (Z_16.out.below hb); have BK_17 := Lib.hid (BK_16.out.below hb); have BA_17 := Lib.hid (BA_16.out.below hb); have RP_17 := Lib.hid (row_below RP_16.out hb); have RQ_17 := Lib.hid (row_below RQ_16.out hb); have RR_17 := Lib.hid (row_below RR_16.out hb); clear hb)
    | (go_at_call 33; with_reducible refine (CF.out _ _ _ Z_17.out BA_17.out).mono ?_; rintro e w18 ⟨rfl, hb⟩; have T18 := Lib.hid (T17.out.trans (bel_le hb T17.out.size)); have X_18 := Lib.hid (X_17.out.below hb); have Y_18 := Lib.hid (Y_17.out.below hb); have AB_18 := Lib.hid (AB_17.out.below hb); have Z_18 := Lib.hid (Z_17.out.below hb); have BK_18 := Lib.hid (BK_17.out.below hb); have BA_18 := Lib.hid (BA_17.out.below hb); have RP_18 := Lib.hid (row_below RP_17.out hb); have RQ_18 := Lib.hid (row_below RQ_17.out hb); have RR_18 := Lib.hid (row_below RR_17.out hb); obtain ⟨u0, u1, u2, u3, u4, u5⟩ := RQ_18.out; obtain ⟨v0, v1, v2, v3, v4, v5⟩ := RR_18.out; clear hb)
    | (go_at_call 13; with_reducible refine (CAW.out _ T18.out).mono ?_; rintro e w19 ⟨rfl, hb⟩; have T19 := Lib.hid (T18.out.trans (bel_le hb T18.out.size)); have X_19 := Lib.hid (X_18.out.below hb); have Y_19 := Lib.hid (Y_18.out.below hb); have AB_19 := Lib.hid (AB_18.out.below hb); have Z_19 := Lib.hid (Z_18.out.below hb); have BK_19 := Lib.hid (BK_18.out.below hb); have BA_19 := Lib.hid (BA_18.out.below hb); have RP_19 := Lib.hid (row_below RP_18.out hb); have RQ_19 := Lib.hid (row_below RQ_18.out hb); have RR_19 := Lib.hid (row_below RR_18.out hb); clear hb)
  go_ret
  exact ⟨rfl, T19.out⟩
theorem roundRenames_walk {w : World} {e0 e1 : TypeId} (hH : Held w (tabs e0 e1)) (hM : Len w) {v pv qv : Value} {l : List Rd} {zs ys : List Int} (h : WordTop w v l) (hp : IntsAt w .i64 pv zs) (hq : IntsAt w .i64 qv ys) :
    Calls Tryd.prog 8 #[v, pv, qv] w fun e w' => e = .returned (.bool true) ∧ Below w.heap.size w w' := by
  obtain ⟨a, len0, cap0, b, off, rfl, hi⟩ := h
  have hp' := hp
  have hq' := hq
  obtain ⟨p, cap, rfl, _⟩ := hp'
  obtain ⟨q, cap2, rfl, _⟩ := hq'
  by_cases hn : zs.length = 0
  · exact ren_e1 hH hM _ p q _ _ cap cap2 hn
  by_cases hl : zs.length ≠ ys.length
  · exact ren_e2 hH hM _ p q _ _ cap cap2 hn hl
  have hl : zs.length = ys.length := Decidable.not_not.1 hl
  have h1 := fun (w1 : World) (hb : Below w.heap.size w w1) => rcheck_below (hp.below hb)
  have h2 := fun (w1 : World) (hb : Below w.heap.size w w1) => rcheck_below (hq.below hb)
  rw [← hl] at h2
  by_cases hz : Go.Perm.check zs ≠ 0
  · exact ren_e3 hH hM _ p q _ _ cap cap2 hn hl _ hz h1
  have hz : Go.Perm.check zs = 0 := Decidable.not_not.1 hz
  by_cases hy : Go.Perm.check ys ≠ 0
  · exact ren_e4 hH hM _ p q _ _ cap cap2 hn hl _ hy (by rw [hz] at h1; exact h1) h2
  have hy : Go.Perm.check ys = 0 := Decidable.not_not.1 hy
  rw [hz] at h1
  rw [hy] at h2
  have hgood := fun (w1 : World) (hb : Below w.heap.size w w1) => good_any zs.length (wordR zs.length l) a len0 cap0 w1 (word_any zs.length (hi.at.below hb))
  cases hg : decide (len0 ≤ 12) && (wordR zs.length l == 0) with
  | false =>
    rw [hg] at hgood
    exact ren_e5 hH hM _ p q _ _ cap cap2 hn hl h1 h2 hgood
  | true =>
    rw [hg] at hgood
    obtain ⟨_, h0⟩ := bool_and hg
    have h0 : wordR zs.length l = 0 := by simpa using h0
    obtain ⟨h1', h5', _, _⟩ := check_ok hz
    have hly : ys.length = zs.length := hl.symm
    have hcomp : Go.Perm.check (comp ys zs) = 0 := comp_ok hy hz (by omega)
    have lc : (comp ys zs).length = zs.length := comp_length _ _
    have hx0 := word_map hz rfl h0
    have hzz := map_twice hz hy rfl hly h0
    have hw0 := word0 h1' h5' h0
    have hwx := word0 h1' h5' hx0
    have lx : (l.map (renR zs)).length = l.length := List.length_map _
    obtain ⟨g, eg, lg⟩ := before_nat h0 l.length (Nat.le_refl _)
    have hgx := before_map hz (l := l) (Nat.le_refl l.length)
    rw [eg, Int.toNat_natCast] at hgx
    have hpm := wprod_map hz rfl h0 l.length (Nat.le_refl _)
    have himg := img_compl hz lg
    have hil := img_lt hz lg
    have es : ((2 ^ zs.length - 1 : Nat) : Int) - (g : Int) = ((2 ^ zs.length - 1 - g : Nat) : Int) := by omega
    have et : ((2 ^ zs.length - 1 : Nat) : Int) - ((img g zs 0 0 : Nat) : Int) = ((img (2 ^ zs.length - 1 - g) zs 0 0 : Nat) : Int) := by rw [himg]; omega
    refine ren_main _ _ _ p q zs.length cap cap2 rfl (by rw [hl]) hn (l.map (renR zs)) (l.map (renR (comp ys zs))) (comp ys zs) (wprod zs.length l l.length) (ren zs.length (wprod zs.length l l.length) (idx zs)) ((2 ^ zs.length - 1 - g : Nat) : Int) ((img (2 ^ zs.length - 1 - g) zs 0 0 : Nat) : Int)
      h1 (by rw [← hl]; exact h2) hgood (fun w1 hb => renamed_any hz rfl h0 (hi.at.below hb) (hp.below hb)) (fun w1 hb x hx => by have := renamed_any hy hly hx0 hx (hq.below hb); rw [hzz] at this; exact this)
      (fun w1 hb => comp_main (hq.below hb) (hp.below hb) hy hz hly rfl) (fun w1 x hx => by have := word_any zs.length hx; rw [hx0] at this; exact this)
      (fun w1 hb x hx => renamed_any hcomp lc h0 (hi.at.below hb) hx) (fun w1 hb => times_main (hq.below hb) (hp.below hb) hy hz hly rfl)
      (fun w1 hb => ?_) (fun w1 x hx => ?_) (fun w1 hb => permute_main (hw0.wf _ (Nat.le_refl _)) hz rfl (hp.below hb)) (fun w1 hb => ?_) (fun w1 x hx => ?_) (fun w1 hb => set_main rfl hz (by omega) (hp.below hb))
      (fun w1 x y hx hy' => same_any hx hy' (by rw [List.length_map]; exact hw0.len)) (fun w1 hb => still_true hH hM hb)
    · have := product_any zs.length (hi.at.below hb)
      simp only [prodR, h0, ne_eq, not_true_eq_false, if_false, Int.toNat_natCast, pairV] at this
      exact this
    · have := product_any zs.length hx
      simp only [prodR, hx0, ne_eq, not_true_eq_false, if_false, Int.toNat_natCast, pairV, lx, hpm] at this
      exact this
    · have := obliged_any zs.length (hi.at.below hb)
      simp only [obligedR, h0, ne_eq, not_true_eq_false, if_false, Int.toNat_natCast, eg, es] at this
      exact this
    · have := obliged_any zs.length hx
      simp only [obligedR, hx0, ne_eq, not_true_eq_false, if_false, Int.toNat_natCast, lx, hgx, et] at this
      exact this
end Go.Proofs.YtlineonmpbdkgaaDoor.Word
