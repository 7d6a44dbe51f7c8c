/-
  SimplexChecks: the law's walk.
-/
import Derived.Test.YtjggeombkbianaaEvSxOf
import Derived.Test.YtjggeombkbianaaEvSxColors
import Derived.Test.YtjggeombkbianaaEvSxOrder
import Derived.Test.YtjggeombkbianaaEvSxSeat
namespace Go.Proofs.Ytjggeombkbianaa.Sx
open Go Go.RowKit Go.Law Go.Sx
open Go.Proofs.Ytjggeombkbianaa.Ev (awake)

set_option maxRecDepth 100000 in
set_option maxHeartbeats 4000000 in
theorem checks_few (a : Option Addr) (n cap : Nat) (w : World) (h3 : n ≤ 10) (r c mv : Int) (d : Bool) (L : List V) (hL : L.length ≤ 4096)
    (g12 : ∀ w1, Below w.heap.size w w1 → Calls Try.prog 12 #[.slice a n cap] w1 fun e w' => ∃ u, e = .returned (.tuple #[u, .int .i64 r]) ∧ Below w1.heap.size w1 w' ∧ VTop w' u L)
    (g13 : ∀ w1, Below w.heap.size w w1 → Calls Try.prog 13 #[.slice a n cap] w1 fun e w' => ∃ u, e = .returned (.tuple #[u, .int .i64 r]) ∧ Below w1.heap.size w1 w' ∧ VTop w' u L)
    (g14 : ∀ w1, Below w.heap.size w w1 → Calls Try.prog 14 #[.slice a n cap] w1 fun e w' => e = .returned (.tuple #[.int .i64 mv, .int .i64 c]) ∧ Below w1.heap.size w1 w')
    (g15 : ∀ w1, Below w.heap.size w w1 → Calls Try.prog 15 #[.slice a n cap] w1 fun e w' => e = .returned (.tuple #[.int .i64 mv, .int .i64 c]) ∧ Below w1.heap.size w1 w')
    (g16 : ∀ w1, Below w.heap.size w w1 → Calls Try.prog 16 #[.slice a n cap] w1 fun e w' => e = .returned (.tuple #[.bool d, .int .i64 c]) ∧ Below w1.heap.size w1 w')
    (g17 : ∀ w1, Below w.heap.size w w1 → Calls Try.prog 17 #[.slice a n cap] w1 fun e w' => e = .returned (.tuple #[.bool d, .int .i64 c]) ∧ Below w1.heap.size w1 w')
    (g18 : ∀ w1, Below w.heap.size w w1 → Calls Try.prog 18 #[.slice a n cap] w1 fun e w' => e = .returned (.int .i64 c) ∧ Below w1.heap.size w1 w')
    (g19 : ∀ w1, Below w.heap.size w w1 → Calls Try.prog 19 #[.slice a n cap] w1 fun e w' => e = .returned (.int .i64 c) ∧ Below w1.heap.size w1 w') :
    Calls Try.prog 3 #[.slice a n cap] w fun e w' => e = .returned (.bool true) ∧ Below w.heap.size w w' := by
  have HA := Lib.hid awake
  have F := Lib.hid (few_any a n cap)
  rw [decide_eq_true h3] at F
  have G12 := Lib.hid g12
  have G13 := Lib.hid g13
  have G14 := Lib.hid g14
  have G15 := Lib.hid g15
  have G16 := Lib.hid g16
  have G17 := Lib.hid g17
  have G18 := Lib.hid g18
  have G19 := Lib.hid g19
  have hr : (r == r) = true := by simp
  have hc : (c == c) = true := by simp
  have hm : (mv == mv) = true := by simp
  have hd : (d == d) = true := by simp
  have T0 := Lib.hid (Below.refl w.heap.size w)
  have HL := Lib.hid hL
  clear g12 g13 g14 g15 g16 g17 g18 g19 h3 hL
  go_enter Try.func3, Try.ntmps3
  go_wp2_with (go_at_call 10; refine (F.out _).mono ?_; rintro e w' ⟨rfl, rfl⟩)
  refine (G12.out _ T0.out).mono ?_
  rintro e w1 ⟨u1, he, hb, hv⟩
  subst he
  have T1 := Lib.hid (T0.out.trans (bel_le hb T0.out.size))
  have V1 := Lib.hid hv
  clear hb hv
  go_wp2_with fail
  refine (G13.out _ T1.out).mono ?_
  rintro e w2 ⟨u2, he, hb, hv⟩
  subst he
  have T2 := Lib.hid (T1.out.trans (bel_le hb T1.out.size))
  have V2 := Lib.hid (V1.out.below hb)
  have U2 := Lib.hid hv
  clear hb hv
  go_wp2_with first
    | (go_at_call 14; refine (G14.out _ T2.out).mono ?_; rintro e w3 ⟨rfl, hb⟩; have T3 := Lib.hid (T2.out.trans (bel_le hb T2.out.size)); have V3 := Lib.hid (V2.out.below hb); have U3 := Lib.hid (U2.out.below hb); clear hb)
    | (go_at_call 15; refine (G15.out _ T3.out).mono ?_; rintro e w3 ⟨rfl, hb⟩; have T4 := Lib.hid (T3.out.trans (bel_le hb T3.out.size)); have V4 := Lib.hid (V3.out.below hb); have U4 := Lib.hid (U3.out.below hb); clear hb)
    | (go_at_call 16; refine (G16.out _ T4.out).mono ?_; rintro e w3 ⟨rfl, hb⟩; have T5 := Lib.hid (T4.out.trans (bel_le hb T4.out.size)); have V5 := Lib.hid (V4.out.below hb); have U5 := Lib.hid (U4.out.below hb); clear hb)
    | (go_at_call 17; refine (G17.out _ T5.out).mono ?_; rintro e w3 ⟨rfl, hb⟩; have T6 := Lib.hid (T5.out.trans (bel_le hb T5.out.size)); have V6 := Lib.hid (V5.out.below hb); have U6 := Lib.hid (U5.out.below hb); clear hb)
    | (go_at_call 11; refine (HA.out _).mono ?_; rintro e w3 ⟨rfl, hb⟩; have T7 := Lib.hid (T6.out.trans (bel_le hb T6.out.size)); have V7 := Lib.hid (V6.out.below hb); have U7 := Lib.hid (U6.out.below hb); clear hb)
    | (go_at_call 18; refine (G18.out _ T7.out).mono ?_; rintro e w3 ⟨rfl, hb⟩; have T8 := Lib.hid (T7.out.trans (bel_le hb T7.out.size)); have V8 := Lib.hid (V7.out.below hb); have U8 := Lib.hid (U7.out.below hb); clear hb)
    | (go_at_call 19; refine (G19.out _ T8.out).mono ?_; rintro e w3 ⟨rfl, hb⟩; have T9 := Lib.hid (T8.out.trans (bel_le hb T8.out.size)); have V9 := Lib.hid (V8.out.below hb); have U9 := Lib.hid (U8.out.below hb); clear hb)
    | (go_at_call 20; refine (same_top V9.out U9.out HL.out).mono ?_; rintro e w3 ⟨rfl, hb⟩; have T10 := Lib.hid (T9.out.trans (bel_le hb T9.out.size)); clear hb)
  go_ret
  exact ⟨rfl, T10.out⟩
set_option maxRecDepth 100000 in
set_option maxHeartbeats 1000000 in
theorem checks_many (a : Option Addr) (n cap : Nat) (w : World) (h3 : ¬ n ≤ 10) : Calls Try.prog 3 #[.slice a n cap] w fun e w' => e = .returned (.bool true) ∧ Below w.heap.size w w' := by
  have HA := Lib.hid (awake w)
  have F := Lib.hid (few_any a n cap)
  rw [decide_eq_false h3] at F
  clear h3
  go_enter Try.func3, Try.ntmps3
  go_wp2_with first
    | (go_at_call 10; refine (F.out _).mono ?_; rintro e w' ⟨rfl, rfl⟩)
    | (go_at_call 11; refine (HA.out).mono ?_; rintro e w1 ⟨rfl, hb⟩; have T := Lib.hid hb; clear hb)
  go_ret
  exact ⟨rfl, T.out⟩
theorem simplexChecks_walk {w : World} {v : Value} {A : List V} (h : VTop w v A) : Calls Try.prog 3 #[v] w fun e w' => e = .returned (.bool true) ∧ Below w.heap.size w w' := by
  obtain ⟨a, n, cap, b, off, rfl, i⟩ := h
  by_cases h3 : n ≤ 10
  · obtain ⟨mv, hmv⟩ : ∃ mv : Int, (if chk A = 0 then Value.int .i64 (maskTo A n : Nat) else .int .i64 0) = .int .i64 mv := by
      split
      · exact ⟨_, rfl⟩
      · exact ⟨_, rfl⟩
    obtain ⟨d, hd⟩ : ∃ d : Bool, (if chk A = 0 then Value.bool (diffTo A n) else .bool false) = .bool d := by
      split
      · exact ⟨_, rfl⟩
      · exact ⟨_, rfl⟩
    refine checks_few a n cap w h3 (ofR A n).2 (chk A) mv d (ofR A n).1 ?_ (fun w1 hb => of_in a n cap b off A w1 (i.below hb) (by omega)) (fun w1 hb => rOf_in a n cap b off A w1 (i.below hb) h3) (fun w1 hb => ?_) (fun w1 hb => ?_) (fun w1 hb => ?_) (fun w1 hb => ?_)
      (fun w1 hb => check_in a n cap b off A w1 (i.below hb) (by omega)) (fun w1 hb => rcheck_in a n cap b off A w1 (i.below hb) (by omega))
    · unfold ofR
      split
      · simp
      · split
        · simp
        · split
          · simp
          · simp only; omega
    · rw [← hmv]; exact Colors_in a n cap b off A w1 (i.below hb) (by omega)
    · rw [← hmv]; exact rColors_in a n cap b off A w1 (i.below hb) (by omega)
    · rw [← hd]; exact Chromatic_in a n cap b off A w1 (i.below hb) (by omega)
    · rw [← hd]; exact rChromatic_in a n cap b off A w1 (i.below hb) (by omega)
  · exact checks_many a n cap w h3
end Go.Proofs.Ytjggeombkbianaa.Sx
