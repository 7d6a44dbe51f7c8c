/-
  The reference's Union and Join; all four at two lists that can be read.
-/
import Derived.Test.YtjggeombkbianaaEvSxRUnion
namespace Go.Proofs.Ytjggeombkbianaa.Sx
open Go Go.RowKit Go.Law Go.Sx

set_option maxRecDepth 100000 in
set_option maxHeartbeats 1000000 in
theorem runion_walk (a1 a2 : Option Addr) (n1 n2 k1 k2 : Nat) (A B U : List V) (w : World)
    (HT : Calls Try.prog 57 #[.slice a1 n1 k1, .slice a2 n2 k2] w fun e w' => e = .returned (.int .i64 (two A B)) ∧ Below w.heap.size w w')
    (HB : two A B = 0 → ∀ w1, Below w.heap.size w w1 → Calls Try.prog 64 #[.slice a1 n1 k1, .slice a2 n2 k2] w1 (SlPost2 U w)) :
    Calls Try.prog 29 #[.slice a1 n1 k1, .slice a2 n2 k2] w (ResPost (unionR A B U) w) := by
  obtain ⟨r, hr⟩ : ∃ r, two A B = r := ⟨_, rfl⟩
  have HBad := Lib.hid (fun (h0 : r ≠ 0) => show unionR A B U = ([], r) by unfold unionR; rw [hr, if_pos h0])
  have HGood := Lib.hid (fun (h0 : r = 0) => show unionR A B U = capR U by unfold unionR; rw [hr, if_neg (by simpa using h0)])
  rw [hr] at HT
  have HZ := Lib.hid hr
  replace HT := Lib.hid HT
  replace HB := Lib.hid (HB ∘ hr.trans)
  clear hr
  by_cases h0 : r = 0
  · subst h0
    rw [HGood.out rfl]
    have HB2 := Lib.hid (HB.out rfl)
    clear HBad HGood HZ HB
    go_enter Try.func29, Try.ntmps29
    go_wp2_with fail
    refine (HT.out).mono ?_
    rintro e w1 ⟨he, hb⟩
    subst he
    have T1 := Lib.hid hb
    clear hb
    go_wp2_with fail
    refine (HB2.out w1 T1.out).mono ?_
    rintro e w3 ⟨a', cap', b', off', he, hb, hv⟩
    subst he
    have T3 := Lib.hid hb
    have V3 := Lib.hid hv
    clear hb hv
    generalize hm : U.length = m at *
    have HM := Lib.hid hm
    clear hm
    by_cases h8 : 8 < m
    · have hi : (m : Int) > 8 := by omega
      have H8 := Lib.hid h8
      clear h8
      go_wp2
      go_ret2
      exact cap_bad (by rw [HM.out]; exact H8.out) T3.out
    · have hi : ¬ (m : Int) > 8 := by omega
      have H8 := Lib.hid h8
      clear h8
      go_wp2
      go_ret2
      exact cap_good (by rw [HM.out]; exact H8.out) T3.out ⟨_, _, _, _, _, rfl, V3.out⟩
  · have hb0 : (r != 0) = true := by simpa using h0
    have H0 := Lib.hid h0
    clear h0
    go_enter Try.func29, Try.ntmps29
    go_wp2_with fail
    refine (HT.out).mono ?_
    rintro e w1 ⟨he, hb⟩
    subst he
    have T1 := Lib.hid hb
    clear hb
    go_wp2
    go_ret2
    have hE := HBad.out H0.out
    exact ⟨.slice none 0 0, by rw [hE]; rfl, T1.out, by rw [hE]; exact v_nil _⟩
set_option maxRecDepth 100000 in
set_option maxHeartbeats 1000000 in
theorem rjoin_walk (a1 a2 : Option Addr) (n1 n2 k1 k2 : Nat) (A B U M : List V) (w : World)
    (HT : Calls Try.prog 57 #[.slice a1 n1 k1, .slice a2 n2 k2] w fun e w' => e = .returned (.int .i64 (two A B)) ∧ Below w.heap.size w w')
    (HF : ∀ w1, Below w.heap.size w w1 → Calls Try.prog 65 #[.slice a1 n1 k1, .slice a2 n2 k2, .bool true] w1 fun e w' => ∃ a cap b off, e = .returned (.slice a M.length cap) ∧ Below w.heap.size w w' ∧ VIn w' a M.length cap b off M)
    (HU : two A B = 0 → ∀ w1, Below w.heap.size w w1 → Calls Try.prog 29 #[.slice a1 n1 k1, .slice a2 n2 k2] w1 (ResPost (capR U) w)) :
    Calls Try.prog 35 #[.slice a1 n1 k1, .slice a2 n2 k2] w (ResPost (joinR A B M U) w) := by
  obtain ⟨r, hr⟩ : ∃ r, two A B = r := ⟨_, rfl⟩
  have HBad := Lib.hid (fun (h0 : r ≠ 0) => show joinR A B M U = ([], r) by unfold joinR; rw [hr, if_pos h0])
  have HGood := Lib.hid (fun (h0 : r = 0) => show joinR A B M U = if 0 < M.length then ([], 7) else capR U by unfold joinR; rw [hr, if_neg (by simpa using h0)])
  rw [hr] at HT
  have HZ := Lib.hid hr
  replace HT := Lib.hid HT
  replace HF := Lib.hid HF
  replace HU := Lib.hid (HU ∘ hr.trans)
  clear hr
  by_cases h0 : r = 0
  · subst h0
    rw [HGood.out rfl]
    have HU2 := Lib.hid (HU.out rfl)
    clear HBad HGood HZ HU
    by_cases hM : 0 < M.length
    · rw [if_pos hM]
      generalize M.length = m at *
      have hm' : (m : Int) > 0 := by omega
      clear hM HU2
      go_enter Try.func35, Try.ntmps35
      go_wp2_with fail
      refine (HT.out).mono ?_
      rintro e w1 ⟨he, hb⟩
      subst he
      have T1 := Lib.hid hb
      clear hb
      go_wp2_with fail
      refine (HF.out w1 T1.out).mono ?_
      rintro e w2 ⟨a, cap, b, off, he, hb, hv⟩
      subst he
      clear T1
      have T1 := Lib.hid hb
      clear hb hv
      go_wp2
      go_ret2
      exact ⟨_, rfl, T1.out, v_nil _⟩
    · rw [if_neg hM]
      have hM0 : M.length = 0 := by omega
      rw [hM0] at HF
      clear hM hM0
      go_enter Try.func35, Try.ntmps35
      go_wp2_with fail
      refine (HT.out).mono ?_
      rintro e w1 ⟨he, hb⟩
      subst he
      have T1 := Lib.hid hb
      clear hb
      go_wp2_with fail
      refine (HF.out w1 T1.out).mono ?_
      rintro e w2 ⟨a, cap, b, off, he, hb, hv⟩
      subst he
      clear T1
      have T1 := Lib.hid hb
      clear hb hv
      go_wp2_with fail
      refine (HU2.out _ T1.out).mono ?_
      rintro e w3 ⟨u, he, hb, hv⟩
      subst he
      have T3 := Lib.hid hb
      have V3 := Lib.hid hv
      clear hb hv
      go_wp2
      go_ret2
      exact ⟨u, rfl, T3.out, V3.out⟩
  · have hb0 : (r != 0) = true := by simpa using h0
    have H0 := Lib.hid h0
    clear h0
    go_enter Try.func35, Try.ntmps35
    go_wp2_with fail
    refine (HT.out).mono ?_
    rintro e w1 ⟨he, hb⟩
    subst he
    have T1 := Lib.hid hb
    clear hb
    go_wp2
    go_ret2
    have hE := HBad.out H0.out
    exact ⟨.slice none 0 0, by rw [hE]; rfl, T1.out, by rw [hE]; exact v_nil _⟩
/-- The union, and what both share. -/
def uni (A B : List V) : List V := bothTo A B B.length
theorem small_of {A B : List V} (h : two A B = 0) : Simp A ∧ Simp B := ⟨simp_of (two_zero h).1, simp_of (two_zero h).2⟩
theorem runion_in (a1 a2 : Option Addr) (n1 n2 k1 k2 b1 o1 b2 o2 : Nat) (A B : List V) (w : World) (h1 : VIn w a1 n1 k1 b1 o1 A) (h2 : VIn w a2 n2 k2 b2 o2 B) (hs : n1 ≤ 4096) (ht : n2 ≤ 4096) : Calls Try.prog 29 #[.slice a1 n1 k1, .slice a2 n2 k2] w (ResPost (unionR A B (uni A B)) w) :=
  runion_walk a1 a2 n1 n2 k1 k2 A B _ w (rtwo_in a1 a2 n1 n2 k1 k2 b1 o1 b2 o2 A B w h1 h2 hs ht) (fun h0 w1 hb => by
    obtain ⟨sA, sB⟩ := small_of h0
    have e1 := h1.size
    have e2 := h2.size
    have q1 := sA.pos
    have q2 := sA.top
    have q3 := sB.top
    obtain rfl := h1.head (by omega)
    have i1 := h1.below hb
    refine (both_walk b1 o1 n1 k1 n2 k2 b2 o2 a2 A B w1 i1.cells e1 (i1.old (by omega)) (h2.below hb) (by omega) (by omega) (by omega)).mono ?_
    rintro e w' ⟨u, he, hb', a, n, cap, b, off, rfl, i⟩
    rw [← e2] at i
    have hs := i.size
    subst hs
    exact ⟨a, cap, b, off, he, hb.trans (bel_le hb' hb.size), i⟩)
theorem shared_len (a1 a2 : Option Addr) (n1 n2 k1 k2 b1 o1 b2 o2 : Nat) (A B : List V) (w : World) (h1 : VIn w a1 n1 k1 b1 o1 A) (h2 : VIn w a2 n2 k2 b2 o2 B) (hs : n1 ≤ 4096) (ht : n2 ≤ 4096) (w1 : World) (hb : Below w.heap.size w w1) : Calls Try.prog 65 #[.slice a1 n1 k1, .slice a2 n2 k2, .bool true] w1 fun e w' => ∃ a cap b off, e = .returned (.slice a (filTo (fun p => decide (p ∈ B)) A n1).length cap) ∧ Below w.heap.size w w' ∧ VIn w' a (filTo (fun p => decide (p ∈ B)) A n1).length cap b off (filTo (fun p => decide (p ∈ B)) A n1) := by
  refine (shared_in a1 n1 k1 b1 o1 A a2 n2 k2 b2 o2 B true w1 (h1.below hb) hs (h2.below hb) ht).mono ?_
  rintro e w' ⟨u, he, hb', hv⟩
  have ef : (fun p => decide (p ∈ B) == true) = fun p : V => decide (p ∈ B) := by funext p; simp
  rw [ef] at hv
  obtain ⟨a, n, cap, b, off, rfl, i⟩ := hv
  have hs := i.size
  subst hs
  exact ⟨a, cap, b, off, he, hb.trans (bel_le hb' hb.size), i⟩
theorem rjoin_in (a1 a2 : Option Addr) (n1 n2 k1 k2 b1 o1 b2 o2 : Nat) (A B : List V) (w : World) (h1 : VIn w a1 n1 k1 b1 o1 A) (h2 : VIn w a2 n2 k2 b2 o2 B) (hs : n1 ≤ 4096) (ht : n2 ≤ 4096) : Calls Try.prog 35 #[.slice a1 n1 k1, .slice a2 n2 k2] w (ResPost (joinR A B (filTo (fun p => decide (p ∈ B)) A n1) (uni A B)) w) :=
  rjoin_walk a1 a2 n1 n2 k1 k2 A B _ _ w (rtwo_in a1 a2 n1 n2 k1 k2 b1 o1 b2 o2 A B w h1 h2 hs ht) (fun w1 hb => shared_len a1 a2 n1 n2 k1 k2 b1 o1 b2 o2 A B w h1 h2 hs ht w1 hb) (fun h0 w1 hb => by
    refine (runion_in a1 a2 n1 n2 k1 k2 b1 o1 b2 o2 A B w1 (h1.below hb) (h2.below hb) hs ht).mono ?_
    have e : unionR A B (uni A B) = capR (uni A B) := by unfold unionR; rw [if_neg (by simpa using h0)]
    rw [e]
    rintro e w' ⟨u, he, hb', hv⟩
    exact ⟨u, he, hb.trans (bel_le hb' hb.size), hv⟩)
theorem concat_two (a1 a2 : Option Addr) (n1 n2 k1 k2 b1 o1 b2 o2 : Nat) (A B : List V) (w : World) (h1 : VIn w a1 n1 k1 b1 o1 A) (h2 : VIn w a2 n2 k2 b2 o2 B) (hs : n1 ≤ 4096) (ht : n2 ≤ 4096) (h0 : two A B = 0) (w1 : World) (hb : Below w.heap.size w w1) (B0 : Nat) (hB0 : B0 = w1.heap.size) : Calls Try.prog 63 #[.slice (some ⟨B0, 0, none⟩) 2 2] (w1.alloc (.cells #[.slice a1 n1 k1, .slice a2 n2 k2] 22)) (SlPost (A ++ B) w) := by
  obtain ⟨sA, sB⟩ := small_of h0
  have e1 := h1.size
  have e2 := h2.size
  have q1 := sA.pos
  have q2 := sA.top
  have q3 := sB.top
  have q4 := sB.pos
  exact concat_in a1 a2 n1 n2 k1 k2 b1 o1 b2 o2 A B w h1 h2 (by omega) (by omega) (by omega) (by omega) w1 hb B0 hB0
theorem sort_two {A B : List V} (w : World) (h0 : two A B = 0) (a : Option Addr) (n cap b off : Nat) (hn : n = (A ++ B).length) (w1 : World) (hb : Below w.heap.size w w1) (hi : VIn w1 a n cap b off (A ++ B)) : Calls Try.prog 46 #[.slice a n cap] w1 (SlPost2 (uni A B) w) := by
  obtain ⟨sA, sB⟩ := small_of h0
  have q1 := sA.pos
  have q2 := sA.top
  have q3 := sB.top
  have h := sort_in2 (A ++ B) w (by simp; omega) (by simp; omega) a n cap b off hn w1 hb hi
  rw [union_both A B (asc_simp sA)] at h
  exact h
theorem union_in (a1 a2 : Option Addr) (n1 n2 k1 k2 b1 o1 b2 o2 : Nat) (A B : List V) (w : World) (h1 : VIn w a1 n1 k1 b1 o1 A) (h2 : VIn w a2 n2 k2 b2 o2 B) (hs : n1 ≤ 4096) (ht : n2 ≤ 4096) : Calls Try.prog 28 #[.slice a1 n1 k1, .slice a2 n2 k2] w (ResPost (unionR A B (uni A B)) w) :=
  union_walk a1 a2 n1 n2 k1 k2 A B _ w (two_in a1 a2 n1 n2 k1 k2 b1 o1 b2 o2 A B w h1 h2 hs ht) (fun h0 w1 hb B0 hB0 => concat_two a1 a2 n1 n2 k1 k2 b1 o1 b2 o2 A B w h1 h2 hs ht h0 w1 hb B0 hB0) (fun h0 a n cap b off hn w1 hb hi => sort_two w h0 a n cap b off hn w1 hb hi)
theorem join_in (a1 a2 : Option Addr) (n1 n2 k1 k2 b1 o1 b2 o2 : Nat) (A B : List V) (w : World) (h1 : VIn w a1 n1 k1 b1 o1 A) (h2 : VIn w a2 n2 k2 b2 o2 B) (hs : n1 ≤ 4096) (ht : n2 ≤ 4096) : Calls Try.prog 34 #[.slice a1 n1 k1, .slice a2 n2 k2] w (ResPost (joinR A B (filTo (fun p => decide (p ∈ B)) A n1) (uni A B)) w) :=
  join_walk a1 a2 n1 n2 k1 k2 A B _ _ w (two_in a1 a2 n1 n2 k1 k2 b1 o1 b2 o2 A B w h1 h2 hs ht) (fun w1 hb => by
    refine (filter_among a1 a2 n1 n2 k1 k2 b1 o1 b2 o2 A B w h1 h2 hs ht w1 hb).mono ?_
    rintro e w' ⟨u, he, hb', a, n, cap, b, off, rfl, i⟩
    have hs := i.size
    subst hs
    exact ⟨a, cap, b, off, he, hb', i⟩) (fun h0 w1 hb B0 hB0 => concat_two a1 a2 n1 n2 k1 k2 b1 o1 b2 o2 A B w h1 h2 hs ht h0 w1 hb B0 hB0) (fun h0 a n cap b off hn w1 hb hi => sort_two w h0 a n cap b off hn w1 hb hi)
end Go.Proofs.Ytjggeombkbianaa.Sx
