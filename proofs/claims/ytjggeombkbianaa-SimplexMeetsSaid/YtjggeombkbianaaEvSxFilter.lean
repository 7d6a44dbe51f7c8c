/-
  Contains; filter with its closures; the reference's Shared.
-/
import Derived.Test.YtjggeombkbianaaEvSxPut
import Derived.Test.YtjggeombkbianaaEvSxIter
namespace Go.Proofs.Ytjggeombkbianaa.Sx
open Go Go.RowKit Go.Law Go.Sx

set_option maxRecDepth 100000 in
set_option maxHeartbeats 2000000 in
theorem index_in (a : Option Addr) (n cap b off : Nat) (A : List V) (v : V) (w : World) (h : VIn w a n cap b off A) (hn : n ≤ 4096) :
    Calls Try.prog 70 #[.slice a n cap, .agg #[.int .i64 v.1, .int .i64 v.2]] w fun e w' => (∃ r : Int, e = .returned (.int .i64 r) ∧ decide (r ≥ 0) = decide (v ∈ A)) ∧ Below w.heap.size w w' := by
  obtain ⟨x, y⟩ := v
  have T0 := Lib.hid (below_alloc w (.cells #[.int .i64 x, .int .i64 y] 56))
  have HA := Lib.hid ((h.below T0.out).cells)
  have H1 := Lib.hid h.head
  have hs := h.size
  clear h
  have R0 := Lib.hid (row2_new w x y)
  go_enter Try.func70, Try.ntmps70
  go_wp2
  generalize World.alloc w _ = W1 at *
  go_loopw [8] (fun i wr => ∃ k m : Nat, k ≤ n ∧ i = .int .i64 k ∧ wr = W1.drewN m ∧ ((x, y) : V) ∉ A.take k) (fun i _ => n - (intOf i).toNat)
  case atStart => exact ⟨0, 0, Nat.zero_le _, rfl, rfl, by simp⟩
  case round =>
    obtain ⟨k, m, hk, rfl, rfl, hC⟩ := hrel
    have HC := Lib.hid hC
    clear hC
    obtain ⟨r0, r1⟩ := R0.out
    by_cases hlt : k < n
    · obtain rfl := H1.out (by omega)
      obtain ⟨c0, c1⟩ := HA.out k hlt
      have HT := Lib.hid (fun e => mem_take (l := A) (k := k) (v := ((x, y) : V)) (by rw [hs]; exact hlt) HC.out e)
      have HM := Lib.hid (vx_mem (l := A) (k := k) (by rw [hs]; exact hlt))
      generalize vx A k = p at *
      obtain ⟨s, t⟩ := p
      simp only at c0 c1
      clear hs
      by_cases hx : s = x
      · by_cases hy : t = y
        · subst hx hy
          have HD := Lib.hid (decide_eq_true HM.out)
          clear HT HM HC
          go_wp2
          go_quiet (fail)
          go_wp2
          go_ret
          exact ⟨⟨_, rfl, by rw [HD.out]; exact decide_eq_true (by omega)⟩, below_drewN (below_drewN T0.out _) _⟩
        · have hb : (y == t) = false := by simpa using Ne.symm hy
          have HT1 := Lib.hid (HT.out (fun e => hy (by injection e)))
          subst hx
          clear HT HM HC hy
          go_wp2
          go_quiet (fail)
          go_wp2
          exact ⟨⟨k + 1, m + nq, by omega, by go_num, rfl, HT1.out⟩, by simp [intOf]; omega⟩
      · have hb : (x == s) = false := by simpa using Ne.symm hx
        have HT1 := Lib.hid (HT.out (fun e => hx (by injection e)))
        clear HT HM HC hx
        go_wp2
        go_quiet (fail)
        go_wp2
        exact ⟨⟨k + 1, m + nq, by omega, by go_num, rfl, HT1.out⟩, by simp [intOf]; omega⟩
    · obtain rfl : k = n := by omega
      have HT : Hid (decide (((x, y) : V) ∈ A) = false) := Lib.hid (decide_eq_false (by have := HC.out; rw [List.take_of_length_le (by omega)] at this; exact this))
      go_wp2
      go_ret
      exact ⟨⟨_, rfl, by rw [HT.out]; rfl⟩, below_drewN T0.out _⟩


set_option maxRecDepth 100000 in
set_option maxHeartbeats 2000000 in
theorem contains_in (a : Option Addr) (n cap b off : Nat) (A : List V) (v : V) (w : World) (h : VIn w a n cap b off A) (hn : n ≤ 4096) :
    Calls Try.prog 43 #[.slice a n cap, .agg #[.int .i64 v.1, .int .i64 v.2]] w fun e w' => e = .returned (.bool (decide (v ∈ A))) ∧ Below w.heap.size w w' := by
  obtain ⟨x, y⟩ := v
  have T0 := Lib.hid (below_alloc w (.cells #[.int .i64 x, .int .i64 y] 56))
  have HI := Lib.hid (index_in a n cap b off A (x, y) _ (h.below T0.out) hn)
  obtain ⟨r0, r1⟩ := row2_new w x y
  clear h
  generalize decide (((x, y) : V) ∈ A) = c at *
  simp only at HI
  go_enter Try.func43, Try.ntmps43
  go_wp2_with fail
  refine (HI.out).mono ?_
  rintro e w3 ⟨⟨r, he, hr⟩, hb⟩
  subst he
  have T := Lib.hid (T0.out.trans (bel_le hb T0.out.size))
  have HR := Lib.hid hr
  clear hb hr
  go_wp2
  go_ret
  exact ⟨ret_bool HR.out, T.out⟩

/-! filter. -/
def filTo (P : V → Bool) (A : List V) (k : Nat) : List V := (upto A k).filter P
theorem filTo_succ (P : V → Bool) (A : List V) (k : Nat) : filTo P A (k + 1) = if P (vx A k) = true then filTo P A k ++ [vx A k] else filTo P A k := by
  unfold filTo
  rw [upto_succ, List.filter_append]
  by_cases h : P (vx A k) = true
  · rw [if_pos h, List.filter_cons_of_pos h]; rfl
  · rw [if_neg h, List.filter_cons_of_neg h]; simp
theorem filTo_length (P : V → Bool) (A : List V) (k : Nat) : (filTo P A k).length ≤ k := by
  have := List.length_filter_le P (upto A k)
  rw [upto_length] at this
  exact this
set_option maxRecDepth 100000 in
set_option maxHeartbeats 4000000 in
theorem filter77_in (a : Option Addr) (n cap b off : Nat) (A : List V) (P : V → Bool) (cb : Value) (w : World) (h : VIn w a n cap b off A) (hn : n ≤ 4096)
    (hK : ∀ (p : V), p ∈ A → ∀ (w1 : World), Below w.heap.size w w1 → Calls Try.prog 77 #[.agg #[.int .i64 p.1, .int .i64 p.2], cb] w1 fun e w' => e = .returned (.bool (P p)) ∧ Below w1.heap.size w1 w') :
    Calls Try.prog 55 #[.slice a n cap, .func (.func 77) #[] #[cb]] w fun e w' => ∃ u, e = .returned u ∧ Below w.heap.size w w' ∧ VTop w' u (filTo P A n) := by
  have HSIZE := Lib.hid h.size
  have HA := Lib.hid (fun (w1 : World) (hb : Below w.heap.size w w1) => (h.below hb).cells)
  have H1 := Lib.hid h.head
  clear h
  have HK := Lib.hid hK
  clear hK
  have HS := Lib.hid (fun k => filTo_succ P A k)
  have HL := Lib.hid (fun k => filTo_length P A k)
  obtain ⟨i0, hi, hz0, hz1, hz2⟩ := info_parts info56
  have T0 := Lib.hid (Below.refl w.heap.size w)
  obtain ⟨S, hS⟩ : ∃ S, w.heap.size = S := ⟨_, rfl⟩
  have HSZ := Lib.hid hS
  clear hS
  go_enter Try.func55, Try.ntmps55
  go_wp2
  go_loopw [5, 10] (fun u i wr => ∃ k : Nat, k ≤ n ∧ i = .int .i64 k ∧ Below w.heap.size w wr ∧ wr.ownsRow S 56 2 u (filTo P A k).length (rowV (filTo P A k))) (fun _ i _ => n - (intOf i).toNat)
  case atStart => exact ⟨0, Nat.zero_le _, rfl, T0.out, rfl, .inl ⟨rfl, rfl⟩⟩
  case round =>
    obtain ⟨k, hk, rfl, hB, hO⟩ := hrel
    have T := Lib.hid hB
    have HO := Lib.hid hO
    clear hB hO
    by_cases hlt : k < n
    · obtain rfl := H1.out (by omega)
      have hex := HA.out wr T.out k hlt
      have HN := Lib.hid (HS.out k)
      have hlen1 : (filTo P A k).length ≤ 4096 := by have := HL.out k; omega
      generalize filTo P A k = L at *
      obtain ⟨p, ep⟩ : ∃ p, vx A k = p := ⟨_, rfl⟩
      have HP := Lib.hid ep
      rw [ep] at hex HN
      clear ep
      have HKK := Lib.hid (HK.out p (by rw [← HP.out]; exact vx_mem (by rw [HSIZE.out]; exact hlt)) _ (T.out.alloc T.out.size (.cells #[.int .i64 p.1, .int .i64 p.2] 56)))
      have HO1 := Lib.hid (HO.out.alloc (.cells #[.int .i64 p.1, .int .i64 p.2] 56))
      have T1 := Lib.hid (T.out.alloc T.out.size (.cells #[.int .i64 p.1, .int .i64 p.2] 56))
      have R := Lib.hid (row2_new wr p.1 p.2)
      generalize hb : P p = pb at *
      obtain ⟨s, t⟩ := p
      simp only at hex HN HKK HO1 T1 R
      obtain ⟨c0, c1⟩ := hex
      obtain ⟨r0, r1⟩ := R.out
      generalize hln : L.length = ln at *
      have HLN := Lib.hid hln
      clear hln
      cases pb with
      | true =>
        rw [if_pos rfl] at HN
        go_wp2_with (first
          | (at_builtin; refine wpList_append_own _ rfl _ _ 22 rfl S 56 i0 (.agg #[.int .i64 0, .int .i64 0]) 2 16 Try.underlying22 hi hz0 hz1 hz2 rfl (by decide) _ _ _ rfl (HO3.out.alloc _) ⟨_, 0, none⟩ 1 1 [.int .i64 s, .int .i64 t] rfl rfl (cells_at (by first | rfl | rw [World.size_alloc]) _ _) pair_one (by unfold maxLen; omega) (by omega) (by have := HSZ.out; have := T3.out.size; simp; omega) ?_; intro vnHN4 wnHN4 hown' hgrow _; have HN4 := Lib.hid hown'; have T4 := Lib.hid ((T3.out.alloc (by have := T3.out.size; omega) _).grown hgrow (by have := HSZ.out; have := T3.out.size; simp; omega) (fun k hk => by rw [HSZ.out]; exact own_block HO3.out k hk)); clear hown' hgrow)
          | (go_at_call 77; refine (HKK.out).mono ?_; rintro e w3 ⟨rfl, hb3⟩; have T3 := Lib.hid (T1.out.trans (bel_le hb3 T1.out.size)); have HO3 := Lib.hid (owns_below HO1.out hb3); have R3 := Lib.hid (row2_below R.out hb3); obtain ⟨e0, e1⟩ := R3.out; clear hb3))
        go_roundw
        case rel => exact ⟨k + 1, by omega, by go_num, T4.out, by rw [HN.out, rowV_snoc, List.length_append, HLN.out]; exact HN4.out⟩
        case measure => simp [intOf]; omega
      | false =>
        rw [if_neg (by simp)] at HN
        go_wp2_with (go_at_call 77; refine (HKK.out).mono ?_; rintro e w3 ⟨rfl, hb3⟩; have T3 := Lib.hid (T1.out.trans (bel_le hb3 T1.out.size)); have HO3 := Lib.hid (owns_below HO1.out hb3); have R3 := Lib.hid (row2_below R.out hb3); obtain ⟨e0, e1⟩ := R3.out; clear hb3)
        go_roundw
        case rel => exact ⟨k + 1, by omega, by go_num, T3.out, by rw [HN.out, HLN.out]; exact HO3.out⟩
        case measure => simp [intOf]; omega
    · obtain rfl : k = n := by omega
      go_wp2
      go_ret
      exact ⟨_, rfl, T.out, v_own HO.out⟩
set_option maxRecDepth 100000 in
set_option maxHeartbeats 4000000 in
theorem filter66_in (a : Option Addr) (n cap b off : Nat) (A : List V) (P : V → Bool) (cb : Value) (w : World) (h : VIn w a n cap b off A) (hn : n ≤ 4096)
    (hK : ∀ (p : V), p ∈ A → ∀ (w1 : World), Below w.heap.size w w1 → Calls Try.prog 66 #[.agg #[.int .i64 p.1, .int .i64 p.2], cb] w1 fun e w' => e = .returned (.bool (P p)) ∧ Below w1.heap.size w1 w') :
    Calls Try.prog 55 #[.slice a n cap, .func (.func 66) #[] #[cb]] w fun e w' => ∃ u, e = .returned u ∧ Below w.heap.size w w' ∧ VTop w' u (filTo P A n) := by
  have HSIZE := Lib.hid h.size
  have HA := Lib.hid (fun (w1 : World) (hb : Below w.heap.size w w1) => (h.below hb).cells)
  have H1 := Lib.hid h.head
  clear h
  have HK := Lib.hid hK
  clear hK
  have HS := Lib.hid (fun k => filTo_succ P A k)
  have HL := Lib.hid (fun k => filTo_length P A k)
  obtain ⟨i0, hi, hz0, hz1, hz2⟩ := info_parts info56
  have T0 := Lib.hid (Below.refl w.heap.size w)
  obtain ⟨S, hS⟩ : ∃ S, w.heap.size = S := ⟨_, rfl⟩
  have HSZ := Lib.hid hS
  clear hS
  go_enter Try.func55, Try.ntmps55
  go_wp2
  go_loopw [5, 10] (fun u i wr => ∃ k : Nat, k ≤ n ∧ i = .int .i64 k ∧ Below w.heap.size w wr ∧ wr.ownsRow S 56 2 u (filTo P A k).length (rowV (filTo P A k))) (fun _ i _ => n - (intOf i).toNat)
  case atStart => exact ⟨0, Nat.zero_le _, rfl, T0.out, rfl, .inl ⟨rfl, rfl⟩⟩
  case round =>
    obtain ⟨k, hk, rfl, hB, hO⟩ := hrel
    have T := Lib.hid hB
    have HO := Lib.hid hO
    clear hB hO
    by_cases hlt : k < n
    · obtain rfl := H1.out (by omega)
      have hex := HA.out wr T.out k hlt
      have HN := Lib.hid (HS.out k)
      have hlen1 : (filTo P A k).length ≤ 4096 := by have := HL.out k; omega
      generalize filTo P A k = L at *
      obtain ⟨p, ep⟩ : ∃ p, vx A k = p := ⟨_, rfl⟩
      have HP := Lib.hid ep
      rw [ep] at hex HN
      clear ep
      have HKK := Lib.hid (HK.out p (by rw [← HP.out]; exact vx_mem (by rw [HSIZE.out]; exact hlt)) _ (T.out.alloc T.out.size (.cells #[.int .i64 p.1, .int .i64 p.2] 56)))
      have HO1 := Lib.hid (HO.out.alloc (.cells #[.int .i64 p.1, .int .i64 p.2] 56))
      have T1 := Lib.hid (T.out.alloc T.out.size (.cells #[.int .i64 p.1, .int .i64 p.2] 56))
      have R := Lib.hid (row2_new wr p.1 p.2)
      generalize hb : P p = pb at *
      obtain ⟨s, t⟩ := p
      simp only at hex HN HKK HO1 T1 R
      obtain ⟨c0, c1⟩ := hex
      obtain ⟨r0, r1⟩ := R.out
      generalize hln : L.length = ln at *
      have HLN := Lib.hid hln
      clear hln
      cases pb with
      | true =>
        rw [if_pos rfl] at HN
        go_wp2_with (first
          | (at_builtin; refine wpList_append_own _ rfl _ _ 22 rfl S 56 i0 (.agg #[.int .i64 0, .int .i64 0]) 2 16 Try.underlying22 hi hz0 hz1 hz2 rfl (by decide) _ _ _ rfl (HO3.out.alloc _) ⟨_, 0, none⟩ 1 1 [.int .i64 s, .int .i64 t] rfl rfl (cells_at (by first | rfl | rw [World.size_alloc]) _ _) pair_one (by unfold maxLen; omega) (by omega) (by have := HSZ.out; have := T3.out.size; simp; omega) ?_; intro vnHN4 wnHN4 hown' hgrow _; have HN4 := Lib.hid hown'; have T4 := Lib.hid ((T3.out.alloc (by have := T3.out.size; omega) _).grown hgrow (by have := HSZ.out; have := T3.out.size; simp; omega) (fun k hk => by rw [HSZ.out]; exact own_block HO3.out k hk)); clear hown' hgrow)
          | (go_at_call 66; refine (HKK.out).mono ?_; rintro e w3 ⟨rfl, hb3⟩; have T3 := Lib.hid (T1.out.trans (bel_le hb3 T1.out.size)); have HO3 := Lib.hid (owns_below HO1.out hb3); have R3 := Lib.hid (row2_below R.out hb3); obtain ⟨e0, e1⟩ := R3.out; clear hb3))
        go_roundw
        case rel => exact ⟨k + 1, by omega, by go_num, T4.out, by rw [HN.out, rowV_snoc, List.length_append, HLN.out]; exact HN4.out⟩
        case measure => simp [intOf]; omega
      | false =>
        rw [if_neg (by simp)] at HN
        go_wp2_with (go_at_call 66; refine (HKK.out).mono ?_; rintro e w3 ⟨rfl, hb3⟩; have T3 := Lib.hid (T1.out.trans (bel_le hb3 T1.out.size)); have HO3 := Lib.hid (owns_below HO1.out hb3); have R3 := Lib.hid (row2_below R.out hb3); obtain ⟨e0, e1⟩ := R3.out; clear hb3)
        go_roundw
        case rel => exact ⟨k + 1, by omega, by go_num, T3.out, by rw [HN.out, HLN.out]; exact HO3.out⟩
        case measure => simp [intOf]; omega
    · obtain rfl : k = n := by omega
      go_wp2
      go_ret
      exact ⟨_, rfl, T.out, v_own HO.out⟩
set_option maxRecDepth 100000 in
set_option maxHeartbeats 4000000 in
theorem filter67_in (a : Option Addr) (n cap b off : Nat) (A : List V) (P : V → Bool) (cb : Value) (w : World) (h : VIn w a n cap b off A) (hn : n ≤ 4096)
    (hK : ∀ (p : V), p ∈ A → ∀ (w1 : World), Below w.heap.size w w1 → Calls Try.prog 67 #[.agg #[.int .i64 p.1, .int .i64 p.2], cb] w1 fun e w' => e = .returned (.bool (P p)) ∧ Below w1.heap.size w1 w') :
    Calls Try.prog 55 #[.slice a n cap, .func (.func 67) #[] #[cb]] w fun e w' => ∃ u, e = .returned u ∧ Below w.heap.size w w' ∧ VTop w' u (filTo P A n) := by
  have HSIZE := Lib.hid h.size
  have HA := Lib.hid (fun (w1 : World) (hb : Below w.heap.size w w1) => (h.below hb).cells)
  have H1 := Lib.hid h.head
  clear h
  have HK := Lib.hid hK
  clear hK
  have HS := Lib.hid (fun k => filTo_succ P A k)
  have HL := Lib.hid (fun k => filTo_length P A k)
  obtain ⟨i0, hi, hz0, hz1, hz2⟩ := info_parts info56
  have T0 := Lib.hid (Below.refl w.heap.size w)
  obtain ⟨S, hS⟩ : ∃ S, w.heap.size = S := ⟨_, rfl⟩
  have HSZ := Lib.hid hS
  clear hS
  go_enter Try.func55, Try.ntmps55
  go_wp2
  go_loopw [5, 10] (fun u i wr => ∃ k : Nat, k ≤ n ∧ i = .int .i64 k ∧ Below w.heap.size w wr ∧ wr.ownsRow S 56 2 u (filTo P A k).length (rowV (filTo P A k))) (fun _ i _ => n - (intOf i).toNat)
  case atStart => exact ⟨0, Nat.zero_le _, rfl, T0.out, rfl, .inl ⟨rfl, rfl⟩⟩
  case round =>
    obtain ⟨k, hk, rfl, hB, hO⟩ := hrel
    have T := Lib.hid hB
    have HO := Lib.hid hO
    clear hB hO
    by_cases hlt : k < n
    · obtain rfl := H1.out (by omega)
      have hex := HA.out wr T.out k hlt
      have HN := Lib.hid (HS.out k)
      have hlen1 : (filTo P A k).length ≤ 4096 := by have := HL.out k; omega
      generalize filTo P A k = L at *
      obtain ⟨p, ep⟩ : ∃ p, vx A k = p := ⟨_, rfl⟩
      have HP := Lib.hid ep
      rw [ep] at hex HN
      clear ep
      have HKK := Lib.hid (HK.out p (by rw [← HP.out]; exact vx_mem (by rw [HSIZE.out]; exact hlt)) _ (T.out.alloc T.out.size (.cells #[.int .i64 p.1, .int .i64 p.2] 56)))
      have HO1 := Lib.hid (HO.out.alloc (.cells #[.int .i64 p.1, .int .i64 p.2] 56))
      have T1 := Lib.hid (T.out.alloc T.out.size (.cells #[.int .i64 p.1, .int .i64 p.2] 56))
      have R := Lib.hid (row2_new wr p.1 p.2)
      generalize hb : P p = pb at *
      obtain ⟨s, t⟩ := p
      simp only at hex HN HKK HO1 T1 R
      obtain ⟨c0, c1⟩ := hex
      obtain ⟨r0, r1⟩ := R.out
      generalize hln : L.length = ln at *
      have HLN := Lib.hid hln
      clear hln
      cases pb with
      | true =>
        rw [if_pos rfl] at HN
        go_wp2_with (first
          | (at_builtin; refine wpList_append_own _ rfl _ _ 22 rfl S 56 i0 (.agg #[.int .i64 0, .int .i64 0]) 2 16 Try.underlying22 hi hz0 hz1 hz2 rfl (by decide) _ _ _ rfl (HO3.out.alloc _) ⟨_, 0, none⟩ 1 1 [.int .i64 s, .int .i64 t] rfl rfl (cells_at (by first | rfl | rw [World.size_alloc]) _ _) pair_one (by unfold maxLen; omega) (by omega) (by have := HSZ.out; have := T3.out.size; simp; omega) ?_; intro vnHN4 wnHN4 hown' hgrow _; have HN4 := Lib.hid hown'; have T4 := Lib.hid ((T3.out.alloc (by have := T3.out.size; omega) _).grown hgrow (by have := HSZ.out; have := T3.out.size; simp; omega) (fun k hk => by rw [HSZ.out]; exact own_block HO3.out k hk)); clear hown' hgrow)
          | (go_at_call 67; refine (HKK.out).mono ?_; rintro e w3 ⟨rfl, hb3⟩; have T3 := Lib.hid (T1.out.trans (bel_le hb3 T1.out.size)); have HO3 := Lib.hid (owns_below HO1.out hb3); have R3 := Lib.hid (row2_below R.out hb3); obtain ⟨e0, e1⟩ := R3.out; clear hb3))
        go_roundw
        case rel => exact ⟨k + 1, by omega, by go_num, T4.out, by rw [HN.out, rowV_snoc, List.length_append, HLN.out]; exact HN4.out⟩
        case measure => simp [intOf]; omega
      | false =>
        rw [if_neg (by simp)] at HN
        go_wp2_with (go_at_call 67; refine (HKK.out).mono ?_; rintro e w3 ⟨rfl, hb3⟩; have T3 := Lib.hid (T1.out.trans (bel_le hb3 T1.out.size)); have HO3 := Lib.hid (owns_below HO1.out hb3); have R3 := Lib.hid (row2_below R.out hb3); obtain ⟨e0, e1⟩ := R3.out; clear hb3)
        go_roundw
        case rel => exact ⟨k + 1, by omega, by go_num, T3.out, by rw [HN.out, HLN.out]; exact HO3.out⟩
        case measure => simp [intOf]; omega
    · obtain rfl : k = n := by omega
      go_wp2
      go_ret
      exact ⟨_, rfl, T.out, v_own HO.out⟩
set_option maxRecDepth 100000 in
set_option maxHeartbeats 4000000 in
theorem shared_in (a : Option Addr) (n cap b off : Nat) (A : List V) (a2 : Option Addr) (n2 cap2 b2 off2 : Nat) (B : List V) (c : Bool) (w : World) (h : VIn w a n cap b off A) (hn : n ≤ 4096) (h2 : VIn w a2 n2 cap2 b2 off2 B) (hn2 : n2 ≤ 4096) :
    Calls Try.prog 65 #[.slice a n cap, .slice a2 n2 cap2, .bool c] w fun e w' => ∃ u, e = .returned u ∧ Below w.heap.size w w' ∧ VTop w' u (filTo (fun p => decide (p ∈ B) == c) A n) := by
  have hK : ∀ (p : V) (w1 : World), Below w.heap.size w w1 → Calls Try.prog 74 #[.slice a2 n2 cap2, .agg #[.int .i64 p.1, .int .i64 p.2]] w1 fun e w' => e = .returned (.bool (decide (p ∈ B))) ∧ Below w1.heap.size w1 w' := fun p w1 hb => has_in a2 n2 cap2 b2 off2 B p w1 (h2.below hb) hn2
  clear h2 hn2
  obtain ⟨P, hP⟩ : ∃ P : V → Bool, P = fun p => decide (p ∈ B) == c := ⟨_, rfl⟩
  rw [← hP]
  have HPP := Lib.hid (fun p => congrFun hP p)
  clear hP
  have HA := Lib.hid (fun (w1 : World) (hb : Below w.heap.size w w1) => (h.below hb).cells)
  have H1 := Lib.hid h.head
  clear h
  have HK := Lib.hid hK
  clear hK
  have HS := Lib.hid (fun k => filTo_succ P A k)
  have HL := Lib.hid (fun k => filTo_length P A k)
  obtain ⟨i0, hi, hz0, hz1, hz2⟩ := info_parts info56
  have T0 := Lib.hid (Below.refl w.heap.size w)
  obtain ⟨S, hS⟩ : ∃ S, w.heap.size = S := ⟨_, rfl⟩
  have HSZ := Lib.hid hS
  clear hS
  go_enter Try.func65, Try.ntmps65
  go_wp2
  go_loopw [7, 8] (fun u i wr => ∃ k : Nat, k ≤ n ∧ i = .int .i64 k ∧ Below w.heap.size w wr ∧ wr.ownsRow S 56 2 u (filTo P A k).length (rowV (filTo P A k))) (fun _ i _ => n - (intOf i).toNat)
  case atStart => exact ⟨0, Nat.zero_le _, rfl, T0.out, rfl, .inl ⟨rfl, rfl⟩⟩
  case round =>
    obtain ⟨k, hk, rfl, hB, hO⟩ := hrel
    have T := Lib.hid hB
    have HO := Lib.hid hO
    clear hB hO
    by_cases hlt : k < n
    · obtain rfl := H1.out (by omega)
      have hex := HA.out wr T.out k hlt
      have HN := Lib.hid (HS.out k)
      have hlen1 : (filTo P A k).length ≤ 4096 := by have := HL.out k; omega
      generalize filTo P A k = L at *
      obtain ⟨p, ep⟩ : ∃ p, vx A k = p := ⟨_, rfl⟩
      have HP := Lib.hid ep
      rw [ep] at hex HN
      clear ep
      have HKK := Lib.hid (HK.out p _ T.out)
      have HO1 := HO
      have T1 := T
      have hq : P p = (decide (p ∈ B) == c) := HPP.out p
      generalize decide (p ∈ B) = db at *
      generalize P p = pb at *
      obtain ⟨s, t⟩ := p
      simp only at hex HN HKK HO1 T1
      obtain ⟨c0, c1⟩ := hex
      generalize hln : L.length = ln at *
      have HLN := Lib.hid hln
      clear hln
      cases c with
      | true =>
        cases db with
        | true =>
            obtain rfl : pb = true := hq
            rw [if_pos rfl] at HN
            go_wp2_with (first
              | (at_builtin; refine wpList_append_own _ rfl _ _ 22 rfl S 56 i0 (.agg #[.int .i64 0, .int .i64 0]) 2 16 Try.underlying22 hi hz0 hz1 hz2 rfl (by decide) _ _ _ rfl (HO3.out.alloc _) ⟨_, 0, none⟩ 1 1 [.int .i64 s, .int .i64 t] rfl rfl (cells_at (by first | rfl | rw [World.size_alloc]) _ _) pair_one (by unfold maxLen; omega) (by omega) (by have := HSZ.out; have := T3.out.size; simp; omega) ?_; intro vnHN4 wnHN4 hown' hgrow _; have HN4 := Lib.hid hown'; have T4 := Lib.hid ((T3.out.alloc (by have := T3.out.size; omega) _).grown hgrow (by have := HSZ.out; have := T3.out.size; simp; omega) (fun k hk => by rw [HSZ.out]; exact own_block HO3.out k hk)); clear hown' hgrow)
              | (go_at_call 74; refine (HKK.out).mono ?_; rintro e w3 ⟨rfl, hb3⟩; have T3 := Lib.hid (T1.out.trans (bel_le hb3 T1.out.size)); have HO3 := Lib.hid (owns_below HO1.out hb3); have ex3 := HA.out _ T3.out k hlt; rw [HP.out] at ex3; obtain ⟨e0, e1⟩ := ex3; clear hb3))
            go_roundw
            case rel => exact ⟨k + 1, by omega, by go_num, T4.out, by rw [HN.out, rowV_snoc, List.length_append, HLN.out]; exact HN4.out⟩
            case measure => simp [intOf]; omega
        | false =>
            obtain rfl : pb = false := hq
            rw [if_neg (by simp)] at HN
            go_wp2_with (go_at_call 74; refine (HKK.out).mono ?_; rintro e w3 ⟨rfl, hb3⟩; have T3 := Lib.hid (T1.out.trans (bel_le hb3 T1.out.size)); have HO3 := Lib.hid (owns_below HO1.out hb3); have ex3 := HA.out _ T3.out k hlt; rw [HP.out] at ex3; obtain ⟨e0, e1⟩ := ex3; clear hb3)
            go_roundw
            case rel => exact ⟨k + 1, by omega, by go_num, T3.out, by rw [HN.out, HLN.out]; exact HO3.out⟩
            case measure => simp [intOf]; omega
      | false =>
        cases db with
        | true =>
            obtain rfl : pb = false := hq
            rw [if_neg (by simp)] at HN
            go_wp2_with (go_at_call 74; refine (HKK.out).mono ?_; rintro e w3 ⟨rfl, hb3⟩; have T3 := Lib.hid (T1.out.trans (bel_le hb3 T1.out.size)); have HO3 := Lib.hid (owns_below HO1.out hb3); have ex3 := HA.out _ T3.out k hlt; rw [HP.out] at ex3; obtain ⟨e0, e1⟩ := ex3; clear hb3)
            go_roundw
            case rel => exact ⟨k + 1, by omega, by go_num, T3.out, by rw [HN.out, HLN.out]; exact HO3.out⟩
            case measure => simp [intOf]; omega
        | false =>
            obtain rfl : pb = true := hq
            rw [if_pos rfl] at HN
            go_wp2_with (first
              | (at_builtin; refine wpList_append_own _ rfl _ _ 22 rfl S 56 i0 (.agg #[.int .i64 0, .int .i64 0]) 2 16 Try.underlying22 hi hz0 hz1 hz2 rfl (by decide) _ _ _ rfl (HO3.out.alloc _) ⟨_, 0, none⟩ 1 1 [.int .i64 s, .int .i64 t] rfl rfl (cells_at (by first | rfl | rw [World.size_alloc]) _ _) pair_one (by unfold maxLen; omega) (by omega) (by have := HSZ.out; have := T3.out.size; simp; omega) ?_; intro vnHN4 wnHN4 hown' hgrow _; have HN4 := Lib.hid hown'; have T4 := Lib.hid ((T3.out.alloc (by have := T3.out.size; omega) _).grown hgrow (by have := HSZ.out; have := T3.out.size; simp; omega) (fun k hk => by rw [HSZ.out]; exact own_block HO3.out k hk)); clear hown' hgrow)
              | (go_at_call 74; refine (HKK.out).mono ?_; rintro e w3 ⟨rfl, hb3⟩; have T3 := Lib.hid (T1.out.trans (bel_le hb3 T1.out.size)); have HO3 := Lib.hid (owns_below HO1.out hb3); have ex3 := HA.out _ T3.out k hlt; rw [HP.out] at ex3; obtain ⟨e0, e1⟩ := ex3; clear hb3))
            go_roundw
            case rel => exact ⟨k + 1, by omega, by go_num, T4.out, by rw [HN.out, rowV_snoc, List.length_append, HLN.out]; exact HN4.out⟩
            case measure => simp [intOf]; omega
    · obtain rfl : k = n := by omega
      go_wp2
      go_ret
      exact ⟨_, rfl, T.out, v_own HO.out⟩
end Go.Proofs.Ytjggeombkbianaa.Sx
