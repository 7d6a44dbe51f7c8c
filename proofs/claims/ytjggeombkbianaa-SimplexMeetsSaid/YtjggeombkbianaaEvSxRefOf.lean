/-
  The reference's Compare, Same and Of.
-/
import Derived.Test.YtjggeombkbianaaEvSxPut
namespace Go.Proofs.Ytjggeombkbianaa.Sx
open Go Go.RowKit Go.Law Go.Sx

set_option maxRecDepth 100000 in
set_option maxHeartbeats 2000000 in
theorem rcompare_in (a1 a2 : Option Addr) (n1 n2 k1 k2 b1 o1 b2 o2 : Nat) (A B : List V) (w : World) (h1 : VIn w a1 n1 k1 b1 o1 A) (h2 : VIn w a2 n2 k2 b2 o2 B) (hs : n1 ≤ 4096) (ht : n2 ≤ 4096) :
    Calls Try.prog 26 #[.slice a1 n1 k1, .slice a2 n2 k2] w fun e w' => e = .returned (.int .i64 (cmpL A B)) ∧ Below w.heap.size w w' := by
  have HA := Lib.hid (fun (w1 : World) (hb : Below w.heap.size w w1) => (h1.below hb).cells)
  have HB := Lib.hid (fun (w1 : World) (hb : Below w.heap.size w w1) => (h2.below hb).cells)
  have H1 := Lib.hid h1.head
  have H2 := Lib.hid h2.head
  have S1 := Lib.hid h1.size
  have S2 := Lib.hid h2.size
  clear h1 h2
  have HV := Lib.hid rvcmp
  have TW := Lib.hid (Below.refl w.heap.size w)
  go_enter Try.func26, Try.ntmps26
  go_wp2
  go_loopw [5] (fun i wr => ∃ k : Nat, k ≤ n1 ∧ k ≤ n2 ∧ i = .int .i64 k ∧ Below w.heap.size w wr ∧ cmpL A B = cmpL (A.drop k) (B.drop k)) (fun i _ => n1 - (intOf i).toNat)
  case atStart => exact ⟨0, Nat.zero_le _, Nat.zero_le _, rfl, TW.out, rfl⟩
  case round =>
    obtain ⟨k, hk, hk2, rfl, hB, hC⟩ := hrel
    have T := Lib.hid hB
    have HC := Lib.hid hC
    clear hB hC
    by_cases hlt : k < n1
    · by_cases hlt2 : k < n2
      · obtain rfl := H1.out (by omega)
        obtain rfl := H2.out (by omega)
        obtain ⟨c0, c1⟩ := HA.out wr T.out k hlt
        obtain ⟨d0, d1⟩ := HB.out wr T.out k hlt2
        have hg1 := vx_get (l := A) (k := k) (by rw [S1.out]; exact hlt)
        have hg2 := vx_get (l := B) (k := k) (by rw [S2.out]; exact hlt2)
        have HS := Lib.hid (cmpL_step (a := A) (b := B) (i := k) (by rw [S1.out]; exact hlt) (by rw [S2.out]; exact hlt2))
        rw [← hg1, ← hg2] at HS
        have HP := Lib.hid (HV.out (vx A k) (vx B k))
        clear hg1 hg2
        generalize vx A k = p at *
        generalize vx B k = q at *
        obtain ⟨x, y⟩ := p
        obtain ⟨u, v⟩ := q
        simp only at c0 c1 d0 d1 HP
        by_cases hz : cmpV (x, y) (u, v) = 0
        · rw [hz] at HP HS
          rw [if_neg (by simp)] at HS
          go_wp2
          refine wp_region_still_tail 8 (by kernel_rfl) (by kernel_rfl) ?_
          change wpStill _ _ wr.drew _ _ _
          simp only [List.take_succ_cons, List.take_zero, List.drop_succ_cons, List.drop_zero]
          repeat still_step
          refine wpStill_nil ?_
          change wpList _ _ _ _ _ wr.drew
          go_wp2_with (go_at_call 53; refine (HP.out _).mono ?_; rintro e w3 ⟨rfl, hb⟩; have T3 := Lib.hid (T.out.drew.trans (bel_le hb T.out.drew.size)); clear hb)
          exact ⟨⟨k + 1, by omega, by omega, by go_num, T3.out, by rw [HC.out, HS.out]⟩, by simp [intOf]; omega⟩
        · rw [if_pos hz] at HS
          generalize cmpV (x, y) (u, v) = c at *
          have hb0 : (c != 0) = true := by simpa using hz
          clear hz
          go_wp2
          refine wp_region_still_tail 8 (by kernel_rfl) (by kernel_rfl) ?_
          change wpStill _ _ wr.drew _ _ _
          simp only [List.take_succ_cons, List.take_zero, List.drop_succ_cons, List.drop_zero]
          repeat still_step
          refine wpStill_nil ?_
          change wpList _ _ _ _ _ wr.drew
          go_wp2_with (go_at_call 53; refine (HP.out _).mono ?_; rintro e w3 ⟨rfl, hb⟩; have T3 := Lib.hid (T.out.drew.trans (bel_le hb T.out.drew.size)); clear hb)
          go_ret
          exact ⟨ret_int (by rw [HC.out, HS.out]), T3.out⟩
      · have HS := Lib.hid (cmpL_short (a := A) (b := B) (i := k) (by rw [S1.out]; exact hlt) (by rw [S2.out]; omega))
        have hl : ¬ (n1 : Int) < (n2 : Int) := by omega
        have hg : (n1 : Int) > (n2 : Int) := by omega
        go_wp2
        go_ret
        exact ⟨ret_int (by rw [HC.out, HS.out]), T.out⟩
    · obtain rfl : k = n1 := by omega
      have hd := cmpL_done (a := A) (b := B) (by rw [S1.out, S2.out]; exact hk2)
      rw [S1.out, S2.out] at hd
      by_cases hl : k < n2
      · rw [if_pos hl] at hd
        have HD := Lib.hid hd
        have hi : (k : Int) < (n2 : Int) := by omega
        clear hd
        go_wp2
        go_ret
        exact ⟨ret_int (by rw [HC.out, HD.out]), T.out⟩
      · rw [if_neg hl] at hd
        have HD := Lib.hid hd
        have hi : ¬ (k : Int) < (n2 : Int) := by omega
        have hg : ¬ (k : Int) > (n2 : Int) := by omega
        clear hd
        go_wp2
        go_ret
        exact ⟨ret_int (by rw [HC.out, HD.out]), T.out⟩
theorem same_in (a1 a2 : Option Addr) (n1 n2 k1 k2 b1 o1 b2 o2 : Nat) (A : List V) (w : World) (h1 : VIn w a1 n1 k1 b1 o1 A) (h2 : VIn w a2 n2 k2 b2 o2 A) (hs : n1 ≤ 4096) (ht : n2 ≤ 4096) :
    Calls Try.prog 20 #[.slice a1 n1 k1, .slice a2 n2 k2] w fun e w' => e = .returned (.bool true) ∧ Below w.heap.size w w' := by
  have H := Lib.hid (rcompare_in a1 a2 n1 n2 k1 k2 b1 o1 b2 o2 A A w h1 h2 hs ht)
  rw [cmpL_same] at H
  clear h1 h2
  go_enter Try.func20, Try.ntmps20
  go_wp2_with (go_at_call 26; refine (H.out).mono ?_; rintro e w1 ⟨rfl, hb⟩; have T := Lib.hid hb; clear hb)
  go_ret
  exact ⟨rfl, T.out⟩
theorem same_top {w : World} {u v : Value} {A : List V} (h1 : VTop w u A) (h2 : VTop w v A) (hn : A.length ≤ 4096) : Calls Try.prog 20 #[u, v] w fun e w' => e = .returned (.bool true) ∧ Below w.heap.size w w' := by
  obtain ⟨a1, n1, k1, b1, o1, rfl, i1⟩ := h1
  obtain ⟨a2, n2, k2, b2, o2, rfl, i2⟩ := h2
  exact same_in a1 a2 n1 n2 k1 k2 b1 o1 b2 o2 A w i1 i2 (by rw [← i1.size]; exact hn) (by rw [← i2.size]; exact hn)

/-! Of. -/
def ofTo (A : List V) : Nat → List V
  | 0 => []
  | k + 1 => put (ofTo A k) (vx A k)
theorem put_length (s : List V) (v : V) : s.length ≤ (put s v).length ∧ (put s v).length ≤ s.length + 1 := by
  have := putTo_length s v s.length
  unfold put
  split
  · omega
  · split
    · rename_i h; rw [h] at this; simp at this; omega
    · rename_i h
      have h : (putTo s v s.length).2 = false := by simpa using h
      rw [h] at this; simp at this; simp; omega
theorem ofTo_le (A : List V) {k m : Nat} (h : k ≤ m) : (ofTo A k).length ≤ (ofTo A m).length := by
  induction m with
  | zero => obtain rfl : k = 0 := by omega
            exact Nat.le_refl _
  | succ m ih =>
    by_cases e : k = m + 1
    · rw [e]; exact Nat.le_refl _
    · exact Nat.le_trans (ih (by omega)) (put_length _ _).1
def allOk (A : List V) (n : Nat) : Bool := (List.range n).all fun j => okV (vx A j)
theorem allOk_bad {A : List V} {n k : Nat} (hk : k < n) (h : okV (vx A k) = false) : allOk A n = false := by
  unfold allOk
  rw [Bool.eq_false_iff]
  intro e
  rw [List.all_eq_true] at e
  have := e k (List.mem_range.2 hk)
  rw [h] at this; cases this
theorem allOk_good {A : List V} {n : Nat} (h : ∀ j, j < n → okV (vx A j) = true) : allOk A n = true := by
  unfold allOk
  rw [List.all_eq_true]
  intro j hj
  exact h j (List.mem_range.1 hj)
/-- The simplex of a list, and the error. -/
def ofR (A : List V) (n : Nat) : List V × Int := if n = 0 then ([], 16) else if allOk A n = false then ([], 2) else if 8 < (ofTo A n).length then ([], 5) else (ofTo A n, 0)
theorem v_nil (w : World) : VTop w (.slice none 0 0) [] := ⟨none, 0, 0, 0, 0, rfl, rfl, fun h => absurd h (by simp), fun h => absurd h (by simp), fun k hk => absurd hk (by simp), by simp, by simp [maxLen]⟩
/-- What Of gives. -/
def OfPost (A : List V) (n : Nat) (w : World) (e : Ending) (w' : World) : Prop := ∃ u, e = .returned (.tuple #[u, .int .i64 (ofR A n).2]) ∧ Below w.heap.size w w' ∧ VTop w' u (ofR A n).1
set_option maxRecDepth 100000 in
set_option maxHeartbeats 4000000 in
theorem rOf_in (a : Option Addr) (n cap b off : Nat) (A : List V) (w : World) (h : VIn w a n cap b off A) (hn : n ≤ 10) : Calls Try.prog 13 #[.slice a n cap] w (OfPost A n w) := by
  by_cases h0 : n = 0
  · subst h0
    clear h
    go_enter Try.func13, Try.ntmps13
    go_wp2
    go_ret2
    exact ⟨_, rfl, Below.refl _ _, v_nil _⟩
  have n0 : ((n : Int) == 0) = false := by simpa using h0
  have HR : Hid (ofR A n = if allOk A n = false then ([], 2) else if 8 < (ofTo A n).length then ([], 5) else (ofTo A n, 0)) := Lib.hid (by unfold ofR; rw [if_neg h0])
  have HA := Lib.hid (fun (w1 : World) (hb : Below w.heap.size w w1) => (h.below hb).cells)
  have H1 := Lib.hid h.head
  clear h h0
  have TW := Lib.hid (Below.refl w.heap.size w)
  have HK := Lib.hid ranged_any
  have HBad := Lib.hid (fun k (hk : k < n) (e : okV (vx A k) = false) => allOk_bad hk e)
  have HGood := Lib.hid (fun (e : ∀ j, j < n → okV (vx A j) = true) => allOk_good e)
  have HPut := Lib.hid (fun (k : Nat) (w1 : World) (u : Value) (hu : VTop w1 u (ofTo A k)) (hl : (ofTo A k).length ≤ 8) => show Calls Try.prog 48 #[u, .agg #[.int .i64 (vx A k).1, .int .i64 (vx A k).2]] w1 fun e w' => ∃ a' n' cap' b' off', e = .returned (.slice a' n' cap') ∧ Below w1.heap.size w1 w' ∧ VIn w' a' n' cap' b' off' (ofTo A (k + 1)) ∧ n' = (ofTo A (k + 1)).length by
    obtain ⟨a1, n1, k1, b1, o1, rfl, i1⟩ := hu
    refine (put_in a1 n1 k1 b1 o1 _ (vx A k) w1 i1 (by rw [← i1.size]; omega)).mono fun e w' ⟨u, he, hb, hv⟩ => ?_
    obtain ⟨a', n', cap', b', off', rfl, i'⟩ := hv
    exact ⟨a', n', cap', b', off', he, hb, i', i'.size.symm⟩)
  have HLe := Lib.hid (fun k (hk : k ≤ n) => ofTo_le A hk)
  go_enter Try.func13, Try.ntmps13
  go_wp2
  go_loopw [4] (fun i wr => ∃ k : Nat, k ≤ n ∧ i = .int .i64 k ∧ Below w.heap.size w wr ∧ ∀ j, j < k → okV (vx A j) = true) (fun i _ => n - (intOf i).toNat)
  case atStart => exact ⟨0, Nat.zero_le _, rfl, TW.out, fun j hj => absurd hj (by omega)⟩
  case round =>
    obtain ⟨k, hk, rfl, hB, hC⟩ := hrel
    have T := Lib.hid hB
    have HC := Lib.hid hC
    clear hB hC
    by_cases hlt : k < n
    · obtain rfl := H1.out (by omega)
      obtain ⟨c0, c1⟩ := HA.out wr T.out k hlt
      have HKK := Lib.hid (HK.out (vx A k))
      cases hok : okV (vx A k) with
      | false =>
        rw [hok] at HKK
        have hbad := HBad.out k hlt hok
        rw [hbad, if_pos rfl] at HR
        clear hok hbad
        generalize vx A k = p at *
        obtain ⟨x, y⟩ := p
        simp only at c0 c1 HKK
        go_wp2_with (go_at_call 47; refine (HKK.out _).mono ?_; rintro e w1 ⟨rfl, hb⟩; have T1 := Lib.hid (T.out.trans (bel_le hb T.out.size)); clear hb)
        go_ret2
        unfold OfPost
        rw [HR.out]
        exact ⟨_, rfl, T1.out, v_nil _⟩
      | true =>
        rw [hok] at HKK
        have HC1 := Lib.hid (fun j (hj : j < k + 1) => (show okV (vx A j) = true by
          by_cases e : j = k
          · rw [e]; exact hok
          · exact HC.out j (by omega)))
        clear hok
        generalize vx A k = p at HKK c0 c1
        obtain ⟨x, y⟩ := p
        simp only at c0 c1 HKK
        go_wp2_with (go_at_call 47; refine (HKK.out _).mono ?_; rintro e w1 ⟨rfl, hb⟩; have T1 := Lib.hid (T.out.trans (bel_le hb T.out.size)); clear hb)
        exact ⟨⟨k + 1, by omega, by go_num, T1.out, HC1.out⟩, by simp [intOf]; omega⟩
    · obtain rfl : k = n := by omega
      have hgood := HGood.out HC.out
      rw [hgood, if_neg (by simp)] at HR
      clear hgood
      go_wp2
      go_loopw [5, 6] (fun u i wz => ∃ k' : Nat, k' ≤ k ∧ i = .int .i64 k' ∧ Below w.heap.size w wz ∧ VTop wz u (ofTo A k') ∧ (ofTo A k').length ≤ 8) (fun _ i _ => k - (intOf i).toNat)
      case atStart => exact ⟨0, Nat.zero_le _, rfl, T.out, v_nil _, by simp [ofTo]⟩
      case round =>
        obtain ⟨j, hj, rfl, hB2, hU, hL⟩ := hrel
        have T2 := Lib.hid hB2
        have HU := Lib.hid hU
        have HL := Lib.hid hL
        clear hB2 hU hL
        by_cases hlt2 : j < k
        · obtain rfl := H1.out (by omega)
          obtain ⟨c0, c1⟩ := HA.out _ T2.out j hlt2
          have HP := Lib.hid (HPut.out j _ _ HU.out HL.out)
          have HLe2 := Lib.hid (HLe.out (j + 1) hlt2)
          generalize vx A j = p at *
          obtain ⟨x, y⟩ := p
          simp only at c0 c1 HP
          by_cases h8 : (ofTo A (j + 1)).length ≤ 8
          · go_wp2_with fail
            refine (HP.out).mono ?_
            rintro e w3 ⟨a', n', cap', b', off', he, hb, hv, hn'⟩
            subst he
            have hn8 : ¬ (n' : Int) > 8 := by omega
            have T3 := Lib.hid (T2.out.trans (bel_le hb T2.out.size))
            have HV3 := Lib.hid hv
            clear hb hv hn'
            go_wp2
            exact ⟨⟨j + 1, by omega, by go_num, T3.out, ⟨_, _, _, _, _, rfl, HV3.out⟩, h8⟩, by simp [intOf]; omega⟩
          · have h5 : 8 < (ofTo A k).length := by have := HLe2.out; omega
            rw [if_pos h5] at HR
            clear h5
            go_wp2_with fail
            refine (HP.out).mono ?_
            rintro e w3 ⟨a', n', cap', b', off', he, hb, hv, hn'⟩
            subst he
            have hn8 : (n' : Int) > 8 := by omega
            have T3 := Lib.hid (T2.out.trans (bel_le hb T2.out.size))
            clear hb hv hn'
            go_wp2
            go_ret2
            unfold OfPost
            rw [HR.out]
            exact ⟨_, rfl, T3.out, v_nil _⟩
        · obtain rfl : j = k := by omega
          rw [if_neg (by have := HL.out; omega)] at HR
          go_wp2
          go_ret2
          unfold OfPost
          rw [HR.out]
          exact ⟨_, rfl, T2.out, HU.out⟩
end Go.Proofs.Ytjggeombkbianaa.Sx
