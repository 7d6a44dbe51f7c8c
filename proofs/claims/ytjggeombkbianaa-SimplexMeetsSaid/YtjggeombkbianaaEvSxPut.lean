/-
  The reference's Has and Put.
-/
import Derived.Test.YtjggeombkbianaaEvSxColors
import Derived.Laws.AppendOwn
namespace Go.Proofs.Ytjggeombkbianaa.Sx
open Go Go.RowKit Go.Law Go.Sx

/-! A list of vertices that the call made. -/
def rowV (L : List V) : List Value := L.flatMap fun v => [.int .i64 v.1, .int .i64 v.2]
theorem rowV_length (L : List V) : (rowV L).length = L.length * 2 := by
  induction L with
  | nil => rfl
  | cons x L ih => unfold rowV at ih ⊢; rw [List.flatMap_cons, List.length_append, ih, List.length_cons]; simp; omega
theorem rowV_snoc (L : List V) (v : V) : rowV (L ++ [v]) = rowV L ++ [.int .i64 v.1, .int .i64 v.2] := by unfold rowV; rw [List.flatMap_append]; rfl
theorem rowV_get : ∀ (L : List V) (k : Nat), k < L.length → (rowV L)[k * 2]? = some (.int .i64 (vx L k).1) ∧ (rowV L)[k * 2 + 1]? = some (.int .i64 (vx L k).2)
  | [], k, hk => absurd hk (by simp)
  | x :: L, 0, _ => ⟨rfl, rfl⟩
  | x :: L, k + 1, hk => by
    have ih := rowV_get L k (by simpa using hk)
    have e : rowV (x :: L) = .int .i64 x.1 :: .int .i64 x.2 :: rowV L := rfl
    rw [e, show (k + 1) * 2 = k * 2 + 1 + 1 by omega, List.getElem?_cons_succ, List.getElem?_cons_succ, List.getElem?_cons_succ, List.getElem?_cons_succ]
    exact ih
theorem v_own {w : World} {base : Nat} {v : Value} {L : List V} (h : w.ownsRow base 56 2 v L.length (rowV L)) : VTop w v L := by
  rcases h.2 with ⟨rfl, hn⟩ | ⟨g, cap, cur, rfl, hg, hb, hn, hcap, hcs, htake⟩
  · have : L = [] := List.length_eq_zero_iff.1 hn
    subst this
    exact ⟨none, 0, 0, 0, 0, rfl, rfl, fun h => absurd h (by simp), fun h => absurd h (by simp), fun k hk => absurd hk (by simp), by simp, by simp [maxLen]⟩
  · refine ⟨some ⟨g, 0, none⟩, L.length, cap, g, 0, rfl, rfl, fun _ => rfl, fun _ => ?_, fun k hk => ?_, hn, hcap⟩
    · by_cases hlt : g < w.heap.size
      · exact hlt
      · rw [Array.getElem?_eq_none (by omega)] at hb; cases hb
    · obtain ⟨h1, h2⟩ := rowV_get L k hk
      rw [← htake, List.getElem?_take, if_pos (by omega)] at h1 h2
      simp only [World.cell?, hb, Nat.zero_add]
      exact ⟨by simpa using h1, by simpa using h2⟩
theorem owns_below {w w' : World} {base : Nat} {e : TypeId} {size n : Nat} {v : Value} {xs : List Value} (h : w.ownsRow base e size v n xs) (hb : Below w.heap.size w w') : w'.ownsRow base e size v n xs := by
  refine ⟨h.1, ?_⟩
  rcases h.2 with h0 | ⟨g, cap, cur, hv, hg, hh, rest⟩
  · exact .inl h0
  · exact .inr ⟨g, cap, cur, hv, hg, (hb.block g (Array.getElem?_eq_some_iff.1 hh).1).trans hh, rest⟩
theorem own_block {w : World} {base n size : Nat} {e : TypeId} {v : Value} {xs : List Value} (h : w.ownsRow base e size v n xs) : ∀ k, v.ownBlock = some k → base ≤ k := by
  intro k hk
  rcases h.2 with ⟨rfl, _⟩ | ⟨g, cap, cur, rfl, hg, _⟩
  · cases hk
  · cases hk; exact hg
theorem cells_at {w : World} {B : Nat} (hB : B = w.heap.size) (l : List Value) (t : TypeId) : ∀ (j : Nat) (u : Value), l[j]? = some u → (w.alloc (.cells ⟨l⟩ t)).cell? ((⟨B, 0, none⟩ : Addr).add j) = some u := by
  subst hB
  intro j u h
  rw [Go.WideShapes.add_plain, Nat.zero_add, World.cell?_alloc_at _ _ _ _ rfl]
  simpa using h
theorem info56 : (Try.prog.info? 56).map (fun i => (i.zero, i.size, i.bytes)) = some (some (.agg #[.int .i64 0, .int .i64 0]), 2, 16) := by kernel_rfl
theorem info_parts {P : Program} {t : TypeId} {z : Option Value} {s b : Nat} (h : (P.info? t).map (fun i => (i.zero, i.size, i.bytes)) = some (z, s, b)) : ∃ i, P.info? t = some i ∧ i.zero = z ∧ i.size = s ∧ i.bytes = b := by
  cases hi : P.info? t with
  | none => rw [hi] at h; cases h
  | some i => rw [hi] at h; simp at h; exact ⟨i, rfl, h.1, h.2.1, h.2.2⟩
theorem pair_one {x y : Int} : ∀ u ∈ [Value.int .i64 x, Value.int .i64 y], u.oneCell' = true := by
  intro u hu
  simp at hu
  rcases hu with rfl | rfl <;> rfl

/-! Has. -/
theorem mem_take {l : List V} {k : Nat} {v : V} (hk : k < l.length) (h : v ∉ l.take k) (hne : vx l k ≠ v) : v ∉ l.take (k + 1) := by
  rw [← List.take_append_getElem hk, ← vx_get hk]
  intro hm
  rcases List.mem_append.1 hm with h1 | h1
  · exact h h1
  · exact hne (List.mem_singleton.1 h1).symm
theorem vx_mem {l : List V} {k : Nat} (hk : k < l.length) : vx l k ∈ l := by rw [vx_get hk]; exact List.getElem_mem hk
set_option maxRecDepth 100000 in
set_option maxHeartbeats 2000000 in
theorem has_in (a : Option Addr) (n cap b off : Nat) (A : List V) (v : V) (w : World) (h : VIn w a n cap b off A) (hn : n ≤ 4096) :
    Calls Try.prog 74 #[.slice a n cap, .agg #[.int .i64 v.1, .int .i64 v.2]] w fun e w' => e = .returned (.bool (decide (v ∈ A))) ∧ Below w.heap.size w w' := by
  obtain ⟨x, y⟩ := v
  have T0 := Lib.hid (below_alloc w (.cells #[.int .i64 x, .int .i64 y] 56))
  have HA := Lib.hid ((h.below T0.out).cells)
  have H1 := Lib.hid h.head
  have hs := h.size
  clear h
  have R0 := Lib.hid (row2_new w x y)
  go_enter Try.func74, Try.ntmps74
  go_wp2
  generalize World.alloc w _ = W1 at *
  go_loopw [5] (fun i wr => ∃ k m : Nat, k ≤ n ∧ i = .int .i64 k ∧ wr = W1.drewN m ∧ ((x, y) : V) ∉ A.take k) (fun i _ => n - (intOf i).toNat)
  case atStart => exact ⟨0, 0, Nat.zero_le _, rfl, rfl, by simp⟩
  case round =>
    obtain ⟨k, m, hk, rfl, rfl, hC⟩ := hrel
    have HC := Lib.hid hC
    clear hC
    obtain ⟨r0, r1⟩ := R0.out
    by_cases hlt : k < n
    · obtain rfl := H1.out (by omega)
      obtain ⟨c0, c1⟩ := HA.out k hlt
      have HT := Lib.hid (fun e => mem_take (l := A) (k := k) (v := ((x, y) : V)) (by rw [hs]; exact hlt) HC.out e)
      have HM := Lib.hid (vx_mem (l := A) (k := k) (by rw [hs]; exact hlt))
      generalize vx A k = p at *
      obtain ⟨s, t⟩ := p
      simp only at c0 c1
      clear hs
      by_cases hx : s = x
      · by_cases hy : t = y
        · subst hx hy
          have HD := Lib.hid (decide_eq_true HM.out)
          clear HT HM HC
          go_wp2
          go_quiet (fail)
          go_wp2
          go_ret
          exact ⟨ret_bool HD.out.symm, below_drewN (below_drewN T0.out _) _⟩
        · have hb : (t == y) = false := by simpa using hy
          have HT1 := Lib.hid (HT.out (fun e => hy (by injection e)))
          subst hx
          clear HT HM HC hy
          go_wp2
          go_quiet (fail)
          go_wp2
          exact ⟨⟨k + 1, m + nq, by omega, by go_num, rfl, HT1.out⟩, by simp [intOf]; omega⟩
      · have hb : (s == x) = false := by simpa using hx
        have HT1 := Lib.hid (HT.out (fun e => hx (by injection e)))
        clear HT HM HC hx
        go_wp2
        go_quiet (fail)
        go_wp2
        exact ⟨⟨k + 1, m + nq, by omega, by go_num, rfl, HT1.out⟩, by simp [intOf]; omega⟩
    · obtain rfl : k = n := by omega
      have HT : Hid (decide (((x, y) : V) ∈ A) = false) := Lib.hid (decide_eq_false (by have := HC.out; rw [List.take_of_length_le (by omega)] at this; exact this))
      go_wp2
      go_ret
      exact ⟨ret_bool HT.out.symm, below_drewN T0.out _⟩

/-! Put. -/
def putTo (s : List V) (v : V) : Nat → List V × Bool
  | 0 => ([], false)
  | k + 1 => if (putTo s v k).2 = false ∧ cmpV v (vx s k) < 0 then ((putTo s v k).1 ++ [v] ++ [vx s k], true) else ((putTo s v k).1 ++ [vx s k], (putTo s v k).2)
def put (s : List V) (v : V) : List V := if v ∈ s then s else if (putTo s v s.length).2 then (putTo s v s.length).1 else (putTo s v s.length).1 ++ [v]
theorem putTo_length (s : List V) (v : V) : ∀ k, (putTo s v k).1.length = k + (if (putTo s v k).2 then 1 else 0)
  | 0 => rfl
  | k + 1 => by
    have ih := putTo_length s v k
    unfold putTo
    split
    · rename_i h
      rw [h.1] at ih
      simp at ih ⊢; omega
    · simp only [List.length_append, List.length_singleton]; omega
set_option maxRecDepth 100000 in
set_option maxHeartbeats 4000000 in
theorem put_new (a : Option Addr) (n cap b off : Nat) (A : List V) (v : V) (w : World) (h : VIn w a n cap b off A) (hn : n ≤ 100) (hv : v ∉ A) :
    Calls Try.prog 48 #[.slice a n cap, .agg #[.int .i64 v.1, .int .i64 v.2]] w fun e w' => ∃ u, e = .returned u ∧ Below w.heap.size w w' ∧ VTop w' u (put A v) := by
  have hput : put A v = if (putTo A v A.length).2 then (putTo A v A.length).1 else (putTo A v A.length).1 ++ [v] := by unfold put; rw [if_neg hv]
  have HPUT := Lib.hid hput
  clear hput
  have HH := Lib.hid (fun (w1 : World) (hb : Below w.heap.size w w1) => has_in a n cap b off A v w1 (h.below hb) (by omega))
  rw [decide_eq_false hv] at HH
  clear hv
  have HL := Lib.hid (putTo_length A v)
  have HS := Lib.hid (fun k => show putTo A v (k + 1) = if (putTo A v k).2 = false ∧ cmpV v (vx A k) < 0 then ((putTo A v k).1 ++ [v] ++ [vx A k], true) else ((putTo A v k).1 ++ [vx A k], (putTo A v k).2) from rfl)
  have HV := Lib.hid (rvcmp v)
  have T0 := Lib.hid (below_alloc w (.cells #[.int .i64 v.1, .int .i64 v.2] 56))
  have HA := Lib.hid (fun (w1 : World) (hb : Below w.heap.size w w1) => (h.below hb).cells)
  have H1 := Lib.hid h.head
  have HSIZE := Lib.hid h.size
  clear h
  obtain ⟨i0, hi, hz0, hz1, hz2⟩ := info_parts info56
  obtain ⟨x, y⟩ := v
  have R0 := Lib.hid (row2_new w x y)
  simp only at T0 HH HV
  have r00 := R0.out
  obtain ⟨q0, q1⟩ := r00
  go_enter Try.func48, Try.ntmps48
  go_wp2_with (go_at_call 74; refine (HH.out _ T0.out).mono ?_; rintro e w1 ⟨rfl, hb⟩; have T1 := Lib.hid (T0.out.trans (bel_le hb T0.out.size)); have R1 := Lib.hid (row2_below R0.out hb); clear hb)
  clear q0 q1
  obtain ⟨S, hS⟩ : ∃ S, w1.heap.size = S := ⟨_, rfl⟩
  have HSZ := Lib.hid hS
  clear hS
  go_loopw [5, 6, 7] (fun u d i wr => ∃ k : Nat, k ≤ n ∧ i = .int .i64 k ∧ d = .bool (putTo A (x, y) k).2 ∧ Below w1.heap.size w1 wr ∧ wr.ownsRow S 56 2 u (putTo A (x, y) k).1.length (rowV (putTo A (x, y) k).1)) (fun _ _ i _ => n - (intOf i).toNat)
  case atStart => exact ⟨0, Nat.zero_le _, rfl, rfl, Below.refl _ _, rfl, .inl ⟨rfl, rfl⟩⟩
  case round =>
    obtain ⟨k, hk, rfl, rfl, hB, hO⟩ := hrel
    have T := Lib.hid hB
    have HO := Lib.hid hO
    clear hB hO
    have R := Lib.hid (row2_below R1.out T.out)
    obtain ⟨r0, r1⟩ := R.out
    have hlen := HL.out k
    have TT := Lib.hid (T1.out.trans (bel_le T.out T1.out.size))
    by_cases hlt : k < n
    · obtain rfl := H1.out (by omega)
      have hex := HA.out wr TT.out k hlt
      have HN := Lib.hid (HS.out k)
      have hlen1 : (putTo A (x, y) k).1.length ≤ 200 := by rw [hlen]; split <;> omega
      clear hlen
      generalize putTo A (x, y) k = pd at *
      obtain ⟨L, d⟩ := pd
      obtain ⟨p, ep⟩ : ∃ p, vx A k = p := ⟨_, rfl⟩
      have HP := Lib.hid ep
      rw [ep] at hex HN
      clear ep
      obtain ⟨s, t⟩ := p
      have HVV := Lib.hid (HV.out (s, t))
      simp only at hex HN hlen1 HVV HO
      obtain ⟨c0, c1⟩ := hex
      generalize hln : L.length = ln at *
      have HLN := Lib.hid hln
      clear hln
      cases d with
      | true =>
        rw [if_neg (by simp)] at HN
        go_wp2
        go_quiet (fail)
        go_wp2_with (at_builtin; refine wpList_append_own _ rfl _ _ 22 rfl S 56 i0 (.agg #[.int .i64 0, .int .i64 0]) 2 16 Try.underlying22 hi hz0 hz1 hz2 rfl (by decide) _ _ _ rfl ((show World.ownsRow (World.drewN wr _) _ _ _ _ _ _ from HO.out).alloc _) ⟨_, 0, none⟩ 1 1 [.int .i64 s, .int .i64 t] rfl rfl (cells_at (by first | rfl | rw [World.size_alloc]) _ _) pair_one (by unfold maxLen; omega) (by omega) (by have := HSZ.out; have := T.out.size; simp; omega) ?_; intro vnHN1 wnHN1 hown' hgrow _; have HN1 := Lib.hid hown'; have T2 := Lib.hid (((below_drewN T.out nq).alloc (by have := T.out.size; simp; omega) _).grown hgrow (by have := HSZ.out; have := T.out.size; simp; omega) (fun k hk => by rw [HSZ.out]; exact own_block HO.out k hk)); clear hown' hgrow)
        go_roundw
        case rel => exact ⟨k + 1, by omega, by go_num, by rw [HN.out], T2.out, by rw [HN.out]; simp only; rw [rowV_snoc, List.length_append, HLN.out]; exact HN1.out⟩
        case measure => simp [intOf]; omega
      | false =>
        by_cases hc : cmpV (x, y) (s, t) < 0
        · rw [if_pos ⟨rfl, hc⟩] at HN
          generalize cmpV (x, y) (s, t) = c at *
          go_wp2
          refine wp_region_still_tail 8 (by kernel_rfl) (by kernel_rfl) ?_
          change wpStill _ _ wr.drew _ _ _
          simp only [List.take_succ_cons, List.take_zero, List.drop_succ_cons, List.drop_zero]
          repeat still_step
          refine wpStill_nil ?_
          change wpList _ _ _ _ _ wr.drew
          go_wp2_with (first
            | (at_builtin; refine wpList_append_own _ rfl _ _ 22 rfl S 56 i0 (.agg #[.int .i64 0, .int .i64 0]) 2 16 Try.underlying22 hi hz0 hz1 hz2 rfl (by decide) _ _ _ rfl (HN2.out.alloc _) ⟨_, 0, none⟩ 1 1 [.int .i64 s, .int .i64 t] rfl rfl (cells_at (by first | rfl | rw [World.size_alloc]) _ _) pair_one (by unfold maxLen; omega) (by omega) (by have := HSZ.out; have := T4.out.size; simp; omega) ?_; intro vnHN3 wnHN3 hown' hgrow _; have HN3 := Lib.hid hown'; have T5 := Lib.hid ((T4.out.alloc (by have := T4.out.size; omega) _).grown hgrow (by have := HSZ.out; have := T4.out.size; simp; omega) (fun k hk => by rw [HSZ.out]; exact own_block HN2.out k hk)); clear hown' hgrow)
            | (at_builtin; refine wpList_append_own _ rfl _ _ 22 rfl S 56 i0 (.agg #[.int .i64 0, .int .i64 0]) 2 16 Try.underlying22 hi hz0 hz1 hz2 rfl (by decide) _ _ _ rfl (HO3.out.alloc _) ⟨_, 0, none⟩ 1 1 [.int .i64 x, .int .i64 y] rfl rfl (cells_at (by first | rfl | rw [World.size_alloc]) _ _) pair_one (by unfold maxLen; omega) (by omega) (by have := HSZ.out; have := T3.out.size; simp; omega) ?_; intro vnHN2 wnHN2 hown' hgrow _; have HN2 := Lib.hid hown'; have T4 := Lib.hid ((T3.out.alloc (by have := T3.out.size; omega) _).grown hgrow (by have := HSZ.out; have := T3.out.size; simp; omega) (fun k hk => by rw [HSZ.out]; exact own_block HO3.out k hk)); clear hown' hgrow; have TT4 := Lib.hid (T1.out.trans (bel_le T4.out T1.out.size)); have ex4 := HA.out _ TT4.out k hlt; rw [HP.out] at ex4; obtain ⟨k0, k1⟩ := ex4)
            | (go_at_call 53; refine (HVV.out _).mono ?_; rintro e w3 ⟨rfl, hb⟩; have T3 := Lib.hid (T.out.drew.trans (bel_le hb T.out.drew.size)); have HO3 := Lib.hid (owns_below (show wr.drew.ownsRow _ _ _ _ _ _ from HO.out) hb); have R3 := Lib.hid (row2_below (show Row2 wr.drew _ _ _ from R.out) hb); have TT3 := Lib.hid (T1.out.trans (bel_le T3.out T1.out.size)); have ex3 := HA.out _ TT3.out k hlt; rw [HP.out] at ex3; obtain ⟨e0, e1⟩ := ex3; obtain ⟨g0, g1⟩ := R3.out; clear hb))
          exact ⟨⟨k + 1, by omega, by go_num, by rw [HN.out], T5.out, by rw [HN.out]; simp only; rw [rowV_snoc, rowV_snoc, List.length_append, List.length_append, HLN.out]; exact HN3.out⟩, by simp [intOf]; omega⟩
        · rw [if_neg (fun hh => hc hh.2)] at HN
          generalize cmpV (x, y) (s, t) = c at *
          go_wp2
          refine wp_region_still_tail 8 (by kernel_rfl) (by kernel_rfl) ?_
          change wpStill _ _ wr.drew _ _ _
          simp only [List.take_succ_cons, List.take_zero, List.drop_succ_cons, List.drop_zero]
          repeat still_step
          refine wpStill_nil ?_
          change wpList _ _ _ _ _ wr.drew
          go_wp2_with (first
            | (at_builtin; refine wpList_append_own _ rfl _ _ 22 rfl S 56 i0 (.agg #[.int .i64 0, .int .i64 0]) 2 16 Try.underlying22 hi hz0 hz1 hz2 rfl (by decide) _ _ _ rfl (HO3.out.alloc _) ⟨_, 0, none⟩ 1 1 [.int .i64 s, .int .i64 t] rfl rfl (cells_at (by first | rfl | rw [World.size_alloc]) _ _) pair_one (by unfold maxLen; omega) (by omega) (by have := HSZ.out; have := T3.out.size; simp; omega) ?_; intro vnHN4 wnHN4 hown' hgrow _; have HN4 := Lib.hid hown'; have T4 := Lib.hid ((T3.out.alloc (by have := T3.out.size; omega) _).grown hgrow (by have := HSZ.out; have := T3.out.size; simp; omega) (fun k hk => by rw [HSZ.out]; exact own_block HO3.out k hk)); clear hown' hgrow)
            | (go_at_call 53; refine (HVV.out _).mono ?_; rintro e w3 ⟨rfl, hb⟩; have T3 := Lib.hid (T.out.drew.trans (bel_le hb T.out.drew.size)); have HO3 := Lib.hid (owns_below (show wr.drew.ownsRow _ _ _ _ _ _ from HO.out) hb); have TT3 := Lib.hid (T1.out.trans (bel_le T3.out T1.out.size)); have ex3 := HA.out _ TT3.out k hlt; rw [HP.out] at ex3; obtain ⟨e0, e1⟩ := ex3; clear hb))
          exact ⟨⟨k + 1, by omega, by go_num, by rw [HN.out], T4.out, by rw [HN.out]; simp only; rw [rowV_snoc, List.length_append, HLN.out]; exact HN4.out⟩, by simp [intOf]; omega⟩
    · obtain rfl : k = n := by omega
      rw [HSIZE.out] at HPUT
      have hlen1 : (putTo A (x, y) k).1.length ≤ 200 := by rw [hlen]; split <;> omega
      clear hlen
      generalize putTo A (x, y) k = pd at *
      obtain ⟨L, d⟩ := pd
      simp only at HPUT hlen1 HO
      cases d with
      | true =>
        rw [if_pos rfl] at HPUT
        go_wp2
        go_ret
        exact ⟨_, rfl, TT.out, by rw [HPUT.out]; exact v_own HO.out⟩
      | false =>
        rw [if_neg (by simp)] at HPUT
        generalize hln : L.length = ln at *
        have HLN := Lib.hid hln
        clear hln
        go_wp2_with (at_builtin; refine wpList_append_own _ rfl _ _ 22 rfl S 56 i0 (.agg #[.int .i64 0, .int .i64 0]) 2 16 Try.underlying22 hi hz0 hz1 hz2 rfl (by decide) _ _ _ rfl (HO.out.alloc _) ⟨_, 0, none⟩ 1 1 [.int .i64 x, .int .i64 y] rfl rfl (cells_at (by first | rfl | rw [World.size_alloc]) _ _) pair_one (by unfold maxLen; omega) (by omega) (by have := HSZ.out; have := T.out.size; simp; omega) ?_; intro vnHN6 wnHN6 hown' hgrow _; have HN6 := Lib.hid hown'; have T6 := Lib.hid ((T.out.alloc (by have := T.out.size; omega) _).grown hgrow (by have := HSZ.out; have := T.out.size; simp; omega) (fun k hk => by rw [HSZ.out]; exact own_block HO.out k hk)); clear hown' hgrow)
        go_ret
        exact ⟨_, rfl, T1.out.trans (bel_le T6.out T1.out.size), by rw [HPUT.out]; refine v_own (base := S) ?_; rw [rowV_snoc, List.length_append, HLN.out]; exact HN6.out⟩
theorem put_in (a : Option Addr) (n cap b off : Nat) (A : List V) (v : V) (w : World) (h : VIn w a n cap b off A) (hn : n ≤ 100) :
    Calls Try.prog 48 #[.slice a n cap, .agg #[.int .i64 v.1, .int .i64 v.2]] w fun e w' => ∃ u, e = .returned u ∧ Below w.heap.size w w' ∧ VTop w' u (put A v) := by
  by_cases hv : v ∈ A
  · have hp : put A v = A := by unfold put; rw [if_pos hv]
    rw [hp]
    have HH := Lib.hid (fun (w1 : World) (hb : Below w.heap.size w w1) => has_in a n cap b off A v w1 (h.below hb) (by omega))
    rw [decide_eq_true hv] at HH
    have HV := Lib.hid (fun (w1 : World) (hb : Below w.heap.size w w1) => (⟨a, n, cap, b, off, rfl, h.below hb⟩ : VTop w1 (.slice a n cap) A))
    have T0 := Lib.hid (below_alloc w (.cells #[.int .i64 v.1, .int .i64 v.2] 56))
    obtain ⟨q0, q1⟩ := row2_new w v.1 v.2
    clear h hv hp
    go_enter Try.func48, Try.ntmps48
    go_wp2_with (go_at_call 74; refine (HH.out _ T0.out).mono ?_; rintro e w1 ⟨rfl, hb⟩; have T1 := Lib.hid (T0.out.trans (bel_le hb T0.out.size)); clear hb)
    go_ret
    exact ⟨_, rfl, T1.out, HV.out _ T1.out⟩
  · exact put_new a n cap b off A v w h hn hv
end Go.Proofs.Ytjggeombkbianaa.Sx
