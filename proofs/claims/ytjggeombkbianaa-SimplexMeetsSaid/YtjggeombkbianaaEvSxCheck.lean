/-
  simplex.Check and the reference's: the error of a list of vertices.
-/
import Derived.Test.YtjggeombkbianaaEvSxEqual
namespace Go.Proofs.Ytjggeombkbianaa.Sx
open Go Go.RowKit Go.Law Go.Sx

/-- A vertex in its ranges. -/
def okV (v : V) : Bool := decide (0 ≤ v.1) && (decide (v.1 < 8) && (decide (0 ≤ v.2) && decide (v.2 ≤ 1048576)))
theorem okV_cases (v : V) : (v.1 < 0 ∧ okV v = false) ∨ (0 ≤ v.1 ∧ 8 ≤ v.1 ∧ okV v = false) ∨ (0 ≤ v.1 ∧ v.1 < 8 ∧ v.2 < 0 ∧ okV v = false) ∨ (0 ≤ v.1 ∧ v.1 < 8 ∧ 0 ≤ v.2 ∧ 1048576 < v.2 ∧ okV v = false) ∨ (0 ≤ v.1 ∧ v.1 < 8 ∧ 0 ≤ v.2 ∧ v.2 ≤ 1048576 ∧ okV v = true) := by
  unfold okV
  by_cases h1 : 0 ≤ v.1
  · by_cases h2 : v.1 < 8
    · by_cases h3 : 0 ≤ v.2
      · by_cases h4 : v.2 ≤ 1048576
        · exact .inr (.inr (.inr (.inr ⟨h1, h2, h3, h4, by simp [h1, h2, h3, h4]⟩)))
        · exact .inr (.inr (.inr (.inl ⟨h1, h2, h3, by omega, by simp [h1, h2, h3, h4]⟩)))
      · exact .inr (.inr (.inl ⟨h1, h2, by omega, by simp [h1, h2, h3]⟩))
    · exact .inr (.inl ⟨h1, by omega, by simp [h1, h2]⟩)
  · exact .inl ⟨by omega, by simp [h1]⟩
def stepErr (l : List V) (i : Nat) : Int := if okV (vx l i) = false then 2 else if 0 < i ∧ cmpV (vx l i) (vx l (i - 1)) ≤ 0 then 14 else 0
def scanV (l : List V) : Nat → Int
  | 0 => 0
  | k + 1 => if scanV l k ≠ 0 then scanV l k else stepErr l k
theorem scanV_le (l : List V) {k m : Nat} (hk : k ≤ m) (h : scanV l k ≠ 0) : scanV l m = scanV l k := by
  induction m with
  | zero => obtain rfl : k = 0 := by omega
            rfl
  | succ m ih =>
    by_cases e : k = m + 1
    · rw [e]
    · rw [scanV, ih (by omega), if_pos h]
/-- The error of a list of vertices. -/
def chk (l : List V) : Int := if l.length = 0 then 16 else if 8 < l.length then 5 else scanV l l.length
set_option maxHeartbeats 1000000 in
theorem checkV_any (v : V) (w : World) : Calls Try.prog 44 #[.agg #[.int .i64 v.1, .int .i64 v.2]] w fun e w' => e = .returned (.int .i64 (if okV v = false then 2 else 0)) ∧ Below w.heap.size w w' := by
  have T := Lib.hid (below_alloc w (.cells #[.int .i64 v.1, .int .i64 v.2] 56))
  obtain ⟨r0, r1⟩ := row2_new w v.1 v.2
  rcases okV_cases v with ⟨h1, e⟩ | ⟨h1, h2, e⟩ | ⟨h1, h2, h3, e⟩ | ⟨h1, h2, h3, h4, e⟩ | ⟨h1, h2, h3, h4, e⟩
  · rw [e]
    have g1 : v.1 < 0 := h1
    clear e
    go_enter Try.func44, Try.ntmps44
    go_wp2
    go_ret
    exact ⟨rfl, T.out⟩
  · rw [e]
    have g1 : ¬ v.1 < 0 := by omega
    have g2 : v.1 ≥ 8 := h2
    clear e
    go_enter Try.func44, Try.ntmps44
    go_wp2
    go_ret
    exact ⟨rfl, T.out⟩
  · rw [e]
    have g1 : ¬ v.1 < 0 := by omega
    have g2 : ¬ v.1 ≥ 8 := by omega
    have g3 : v.2 < 0 := h3
    clear e
    go_enter Try.func44, Try.ntmps44
    go_wp2
    go_ret
    exact ⟨rfl, T.out⟩
  · rw [e]
    have g1 : ¬ v.1 < 0 := by omega
    have g2 : ¬ v.1 ≥ 8 := by omega
    have g3 : ¬ v.2 < 0 := by omega
    have g4 : v.2 > 1048576 := h4
    clear e
    go_enter Try.func44, Try.ntmps44
    go_wp2
    go_ret
    exact ⟨rfl, T.out⟩
  · rw [e]
    have g1 : ¬ v.1 < 0 := by omega
    have g2 : ¬ v.1 ≥ 8 := by omega
    have g3 : ¬ v.2 < 0 := by omega
    have g4 : ¬ v.2 > 1048576 := by omega
    clear e
    go_enter Try.func44, Try.ntmps44
    go_wp2
    go_ret
    exact ⟨rfl, T.out⟩
set_option maxHeartbeats 1000000 in
theorem ranged_any (v : V) (w : World) : Calls Try.prog 47 #[.agg #[.int .i64 v.1, .int .i64 v.2]] w fun e w' => e = .returned (.bool (okV v)) ∧ Below w.heap.size w w' := by
  have T := Lib.hid (below_alloc w (.cells #[.int .i64 v.1, .int .i64 v.2] 56))
  obtain ⟨r0, r1⟩ := row2_new w v.1 v.2
  rcases okV_cases v with ⟨h1, e⟩ | ⟨h1, h2, e⟩ | ⟨h1, h2, h3, e⟩ | ⟨h1, h2, h3, h4, e⟩ | ⟨h1, h2, h3, h4, e⟩
  · rw [e]
    have g1 : ¬ v.1 ≥ 0 := by omega
    clear e
    go_enter Try.func47, Try.ntmps47
    go_wp2
    go_ret
    exact ⟨rfl, T.out⟩
  · rw [e]
    have g1 : v.1 ≥ 0 := h1
    have g2 : ¬ v.1 < 8 := by omega
    clear e
    go_enter Try.func47, Try.ntmps47
    go_wp2
    go_ret
    exact ⟨rfl, T.out⟩
  · rw [e]
    have g1 : v.1 ≥ 0 := h1
    have g3 : ¬ v.2 ≥ 0 := by omega
    clear e
    go_enter Try.func47, Try.ntmps47
    go_wp2
    go_ret
    exact ⟨rfl, T.out⟩
  · rw [e]
    have g1 : v.1 ≥ 0 := h1
    have g3 : v.2 ≥ 0 := h3
    have g4 : ¬ v.2 ≤ 1048576 := by omega
    clear e
    go_enter Try.func47, Try.ntmps47
    go_wp2
    go_ret
    exact ⟨rfl, T.out⟩
  · rw [e]
    have g1 : v.1 ≥ 0 := h1
    have g3 : v.2 ≥ 0 := h3
    clear e
    go_enter Try.func47, Try.ntmps47
    go_wp2
    go_ret
    exact ⟨rfl, T.out⟩
set_option maxHeartbeats 1000000 in
theorem rvcmp (a b : V) (w : World) : Calls Try.prog 53 #[.agg #[.int .i64 a.1, .int .i64 a.2], .agg #[.int .i64 b.1, .int .i64 b.2]] w fun e w' => e = .returned (.int .i64 (cmpV a b)) ∧ Below w.heap.size w w' := by
  have T := Lib.hid ((below_alloc w (.cells #[.int .i64 a.1, .int .i64 a.2] 56)).alloc (by simp) (.cells #[.int .i64 b.1, .int .i64 b.2] 56))
  obtain ⟨⟨c0, c1⟩, d0, d1⟩ := row2_two w a.1 a.2 b.1 b.2
  rcases cmpV_cases a b with ⟨h | ⟨h, h'⟩, e⟩ | ⟨h | ⟨h, h'⟩, e⟩ | ⟨h, e⟩
  · rw [e]
    clear e
    go_enter Try.func53, Try.ntmps53
    go_wp2
    go_ret
    exact ⟨rfl, T.out⟩
  · rw [e]
    have g1 : ¬ a.1 < b.1 := by omega
    have g2 : ¬ a.1 > b.1 := by omega
    clear e h
    go_enter Try.func53, Try.ntmps53
    go_wp2
    go_ret
    exact ⟨rfl, T.out⟩
  · rw [e]
    have g1 : ¬ a.1 < b.1 := by omega
    have g2 : a.1 > b.1 := h
    clear e
    go_enter Try.func53, Try.ntmps53
    go_wp2
    go_ret
    exact ⟨rfl, T.out⟩
  · rw [e]
    have g1 : ¬ a.1 < b.1 := by omega
    have g2 : ¬ a.1 > b.1 := by omega
    have g3 : ¬ a.2 < b.2 := by omega
    have g4 : a.2 > b.2 := h'
    clear e h
    go_enter Try.func53, Try.ntmps53
    go_wp2
    go_ret
    exact ⟨rfl, T.out⟩
  · rw [e]
    subst h
    have g1 : ¬ a.1 < a.1 := by omega
    have g2 : ¬ a.1 > a.1 := by omega
    have g3 : ¬ a.2 < a.2 := by omega
    have g4 : ¬ a.2 > a.2 := by omega
    clear e
    go_enter Try.func53, Try.ntmps53
    go_wp2
    go_ret
    exact ⟨rfl, T.out⟩
theorem idx_pred {k q n : Nat} (h : k = q + 1) (hk : k < n) (hn : n ≤ 4096) : IntKind.i64.wrap ((k : Int) - 1) = (q : Int) ∧ wrap64 ((k : Int) - 1) = (q : Int) ∧ (q : Int) < (n : Int) ∧ ¬ (q : Int) < 0 ∧ q < n := by
  refine ⟨?_, ?_, by omega, by omega, by omega⟩
  · rw [show ((k : Int) - 1) = (q : Int) by omega, IntKind.wrap_i64]; omega
  · unfold wrap64; omega
set_option maxRecDepth 100000 in
set_option maxHeartbeats 4000000 in
theorem check_in (a : Option Addr) (n cap b off : Nat) (A : List V) (w : World) (h : VIn w a n cap b off A) (hn : n ≤ 4096) :
    Calls Try.prog 18 #[.slice a n cap] w fun e w' => e = .returned (.int .i64 (chk A)) ∧ Below w.heap.size w w' := by
  have HA := Lib.hid (fun (w1 : World) (hb : Below w.heap.size w w1) => (h.below hb).cells)
  have H1 := Lib.hid h.head
  have hs := h.size
  clear h
  have TW := Lib.hid (Below.refl w.heap.size w)
  unfold chk
  rw [hs]
  by_cases h0 : n = 0
  · rw [if_pos h0]
    subst h0
    clear hs
    go_enter Try.func18, Try.ntmps18
    go_wp2
    go_ret
    exact ⟨rfl, TW.out⟩
  · rw [if_neg h0]
    have n0 : ((n : Int) == 0) = false := by simpa using h0
    by_cases h8 : 8 < n
    · rw [if_pos h8]
      have n8 : (n : Int) > 8 := by omega
      clear hs
      go_enter Try.func18, Try.ntmps18
      go_wp2
      go_ret
      exact ⟨rfl, TW.out⟩
    · rw [if_neg h8]
      have n8 : ¬ (n : Int) > 8 := by omega
      clear hs h0
      have HS := Lib.hid (fun k => show scanV A (k + 1) = if scanV A k ≠ 0 then scanV A k else stepErr A k from rfl)
      have HL := Lib.hid (fun k (hk : k ≤ n) (hz : scanV A k ≠ 0) => scanV_le A hk hz)
      go_enter Try.func18, Try.ntmps18
      go_wp2
      go_loopw [14] (fun i wr => ∃ k : Nat, k ≤ n ∧ i = .int .i64 k ∧ Below w.heap.size w wr ∧ scanV A k = 0) (fun i _ => n - (intOf i).toNat)
      case atStart => exact ⟨0, Nat.zero_le _, rfl, TW.out, rfl⟩
      case round =>
        obtain ⟨k, hk, rfl, hB, hC⟩ := hrel
        have T := Lib.hid hB
        have HC := Lib.hid hC
        clear hB hC
        by_cases hlt : k < n
        · obtain rfl := H1.out (by omega)
          have HN := Lib.hid (HS.out k)
          rw [HC.out, if_neg (by simp)] at HN
          unfold stepErr at HN
          have hex := HA.out wr T.out k hlt
          obtain ⟨v, HXY0⟩ : ∃ v, vx A k = v := ⟨_, rfl⟩
          rw [HXY0] at hex HN
          have HXY := Lib.hid HXY0
          clear HXY0
          have HK := Lib.hid (checkV_any v)
          obtain ⟨x, y⟩ := v
          obtain ⟨c0, c1⟩ := hex
          simp only at c0 c1 HK HXY
          have T1 := Lib.hid (T.out.alloc T.out.size (.cells #[.int .i64 x, .int .i64 y] 56))
          have R1 := Lib.hid (row2_new wr x y)
          cases hok : okV (x, y) with
          | false =>
            rw [hok, if_pos rfl] at HN
            rw [hok] at HK
            rw [if_pos rfl] at HK
            have HL1 := Lib.hid (HL.out (k + 1) hlt (by rw [HN.out]; decide))
            clear hok
            go_wp2_with (go_at_call 44; refine (HK.out _).mono ?_; rintro e w2 ⟨rfl, hb⟩; have T2 := Lib.hid (T1.out.trans (bel_le hb T1.out.size)); clear hb)
            go_ret
            exact ⟨ret_int (by rw [HL1.out, HN.out]), T2.out⟩
          | true =>
            rw [hok, if_neg (by simp)] at HN
            rw [hok] at HK
            rw [if_neg (by simp)] at HK
            clear hok
            by_cases h00 : k = 0
            · have hk0 : ¬ 0 < k := by omega
              rw [if_neg (fun hh => hk0 hh.1)] at HN
              have hgt : ¬ (k : Int) > 0 := by omega
              have hdk : decide (0 < k) = false := decide_eq_false hk0
              clear h00
              go_wp2_with (go_at_call 44; refine (HK.out _).mono ?_; rintro e w2 ⟨rfl, hb⟩; have T2 := Lib.hid (T1.out.trans (bel_le hb T1.out.size)); have R2 := Lib.hid (row2_below R1.out hb); obtain ⟨r0, r1⟩ := R2.out; clear hb)
              go_quiet (fail)
              go_wp2
              exact ⟨⟨k + 1, by omega, by go_num, below_drewN T2.out _, HN.out⟩, by simp [intOf]; omega⟩
            · obtain ⟨q, hq⟩ : ∃ q, k = q + 1 := ⟨k - 1, by omega⟩
              rw [show k - 1 = q by omega] at HN
              obtain ⟨p1, p2, p3, p4, p5⟩ := idx_pred hq hlt hn
              have hgt : (k : Int) > 0 := by omega
              have hqc := fun w2 (hb : Below w.heap.size w w2) => HA.out w2 hb q p5
              obtain ⟨u, HU0⟩ : ∃ u, vx A q = u := ⟨_, rfl⟩
              rw [HU0] at hqc HN
              have HQ := Lib.hid hqc
              clear hqc HU0
              have hk0 : 0 < k := by omega
              have hdk : decide (0 < k) = true := decide_eq_true hk0
              have HV := Lib.hid (vcmp (x, y) u)
              obtain ⟨s, t⟩ := u
              simp only at HQ HV
              clear hq h00
              by_cases hle : cmpV (x, y) (s, t) ≤ 0
              · have HN2 : Hid (scanV A (k + 1) = 14) := Lib.hid (by rw [HN.out, if_pos ⟨hk0, hle⟩])
                have HL1 := Lib.hid (HL.out (k + 1) hlt (by rw [HN2.out]; decide))
                generalize cmpV (x, y) (s, t) = c at *
                have hc1 : c ≤ 0 := hle
                clear HN hle
                go_wp2_with (go_at_call 44; refine (HK.out _).mono ?_; rintro e w2 ⟨rfl, hb⟩; have T2 := Lib.hid (T1.out.trans (bel_le hb T1.out.size)); have R2 := Lib.hid (row2_below R1.out hb); obtain ⟨r0, r1⟩ := R2.out; obtain ⟨d0, d1⟩ := HQ.out _ T2.out; clear hb)
                refine wp_region_still_tail 9 (by kernel_rfl) (by kernel_rfl) ?_
                change wpStill _ _ w2.drew _ _ _
                simp only [List.take_succ_cons, List.take_zero, List.drop_succ_cons, List.drop_zero]
                repeat still_step
                refine wpStill_nil ?_
                change wpList _ _ _ _ _ w2.drew
                go_wp2_with (go_at_call 52; refine (HV.out _).mono ?_; rintro e w3 ⟨rfl, hb⟩; have T3 := Lib.hid (T2.out.drew.trans (bel_le hb T2.out.drew.size)); clear hb)
                go_ret
                exact ⟨ret_int (by rw [HL1.out, HN2.out]), T3.out⟩
              · have HN2 : Hid (scanV A (k + 1) = 0) := Lib.hid (by rw [HN.out, if_neg (fun hh => hle (hh.2))])
                generalize cmpV (x, y) (s, t) = c at *
                have hc1 : ¬ c ≤ 0 := hle
                clear HN hle
                go_wp2_with (go_at_call 44; refine (HK.out _).mono ?_; rintro e w2 ⟨rfl, hb⟩; have T2 := Lib.hid (T1.out.trans (bel_le hb T1.out.size)); have R2 := Lib.hid (row2_below R1.out hb); obtain ⟨r0, r1⟩ := R2.out; obtain ⟨d0, d1⟩ := HQ.out _ T2.out; clear hb)
                refine wp_region_still_tail 9 (by kernel_rfl) (by kernel_rfl) ?_
                change wpStill _ _ w2.drew _ _ _
                simp only [List.take_succ_cons, List.take_zero, List.drop_succ_cons, List.drop_zero]
                repeat still_step
                refine wpStill_nil ?_
                change wpList _ _ _ _ _ w2.drew
                go_wp2_with (go_at_call 52; refine (HV.out _).mono ?_; rintro e w3 ⟨rfl, hb⟩; have T3 := Lib.hid (T2.out.drew.trans (bel_le hb T2.out.drew.size)); clear hb)
                exact ⟨⟨k + 1, by omega, by go_num, T3.out, HN2.out⟩, by simp [intOf]; omega⟩
        · obtain rfl : k = n := by omega
          go_wp2
          go_ret
          exact ⟨ret_int HC.out.symm, T.out⟩
set_option maxRecDepth 100000 in
set_option maxHeartbeats 4000000 in
theorem rcheck_in (a : Option Addr) (n cap b off : Nat) (A : List V) (w : World) (h : VIn w a n cap b off A) (hn : n ≤ 4096) :
    Calls Try.prog 19 #[.slice a n cap] w fun e w' => e = .returned (.int .i64 (chk A)) ∧ Below w.heap.size w w' := by
  have HA := Lib.hid (fun (w1 : World) (hb : Below w.heap.size w w1) => (h.below hb).cells)
  have H1 := Lib.hid h.head
  have hs := h.size
  clear h
  have TW := Lib.hid (Below.refl w.heap.size w)
  unfold chk
  rw [hs]
  by_cases h0 : n = 0
  · rw [if_pos h0]
    subst h0
    clear hs
    go_enter Try.func19, Try.ntmps19
    go_wp2
    go_ret
    exact ⟨rfl, TW.out⟩
  · rw [if_neg h0]
    have n0 : ((n : Int) == 0) = false := by simpa using h0
    by_cases h8 : 8 < n
    · rw [if_pos h8]
      have n8 : (n : Int) > 8 := by omega
      clear hs
      go_enter Try.func19, Try.ntmps19
      go_wp2
      go_ret
      exact ⟨rfl, TW.out⟩
    · rw [if_neg h8]
      have n8 : ¬ (n : Int) > 8 := by omega
      clear hs h0
      have HS := Lib.hid (fun k => show scanV A (k + 1) = if scanV A k ≠ 0 then scanV A k else stepErr A k from rfl)
      have HL := Lib.hid (fun k (hk : k ≤ n) (hz : scanV A k ≠ 0) => scanV_le A hk hz)
      go_enter Try.func19, Try.ntmps19
      go_wp2
      go_loopw [3] (fun i wr => ∃ k : Nat, k ≤ n ∧ i = .int .i64 k ∧ Below w.heap.size w wr ∧ scanV A k = 0) (fun i _ => n - (intOf i).toNat)
      case atStart => exact ⟨0, Nat.zero_le _, rfl, TW.out, rfl⟩
      case round =>
        obtain ⟨k, hk, rfl, hB, hC⟩ := hrel
        have T := Lib.hid hB
        have HC := Lib.hid hC
        clear hB hC
        by_cases hlt : k < n
        · obtain rfl := H1.out (by omega)
          have HN := Lib.hid (HS.out k)
          rw [HC.out, if_neg (by simp)] at HN
          unfold stepErr at HN
          have hex := HA.out wr T.out k hlt
          obtain ⟨v, HXY0⟩ : ∃ v, vx A k = v := ⟨_, rfl⟩
          rw [HXY0] at hex HN
          have HXY := Lib.hid HXY0
          clear HXY0
          have HK := Lib.hid (ranged_any v)
          obtain ⟨x, y⟩ := v
          obtain ⟨c0, c1⟩ := hex
          simp only at c0 c1 HK HXY
          have T1 := Lib.hid T.out
          cases hok : okV (x, y) with
          | false =>
            rw [hok, if_pos rfl] at HN
            rw [hok] at HK
            skip
            have HL1 := Lib.hid (HL.out (k + 1) hlt (by rw [HN.out]; decide))
            clear hok
            go_wp2_with (go_at_call 47; refine (HK.out _).mono ?_; rintro e w2 ⟨rfl, hb⟩; have T2 := Lib.hid (T1.out.trans (bel_le hb T1.out.size)); clear hb)
            go_ret
            exact ⟨ret_int (by rw [HL1.out, HN.out]), T2.out⟩
          | true =>
            rw [hok, if_neg (by simp)] at HN
            rw [hok] at HK
            skip
            clear hok
            by_cases h00 : k = 0
            · have hk0 : ¬ 0 < k := by omega
              rw [if_neg (fun hh => hk0 hh.1)] at HN
              have hgt : ¬ (k : Int) > 0 := by omega
              have hdk : decide (0 < k) = false := decide_eq_false hk0
              clear h00
              go_wp2_with (go_at_call 47; refine (HK.out _).mono ?_; rintro e w2 ⟨rfl, hb⟩; have T2 := Lib.hid (T1.out.trans (bel_le hb T1.out.size)); clear hb)
              go_quiet (fail)
              go_wp2
              exact ⟨⟨k + 1, by omega, by go_num, below_drewN T2.out _, HN.out⟩, by simp [intOf]; omega⟩
            · obtain ⟨q, hq⟩ : ∃ q, k = q + 1 := ⟨k - 1, by omega⟩
              rw [show k - 1 = q by omega] at HN
              obtain ⟨p1, p2, p3, p4, p5⟩ := idx_pred hq hlt hn
              have hgt : (k : Int) > 0 := by omega
              have hqc := fun w2 (hb : Below w.heap.size w w2) => HA.out w2 hb q p5
              obtain ⟨u, HU0⟩ : ∃ u, vx A q = u := ⟨_, rfl⟩
              rw [HU0] at hqc HN
              have HQ := Lib.hid hqc
              clear hqc HU0
              have hk0 : 0 < k := by omega
              have hdk : decide (0 < k) = true := decide_eq_true hk0
              have HV := Lib.hid (rvcmp u (x, y))
              obtain ⟨s, t⟩ := u
              simp only at HQ HV
              clear hq h00
              by_cases hle : 0 ≤ cmpV (s, t) (x, y)
              · have HN2 : Hid (scanV A (k + 1) = 14) := Lib.hid (by rw [HN.out, if_pos ⟨hk0, by rw [cmpV_anti (s, t) (x, y)]; omega⟩])
                have HL1 := Lib.hid (HL.out (k + 1) hlt (by rw [HN2.out]; decide))
                generalize cmpV (s, t) (x, y) = c at *
                have hc1 : c ≥ 0 := hle
                clear HN hle
                go_wp2_with (go_at_call 47; refine (HK.out _).mono ?_; rintro e w2 ⟨rfl, hb⟩; have T2 := Lib.hid (T1.out.trans (bel_le hb T1.out.size)); obtain ⟨d0, d1⟩ := HQ.out _ T2.out; have ex := HA.out _ T2.out k hlt; rw [HXY.out] at ex; obtain ⟨e0, e1⟩ := ex; clear hb)
                refine wp_region_still_tail 12 (by kernel_rfl) (by kernel_rfl) ?_
                change wpStill _ _ w2.drew _ _ _
                simp only [List.take_succ_cons, List.take_zero, List.drop_succ_cons, List.drop_zero]
                repeat still_step
                refine wpStill_nil ?_
                change wpList _ _ _ _ _ w2.drew
                go_wp2_with (go_at_call 53; refine (HV.out _).mono ?_; rintro e w3 ⟨rfl, hb⟩; have T3 := Lib.hid (T2.out.drew.trans (bel_le hb T2.out.drew.size)); clear hb)
                go_ret
                exact ⟨ret_int (by rw [HL1.out, HN2.out]), T3.out⟩
              · have HN2 : Hid (scanV A (k + 1) = 0) := Lib.hid (by rw [HN.out, if_neg (fun hh => hle (by rw [cmpV_anti (x, y) (s, t)]; have := hh.2; omega))])
                generalize cmpV (s, t) (x, y) = c at *
                have hc1 : ¬ c ≥ 0 := hle
                clear HN hle
                go_wp2_with (go_at_call 47; refine (HK.out _).mono ?_; rintro e w2 ⟨rfl, hb⟩; have T2 := Lib.hid (T1.out.trans (bel_le hb T1.out.size)); obtain ⟨d0, d1⟩ := HQ.out _ T2.out; have ex := HA.out _ T2.out k hlt; rw [HXY.out] at ex; obtain ⟨e0, e1⟩ := ex; clear hb)
                refine wp_region_still_tail 12 (by kernel_rfl) (by kernel_rfl) ?_
                change wpStill _ _ w2.drew _ _ _
                simp only [List.take_succ_cons, List.take_zero, List.drop_succ_cons, List.drop_zero]
                repeat still_step
                refine wpStill_nil ?_
                change wpList _ _ _ _ _ w2.drew
                go_wp2_with (go_at_call 53; refine (HV.out _).mono ?_; rintro e w3 ⟨rfl, hb⟩; have T3 := Lib.hid (T2.out.drew.trans (bel_le hb T2.out.drew.size)); clear hb)
                exact ⟨⟨k + 1, by omega, by go_num, T3.out, HN2.out⟩, by simp [intOf]; omega⟩
        · obtain rfl : k = n := by omega
          go_wp2
          go_ret
          exact ⟨ret_int HC.out.symm, T.out⟩
end Go.Proofs.Ytjggeombkbianaa.Sx
