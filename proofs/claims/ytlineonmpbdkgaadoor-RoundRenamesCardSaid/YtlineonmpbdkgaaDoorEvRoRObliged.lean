/-
  The reference's Obliged: the same.
-/
import Derived.Test.YtlineonmpbdkgaaDoorEvRoEnds
namespace Go.Proofs.YtlineonmpbdkgaaDoor.Word
open Go Go.RowKit Go.Graph Go.Law
open Go.Proofs.YtlineonmpbdkgaaDoor.Graph
open Go.Proofs.YtlineonmpbdkgaaDoor.Col (ret_int)

theorem quiet_in {a b : Nat} (ha : a < 32) (hb : b < 32) {c : Bool} (h : insideTo a b 5 = c) : ∀ w : World, Calls Tryd.prog 55 #[.int .i64 a, .int .i64 b] w fun e w' => e = .returned (.bool c) ∧ w = w' := fun w => by
  rw [← h]; exact inside_any a b ha hb w
theorem quiet0 {P : Program} {f : FuncId} {args : Array Value} {w : World} {n : Nat} {v : Value} (h : ∀ w : World, Calls P f args w fun e w' => e = .returned v ∧ w = w') :
    Calls P f args (w.drewN n) fun e w'' => e = .returned v ∧ ∃ m, w'' = w.drewN m := (h _).mono fun _ _ ⟨he, hw⟩ => ⟨he, n, hw.symm⟩
theorem inside_zero : ∀ b : Nat, b < 32 → insideTo 0 b 5 = true := by decide +kernel
set_option maxRecDepth 100000 in
set_option maxHeartbeats 2000000 in
theorem rword_scan (n : Nat) (h1 : 1 ≤ n) (h5 : n ≤ 5) (b off len cap : Nat) (a : Option Addr) (ha : 0 < len → a = some ⟨b, off, none⟩) (zs : List Rd) (hlen : len ≤ 1024) (w : World) (hc : RdAt w b off len zs) (hb : 0 < len → b < w.heap.size) :
    Calls Tryd.prog 24 #[.int .i64 n, .slice a len cap] w fun e w' => e = .returned (.int .i64 (scanP n (seqTo zs len))) ∧ Below w.heap.size w w' := by
  have hle : ¬ (1024 : Int) < len := by omega
  have hcx : ∀ W1, Below w.heap.size w W1 → ∀ j, j < len → ∀ i, i < 7 → W1.cell? ⟨b, off + j * 7 + i, none⟩ = some ((rd zs j).vs.getD i undef) := fun W1 h j hj i hi => (h.cell (p := ⟨b, off + j * 7 + i, none⟩) (hb (by omega))).trans (hc j hj i hi)
  have HCX := Lib.hid hcx
  clear hc hb hcx
  go_enter Tryd.func24, Tryd.ntmps24
  go_wp2_with (go_at_call 54; refine (procs_ok n h1 h5 _).mono ?_; rintro e w' ⟨rfl, rfl⟩)
  go_loopw [6] (fun i wr => ∃ k : Nat, k ≤ len ∧ i = .int .i64 k ∧ scanP n (seqTo zs k) = 0 ∧ Below w.heap.size w wr) (fun i _ => len - (intOf i).toNat)
  case atStart => exact ⟨0, Nat.zero_le _, rfl, rfl, Below.refl _ _⟩
  case round =>
    obtain ⟨k, hk, rfl, hsc, hbl⟩ := hrel
    have HSC := Lib.hid hsc
    clear hsc
    by_cases hlt : k < len
    · obtain rfl := ha (by omega)
      have HE := Lib.hid (show scanP n (seqTo zs (k + 1)) = err n (before zs k, rd zs k) by rw [seqTo_succ, scanP_succ, HSC.out, if_neg (by simp)])
      have HLE := Lib.hid (fun h => scan_le (n := (n : Int)) (zs := zs) (show k + 1 ≤ len by omega) h)
      have c0 := HCX.out _ hbl k hlt 0 (by omega)
      have c1 := HCX.out _ hbl k hlt 1 (by omega)
      have c2 := HCX.out _ hbl k hlt 2 (by omega)
      have c3 := HCX.out _ hbl k hlt 3 (by omega)
      have c4 := HCX.out _ hbl k hlt 4 (by omega)
      have c5 := HCX.out _ hbl k hlt 5 (by omega)
      have c6 := HCX.out _ hbl k hlt 6 (by omega)
      obtain ⟨x, hx⟩ : ∃ x, rd zs k = x := ⟨_, rfl⟩
      have HX := Lib.hid hx
      rw [hx] at c0 c1 c2 c3 c4 c5 c6 HE
      clear hx
      obtain ⟨m, r0, r1, r2, r3, r4, g⟩ := x
      simp only [Rd.vs, List.getD_cons_zero, List.getD_cons_succ, Nat.add_zero] at c0 c1 c2 c3 c4 c5 c6
      unfold err at HE
      simp only at HE
      have HC : Hid (∀ W1 : World, Calls Tryd.prog 10 #[.agg #[.int .i64 m, .int .i64 r0, .int .i64 r1, .int .i64 r2, .int .i64 r3, .int .i64 r4, .int .i64 g]] W1 fun e w' => e = .returned (.int .i64 (rcheck m [r0, r1, r2, r3, r4] g)) ∧ Below W1.heap.size W1 w') := Lib.hid fun W1 => rround_check m r0 r1 r2 r3 r4 g W1
      by_cases hc0 : rcheck m [r0, r1, r2, r3, r4] g = 0
      · rw [if_neg (by simpa using hc0)] at HE
        rw [hc0] at HC
        by_cases hn0 : m = (n : Int)
        · rw [if_neg (by simpa using hn0)] at HE
          subst hn0
          obtain ⟨g', rfl, hg'⟩ := rcheck_f hc0
          clear hc0
          by_cases hk0 : k = 0
          · subst hk0
            simp only [Nat.zero_mul, Nat.add_zero] at c0 c1 c2 c3 c4 c5 c6
            have HZ := andNot_inside 0 (by omega) g' hg'
            rw [inside_zero g' hg'] at HZ
            have HE2 : Hid (scanP n (seqTo zs (0 + 1)) = 0) := Lib.hid (by rw [HE.out, if_neg (by rw [show before zs 0 = ((0 : Nat) : Int) from rfl, HZ]; simp)])
            clear HZ HE
            go_wp2_with (first | (go_at_call 54; refine (procs_ok n h1 h5 _).mono ?_; rintro e w' ⟨rfl, rfl⟩) | (go_at_call 10; refine (HC.out _).mono ?_; rintro e w1 ⟨rfl, hb1⟩; have hB := hbl.trans (hb1.mono hbl.size); have HB := Lib.hid hB; have d0 := HCX.out _ hB 0 hlt 0 (by omega); have d6 := HCX.out _ hB 0 hlt 6 (by omega); rw [HX.out] at d0 d6; simp only [Rd.vs, List.getD_cons_zero, List.getD_cons_succ, Nat.add_zero, Nat.zero_mul] at d0 d6; clear hb1 hB))
            go_quiet (fail)
            go_wp2
            go_roundw
            case rel => exact ⟨0 + 1, by omega, by go_num, HE2.out, HB.out.trans ((below_drewN (Below.refl _ _) _).mono HB.out.size)⟩
            case measure => simp [intOf]; omega
          · obtain ⟨q, hq⟩ : ∃ q, k = q + 1 := ⟨k - 1, by omega⟩
            have hkp : (0 : Int) < (k : Int) := by omega
            have hw1 : IntKind.i64.wrap ((k : Int) - 1) = (q : Int) := by rw [show ((k : Int) - 1) = (q : Int) by omega, IntKind.wrap_i64]; omega
            have hw2 : wrap64 ((k : Int) - 1) = (q : Int) := by unfold wrap64; omega
            have hql : q < len := by omega
            have HS2 := scan_zero (show scanP n (seqTo zs (q + 1)) = 0 by rw [← hq]; exact HSC.out)
            obtain ⟨p', hp1, hp'⟩ := rcheck_f (err_zero HS2.2).1
            simp only at hp1
            have HBF : Hid (before zs k = (p' : Int)) := Lib.hid (by rw [hq]; exact hp1)
            have HP1 := Lib.hid hp1
            have hkn : 0 < k := by omega
            have hkd : decide (0 < k) = true := decide_eq_true hkn
            have hqk : ¬ (q : Int) < 0 := by omega
            have hqq : (q : Int) < (len : Int) := by omega
            clear hp1 HS2 hq hk0
            have HZ := andNot_inside p' hp' g' hg'
            cases hin : insideTo p' g' 5 with
            | true =>
              have HI := Lib.hid (quiet_in hp' hg' hin)
              rw [hin] at HZ
              have HE2 : Hid (scanP n (seqTo zs (k + 1)) = 0) := Lib.hid (by rw [HE.out, if_neg (by rw [HBF.out, HZ]; simp)])
              clear HZ HE hin
              go_wp2_with (first | (go_at_call 54; refine (procs_ok n h1 h5 _).mono ?_; rintro e w' ⟨rfl, rfl⟩) | (go_at_call 10; refine (HC.out _).mono ?_; rintro e w1 ⟨rfl, hb1⟩; have hB := hbl.trans (hb1.mono hbl.size); have HB := Lib.hid hB; have d0 := HCX.out _ hB k hlt 0 (by omega); have d6 := HCX.out _ hB k hlt 6 (by omega); rw [HX.out] at d0 d6; simp only [Rd.vs, List.getD_cons_zero, List.getD_cons_succ, Nat.add_zero, Nat.zero_mul] at d0 d6; have d7 := HCX.out _ hB q hql 6 (by omega); simp only [Rd.vs, List.getD_cons_zero, List.getD_cons_succ, Nat.add_zero] at d7; rw [HP1.out] at d7; clear hb1 hB))
              go_quiet ((go_at_call 55; exact quiet0 HI.out))
              go_wp2
              go_roundw
              case rel => exact ⟨k + 1, by omega, by go_num, HE2.out, HB.out.trans ((below_drewN (Below.refl _ _) _).mono HB.out.size)⟩
              case measure => simp [intOf]; omega
            | false =>
              have HI := Lib.hid (quiet_in hp' hg' hin)
              rw [hin] at HZ
              have HE2 : Hid (scanP n (seqTo zs (k + 1)) = 14) := Lib.hid (by rw [HE.out, if_pos (by rw [HBF.out, HZ]; simp)])
              have HT := Lib.hid ((HLE.out (by rw [HE2.out]; decide)).trans HE2.out)
              clear HZ HE hin
              go_wp2_with (first | (go_at_call 54; refine (procs_ok n h1 h5 _).mono ?_; rintro e w' ⟨rfl, rfl⟩) | (go_at_call 10; refine (HC.out _).mono ?_; rintro e w1 ⟨rfl, hb1⟩; have hB := hbl.trans (hb1.mono hbl.size); have HB := Lib.hid hB; have d0 := HCX.out _ hB k hlt 0 (by omega); have d6 := HCX.out _ hB k hlt 6 (by omega); rw [HX.out] at d0 d6; simp only [Rd.vs, List.getD_cons_zero, List.getD_cons_succ, Nat.add_zero, Nat.zero_mul] at d0 d6; have d7 := HCX.out _ hB q hql 6 (by omega); simp only [Rd.vs, List.getD_cons_zero, List.getD_cons_succ, Nat.add_zero] at d7; rw [HP1.out] at d7; clear hb1 hB))
              go_quiet ((go_at_call 55; exact quiet0 HI.out))
              go_wp2
              go_ret
              exact ⟨ret_int HT.out.symm, HB.out.trans ((below_drewN (Below.refl _ _) _).mono HB.out.size)⟩
        · rw [if_pos hn0] at HE
          have HT := Lib.hid ((HLE.out (by rw [HE.out]; decide)).trans HE.out)
          have hnb : (m != (n : Int)) = true := by simpa using hn0
          clear hn0 hc0
          go_wp2_with (first | (go_at_call 54; refine (procs_ok n h1 h5 _).mono ?_; rintro e w' ⟨rfl, rfl⟩) | (go_at_call 10; refine (HC.out _).mono ?_; rintro e w1 ⟨rfl, hb1⟩; have hB := hbl.trans (hb1.mono hbl.size); have HB := Lib.hid hB; have d0 := HCX.out _ hB k hlt 0 (by omega); have d6 := HCX.out _ hB k hlt 6 (by omega); rw [HX.out] at d0 d6; simp only [Rd.vs, List.getD_cons_zero, List.getD_cons_succ, Nat.add_zero, Nat.zero_mul] at d0 d6; clear hb1 hB))
          go_ret
          exact ⟨ret_int HT.out.symm, HB.out⟩
      · rw [if_pos hc0] at HE
        have HT := Lib.hid ((HLE.out (by rw [HE.out]; exact hc0)).trans HE.out)
        generalize rcheck m [r0, r1, r2, r3, r4] g = c at *
        have hcb : (c != 0) = true := by simpa using hc0
        clear hc0
        go_wp2_with (first | (go_at_call 54; refine (procs_ok n h1 h5 _).mono ?_; rintro e w' ⟨rfl, rfl⟩) | (go_at_call 10; refine (HC.out _).mono ?_; rintro e w1 ⟨rfl, hb1⟩; have hB := hbl.trans (hb1.mono hbl.size); have HB := Lib.hid hB; have d0 := HCX.out _ hB k hlt 0 (by omega); have d6 := HCX.out _ hB k hlt 6 (by omega); rw [HX.out] at d0 d6; simp only [Rd.vs, List.getD_cons_zero, List.getD_cons_succ, Nat.add_zero, Nat.zero_mul] at d0 d6; clear hb1 hB))
        go_ret
        exact ⟨ret_int HT.out.symm, HB.out⟩
    · obtain rfl : k = len := by omega
      go_wp2
      go_ret
      exact ⟨ret_int HSC.out.symm, hbl⟩
end Go.Proofs.YtlineonmpbdkgaaDoor.Word
namespace Go.Proofs.YtlineonmpbdkgaaDoor.Word
open Go Go.RowKit Go.Graph Go.Law
open Go.Proofs.YtlineonmpbdkgaaDoor.Graph

theorem procs_low (n : Int) (h : n < 1) (w : World) : Calls Tryd.prog 54 #[.int .i64 n] w fun e w' => e = .returned (.int .i64 1) ∧ w = w' := by
  go_enter Tryd.func54, Tryd.ntmps54
  go_wp2
  go_ret
  exact ⟨rfl, rfl⟩
theorem procs_high (n : Int) (h : 5 < n) (w : World) : Calls Tryd.prog 54 #[.int .i64 n] w fun e w' => e = .returned (.int .i64 1) ∧ w = w' := by
  have h1 : ¬ n < 1 := by omega
  go_enter Tryd.func54, Tryd.ntmps54
  go_wp2
  go_ret
  exact ⟨rfl, rfl⟩
theorem procs_bad (n : Int) (h : n < 1 ∨ 5 < n) (w : World) : Calls Tryd.prog 54 #[.int .i64 n] w fun e w' => e = .returned (.int .i64 1) ∧ w = w' :=
  h.elim (fun h => procs_low n h w) (fun h => procs_high n h w)
set_option maxRecDepth 100000 in
theorem rword_bad (n : Int) (h : n < 1 ∨ 5 < n) (v : Value) (w : World) : Calls Tryd.prog 24 #[.int .i64 n, v] w fun e w' => e = .returned (.int .i64 1) ∧ Below w.heap.size w w' := by
  have HP := Lib.hid (procs_bad n h)
  clear h
  go_enter Tryd.func24, Tryd.ntmps24
  go_wp2_with (go_at_call 54; refine (HP.out _).mono ?_; rintro e w' ⟨rfl, rfl⟩)
  go_ret
  exact ⟨rfl, Below.refl _ _⟩
set_option maxRecDepth 100000 in
theorem rword_long (n : Nat) (h1 : 1 ≤ n) (h5 : n ≤ 5) (a : Option Addr) (len cap : Nat) (hl : 1024 < len) (w : World) : Calls Tryd.prog 24 #[.int .i64 n, .slice a len cap] w fun e w' => e = .returned (.int .i64 5) ∧ Below w.heap.size w w' := by
  have HP := Lib.hid (procs_ok n h1 h5)
  have hlt : (1024 : Int) < len := by omega
  clear h1 h5
  go_enter Tryd.func24, Tryd.ntmps24
  go_wp2_with (go_at_call 54; refine (HP.out _).mono ?_; rintro e w' ⟨rfl, rfl⟩)
  go_ret
  exact ⟨rfl, Below.refl _ _⟩
theorem rword_any (n : Int) {W : World} {v : Value} {l : List Rd} (h : WordAt W v l) : Calls Tryd.prog 24 #[.int .i64 n, v] W fun e w' => e = .returned (.int .i64 (wordR n l)) ∧ Below W.heap.size W w' := by
  unfold wordR
  by_cases hn : n < 1 ∨ 5 < n
  · rw [if_pos hn]; exact rword_bad n hn v W
  · rw [if_neg hn]
    obtain ⟨k, rfl⟩ := Int.eq_ofNat_of_zero_le (show 0 ≤ n by omega)
    obtain ⟨a, cap, b, off, rfl, h1, h2, h3, h4⟩ := h
    by_cases hl : 1024 < l.length
    · rw [if_pos hl]; exact rword_long k (by omega) (by omega) a l.length cap hl W
    · rw [if_neg hl]; exact rword_scan k (by omega) (by omega) b off l.length cap a h1 l (by omega) W h3 h2
end Go.Proofs.YtlineonmpbdkgaaDoor.Word
namespace Go.Proofs.YtlineonmpbdkgaaDoor.Word
open Go Go.RowKit Go.Graph Go.Law
open Go.Proofs.YtlineonmpbdkgaaDoor.Graph

def obligedR (n : Int) (l : List Rd) : Int × Int := if wordR n l ≠ 0 then (0, wordR n l) else (((2 ^ n.toNat - 1 : Nat) : Int) - before l l.length, 0)
/-- A word without a fault: its number of processes, and what is faulty at its end. -/
theorem word_zero {n : Int} {l : List Rd} (h : wordR n l = 0) : ∃ k g : Nat, n = k ∧ 1 ≤ k ∧ k ≤ 5 ∧ before l l.length = g ∧ g < 32 := by
  unfold wordR at h
  split at h
  · exact absurd h (by decide)
  · rename_i hn
    split at h
    · exact absurd h (by decide)
    · have hb : ∃ g : Nat, before l l.length = g ∧ g < 32 := by
        generalize l.length = len at *
        cases len with
        | zero => exact ⟨0, rfl, by omega⟩
        | succ q =>
          obtain ⟨g, h1, h2⟩ := rcheck_f (err_zero (scan_zero h).2).1
          exact ⟨g, h1, h2⟩
      obtain ⟨g, h1, h2⟩ := hb
      exact ⟨n.toNat, g, by omega, by omega, by omega, h1, h2⟩
set_option maxRecDepth 100000 in
set_option maxHeartbeats 1000000 in
theorem obliged_any (n : Int) {W : World} {v : Value} {l : List Rd} (h : WordAt W v l) :
    Calls Tryd.prog 19 #[.int .i64 n, v] W fun e w' => e = .returned (.tuple #[.int .i64 (obligedR n l).1, .int .i64 (obligedR n l).2]) ∧ Below W.heap.size W w' := by
  have HF := Lib.hid (faulty_any n h (word_any n h))
  clear h
  unfold obligedR
  unfold faultyR at HF
  by_cases hc : wordR n l = 0
  · obtain ⟨k, g, rfl, h1, h5, hb, hg⟩ := word_zero hc
    rw [if_neg (by simpa using hc)] at HF ⊢
    rw [hb] at HF ⊢
    clear hc hb
    rcases (by omega : k = 1 ∨ k = 2 ∨ k = 3 ∨ k = 4 ∨ k = 5) with rfl | rfl | rfl | rfl | rfl
    all_goals
      go_enter Tryd.func19, Tryd.ntmps19
      go_wp2_with (go_at_call 17; refine (HF.out).mono ?_; rintro e w1 ⟨rfl, hb1⟩; have HB := Lib.hid hb1; clear hb1)
      go_ret2
      exact ⟨rfl, HB.out⟩
  · rw [if_pos hc] at HF ⊢
    generalize wordR n l = c at *
    have hcb : (c != 0) = true := by simpa using hc
    clear hc
    go_enter Tryd.func19, Tryd.ntmps19
    go_wp2_with (go_at_call 17; refine (HF.out).mono ?_; rintro e w1 ⟨rfl, hb1⟩; have HB := Lib.hid hb1; clear hb1)
    go_ret2
    exact ⟨rfl, HB.out⟩
end Go.Proofs.YtlineonmpbdkgaaDoor.Word
namespace Go.Proofs.YtlineonmpbdkgaaDoor.Word
open Go Go.RowKit Go.Graph Go.Law
open Go.Proofs.YtlineonmpbdkgaaDoor.Graph
open Go.Proofs.YtlineonmpbdkgaaDoor.Col (has_any power_any ret_int)

theorem with_new (s p : Nat) (hs : s < 32) (hp : p < 5) (h : (s / 2 ^ p % 2 == 1) = false) (w : World) : Calls Tryd.prog 71 #[.int .i64 s, .int .i64 p] w fun e w' => e = .returned (.int .i64 ((s + 2 ^ p : Nat) : Int)) ∧ w = w' := by
  have hq : 2 ^ p ≤ 16 := Nat.le_trans (Nat.pow_le_pow_right (by omega) (show p ≤ 4 by omega)) (by decide)
  have H1 := Lib.hid h
  have HP := Lib.hid (power_any p (by omega))
  clear h
  generalize hg : 2 ^ p = q at *
  have HQ := Lib.hid hg
  clear hg
  go_enter Tryd.func71, Tryd.ntmps71
  go_wp2_with (first | (go_at_call 62; refine (has_any s p hs hp _).mono ?_; rintro e w' ⟨rfl, rfl⟩; rw [HQ.out, H1.out]) | (go_at_call 63; refine (HP.out _).mono ?_; rintro e w' ⟨rfl, rfl⟩))
  go_ret
  exact ⟨ret_int (by push_cast; rfl), rfl⟩
def restTo (g : Nat) : Nat → Nat
  | 0 => 0
  | k + 1 => if g / 2 ^ k % 2 == 1 then restTo g k else restTo g k + 2 ^ k
theorem rest_facts : ∀ g, g < 32 → ∀ k, k < 5 → restTo g k < 32 ∧ (restTo g k / 2 ^ k % 2 == 1) = false := by decide +kernel
theorem rest_eq : ∀ n, n < 6 → ∀ g, g < 2 ^ n → restTo g n = 2 ^ n - 1 - g := by decide +kernel
set_option maxHeartbeats 1000000 in
theorem rest_any (n g : Nat) (hn : n ≤ 5) (hg : g < 32) (w : World) : Calls Tryd.prog 49 #[.int .i64 n, .int .i64 g] w fun e w' => e = .returned (.int .i64 (restTo g n : Nat)) ∧ w = w' := by
  have HR := Lib.hid (rest_facts g hg)
  go_enter Tryd.func49, Tryd.ntmps49
  go_wp2
  go_loop [5, 6] (fun o i => ∃ k : Nat, k ≤ n ∧ i = .int .i64 k ∧ o = .int .i64 (restTo g k : Nat)) (fun _ i => n - (intOf i).toNat)
  case atStart => exact ⟨0, Nat.zero_le _, rfl, rfl⟩
  case round =>
    obtain ⟨k, hk, rfl, rfl⟩ := hrel
    by_cases hlt : k < n
    · have hk5 : k < 5 := by omega
      obtain ⟨f1, f2⟩ := HR.out k hk5
      have HW := Lib.hid (with_new (restTo g k) k f1 hk5 f2)
      have HS : Hid (restTo g (k + 1) = if g / 2 ^ k % 2 == 1 then restTo g k else restTo g k + 2 ^ k) := Lib.hid rfl
      clear f1 f2
      cases h1 : (g / 2 ^ k % 2 == 1) with
      | true =>
        rw [h1] at HS
        have H1 := Lib.hid h1
        clear h1
        go_wp2_with (go_at_call 62; refine (has_any _ _ (by assumption) (by assumption) _).mono ?_; rintro e w' ⟨rfl, rfl⟩; rw [H1.out])
        go_round
        case rel => exact ⟨k + 1, by omega, by go_num, by rw [HS.out]; rfl⟩
        case measure => simp [intOf]; omega
      | false =>
        rw [h1] at HS
        have H1 := Lib.hid h1
        clear h1
        go_wp2_with (first | (go_at_call 62; refine (has_any _ _ (by assumption) (by assumption) _).mono ?_; rintro e w' ⟨rfl, rfl⟩; rw [H1.out]) | (go_at_call 71; refine (HW.out _).mono ?_; rintro e w' ⟨rfl, rfl⟩))
        go_round
        case rel => exact ⟨k + 1, by omega, by go_num, by rw [HS.out]; rfl⟩
        case measure => simp [intOf]; omega
    · obtain rfl : k = n := by omega
      go_wp2
      go_ret
      exact ⟨rfl, rfl⟩
end Go.Proofs.YtlineonmpbdkgaaDoor.Word
namespace Go.Proofs.YtlineonmpbdkgaaDoor.Word
open Go Go.RowKit Go.Graph Go.Law
open Go.Proofs.YtlineonmpbdkgaaDoor.Graph

theorem rcheck_pow {m : Int} {r : List Int} {g : Int} (h : rcheck m r g = 0) : g < ((2 ^ m.toNat : Nat) : Int) := by
  unfold rcheck at h
  split at h
  · exact absurd h (by assumption)
  · split at h
    · exact absurd h (by decide)
    · rename_i h2
      generalize 2 ^ m.toNat = q at *
      omega
theorem word_pow {k g : Nat} {l : List Rd} (h : wordR k l = 0) (hg : before l l.length = g) : g < 2 ^ k := by
  unfold wordR at h
  split at h
  · exact absurd h (by decide)
  · split at h
    · exact absurd h (by decide)
    · generalize l.length = len at *
      cases len with
      | zero =>
        have : (g : Int) = 0 := hg.symm
        have h0 : g = 0 := by omega
        rw [h0]; exact Nat.pow_pos (by omega)
      | succ q =>
        have e := err_zero (scan_zero h).2
        have hp := rcheck_pow e.1
        rw [e.2] at hp
        simp only [Int.toNat_natCast] at hp
        have : (g : Int) < ((2 ^ k : Nat) : Int) := by rw [← hg]; exact hp
        exact_mod_cast this
set_option maxRecDepth 100000 in
set_option maxHeartbeats 1000000 in
theorem robliged_any (n : Int) {W : World} {v : Value} {l : List Rd} (h : WordAt W v l) :
    Calls Tryd.prog 20 #[.int .i64 n, v] W fun e w' => e = .returned (.tuple #[.int .i64 (obligedR n l).1, .int .i64 (obligedR n l).2]) ∧ Below W.heap.size W w' := by
  have HW := Lib.hid (rword_any n h)
  unfold obligedR
  by_cases hc : wordR n l = 0
  · obtain ⟨k, g, rfl, h1, h5, hb, hg⟩ := word_zero hc
    have hp := word_pow hc hb
    rw [if_neg (by simpa using hc)]
    rw [hc] at HW
    have HL := Lib.hid (fun w1 hbw => last_any (h.below (A := W) (B := w1) hbw))
    rw [hb] at HL ⊢
    clear hc hb h
    have HE := Lib.hid (rest_eq k (by omega) g hp)
    have HR := Lib.hid (rest_any k g h5 hg)
    have HF : Hid ((((2 ^ (k : Int).toNat - 1 : Nat) : Int) - (g : Int)) = (restTo g k : Nat)) := Lib.hid (by rw [HE.out, Int.toNat_natCast]; omega)
    clear hp
    go_enter Tryd.func20, Tryd.ntmps20
    go_wp2_with (first | (go_at_call 24; refine (HW.out).mono ?_; rintro e w1 ⟨rfl, hb1⟩; have HB := Lib.hid hb1; clear hb1) | (go_at_call 48; refine (HL.out _ HB.out).mono ?_; rintro e w2 ⟨rfl, rfl⟩) | (go_at_call 49; refine (HR.out _).mono ?_; rintro e w2 ⟨rfl, rfl⟩))
    go_ret2
    exact ⟨ret_two HF.out.symm, HB.out⟩
  · rw [if_pos hc]
    clear h
    generalize wordR n l = c at *
    have hcb : (c != 0) = true := by simpa using hc
    clear hc
    go_enter Tryd.func20, Tryd.ntmps20
    go_wp2_with (go_at_call 24; refine (HW.out).mono ?_; rintro e w1 ⟨rfl, hb1⟩; have HB := Lib.hid hb1; clear hb1)
    go_ret2
    exact ⟨rfl, HB.out⟩
end Go.Proofs.YtlineonmpbdkgaaDoor.Word
