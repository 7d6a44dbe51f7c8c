/-
  Codes of pairs, comparisons of lists, and the calls above: Refine, Meet, Of, Finer.
-/
import Derived.Test.YtlacohjecehpiaaEvPaLab
namespace Go.Proofs.Ytlacohjecehpiaa.Part
open Go Go.RowKit Go.Part Go.Law Go.Maps

theorem labels_any {w : World} {v : Value} {zs : List Int} (h : IntsAt w .i64 v zs) (hs : ¬ 65536 < zs.length) : Calls Try.prog 52 #[v] w (ListPost (labs (fn zs) zs.length) w) := by
  obtain ⟨a, cap, rfl, h1, h2, h3⟩ := h
  rcases h3 with rfl | ⟨b, off, rfl, hb, hc⟩
  · go_enter Try.func52, Try.ntmps52
    go_wp2
    refine wp_loop_rounds 1 ?_
    rw [rounds_succ]
    go_wp2
    go_ret
    exact ⟨_, rfl, Below.refl _ _, ints_nil _⟩
  · exact labels_some b off cap _ zs rfl hs w hb hc
theorem rcut_any {w : World} {v u : Value} {zs ys : List Int} (h : IntsAt w .i64 v zs) (h' : IntsAt w .i64 u ys) (hl : zs.length = ys.length) (hs : ¬ 65536 < zs.length) : Calls Try.prog 57 #[v, u] w (ListPost (cut zs ys) w) := by
  obtain ⟨a, cap, rfl, h1, h2, h3⟩ := h
  obtain ⟨a', cap', rfl, h1', h2', h3'⟩ := h'
  have nil : ∀ (a a' : Option Addr) (n cap cap' : Nat), Calls Try.prog 57 #[.slice a 0 cap, .slice a' n cap'] w (ListPost [] w) := by
    intro a a' n cap cap'
    go_enter Try.func57, Try.ntmps57
    go_wp2
    refine wp_loop_rounds 1 ?_
    rw [rounds_succ]
    go_wp2
    go_ret
    exact ⟨_, rfl, Below.refl _ _, ints_nil _⟩
  rcases h3 with rfl | ⟨b, off, rfl, hb, hc⟩
  · exact nil _ _ _ _ _
  · rcases h3' with rfl | ⟨c, pff, rfl, hb', hc'⟩
    · have : zs = [] := List.length_eq_zero_iff.1 hl
      subst this
      exact nil _ _ _ _ _
    · rw [← hl]
      exact cut_some b off cap c pff cap' _ zs ys rfl hl.symm hs w hb hc hb' hc'

/-! Codes of two lists. -/
def both (a b : List Int) : Int := if code a ≠ 0 then code a else if code b ≠ 0 then code b else if a.length ≠ b.length then 15 else 0
theorem both_left {a b : List Int} (h : code a ≠ 0) : both a b = code a := if_pos h
theorem both_right {a b : List Int} (h : code a = 0) (h' : code b ≠ 0) : both a b = code b := by rw [both, if_neg (by simpa using h), if_pos h']
theorem both_shape {a b : List Int} (h : code a = 0) (h' : code b = 0) (h2 : a.length ≠ b.length) : both a b = 15 := by rw [both, if_neg (by simpa using h), if_neg (by simpa using h'), if_pos h2]
theorem both_ok {a b : List Int} (h : code a = 0) (h' : code b = 0) (h2 : a.length = b.length) : both a b = 0 := by rw [both, if_neg (by simpa using h), if_neg (by simpa using h'), if_neg (by simpa using h2)]
theorem code_ok {a : List Int} (h : code a = 0) : ¬ 65536 < a.length ∧ wf a := by
  unfold code at h
  by_cases hl : 65536 < a.length
  · rw [if_pos hl] at h; cases h
  · rw [if_neg hl] at h; exact ⟨hl, chk_iff.1 h⟩
theorem code_of {a : List Int} (hl : ¬ 65536 < a.length) (h : wf a) : code a = 0 := by rw [code, if_neg hl]; exact chk_iff.2 h
theorem both_inv {a b : List Int} (h : both a b = 0) : code a = 0 ∧ code b = 0 ∧ a.length = b.length := by
  by_cases h1 : code a = 0
  · by_cases h2 : code b = 0
    · by_cases h3 : a.length = b.length
      · exact ⟨h1, h2, h3⟩
      · rw [both_shape h1 h2 h3] at h; cases h
    · rw [both_right h1 h2] at h; exact absurd h h2
  · rw [both_left h1] at h; exact absurd h h1
theorem ne_true {c : Int} (h : c ≠ 0) : (c != 0) = true := by simpa using h
theorem wf_fit {a : List Int} (h : wf a) (hl : ¬ 65536 < a.length) : Fit a := by
  have := labs_fit (fn a) a.length (by omega)
  rwa [h] at this
/-- What only reads. -/
def Quiet (r : Value) (W : World) (e : Ending) (w' : World) : Prop := ∃ m, e = .returned r ∧ w' = W.drewN m
def BoolPost (b : Bool) (c : Int) (W : World) (e : Ending) (w' : World) : Prop := e = .returned (.tuple #[.bool b, .int .i64 c]) ∧ Below W.heap.size W w'


theorem both_any {w : World} {v u : Value} {a b : List Int} (h : IntsAt w .i64 v a) (h' : IntsAt w .i64 u b) : Calls Try.prog 53 #[v, u] w fun e w' => e = .returned (.int .i64 (both a b)) ∧ w = w' := by
  have HA := Lib.hid (check_any h)
  have HB := Lib.hid (check_any h')
  obtain ⟨x, cap, rfl, h1, h2, h3⟩ := h
  obtain ⟨x', cap', rfl, h1', h2', h3'⟩ := h'
  clear h3 h3' h1 h1' h2 h2'
  by_cases c1 : code a = 0
  · by_cases c2 : code b = 0
    · by_cases c3 : a.length = b.length
      · rw [both_ok c1 c2 c3]
        rw [c1] at HA
        rw [c2] at HB
        have e3 : ((a.length : Int) != (b.length : Int)) = false := by rw [c3]; simp
        have e4 : (a.length != b.length) = false := by rw [c3]; simp
        clear c1 c2 c3
        go_enter Try.func53, Try.ntmps53
        go_wp2_with (first | (go_at_call 18; ((with_reducible refine (HA.out).mono ?_); rintro e w' ⟨rfl, rfl⟩)) | (go_at_call 18; ((with_reducible refine (HB.out).mono ?_); rintro e w' ⟨rfl, rfl⟩)))
        go_ret
        exact ⟨rfl, rfl⟩
      · rw [both_shape c1 c2 c3]
        rw [c1] at HA
        rw [c2] at HB
        have e3 : ((a.length : Int) != (b.length : Int)) = true := by simpa using (fun e => c3 (by exact_mod_cast e))
        have e4 : (a.length != b.length) = true := by simpa using c3
        clear c1 c2 c3
        go_enter Try.func53, Try.ntmps53
        go_wp2_with (first | (go_at_call 18; ((with_reducible refine (HA.out).mono ?_); rintro e w' ⟨rfl, rfl⟩)) | (go_at_call 18; ((with_reducible refine (HB.out).mono ?_); rintro e w' ⟨rfl, rfl⟩)))
        go_ret
        exact ⟨rfl, rfl⟩
    · rw [both_right c1 c2]
      rw [c1] at HA
      have e2 := ne_true c2
      generalize code b = cb at *
      clear c1 c2
      go_enter Try.func53, Try.ntmps53
      go_wp2_with (first | (go_at_call 18; ((with_reducible refine (HA.out).mono ?_); rintro e w' ⟨rfl, rfl⟩)) | (go_at_call 18; ((with_reducible refine (HB.out).mono ?_); rintro e w' ⟨rfl, rfl⟩)))
      go_ret
      exact ⟨rfl, rfl⟩
  · rw [both_left c1]
    have e1 := ne_true c1
    generalize code a = ca at *
    clear c1
    go_enter Try.func53, Try.ntmps53
    go_wp2_with (go_at_call 18; ((with_reducible refine (HA.out).mono ?_); rintro e w' ⟨rfl, rfl⟩))
    go_ret
    exact ⟨rfl, rfl⟩


theorem rboth_any {w : World} {v u : Value} {a b : List Int} (h : IntsAt w .i64 v a) (h' : IntsAt w .i64 u b) : Calls Try.prog 55 #[v, u] w fun e w' => e = .returned (.int .i64 (both a b)) ∧ w = w' := by
  have HA := Lib.hid (rcheck_any h)
  have HB := Lib.hid (rcheck_any h')
  obtain ⟨x, cap, rfl, h1, h2, h3⟩ := h
  obtain ⟨x', cap', rfl, h1', h2', h3'⟩ := h'
  clear h3 h3' h1 h1' h2 h2'
  by_cases c1 : code a = 0
  · by_cases c2 : code b = 0
    · by_cases c3 : a.length = b.length
      · rw [both_ok c1 c2 c3]
        rw [c1] at HA
        rw [c2] at HB
        have e3 : ((a.length : Int) != (b.length : Int)) = false := by rw [c3]; simp
        have e4 : (a.length != b.length) = false := by rw [c3]; simp
        clear c1 c2 c3
        go_enter Try.func55, Try.ntmps55
        go_wp2_with (first | (go_at_call 19; ((with_reducible refine (HA.out).mono ?_); rintro e w' ⟨rfl, rfl⟩)) | (go_at_call 19; ((with_reducible refine (HB.out).mono ?_); rintro e w' ⟨rfl, rfl⟩)))
        go_ret
        exact ⟨rfl, rfl⟩
      · rw [both_shape c1 c2 c3]
        rw [c1] at HA
        rw [c2] at HB
        have e3 : ((a.length : Int) != (b.length : Int)) = true := by simpa using (fun e => c3 (by exact_mod_cast e))
        have e4 : (a.length != b.length) = true := by simpa using c3
        clear c1 c2 c3
        go_enter Try.func55, Try.ntmps55
        go_wp2_with (first | (go_at_call 19; ((with_reducible refine (HA.out).mono ?_); rintro e w' ⟨rfl, rfl⟩)) | (go_at_call 19; ((with_reducible refine (HB.out).mono ?_); rintro e w' ⟨rfl, rfl⟩)))
        go_ret
        exact ⟨rfl, rfl⟩
    · rw [both_right c1 c2]
      rw [c1] at HA
      have e2 := ne_true c2
      generalize code b = cb at *
      clear c1 c2
      go_enter Try.func55, Try.ntmps55
      go_wp2_with (first | (go_at_call 19; ((with_reducible refine (HA.out).mono ?_); rintro e w' ⟨rfl, rfl⟩)) | (go_at_call 19; ((with_reducible refine (HB.out).mono ?_); rintro e w' ⟨rfl, rfl⟩)))
      go_ret
      exact ⟨rfl, rfl⟩
  · rw [both_left c1]
    have e1 := ne_true c1
    generalize code a = ca at *
    clear c1
    go_enter Try.func55, Try.ntmps55
    go_wp2_with (go_at_call 19; ((with_reducible refine (HA.out).mono ?_); rintro e w' ⟨rfl, rfl⟩))
    go_ret
    exact ⟨rfl, rfl⟩


theorem equal_len (a a' : Option Addr) (n m cap cap' : Nat) (h : n ≠ m) (w : World) : Calls Try.prog 36 #[.slice a n cap, .slice a' m cap'] w (Quiet (.bool false) w) := by
  have e3 : ((n : Int) != (m : Int)) = true := by simpa using (fun e => h (by exact_mod_cast e))
  have e4 : (n != m) = true := by simpa using h
  clear h
  go_enter Try.func36, Try.ntmps36
  go_wp2
  go_ret
  exact ⟨0, rfl, rfl⟩
theorem equal_nil (a a' : Option Addr) (cap cap' : Nat) (w : World) : Calls Try.prog 36 #[.slice a 0 cap, .slice a' 0 cap'] w (Quiet (.bool true) w) := by
  go_enter Try.func36, Try.ntmps36
  go_wp2
  refine wp_loop_rounds 1 ?_
  rw [rounds_succ]
  go_wp2
  go_ret
  exact ⟨0, rfl, rfl⟩
set_option maxHeartbeats 1000000 in
theorem equal_some (b off cap c pff cbp len : Nat) (zs ys : List Int) (hz : zs.length = len) (hy : ys.length = len) (w : World) (hc : At w b off zs) (hc2 : At w c pff ys) (hl : len ≤ 9223372036854775807) :
    Calls Try.prog 36 #[.slice (some ⟨b, off, none⟩) len cap, .slice (some ⟨c, pff, none⟩) len cbp] w (Quiet (.bool (decide (zs = ys))) w) := by
  have HZ := Lib.hid hz
  have HY := Lib.hid hy
  have HC := Lib.hid hc
  have HD := Lib.hid hc2
  clear hz hy hc hc2
  have e3 : ((len : Int) != (len : Int)) = false := by simp
  go_enter Try.func36, Try.ntmps36
  go_wp2
  go_loopw [13] (fun i wr => ∃ k m : Nat, k ≤ len ∧ i = .int .i64 k ∧ wr = w.drewN m ∧ zs.take k = ys.take k) (fun i _ => len - (intOf i).toNat)
  case atStart => exact ⟨0, 0, Nat.zero_le _, rfl, rfl, rfl⟩
  case round =>
    obtain ⟨k, m, hk, rfl, rfl, ht⟩ := hrel
    have HT := Lib.hid ht
    clear ht
    by_cases hlt : k < len
    · have hcell := HC.out k (by have := HZ.out; omega)
      have hcell1 := HD.out k (by have := HY.out; omega)
      have HS1 := Lib.hid (take_snoc (l := zs) (k := k) (by have := HZ.out; omega))
      have HS2 := Lib.hid (take_snoc (l := ys) (k := k) (by have := HY.out; omega))
      have HX1 : Hid (zs.getD k 0 = zs.getD k 0) := Lib.hid rfl
      have HX2 : Hid (ys.getD k 0 = ys.getD k 0) := Lib.hid rfl
      have HN : Hid (zs.getD k 0 ≠ ys.getD k 0 → zs ≠ ys) := Lib.hid (fun h e => h (by rw [e]))
      generalize zs.getD k 0 = x at *
      generalize ys.getD k 0 = y at *
      clear HX1 HX2
      by_cases hxy : x = y
      · subst hxy
        have hd : ((x : Int) != x) = false := by simp
        go_wp2
        go_quiet (fail)
        go_wp2
        exact ⟨⟨k + 1, m + nq, by omega, by go_num, rfl, by rw [HS1.out, HS2.out, HT.out]⟩, by simp [intOf]; omega⟩
      · have hd : ((x : Int) != y) = true := by simpa using hxy
        go_wp2
        go_quiet (fail)
        go_wp2
        go_ret
        exact ⟨m + nq, ret_bool (by simpa using HN.out hxy), by rw [World.drewN_drewN]⟩
    · have hk' : k = len := by omega
      have HE : Hid (zs = ys) := Lib.hid (by have h1 := HZ.out; have h2 := HY.out; have := HT.out; rwa [List.take_of_length_le (by omega), List.take_of_length_le (by omega)] at this)
      clear hk'
      go_wp2
      go_ret
      exact ⟨m, ret_bool (by simpa using HE.out), rfl⟩
theorem equal_any {w : World} {v u : Value} {zs ys : List Int} (h : IntsAt w .i64 v zs) (h' : IntsAt w .i64 u ys) : Calls Try.prog 36 #[v, u] w (Quiet (.bool (decide (zs = ys))) w) := by
  obtain ⟨a, cap, rfl, h1, h2, h3⟩ := h
  obtain ⟨a', cap', rfl, h1', h2', h3'⟩ := h'
  by_cases hl : zs.length = ys.length
  · rcases h3 with rfl | ⟨b, off, rfl, hb, hc⟩
    · have : ys = [] := List.length_eq_zero_iff.1 hl.symm
      subst this
      exact equal_nil _ _ _ _ w
    · rcases h3' with rfl | ⟨c, pff, rfl, hb', hc'⟩
      · have : zs = [] := List.length_eq_zero_iff.1 hl
        subst this
        exact equal_nil _ _ _ _ w
      · rw [← hl]
        exact equal_some b off cap c pff cap' _ zs ys rfl hl.symm w hc hc' (by unfold maxLen at h2; omega)
  · rw [show decide (zs = ys) = false by simpa using (fun e => hl (by rw [e]))]
    exact equal_len _ _ _ _ _ _ hl w


theorem same_len (a a' : Option Addr) (n m cap cap' : Nat) (h : n ≠ m) (w : World) : Calls Try.prog 25 #[.slice a n cap, .slice a' m cap'] w (Quiet (.bool false) w) := by
  have e3 : ((n : Int) != (m : Int)) = true := by simpa using (fun e => h (by exact_mod_cast e))
  have e4 : (n != m) = true := by simpa using h
  clear h
  go_enter Try.func25, Try.ntmps25
  go_wp2
  go_ret
  exact ⟨0, rfl, rfl⟩
theorem same_nil (a a' : Option Addr) (cap cap' : Nat) (w : World) : Calls Try.prog 25 #[.slice a 0 cap, .slice a' 0 cap'] w (Quiet (.bool true) w) := by
  go_enter Try.func25, Try.ntmps25
  go_wp2
  refine wp_loop_rounds 1 ?_
  rw [rounds_succ]
  go_wp2
  go_ret
  exact ⟨0, rfl, rfl⟩
set_option maxHeartbeats 1000000 in
theorem same_some (b off cap c pff cbp len : Nat) (zs ys : List Int) (hz : zs.length = len) (hy : ys.length = len) (w : World) (hc : At w b off zs) (hc2 : At w c pff ys) (hl : len ≤ 9223372036854775807) :
    Calls Try.prog 25 #[.slice (some ⟨b, off, none⟩) len cap, .slice (some ⟨c, pff, none⟩) len cbp] w (Quiet (.bool (decide (zs = ys))) w) := by
  have HZ := Lib.hid hz
  have HY := Lib.hid hy
  have HC := Lib.hid hc
  have HD := Lib.hid hc2
  clear hz hy hc hc2
  have e3 : ((len : Int) != (len : Int)) = false := by simp
  go_enter Try.func25, Try.ntmps25
  go_wp2
  go_loopw [5] (fun i wr => ∃ k m : Nat, k ≤ len ∧ i = .int .i64 k ∧ wr = w.drewN m ∧ zs.take k = ys.take k) (fun i _ => len - (intOf i).toNat)
  case atStart => exact ⟨0, 0, Nat.zero_le _, rfl, rfl, rfl⟩
  case round =>
    obtain ⟨k, m, hk, rfl, rfl, ht⟩ := hrel
    have HT := Lib.hid ht
    clear ht
    by_cases hlt : k < len
    · have hcell := HC.out k (by have := HZ.out; omega)
      have hcell1 := HD.out k (by have := HY.out; omega)
      have HS1 := Lib.hid (take_snoc (l := zs) (k := k) (by have := HZ.out; omega))
      have HS2 := Lib.hid (take_snoc (l := ys) (k := k) (by have := HY.out; omega))
      have HX1 : Hid (zs.getD k 0 = zs.getD k 0) := Lib.hid rfl
      have HX2 : Hid (ys.getD k 0 = ys.getD k 0) := Lib.hid rfl
      have HN : Hid (zs.getD k 0 ≠ ys.getD k 0 → zs ≠ ys) := Lib.hid (fun h e => h (by rw [e]))
      generalize zs.getD k 0 = x at *
      generalize ys.getD k 0 = y at *
      clear HX1 HX2
      by_cases hxy : x = y
      · subst hxy
        have hd : ((x : Int) != x) = false := by simp
        go_wp2
        go_quiet (fail)
        go_wp2
        exact ⟨⟨k + 1, m + nq, by omega, by go_num, rfl, by rw [HS1.out, HS2.out, HT.out]⟩, by simp [intOf]; omega⟩
      · have hd : ((x : Int) != y) = true := by simpa using hxy
        go_wp2
        go_quiet (fail)
        go_wp2
        go_ret
        exact ⟨m + nq, ret_bool (by simpa using HN.out hxy), by rw [World.drewN_drewN]⟩
    · have hk' : k = len := by omega
      have HE : Hid (zs = ys) := Lib.hid (by have h1 := HZ.out; have h2 := HY.out; have := HT.out; rwa [List.take_of_length_le (by omega), List.take_of_length_le (by omega)] at this)
      clear hk'
      go_wp2
      go_ret
      exact ⟨m, ret_bool (by simpa using HE.out), rfl⟩
theorem same_any {w : World} {v u : Value} {zs ys : List Int} (h : IntsAt w .i64 v zs) (h' : IntsAt w .i64 u ys) : Calls Try.prog 25 #[v, u] w (Quiet (.bool (decide (zs = ys))) w) := by
  obtain ⟨a, cap, rfl, h1, h2, h3⟩ := h
  obtain ⟨a', cap', rfl, h1', h2', h3'⟩ := h'
  by_cases hl : zs.length = ys.length
  · rcases h3 with rfl | ⟨b, off, rfl, hb, hc⟩
    · have : ys = [] := List.length_eq_zero_iff.1 hl.symm
      subst this
      exact same_nil _ _ _ _ w
    · rcases h3' with rfl | ⟨c, pff, rfl, hb', hc'⟩
      · have : zs = [] := List.length_eq_zero_iff.1 hl
        subst this
        exact same_nil _ _ _ _ w
      · rw [← hl]
        exact same_some b off cap c pff cap' _ zs ys rfl hl.symm w hc hc' (by unfold maxLen at h2; omega)
  · rw [show decide (zs = ys) = false by simpa using (fun e => hl (by rw [e]))]
    exact same_len _ _ _ _ _ _ hl w


theorem rof_any {w : World} {v : Value} {zs : List Int} (h : IntsAt w .i64 v zs) : Calls Try.prog 22 #[v] w (PairPost (ofList zs) (ofCode zs) w) := by
  have HH := Lib.hid h
  obtain ⟨x, cap, rfl, h1, h2, h3⟩ := h
  clear h3 h1 h2
  unfold ofList ofCode
  by_cases hl : 65536 < zs.length
  · rw [if_pos hl, if_pos hl]
    go_enter Try.func22, Try.ntmps22
    go_wp2
    go_ret2
    exact ⟨_, rfl, Below.refl _ _, ints_nil _⟩
  · rw [if_neg hl, if_neg hl]
    have HC := Lib.hid (labels_any HH.out hl)
    go_enter Try.func22, Try.ntmps22
    go_wp2_with (go_at_call 52; ((with_reducible refine (HC.out).mono ?_); rintro e w1 ⟨v1, rfl, hb, hi⟩; have HB1 := Lib.hid hb; have HI := Lib.hid hi; clear hb hi))
    go_ret2
    exact ⟨_, rfl, HB1.out, HI.out⟩

def refCode (a b : List Int) : Int := if code a ≠ 0 then code a else if b.length ≠ a.length then 15 else 0
def refList (a b : List Int) : List Int := if code a ≠ 0 then [] else if b.length ≠ a.length then [] else cut a b
theorem ref_bad {a b : List Int} (h : code a ≠ 0) : refCode a b = code a ∧ refList a b = [] := by rw [refCode, refList, if_pos h, if_pos h]; exact ⟨rfl, rfl⟩
theorem ref_shape {a b : List Int} (h : code a = 0) (h2 : b.length ≠ a.length) : refCode a b = 15 ∧ refList a b = [] := by
  constructor
  · rw [refCode, if_neg (by simpa using h), if_pos h2]
  · rw [refList, if_neg (by simpa using h), if_pos h2]
theorem ref_ok {a b : List Int} (h : code a = 0) (h2 : b.length = a.length) : refCode a b = 0 ∧ refList a b = cut a b := by
  constructor
  · rw [refCode, if_neg (by simpa using h), if_neg (by simpa using h2)]
  · rw [refList, if_neg (by simpa using h), if_neg (by simpa using h2)]


theorem refine_any {w : World} {v u : Value} {a b : List Int} (h : IntsAt w .i64 v a) (h' : IntsAt w .i64 u b) (hf : Fit b) : Calls Try.prog 32 #[v, u] w (PairPost (refList a b) (refCode a b) w) := by
  have HA := Lib.hid (check_any h)
  have HH := Lib.hid h
  have HH' := Lib.hid h'
  obtain ⟨x, cap, rfl, h1, h2, h3⟩ := h
  obtain ⟨x', cap', rfl, h1', h2', h3'⟩ := h'
  clear h3 h3' h1 h1' h2 h2'
  by_cases c1 : code a = 0
  · by_cases c3 : b.length = a.length
    · rw [(ref_ok c1 c3).1, (ref_ok c1 c3).2]
      have HC := Lib.hid (meet_any HH.out HH'.out c3.symm (code_ok c1).1 (wf_fit (code_ok c1).2 (code_ok c1).1) hf)
      rw [c1] at HA
      have e3 : ((b.length : Int) != (a.length : Int)) = false := by rw [c3]; simp
      have e4 : (b.length != a.length) = false := by rw [c3]; simp
      clear c1 c3
      go_enter Try.func32, Try.ntmps32
      go_wp2_with (first | (go_at_call 18; ((with_reducible refine (HA.out).mono ?_); rintro e w' ⟨rfl, rfl⟩)) | (go_at_call 54; ((with_reducible refine (HC.out).mono ?_); rintro e w1 ⟨v1, rfl, hb, hi⟩; have HB1 := Lib.hid hb; have HI := Lib.hid hi; clear hb hi)))
      go_ret2
      exact ⟨_, rfl, HB1.out, HI.out⟩
    · rw [(ref_shape c1 c3).1, (ref_shape c1 c3).2]
      rw [c1] at HA
      have e3 : ((b.length : Int) != (a.length : Int)) = true := by simpa using (fun e => c3 (by exact_mod_cast e))
      have e4 : (b.length != a.length) = true := by simpa using c3
      clear c1 c3
      go_enter Try.func32, Try.ntmps32
      go_wp2_with (go_at_call 18; ((with_reducible refine (HA.out).mono ?_); rintro e w' ⟨rfl, rfl⟩))
      go_ret2
      exact ⟨_, rfl, Below.refl _ _, ints_nil _⟩
  · rw [(ref_bad c1).1, (ref_bad c1).2]
    have e1 := ne_true c1
    generalize code a = k at *
    clear c1
    go_enter Try.func32, Try.ntmps32
    go_wp2_with (go_at_call 18; ((with_reducible refine (HA.out).mono ?_); rintro e w' ⟨rfl, rfl⟩))
    go_ret2
    exact ⟨_, rfl, Below.refl _ _, ints_nil _⟩


theorem rrefine_any {w : World} {v u : Value} {a b : List Int} (h : IntsAt w .i64 v a) (h' : IntsAt w .i64 u b) : Calls Try.prog 33 #[v, u] w (PairPost (refList a b) (refCode a b) w) := by
  have HA := Lib.hid (rcheck_any h)
  have HH := Lib.hid h
  have HH' := Lib.hid h'
  obtain ⟨x, cap, rfl, h1, h2, h3⟩ := h
  obtain ⟨x', cap', rfl, h1', h2', h3'⟩ := h'
  clear h3 h3' h1 h1' h2 h2'
  by_cases c1 : code a = 0
  · by_cases c3 : b.length = a.length
    · rw [(ref_ok c1 c3).1, (ref_ok c1 c3).2]
      have HC := Lib.hid (rcut_any HH.out HH'.out c3.symm (code_ok c1).1)
      rw [c1] at HA
      have e3 : ((b.length : Int) != (a.length : Int)) = false := by rw [c3]; simp
      have e4 : (b.length != a.length) = false := by rw [c3]; simp
      clear c1 c3
      go_enter Try.func33, Try.ntmps33
      go_wp2_with (first | (go_at_call 19; ((with_reducible refine (HA.out).mono ?_); rintro e w' ⟨rfl, rfl⟩)) | (go_at_call 57; ((with_reducible refine (HC.out).mono ?_); rintro e w1 ⟨v1, rfl, hb, hi⟩; have HB1 := Lib.hid hb; have HI := Lib.hid hi; clear hb hi)))
      go_ret2
      exact ⟨_, rfl, HB1.out, HI.out⟩
    · rw [(ref_shape c1 c3).1, (ref_shape c1 c3).2]
      rw [c1] at HA
      have e3 : ((b.length : Int) != (a.length : Int)) = true := by simpa using (fun e => c3 (by exact_mod_cast e))
      have e4 : (b.length != a.length) = true := by simpa using c3
      clear c1 c3
      go_enter Try.func33, Try.ntmps33
      go_wp2_with (go_at_call 19; ((with_reducible refine (HA.out).mono ?_); rintro e w' ⟨rfl, rfl⟩))
      go_ret2
      exact ⟨_, rfl, Below.refl _ _, ints_nil _⟩
  · rw [(ref_bad c1).1, (ref_bad c1).2]
    have e1 := ne_true c1
    generalize code a = k at *
    clear c1
    go_enter Try.func33, Try.ntmps33
    go_wp2_with (go_at_call 19; ((with_reducible refine (HA.out).mono ?_); rintro e w' ⟨rfl, rfl⟩))
    go_ret2
    exact ⟨_, rfl, Below.refl _ _, ints_nil _⟩


def meetfList (a b : List Int) : List Int := if both a b = 0 then cut a b else []
theorem meetf_any {w : World} {v u : Value} {a b : List Int} (h : IntsAt w .i64 v a) (h' : IntsAt w .i64 u b) : Calls Try.prog 28 #[v, u] w (PairPost (meetfList a b) (both a b) w) := by
  have HB := Lib.hid (both_any h h')
  unfold meetfList
  by_cases c : both a b = 0
  · rw [if_pos c]
    obtain ⟨c1, c2, c3⟩ := both_inv c
    have HC := Lib.hid (meet_any h h' c3 (code_ok c1).1 (wf_fit (code_ok c1).2 (code_ok c1).1) (wf_fit (code_ok c2).2 (code_ok c2).1))
    rw [c] at HB ⊢
    clear c c1 c2 c3 h h'
    go_enter Try.func28, Try.ntmps28
    go_wp2_with (first | (go_at_call 53; ((with_reducible refine (HB.out).mono ?_); rintro e w' ⟨rfl, rfl⟩)) | (go_at_call 54; ((with_reducible refine (HC.out).mono ?_); rintro e w1 ⟨v1, rfl, hb, hi⟩; have HB1 := Lib.hid hb; have HI := Lib.hid hi; clear hb hi)))
    go_ret2
    exact ⟨_, rfl, HB1.out, HI.out⟩
  · rw [if_neg c]
    have e1 := ne_true c
    generalize both a b = k at *
    clear c h h'
    go_enter Try.func28, Try.ntmps28
    go_wp2_with (go_at_call 53; ((with_reducible refine (HB.out).mono ?_); rintro e w' ⟨rfl, rfl⟩))
    go_ret2
    exact ⟨_, rfl, Below.refl _ _, ints_nil _⟩


theorem rmeetf_any {w : World} {v u : Value} {a b : List Int} (h : IntsAt w .i64 v a) (h' : IntsAt w .i64 u b) : Calls Try.prog 29 #[v, u] w (PairPost (meetfList a b) (both a b) w) := by
  have HB := Lib.hid (rboth_any h h')
  unfold meetfList
  by_cases c : both a b = 0
  · rw [if_pos c]
    obtain ⟨c1, c2, c3⟩ := both_inv c
    have HC := Lib.hid (rcut_any h h' c3 (code_ok c1).1)
    rw [c] at HB ⊢
    clear c c1 c2 c3 h h'
    go_enter Try.func29, Try.ntmps29
    go_wp2_with (first | (go_at_call 55; ((with_reducible refine (HB.out).mono ?_); rintro e w' ⟨rfl, rfl⟩)) | (go_at_call 57; ((with_reducible refine (HC.out).mono ?_); rintro e w1 ⟨v1, rfl, hb, hi⟩; have HB1 := Lib.hid hb; have HI := Lib.hid hi; clear hb hi)))
    go_ret2
    exact ⟨_, rfl, HB1.out, HI.out⟩
  · rw [if_neg c]
    have e1 := ne_true c
    generalize both a b = k at *
    clear c h h'
    go_enter Try.func29, Try.ntmps29
    go_wp2_with (go_at_call 55; ((with_reducible refine (HB.out).mono ?_); rintro e w' ⟨rfl, rfl⟩))
    go_ret2
    exact ⟨_, rfl, Below.refl _ _, ints_nil _⟩

end Go.Proofs.Ytlacohjecehpiaa.Part
