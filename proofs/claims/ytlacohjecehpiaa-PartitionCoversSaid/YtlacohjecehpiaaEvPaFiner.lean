/-
  Finer partitions, and the calls of joins.
-/
import Derived.Test.YtlacohjecehpiaaEvPaGlue
namespace Go.Proofs.Ytlacohjecehpiaa.Part
open Go Go.RowKit Go.Part Go.Law Go.Maps

theorem cut_iff {a b : List Int} (ha : wf a) : cut a b = a ↔ ∀ i k, i < a.length → k < i → a.getD i 0 = a.getD k 0 → b.getD i 0 = b.getD k 0 := by
  constructor
  · intro h i k hi hk e
    have h2 : labs (prs a b) a.length = labs (fn a) a.length := by rw [show labs (fn a) a.length = a from ha]; exact h
    have := ((eqv_labs h2) i k hi (by omega)).2 e
    exact congrArg Prod.snd this
  · intro h
    have h2 : Eqv a.length (prs a b) (fn a) := by
      intro i j hi hj
      constructor
      · intro e; exact congrArg Prod.fst e
      · intro e
        refine Prod.ext e ?_
        rcases Nat.lt_trichotomy i j with h1 | h1 | h1
        · exact (h j i hj h1 e.symm).symm
        · rw [h1]
        · exact h i j hi h1 e
    unfold cut
    rw [labs_eqv h2]; exact ha
set_option maxRecDepth 100000 in
set_option maxHeartbeats 2000000 in
theorem under_ok {w : World} {x x' : Option Addr} {n cap cap' : Nat} {a b : List Int} (hla : a.length = n) (hlb : b.length = n) (h : IntsAt w .i64 (.slice x n cap) a) (h' : IntsAt w .i64 (.slice x' n cap') b) (hn : n ≤ 65536) (ha : wf a) :
    Calls Try.prog 56 #[.slice x n cap, .slice x' n cap'] w (Quiet (.bool (decide (cut a b = a))) w) := by
  have HI := Lib.hid h
  have HI' := Lib.hid h'
  have HLA := Lib.hid hla
  have HLB := Lib.hid hlb
  have HCI := Lib.hid (cut_iff (b := b) ha)
  clear h h' hla hlb ha
  go_enter Try.func56, Try.ntmps56
  go_wp2
  go_loopw [5] (fun i wr => ∃ j m : Nat, j ≤ n ∧ i = .int .i64 j ∧ wr = w.drewN m ∧ ∀ i k, i < j → k < i → a.getD i 0 = a.getD k 0 → b.getD i 0 = b.getD k 0) (fun i _ => n - (intOf i).toNat)
  case atStart => exact ⟨0, 0, Nat.zero_le _, rfl, rfl, fun i k h => absurd h (by omega)⟩
  case round =>
    obtain ⟨i, m, hi, rfl, rfl, hs⟩ := hrel
    have HS := Lib.hid hs
    clear hs
    by_cases hin : i < n
    · go_wp2
      go_loopw [6] (fun kk wr => ∃ k m : Nat, k ≤ i ∧ kk = .int .i64 k ∧ wr = w.drewN m ∧ ∀ k', k' < k → a.getD i 0 = a.getD k' 0 → b.getD i 0 = b.getD k' 0) (fun kk _ => i - (intOf kk).toNat)
      case atStart => exact ⟨0, m, Nat.zero_le _, rfl, rfl, fun k h => absurd h (by omega)⟩
      case round =>
        obtain ⟨k, m, hk, rfl, rfl, hs⟩ := hrel
        have HT := Lib.hid hs
        clear hs
        by_cases hki : k < i
        · obtain ⟨p1, hp1, hx1, hd1⟩ := ints_index HI.out (j := i) (by have := HLA.out; omega)
          obtain ⟨p2, hp2, hx2, hd2⟩ := ints_index HI.out (j := k) (by have := HLA.out; omega)
          obtain ⟨p3, hp3, hx3, hd3⟩ := ints_index HI'.out (j := i) (by have := HLB.out; omega)
          obtain ⟨p4, hp4, hx4, hd4⟩ := ints_index HI'.out (j := k) (by have := HLB.out; omega)
          have HF1 : Hid ((a.getD i 0 = a.getD k 0 → b.getD i 0 = b.getD k 0) → ∀ k', k' < k + 1 → a.getD i 0 = a.getD k' 0 → b.getD i 0 = b.getD k' 0) := Lib.hid (fun h => below_succ HT.out h)
          have HF2 : Hid (a.getD i 0 = a.getD k 0 → ¬ b.getD i 0 = b.getD k 0 → ¬ cut a b = a) := Lib.hid (fun e ne hc => ne (HCI.out.1 hc i k (by have := HLA.out; omega) hki e))
          generalize a.getD i 0 = x1 at *
          generalize a.getD k 0 = x2 at *
          generalize b.getD i 0 = x3 at *
          generalize b.getD k 0 = x4 at *
          by_cases hA : x1 = x2
          · by_cases hB : x3 = x4
            · have hd5 : ((x1 : Int) == x2) = true := by simpa using hA
              have hd6 : ((x3 : Int) != x4) = false := by simpa using hB
              have HN := Lib.hid (HF1.out fun _ => hB)
              clear hA hB
              go_wp2
              go_quiet (fail)
              go_wp2
              exact ⟨⟨k + 1, m + nq, by omega, by go_num, rfl, HN.out⟩, by simp [intOf]; omega⟩
            · have hd5 : ((x1 : Int) == x2) = true := by simpa using hA
              have hd6 : ((x3 : Int) != x4) = true := by simpa using hB
              have HN := Lib.hid (HF2.out hA hB)
              clear hA hB
              go_wp2
              go_quiet (fail)
              go_wp2
              go_ret
              exact ⟨m + nq, ret_bool (by simpa using HN.out), by rw [World.drewN_drewN]⟩
          · have hd5 : ((x1 : Int) == x2) = false := by simpa using hA
            have HN := Lib.hid (HF1.out fun e => absurd e hA)
            clear hA
            go_wp2
            go_quiet (fail)
            go_wp2
            exact ⟨⟨k + 1, m + nq, by omega, by go_num, rfl, HN.out⟩, by simp [intOf]; omega⟩
        · have hki' : k = i := by omega
          have HN : Hid (∀ j k, j < i + 1 → k < j → a.getD j 0 = a.getD k 0 → b.getD j 0 = b.getD k 0) := Lib.hid (fun j k' hj hk' e => by
            by_cases ej : j = i
            · subst ej; exact HT.out k' (by omega) e
            · exact HS.out j k' (by omega) hk' e)
          clear hki'
          go_wp2
          exact ⟨⟨i + 1, m, by omega, by go_num, rfl, HN.out⟩, by simp [intOf]; omega⟩
    · have HN : Hid (cut a b = a) := Lib.hid (HCI.out.2 (by have := HLA.out; intro i' k h1 h2 h3; exact HS.out i' k (by omega) h2 h3))
      go_wp2
      go_ret
      exact ⟨m, ret_bool (by simpa using HN.out), rfl⟩
def finB (a b : List Int) : Bool := if both a b = 0 then decide (cut a b = a) else false
theorem finer_any {w : World} {v u : Value} {a b : List Int} (h : IntsAt w .i64 v a) (h' : IntsAt w .i64 u b) : Calls Try.prog 26 #[v, u] w (BoolPost (finB a b) (both a b) w) := by
  have HB := Lib.hid (both_any h h')
  have HH := Lib.hid h
  unfold finB
  by_cases c : both a b = 0
  · rw [if_pos c]
    obtain ⟨c1, c2, c3⟩ := both_inv c
    have HC := Lib.hid (meet_any h h' c3 (code_ok c1).1 (wf_fit (code_ok c1).2 (code_ok c1).1) (wf_fit (code_ok c2).2 (code_ok c2).1))
    rw [c] at HB ⊢
    clear c c1 c2 c3 h h'
    go_enter Try.func26, Try.ntmps26
    go_wp2_with (first | (go_at_call 53; ((with_reducible refine (HB.out).mono ?_); rintro e w' ⟨rfl, rfl⟩)) | (go_at_call 54; ((with_reducible refine (HC.out).mono ?_); rintro e w1 ⟨v1, rfl, hb, hi⟩; have HB1 := Lib.hid hb; have HE := Lib.hid (equal_any hi (ints_below HH.out hb)); clear hb hi)) | (go_at_call 36; ((with_reducible refine (HE.out).mono ?_); rintro e w2 ⟨m, rfl, rfl⟩)))
    go_ret2
    exact ⟨rfl, below_drewN HB1.out m⟩
  · rw [if_neg c]
    have e1 := ne_true c
    generalize both a b = k at *
    clear c h h'
    go_enter Try.func26, Try.ntmps26
    go_wp2_with (go_at_call 53; ((with_reducible refine (HB.out).mono ?_); rintro e w' ⟨rfl, rfl⟩))
    go_ret2
    exact ⟨rfl, Below.refl _ _⟩
theorem under_any {w : World} {v u : Value} {a b : List Int} (h : IntsAt w .i64 v a) (h' : IntsAt w .i64 u b) (hl : a.length = b.length) (hs : ¬ 65536 < a.length) (ha : wf a) : Calls Try.prog 56 #[v, u] w (Quiet (.bool (decide (cut a b = a))) w) := by
  have HI := h
  have HI' := h'
  obtain ⟨x, cap, rfl, h1, h2, h3⟩ := h
  obtain ⟨x', cap', rfl, h1', h2', h3'⟩ := h'
  rw [← hl] at HI' ⊢
  exact under_ok rfl hl.symm HI HI' (by omega) ha
theorem rfiner_any {w : World} {v u : Value} {a b : List Int} (h : IntsAt w .i64 v a) (h' : IntsAt w .i64 u b) : Calls Try.prog 27 #[v, u] w (BoolPost (finB a b) (both a b) w) := by
  have HB := Lib.hid (rboth_any h h')
  unfold finB
  by_cases c : both a b = 0
  · rw [if_pos c]
    obtain ⟨c1, c2, c3⟩ := both_inv c
    have HC := Lib.hid (under_any h h' c3 (code_ok c1).1 (code_ok c1).2)
    rw [c] at HB ⊢
    clear c c1 c2 c3 h h'
    go_enter Try.func27, Try.ntmps27
    go_wp2_with (first | (go_at_call 55; ((with_reducible refine (HB.out).mono ?_); rintro e w' ⟨rfl, rfl⟩)) | (go_at_call 56; ((with_reducible refine (HC.out).mono ?_); rintro e w1 ⟨m, rfl, rfl⟩)))
    go_ret2
    exact ⟨rfl, below_drewN (Below.refl _ _) m⟩
  · rw [if_neg c]
    have e1 := ne_true c
    generalize both a b = k at *
    clear c h h'
    go_enter Try.func27, Try.ntmps27
    go_wp2_with (go_at_call 55; ((with_reducible refine (HB.out).mono ?_); rintro e w' ⟨rfl, rfl⟩))
    go_ret2
    exact ⟨rfl, Below.refl _ _⟩
noncomputable def joinList (a b : List Int) : List Int := if both a b = 0 then glue a.length a b else []
theorem join_any {w : World} {v u : Value} {a b : List Int} (h : IntsAt w .i64 v a) (h' : IntsAt w .i64 u b) : Calls Try.prog 30 #[v, u] w (PairPost (joinList a b) (both a b) w) := by
  have HB := Lib.hid (both_any h h')
  unfold joinList
  by_cases c : both a b = 0
  · rw [if_pos c]
    obtain ⟨c1, c2, c3⟩ := both_inv c
    rw [c] at HB ⊢
    have HI := h
    have HI' := h'
    obtain ⟨x, cap, rfl, h1, h2, h3⟩ := h
    obtain ⟨x', cap', rfl, h1', h2', h3'⟩ := h'
    rw [← c3] at HI' HB ⊢
    exact join_ok rfl c3.symm HI HI' (by have := (code_ok c1).1; omega) (code_ok c1).2 (code_ok c2).2 HB
  · rw [if_neg c]
    have e1 := ne_true c
    generalize both a b = k at *
    clear c h h'
    go_enter Try.func30, Try.ntmps30
    go_wp2_with (go_at_call 53; ((with_reducible refine (HB.out).mono ?_); rintro e w' ⟨rfl, rfl⟩))
    go_ret2
    exact ⟨_, rfl, Below.refl _ _, ints_nil _⟩
theorem glue_any {w : World} {v u : Value} {a b : List Int} (h : IntsAt w .i64 v a) (h' : IntsAt w .i64 u b) (hl : a.length = b.length) (hs : ¬ 65536 < a.length) : Calls Try.prog 59 #[v, u] w (ListPost (glue a.length a b) w) := by
  have HI := h
  have HI' := h'
  obtain ⟨x, cap, rfl, h1, h2, h3⟩ := h
  obtain ⟨x', cap', rfl, h1', h2', h3'⟩ := h'
  rw [← hl] at HI' ⊢
  exact glue_ok rfl hl.symm HI HI' (by omega)
theorem rjoin_any {w : World} {v u : Value} {a b : List Int} (h : IntsAt w .i64 v a) (h' : IntsAt w .i64 u b) : Calls Try.prog 31 #[v, u] w (PairPost (joinList a b) (both a b) w) := by
  have HB := Lib.hid (rboth_any h h')
  unfold joinList
  by_cases c : both a b = 0
  · rw [if_pos c]
    obtain ⟨c1, c2, c3⟩ := both_inv c
    have HC := Lib.hid (glue_any h h' c3 (code_ok c1).1)
    rw [c] at HB ⊢
    clear c c1 c2 c3 h h'
    go_enter Try.func31, Try.ntmps31
    go_wp2_with (first | (go_at_call 55; ((with_reducible refine (HB.out).mono ?_); rintro e w' ⟨rfl, rfl⟩)) | (go_at_call 59; ((with_reducible refine (HC.out).mono ?_); rintro e w1 ⟨v1, rfl, hb, hi⟩; have HB1 := Lib.hid hb; have HI := Lib.hid hi; clear hb hi)))
    go_ret2
    exact ⟨_, rfl, HB1.out, HI.out⟩
  · rw [if_neg c]
    have e1 := ne_true c
    generalize both a b = k at *
    clear c h h'
    go_enter Try.func31, Try.ntmps31
    go_wp2_with (go_at_call 55; ((with_reducible refine (HB.out).mono ?_); rintro e w' ⟨rfl, rfl⟩))
    go_ret2
    exact ⟨_, rfl, Below.refl _ _, ints_nil _⟩
end Go.Proofs.Ytlacohjecehpiaa.Part
