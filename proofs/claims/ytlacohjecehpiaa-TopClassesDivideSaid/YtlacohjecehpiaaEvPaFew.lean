/-
  Whether lists are few, or good: over a list of lists.
-/
import Derived.Test.YtlacohjecehpiaaEvPaCalls
import Derived.Test.YtlacohjecehpiaaEvPaTopSeat
namespace Go.Proofs.Ytlacohjecehpiaa.Part
open Go Go.RowKit Go.Part Go.Law Go.Maps

theorem short_any {w : World} {v : Value} {zs : List Int} (h : IntsAt w .i64 v zs) (b : Bool) (hb : b = decide (zs.length ≤ 30)) : Calls Try.prog 46 #[v] w fun e w' => e = .returned (.bool b) ∧ w = w' := by
  obtain ⟨x, cap, rfl, h1, h2, h3⟩ := h
  clear h3 h1 h2
  cases b with
  | true =>
    have h : zs.length ≤ 30 := by simpa using hb.symm
    clear hb
    go_enter Try.func46, Try.ntmps46
    go_wp2
    go_ret
    refine ⟨ret_bool ?_, rfl⟩
    simp; omega
  | false =>
    have h : ¬ zs.length ≤ 30 := by simpa using hb.symm
    clear hb
    go_enter Try.func46, Try.ntmps46
    go_wp2
    go_ret
    refine ⟨ret_bool ?_, rfl⟩
    simp; omega
/-- Neither short, nor too long for the package by a few. -/
def bad (zs : List Int) : Bool := (!decide (zs.length ≤ 30) && decide (zs.length ≤ 65536)) || decide (65538 < zs.length)
theorem bad_any {w : World} {v : Value} {zs : List Int} (h : IntsAt w .i64 v zs) : Calls Try.prog 45 #[v] w fun e w' => e = .returned (.bool (bad zs)) ∧ w = w' := by
  have HS := Lib.hid (short_any h _ rfl)
  obtain ⟨x, cap, rfl, h1, h2, h3⟩ := h
  clear h3 h1 h2
  by_cases a : zs.length ≤ 30
  · have e1 : decide (zs.length ≤ 30) = true := by simpa using a
    have e0 : bad zs = false := by unfold bad; simp; omega
    have a1 : ¬ 65538 < zs.length := by omega
    rw [e1] at HS
    rw [e0]
    clear e0 e1
    go_enter Try.func45, Try.ntmps45
    go_wp2_with (go_at_call 46; ((with_reducible refine (HS.out).mono ?_); rintro e w' ⟨rfl, rfl⟩))
    go_ret
    refine ⟨ret_bool ?_, rfl⟩
    simp; omega
  · have e1 : decide (zs.length ≤ 30) = false := by simpa using a
    rw [e1] at HS
    clear e1
    by_cases a1 : zs.length ≤ 65536
    · have e0 : bad zs = true := by unfold bad; simp; omega
      rw [e0]
      clear e0
      have e2 : decide (zs.length ≤ 65536) = true := by simpa using a1
      have e3 : decide ((zs.length : Int) ≤ 65536) = true := by simp; omega
      go_enter Try.func45, Try.ntmps45
      go_wp2_with (go_at_call 46; ((with_reducible refine (HS.out).mono ?_); rintro e w' ⟨rfl, rfl⟩))
      go_ret
      exact ⟨ret_bool (by first | rfl | simp; done | (simp; omega)), rfl⟩
    · have e2 : decide (zs.length ≤ 65536) = false := by simpa using a1
      have e3 : decide ((zs.length : Int) ≤ 65536) = false := by simp; omega
      have e0 : bad zs = decide (65538 < zs.length) := by unfold bad; rw [e2]; simp
      rw [e0]
      clear e0 
      go_enter Try.func45, Try.ntmps45
      go_wp2_with (go_at_call 46; ((with_reducible refine (HS.out).mono ?_); rintro e w' ⟨rfl, rfl⟩))
      go_ret
      refine ⟨ret_bool ?_, rfl⟩
      rw [Bool.eq_iff_iff]; simp; omega
/-- The first place where p holds, counted from k. -/
def ix (p : List Int → Bool) : List (List Int) → Nat → Int
  | [], _ => -1
  | x :: r, k => if p x then k else ix p r (k + 1)
theorem ix_ge (p : List Int → Bool) : ∀ (L : List (List Int)) (k : Nat), decide (0 ≤ ix p L k) = L.any p
  | [], k => rfl
  | x :: r, k => by
    unfold ix
    by_cases h : p x = true
    · rw [if_pos h, List.any_cons, h]; simp
    · rw [if_neg h, ix_ge p r (k + 1), List.any_cons, Bool.eq_false_iff.2 h]; simp
theorem ix_ge' (p : List Int → Bool) (L : List (List Int)) (k : Nat) (b : Bool) (h : L.any p = b) : decide (0 ≤ ix p L k) = b := by rw [ix_ge]; exact h
theorem ix_range (p : List Int → Bool) : ∀ (L : List (List Int)) (k : Nat), -1 ≤ ix p L k
  | [], k => by simp [ix]
  | x :: r, k => by
    unfold ix
    split
    · omega
    · exact ix_range p r (k + 1)
/-- A list of lists in a block: its members read. -/
def Rows (w : World) (B n : Nat) (L : List (List Int)) (vs : Nat → Value) : Prop := L.length = n ∧ ∀ j, j < n → w.cell? ⟨B, 0 + j, none⟩ = some (vs j) ∧ IntsAt w .i64 (vs j) (L.getD j [])


set_option maxHeartbeats 1000000 in
theorem index45 (p : List Int → Bool) (B n cap : Nat) (L : List (List Int)) (vs : Nat → Value) (w : World) (h : Rows w B n L vs) (hn : n ≤ 65538) (hf : ∀ j, j < n → Calls Try.prog 45 #[vs j] w fun e w' => e = .returned (.bool (p (L.getD j []))) ∧ w = w') :
    Calls Try.prog 71 #[.slice (some ⟨B, 0, none⟩) n cap, .func (.func 45) #[] #[]] w fun e w' => e = .returned (.int .i64 (ix p L 0)) ∧ w = w' := by
  have HR := Lib.hid h
  have HF := Lib.hid hf
  clear h hf
  go_enter Try.func71, Try.ntmps71
  go_wp2
  go_loop [8] (fun i => ∃ k : Nat, k ≤ n ∧ i = .int .i64 k ∧ ix p L 0 = ix p (L.drop k) k) (fun i => n - (intOf i).toNat)
  case atStart => exact ⟨0, Nat.zero_le _, rfl, rfl⟩
  case round =>
    obtain ⟨k, hk, rfl, he⟩ := hrel
    have HE := Lib.hid he
    clear he
    by_cases hlt : k < n
    · have hcell := (HR.out.2 k hlt).1
      rw [Nat.zero_add] at hcell
      have hl := HR.out.1
      have HD : Hid (L.drop k = L.getD k [] :: L.drop (k + 1)) := Lib.hid (by rw [List.drop_eq_getElem_cons (by omega)]; simp [List.getD, List.getElem?_eq_getElem (show k < L.length by omega)])
      have HC := Lib.hid (HF.out k hlt)
      clear hl
      generalize hv : vs k = v at *
      clear hv
      cases hp : p (L.getD k [])
      · have HI : Hid (ix p L 0 = ix p (L.drop (k + 1)) (k + 1)) := Lib.hid (by rw [HE.out, HD.out, ix, if_neg (by rw [hp]; simp)])
        rw [hp] at HC
        clear hp
        go_wp2_with (go_at_call 45; ((with_reducible refine (HC.out).mono ?_); rintro e w' ⟨rfl, rfl⟩))
        go_round
        case rel => exact ⟨k + 1, by omega, by go_num, HI.out⟩
        case measure => simp [intOf]; omega
      · have HI : Hid (ix p L 0 = k) := Lib.hid (by rw [HE.out, HD.out, ix, if_pos hp])
        rw [hp] at HC
        clear hp
        go_wp2_with (go_at_call 45; ((with_reducible refine (HC.out).mono ?_); rintro e w' ⟨rfl, rfl⟩))
        go_ret
        exact ⟨ret_int HI.out.symm, rfl⟩
    · have HI : Hid (ix p L 0 = -1) := Lib.hid (by rw [HE.out, List.drop_eq_nil_of_le (by have := HR.out.1; omega), ix])
      go_wp2
      go_ret
      exact ⟨ret_int HI.out.symm, rfl⟩
theorem has45 (p : List Int → Bool) (B n cap : Nat) (L : List (List Int)) (vs : Nat → Value) (w : World) (h : Rows w B n L vs) (hn : n ≤ 65538) (hf : ∀ j, j < n → Calls Try.prog 45 #[vs j] w fun e w' => e = .returned (.bool (p (L.getD j []))) ∧ w = w') :
    Calls Try.prog 44 #[.slice (some ⟨B, 0, none⟩) n cap, .func (.func 45) #[] #[]] w fun e w' => e = .returned (.bool (L.any p)) ∧ w = w' := by
  have HI := Lib.hid (index45 p B n cap L vs w h hn hf)
  have HG := Lib.hid (ix_ge p L 0)
  generalize ix p L 0 = z at *
  clear h hf
  go_enter Try.func44, Try.ntmps44
  go_wp2_with (go_at_call 71; ((with_reducible refine (HI.out).mono ?_); rintro e w' ⟨rfl, rfl⟩))
  go_ret
  exact ⟨ret_bool HG.out, rfl⟩

theorem few_any (B n cap : Nat) (L : List (List Int)) (vs : Nat → Value) (w : World) (h : Rows w B n L vs) (hn : n ≤ 65538) (b : Bool) (hb : L.any bad = !b) :
    Calls Try.prog 12 #[.slice (some ⟨B, 0, none⟩) n cap] w fun e w' => e = .returned (.bool b) ∧ w = w' := by
  have HH := Lib.hid (has45 bad B n cap L vs w h hn (fun j hj => bad_any (h.2 j hj).2))
  rw [hb] at HH
  clear h hb
  go_enter Try.func12, Try.ntmps12
  go_wp2_with (go_at_call 44; ((with_reducible refine (HH.out).mono ?_); rintro e w' ⟨rfl, rfl⟩))
  go_ret
  exact ⟨ret_bool (by simp), rfl⟩

end Go.Proofs.Ytlacohjecehpiaa.Part
