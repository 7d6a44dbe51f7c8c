/-
  simplex.Of.
-/
import Derived.Test.YtjggeombkbianaaEvSxSort
import Derived.Test.YtjggeombkbianaaEvSxCheck
namespace Go.Proofs.Ytjggeombkbianaa.Sx
open Go Go.RowKit Go.Law Go.Sx

set_option maxRecDepth 100000 in
set_option maxHeartbeats 2000000 in
theorem sorted46_walk (Q : Nat → Nat → World → Prop) (R : Nat → Nat → Nat → World → Prop) (a : Option Addr) (n cap : Nat) (w : World)
    (H71 : Calls Try.prog 71 #[.func (.func 86) #[] #[.pointer (some ⟨w.heap.size, 0, none⟩)], .func (.func 52) #[] #[]] (w.alloc (.cells #[.slice a n cap] 22)) fun e w' => ∃ g cap', e = .returned (.slice (some ⟨g, 0, none⟩) n cap') ∧ Q g cap' w')
    (H73 : ∀ g cap' w', Q g cap' w' → Calls Try.prog 73 #[.slice (some ⟨g, 0, none⟩) n cap'] w' fun e w2 => ∃ m, e = .returned (.slice (some ⟨g, 0, none⟩) m cap') ∧ R g cap' m w2) :
    Calls Try.prog 46 #[.slice a n cap] w fun e w' => ∃ g cap' m, e = .returned (.slice (some ⟨g, 0, none⟩) m cap') ∧ R g cap' m w' := by
  have H71 := Lib.hid H71
  have H73 := Lib.hid H73
  have H72 := Lib.hid (values_call a n cap w)
  go_enter Try.func46, Try.ntmps46
  go_wp2_with fail
  refine (H72.out).mono ?_
  rintro e w3 ⟨he, hw⟩
  subst he hw
  go_wp2_with fail
  refine (H71.out).mono ?_
  rintro e w3 ⟨g, cap', he, hq⟩
  subst he
  have HS3 := Lib.hid (H73.out g cap' w3 hq)
  clear hq
  go_wp2_with fail
  refine (HS3.out).mono ?_
  rintro e w4 ⟨m, he, hp⟩
  subst he
  have HP := Lib.hid hp
  clear hp
  go_wp2
  go_ret
  exact ⟨g, cap', m, rfl, HP.out⟩
/-- What sorted gives. -/
def SrtPost (A : List V) (n : Nat) (w : World) (g cap m : Nat) (w' : World) : Prop := m = (ofTo A n).length ∧ VIn w' (some ⟨g, 0, none⟩) m cap g 0 (ofTo A n) ∧ Below w.heap.size w w'
theorem sorted_in (a : Option Addr) (n cap b off : Nat) (A : List V) (w : World) (h : VIn w a n cap b off A) (h0 : 0 < n) (hn : n ≤ 4096) :
    Calls Try.prog 46 #[.slice a n cap] w fun e w' => ∃ g cap' m, e = .returned (.slice (some ⟨g, 0, none⟩) m cap') ∧ SrtPost A n w g cap' m w' := by
  have hA := h.size
  have hB := below_alloc w (.cells #[.slice a n cap] 22)
  have h1 := h.below hB
  have hst := sorted71_in w.heap.size b off n cap a h1.head A hA h0 hn (w.alloc (.cells #[.slice a n cap] 22)) (by simp) h1.old (by rw [World.cell?_alloc_at _ _ _ _ rfl]; rfl) h1.cells
  refine sorted46_walk (fun g cap' w' => (w.alloc (.cells #[.slice a n cap] 22)).heap.size ≤ g ∧ Sort.HoldsK encV 2 w' g 0 (mrg A) ∧ A.length ≤ cap' ∧ cap' ≤ maxLen ∧ g < w'.heap.size ∧ Below (w.alloc (.cells #[.slice a n cap] 22)).heap.size (w.alloc (.cells #[.slice a n cap] 22)) w') (SrtPost A n w) a n cap w ?_ ?_
  · refine hst.mono ?_
    rintro e w' ⟨g, cap', he, rest⟩
    exact ⟨g, cap', by rw [he, hA], rest⟩
  · rintro g cap' w3 ⟨hg, hk, hc, hm, hgl, hb⟩
    have hc0 := compact_in g 0 cap' (mrg A) w3 hk (by rw [mrg_size]; omega) (by rw [mrg_size]; exact hc)
    rw [mrg_compact, mrg_size, hA] at hc0
    refine hc0.mono ?_
    rintro e w4 ⟨he, hv, hb4⟩
    have hl : (ofTo A n).length ≤ n := by
      have h2 : ∀ k, (ofTo A k).length ≤ k := fun k => by
        induction k with
        | zero => simp [ofTo]
        | succ k ih => have := (put_length (ofTo A k) (vx A k)).2; show (put (ofTo A k) (vx A k)).length ≤ _; omega
      exact h2 n
    have hsz : (w.alloc (.cells #[.slice a n cap] 22)).heap.size = w.heap.size + 1 := by simp
    exact ⟨_, he, rfl, ⟨rfl, fun _ => rfl, fun _ => Nat.lt_of_lt_of_le hgl hb4.size, hv, by omega, hm⟩, hB.trans ((hb.mono (by omega)).trans (hb4.mono (by omega)))⟩
theorem limited_in (p : Option Addr) (m cap : Nat) (w : World) :
    Calls Try.prog 45 #[.slice p m cap] w fun e w' => e = .returned (.tuple (if 8 < m then #[.slice none 0 0, .int .i64 5] else #[.slice p m cap, .int .i64 0])) ∧ w = w' := by
  by_cases h : 8 < m
  · rw [if_pos h]
    have hi : (m : Int) > 8 := by omega
    go_enter Try.func45, Try.ntmps45
    go_wp2
    go_ret2
    exact ⟨rfl, rfl⟩
  · rw [if_neg h]
    have hi : ¬ (m : Int) > 8 := by omega
    go_enter Try.func45, Try.ntmps45
    go_wp2
    go_ret2
    exact ⟨rfl, rfl⟩
set_option maxRecDepth 100000 in
set_option maxHeartbeats 4000000 in
theorem of_in (a : Option Addr) (n cap b off : Nat) (A : List V) (w : World) (h : VIn w a n cap b off A) (hn : n ≤ 4096) : Calls Try.prog 12 #[.slice a n cap] w (OfPost A n w) := by
  by_cases h0 : n = 0
  · subst h0
    clear h
    go_enter Try.func12, Try.ntmps12
    go_wp2
    go_ret2
    exact ⟨_, rfl, Below.refl _ _, v_nil _⟩
  have n0 : ((n : Int) == 0) = false := by simpa using h0
  have HR : Hid (ofR A n = if allOk A n = false then ([], 2) else if 8 < (ofTo A n).length then ([], 5) else (ofTo A n, 0)) := Lib.hid (by unfold ofR; rw [if_neg h0])
  have HA := Lib.hid (fun (w1 : World) (hb : Below w.heap.size w w1) => (h.below hb).cells)
  have HSort := Lib.hid (fun (w1 : World) (hb : Below w.heap.size w w1) => sorted_in a n cap b off A w1 (h.below hb) (by omega) hn)
  have H1 := Lib.hid h.head
  clear h h0
  have TW := Lib.hid (Below.refl w.heap.size w)
  have HK := Lib.hid checkV_any
  have HBad := Lib.hid (fun k (hk : k < n) (e : okV (vx A k) = false) => allOk_bad hk e)
  have HGood := Lib.hid (fun (e : ∀ j, j < n → okV (vx A j) = true) => allOk_good e)
  have HLim := Lib.hid limited_in
  go_enter Try.func12, Try.ntmps12
  go_wp2
  go_loopw [12] (fun i wr => ∃ k : Nat, k ≤ n ∧ i = .int .i64 k ∧ Below w.heap.size w wr ∧ ∀ j, j < k → okV (vx A j) = true) (fun i _ => n - (intOf i).toNat)
  case atStart => exact ⟨0, Nat.zero_le _, rfl, TW.out, fun j hj => absurd hj (by omega)⟩
  case round =>
    obtain ⟨k, hk, rfl, hB, hC⟩ := hrel
    have T := Lib.hid hB
    have HC := Lib.hid hC
    clear hB hC
    by_cases hlt : k < n
    · obtain rfl := H1.out (by omega)
      obtain ⟨c0, c1⟩ := HA.out wr T.out k hlt
      have HKK := Lib.hid (HK.out (vx A k))
      have TA := Lib.hid (fun (o : Obj) => T.out.alloc T.out.size o)
      cases hok : okV (vx A k) with
      | false =>
        rw [hok, if_pos rfl] at HKK
        have hbad := HBad.out k hlt hok
        rw [hbad, if_pos rfl] at HR
        clear hok hbad
        generalize vx A k = p at *
        obtain ⟨x, y⟩ := p
        simp only at c0 c1 HKK
        have hrow := row2_new wr x y
        obtain ⟨r0, r1⟩ := hrow
        go_wp2_with (go_at_call 44; refine (HKK.out _).mono ?_; rintro e w1 ⟨rfl, hb⟩; have T1 := Lib.hid ((TA.out _).trans (bel_le hb (TA.out _).size)); clear hb)
        go_ret2
        unfold OfPost
        rw [HR.out]
        exact ⟨_, rfl, T1.out, v_nil _⟩
      | true =>
        rw [hok, if_neg (by simp)] at HKK
        have HC1 := Lib.hid (fun j (hj : j < k + 1) => (show okV (vx A j) = true by
          by_cases e : j = k
          · rw [e]; exact hok
          · exact HC.out j (by omega)))
        clear hok
        generalize vx A k = p at HKK c0 c1
        obtain ⟨x, y⟩ := p
        simp only at c0 c1 HKK
        have hrow := row2_new wr x y
        obtain ⟨r0, r1⟩ := hrow
        go_wp2_with (go_at_call 44; refine (HKK.out _).mono ?_; rintro e w1 ⟨rfl, hb⟩; have T1 := Lib.hid ((TA.out _).trans (bel_le hb (TA.out _).size)); clear hb)
        exact ⟨⟨k + 1, by omega, by go_num, T1.out, HC1.out⟩, by simp [intOf]; omega⟩
    · obtain rfl : k = n := by omega
      have hgood := HGood.out HC.out
      rw [hgood, if_neg (by simp)] at HR
      clear hgood
      have HS := Lib.hid (HSort.out wr T.out)
      go_wp2_with fail
      refine (HS.out).mono ?_
      rintro e w3 ⟨g, cap', m, he, hm, hv, hb⟩
      subst he
      have T3 := Lib.hid (T.out.trans (bel_le hb T.out.size))
      have HV := Lib.hid hv
      have HM := Lib.hid hm
      clear hb hv hm
      have HL := Lib.hid (HLim.out (some ⟨g, 0, none⟩) m cap' w3)
      by_cases h8 : 8 < m
      · rw [if_pos h8] at HL
        rw [if_pos (by rw [← HM.out]; exact h8)] at HR
        go_wp2_with (go_at_call 45; refine (HL.out).mono ?_; rintro e w1 ⟨rfl, rfl⟩)
        go_ret2
        unfold OfPost
        rw [HR.out]
        exact ⟨_, rfl, T3.out, v_nil _⟩
      · rw [if_neg h8] at HL
        rw [if_neg (by rw [← HM.out]; exact h8)] at HR
        go_wp2_with (go_at_call 45; refine (HL.out).mono ?_; rintro e w1 ⟨rfl, rfl⟩)
        go_ret2
        unfold OfPost
        rw [HR.out]
        exact ⟨_, rfl, T3.out, _, _, _, _, _, rfl, HV.out⟩
end Go.Proofs.Ytjggeombkbianaa.Sx
