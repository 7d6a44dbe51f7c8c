/-
  All permutations: the program and the reference; equal lists of lists.
-/
import Derived.Test.YtpdlnijdcgcfbaaDoorEvPermFurther
import Derived.Test.YtpdlnijdcgcfbaaDoorEvPermOrd
namespace Go.Proofs.YtpdlnijdcgcfbaaDoor.Perm
open Go Go.RowKit Go.Perm Go.Law
open Go.Proofs.YtpdlnijdcgcfbaaDoor.Col (ret_int ret_bool ret_two)

/-- The lists behind k rounds. -/
def al (n : Nat) : Nat → List (List Int)
  | 0 => [[]]
  | k + 1 => ext n (al n k)
theorem al_small : ∀ n, n < 6 → ∀ k, k < 6 → k ≤ n → (al n k).length ≤ 120 ∧ (al n k).length ≠ 0 ∧ ∀ l ∈ al n k, l.length = k := by decide +kernel
theorem al_fur : ∀ n, n < 6 → al n n = fur n n [] := by decide +kernel

def ListsRet (L : List (List Int)) (c : Int) (W : World) (e : Ending) (w' : World) : Prop := ∃ v, e = .returned (.tuple #[v, .int .i64 c]) ∧ Below W.heap.size W w' ∧ Lists w' v L ∧ (L = [] → v = .slice none 0 0)
theorem extend_lists {w : World} {v : Value} {L : List (List Int)} (n : Nat) (h : Lists w v L) (hlen : L.length ≤ 200) (h0 : L.length ≠ 0) (hn : n ≤ 5) (h4 : ∀ l ∈ L, l.length ≤ 4) : Calls Tryd.prog 100 #[v, .int .i64 n] w (ListsPost w.heap.size (ext n L) w) := by
  obtain ⟨a, cap, vals, rfl, h1, h2, h3, hi⟩ := h
  rcases h3 with rfl | ⟨b, rfl, hlt, hc⟩
  · exact absurd rfl h0
  · refine extend_any b L.length cap vals L n rfl hlen hn w hlt hc hi fun j hj => h4 _ ?_
    rw [List.getD_eq_getElem?_getD, List.getElem?_eq_getElem hj]; exact List.getElem_mem hj
set_option maxHeartbeats 1000000 in
theorem all_any (n : Nat) (h1 : 1 ≤ n) (h5 : n ≤ 5) (w : World) : Calls Tryd.prog 55 #[.int .i64 n] w (ListsRet (al n n) 0 w) := by
  have HN : Hid (Lists (w.alloc (.cells #[.slice none 0 0] 27)) (.slice (some ⟨w.heap.size, 0, none⟩) 1 1) (al n 0)) := Lib.hid ⟨_, 1, [.slice none 0 0], rfl, Nat.le_refl _, by simp [maxLen], .inr ⟨w.heap.size, rfl, by simp, fun j hj => by
      have hj0 : j = 0 := by simp [al] at hj; omega
      subst hj0
      rw [World.cell?_alloc_at _ _ _ _ rfl]; rfl⟩, fun j hj => by
      have hj0 : j = 0 := by simp [al] at hj; omega
      subst hj0
      exact inner_nil _⟩
  go_enter Tryd.func55, Tryd.ntmps55
  go_wp2_with (go_at_call 98; refine (checkN_ok _ (by omega) (by omega) _).mono ?_; rintro e w' ⟨rfl, rfl⟩)
  go_loopw [5, 13] (fun v i wr => ∃ k : Nat, k ≤ n ∧ i = .int .i64 k ∧ Below w.heap.size w wr ∧ Lists wr v (al n k)) (fun _ i _ => n - (intOf i).toNat)
  case atStart => exact ⟨0, Nat.zero_le _, rfl, below_alloc _ _, HN.out⟩
  case round =>
    obtain ⟨k, hk, rfl, hb, hl⟩ := hrel
    have HL := Lib.hid hl
    have HB := Lib.hid hb
    clear hl hb
    by_cases hlt : k < n
    · have HS := Lib.hid (al_small n (by omega) k (by omega) hk)
      go_wp2_with fail
      refine (extend_lists n HL.out (by have := HS.out.1; omega) HS.out.2.1 h5 (fun l hl => by have := HS.out.2.2 l hl; omega)).mono ?_
      rintro e w2 ⟨v2, rfl, hb2, ho2⟩
      have HB2 := Lib.hid (HB.out.trans (hb2.mono HB.out.size))
      have HL2 := Lib.hid (own_lists ho2)
      clear hb2 ho2
      go_wp2
      exact ⟨⟨k + 1, by omega, by go_num, HB2.out, HL2.out⟩, by simp [intOf]; omega⟩
    · have hk' : k = n := by omega
      subst hk'
      go_wp2
      go_ret2
      exact ⟨_, rfl, HB.out, HL.out, fun h => absurd h (by have := (al_small k (by omega) k (by omega) (Nat.le_refl _)).2.1; intro h0; rw [h0] at this; exact this rfl)⟩
theorem rall_any (n : Nat) (h1 : 1 ≤ n) (h5 : n ≤ 5) (w : World) : Calls Tryd.prog 56 #[.int .i64 n] w (ListsRet (al n n) 0 w) := by
  have HE : Calls Tryd.prog 101 #[.int .i64 n] w (ListsPost w.heap.size (fur n n []) w) := by
    go_enter Tryd.func101, Tryd.ntmps101
    go_wp2_with fail
    refine (further_any n h5 n [] _ _ (by simp) (inner_nil _)).mono ?_
    rintro e w2 ⟨v2, rfl, hb2, ho2⟩
    have HB2 := Lib.hid hb2
    have HO2 := Lib.hid ho2
    clear hb2 ho2
    go_wp2
    go_ret
    exact ⟨_, rfl, HB2.out, HO2.out⟩
  have H := Lib.hid HE
  have HA := Lib.hid (al_fur n (by omega))
  clear HE
  go_enter Tryd.func56, Tryd.ntmps56
  go_wp2_with fail
  refine (H.out).mono ?_
  rintro e w2 ⟨v2, rfl, hb2, ho2⟩
  have HB2 := Lib.hid hb2
  have HO2 := Lib.hid (own_lists ho2)
  clear hb2 ho2
  go_wp2
  go_ret2
  exact ⟨_, rfl, HB2.out, by rw [HA.out]; exact HO2.out, fun h => absurd h (by have := (al_small n (by omega) n (by omega) (Nat.le_refl _)).2.1; intro h0; rw [h0] at this; exact this rfl)⟩
theorem all_bad (n : Int) (h : n < 1 ∨ 5 < n) (w : World) : Calls Tryd.prog 55 #[.int .i64 n] w (ListsRet [] 2 w) := by
  go_enter Tryd.func55, Tryd.ntmps55
  go_wp2_with (go_at_call 98; refine (checkN_bad _ h _).mono ?_; rintro e w' ⟨rfl, rfl⟩)
  go_ret2
  exact ⟨_, rfl, Below.refl _ _, lists_nil _, fun _ => rfl⟩
theorem rall_bad (n : Int) (h : n < 1 ∨ 5 < n) (w : World) : Calls Tryd.prog 56 #[.int .i64 n] w (ListsRet [] 2 w) := by
  rcases h with h | h
  · go_enter Tryd.func56, Tryd.ntmps56
    go_wp2
    go_ret2
    exact ⟨_, rfl, Below.refl _ _, lists_nil _, fun _ => rfl⟩
  · have h1 : ¬ n < 1 := by omega
    go_enter Tryd.func56, Tryd.ntmps56
    go_wp2
    go_ret2
    exact ⟨_, rfl, Below.refl _ _, lists_nil _, fun _ => rfl⟩

/-! Equal lists of lists. -/
theorem quiet_more {P : Program} {f : FuncId} {args : Array Value} {w : World} {a n : Nat} {v : Value}
    (h : Calls P f args (w.drewN (a + n)) fun e w' => e = .returned v ∧ ∃ m, w' = (w.drewN (a + n)).drewN m) :
    Calls P f args (w.drewN (a + n)) fun e w'' => e = .returned v ∧ ∃ m, w'' = w.drewN (a + m) :=
  h.mono fun _ _ ⟨he, m, hm⟩ => ⟨he, n + m, by rw [hm, World.drewN_drewN, Nat.add_assoc]⟩
theorem sameAll_nil (w : World) : Calls Tryd.prog 57 #[.slice none 0 0, .slice none 0 0] w (Quiet (.bool true) w) := by
  go_enter Tryd.func57, Tryd.ntmps57
  go_wp2
  go_loop [5] (fun i => i = .int .i64 0) (fun _ => 0)
  case atStart => exact rfl
  case round =>
    obtain rfl := hrel
    go_wp2
    go_ret
    exact ⟨rfl, 0, rfl⟩
set_option maxHeartbeats 1000000 in
theorem sameAll_some (b b1 len cap cap1 : Nat) (vals cells : List Value) (L : List (List Int)) (hL : L.length = len) (hlen : len ≤ 200) (w : World) (hc : ∀ j, j < len → w.cell? ⟨b, 0 + j, none⟩ = some (vals.getD j undef)) (hd : ∀ j, j < len → w.cell? ⟨b1, 0 + j, none⟩ = some (cells.getD j undef))
    (hi : ∀ j, j < len → Inner w (vals.getD j undef) (L.getD j [])) (hi1 : ∀ j, j < len → Inner w (cells.getD j undef) (L.getD j [])) :
    Calls Tryd.prog 57 #[.slice (some ⟨b, 0, none⟩) len cap, .slice (some ⟨b1, 0, none⟩) len cap1] w (Quiet (.bool true) w) := by
  have HC := Lib.hid hc
  have HD := Lib.hid hd
  have HI := Lib.hid hi
  have HI1 := Lib.hid hi1
  clear hc hd hi hi1 hL
  have hb : ((len : Int) != (len : Int)) = false := by simp
  go_enter Tryd.func57, Tryd.ntmps57
  go_wp2
  go_loopw [5] (fun i wr => ∃ k m : Nat, k ≤ len ∧ i = .int .i64 k ∧ wr = w.drewN m) (fun i _ => len - (intOf i).toNat)
  case atStart => exact ⟨0, 0, Nat.zero_le _, rfl, rfl⟩
  case round =>
    obtain ⟨k, m, hk, rfl, rfl⟩ := hrel
    by_cases hlt : k < len
    · have hcell := HC.out k hlt
      have hcell1 := HD.out k hlt
      rw [Nat.zero_add] at hcell hcell1
      have HX := Lib.hid (inner_ints (HI.out k hlt))
      have HY := Lib.hid (inner_ints (HI1.out k hlt))
      generalize vals.getD k undef = va at *
      generalize cells.getD k undef = vb at *
      generalize L.getD k [] = z at *
      obtain ⟨a0, c0, rfl, _⟩ := HX.out
      obtain ⟨a1, c1, rfl, _⟩ := HY.out
      generalize hzl : z.length = zl at *
      clear hzl
      go_wp2
      go_quiet ((go_at_call 95; exact quiet_more (same_yes (HX.out.drewN _) (HY.out.drewN _) rfl)))
      go_wp2
      exact ⟨⟨k + 1, m + nq, by omega, by go_num, rfl⟩, by simp [intOf]; omega⟩
    · go_wp2
      go_ret
      exact ⟨rfl, m, rfl⟩
theorem sameAll_lists {w : World} {v v' : Value} {L : List (List Int)} (hlen : L.length ≤ 200) (h : Lists w v L) (h' : Lists w v' L) (hn : L = [] → v = .slice none 0 0 ∧ v' = .slice none 0 0) : Calls Tryd.prog 57 #[v, v'] w (Quiet (.bool true) w) := by
  obtain ⟨a, cap, vals, rfl, _, _, h3, hi⟩ := h
  obtain ⟨a', cap', vals', rfl, _, _, h3', hi'⟩ := h'
  by_cases h0 : L = []
  · obtain ⟨e1, e2⟩ := hn h0
    rw [e1, e2]; exact sameAll_nil w
  · rcases h3 with hh | ⟨b, rfl, _, hc⟩
    · exact absurd hh h0
    · rcases h3' with hh | ⟨b', rfl, _, hc'⟩
      · exact absurd hh h0
      · exact sameAll_some b b' L.length cap cap' vals vals' L rfl hlen w hc hc' hi hi'
end Go.Proofs.YtpdlnijdcgcfbaaDoor.Perm
