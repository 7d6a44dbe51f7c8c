/-
  caseSets: the classes of a partition as sets.
-/
import Derived.Test.YtlacohjecehpiaaProg
import Derived.Test.YtlacohjecehpiaaEvColMath
import Derived.Test.YtlacohjecehpiaaEvLaw
import Derived.WalkKit
import Derived.IntWalk
import Derived.Lib.Hide
import Derived.Laws.BitsAllLaws
import Derived.Laws.BitsLemmas
import Derived.Test.YtlacohjecehpiaaEvPaCovers
namespace Go.Proofs.Ytlacohjecehpiaa.Sets
open Go Go.RowKit Go.Col Go.Law

theorem ret_int {k : IntKind} {a b : Int} (h : a = b) : Ending.returned (.int k a) = .returned (.int k b) := by rw [h]
theorem ret_bool {a b : Bool} (h : a = b) : Ending.returned (.bool a) = .returned (.bool b) := by rw [h]
theorem checkN_ok (n : Int) (h1 : 1 ≤ n) (h2 : n ≤ 5) (w : World) : Calls Try.prog 67 #[.int .i64 n] w fun e w' => e = .returned (.int .i64 0) ∧ w = w' := by
  go_enter Try.func67, Try.ntmps67
  go_wp2
  go_ret
  exact ⟨rfl, rfl⟩
theorem checkN_bad (n : Int) (h : n < 1 ∨ 5 < n) (w : World) : Calls Try.prog 67 #[.int .i64 n] w fun e w' => e = .returned (.int .i64 1) ∧ w = w' := by
  rcases h with h | h
  · go_enter Try.func67, Try.ntmps67
    go_wp2
    go_ret
    exact ⟨rfl, rfl⟩
  · have h1 : ¬ n < 1 := by omega
    go_enter Try.func67, Try.ntmps67
    go_wp2
    go_ret
    exact ⟨rfl, rfl⟩
theorem ret_two {k l : IntKind} {a b c d : Int} (h : a = b) (h' : c = d) : Ending.returned (.tuple #[.int k a, .int l c]) = .returned (.tuple #[.int k b, .int l d]) := by rw [h, h']
theorem ofInt_i64 (a : Nat) (ha : a < 9223372036854775808) : (BitVec.ofInt 64 (a : Int)).toNat = a := by
  rw [BitVec.ofInt_natCast, BitVec.toNat_ofNat]; exact Nat.mod_eq_of_lt (by omega)
theorem i64_and_nat (a b : Nat) (ha : a < 9223372036854775808) (hb : b < 9223372036854775808) : bits .and .i64 (a : Int) (b : Int) = ((a &&& b : Nat) : Int) := by
  have hx : a &&& b < 2 ^ 63 := Nat.and_lt_two_pow _ (by omega)
  show IntKind.i64.wrap ((BitVec.ofInt 64 (a : Int) &&& BitVec.ofInt 64 (b : Int)).toNat : Int) = _
  rw [BitVec.toNat_and, ofInt_i64 a ha, ofInt_i64 b hb, IntKind.wrap_i64]
  omega
theorem i64_or_nat (a b : Nat) (ha : a < 9223372036854775808) (hb : b < 9223372036854775808) : bits .or .i64 (a : Int) (b : Int) = ((a ||| b : Nat) : Int) := by
  have hx : a ||| b < 2 ^ 63 := Nat.or_lt_two_pow (by omega) (by omega)
  show IntKind.i64.wrap ((BitVec.ofInt 64 (a : Int) ||| BitVec.ofInt 64 (b : Int)).toNat : Int) = _
  rw [BitVec.toNat_or, ofInt_i64 a ha, ofInt_i64 b hb, IntKind.wrap_i64]
  omega
theorem wrap_pow : ∀ p, p < 5 → wrap64 ((2 : Int) ^ p) = ((2 ^ p : Nat) : Int) := by decide +kernel
theorem pow_small (p : Nat) (hp : p < 5) : 2 ^ p < 9223372036854775808 := Nat.lt_of_lt_of_le (Nat.pow_lt_pow_right (by omega) hp) (by decide)
theorem bit_and (s p : Nat) (hs : s < 32) (hp : p < 5) : bits BinOp.and IntKind.i64 (s : Int) (wrap64 (2 ^ p)) = ((s &&& 2 ^ p : Nat) : Int) := by
  rw [wrap_pow p hp, i64_and_nat _ _ (by omega) (pow_small p hp)]
theorem bit_yes (s p : Nat) (hs : s < 32) (hp : p < 5) (h : (bits BinOp.and IntKind.i64 (s : Int) (wrap64 (2 ^ p)) != 0) = true) : s / 2 ^ p % 2 = 1 := by
  rw [bit_and s p hs hp] at h
  have := bits_and p hp s hs
  simp only [bne_iff_ne, ne_eq, Int.natCast_eq_zero] at h
  have h2 : ¬ s / 2 ^ p % 2 = 0 := fun h0 => h (this.2 h0)
  omega
theorem bit_no (s p : Nat) (hs : s < 32) (hp : p < 5) (h : (bits BinOp.and IntKind.i64 (s : Int) (wrap64 (2 ^ p)) != 0) = false) : s / 2 ^ p % 2 = 0 := by
  rw [bit_and s p hs hp] at h
  simp only [bne_eq_false_iff_eq, Int.natCast_eq_zero] at h
  exact (bits_and p hp s hs).1 h
theorem bit_or (s p : Nat) (hs : s < 32) (hp : p < 5) (h : s / 2 ^ p % 2 = 0) : bits BinOp.or IntKind.i64 (s : Int) (wrap64 (2 ^ p)) = ((s + 2 ^ p : Nat) : Int) := by
  rw [wrap_pow p hp, i64_or_nat _ _ (by omega) (pow_small p hp), bits_or p hp s hs h]
set_option maxHeartbeats 400000 in
theorem of_any (n : Nat) (hn1 : 1 ≤ n) (hn5 : n ≤ 5) (b off len cap : Nat) (zs : List Int) (hz : zs.length = len) (hlen : len ≤ 9223372036854775807) (w : World)
    (hc : ∀ j, j < zs.length → w.cell? ⟨b, off + j, none⟩ = some (.int .i64 (zs.getD j 0))) :
    Calls Try.prog 63 #[.int .i64 n, .slice (some ⟨b, off, none⟩) len cap] w fun e w' => e = .returned (.tuple #[.int .i64 (scan n zs 0).1, .int .i64 (scan n zs 0).2]) ∧ w = w' := by
  have HC := Lib.hid hc
  clear hc
  go_enter Try.func63, Try.ntmps63
  go_wp2_with (go_at_call 67; refine (checkN_ok _ (by omega) (by omega) _).mono ?_; rintro e w' ⟨rfl, rfl⟩)
  go_loop [7, 17] (fun t i => ∃ k s : Nat, k ≤ len ∧ s < 2 ^ n ∧ i = .int .i64 k ∧ t = .int .i64 s ∧ scan n zs 0 = scan n (zs.drop k) s) (fun _ i => len - (intOf i).toNat)
  case atStart => exact ⟨0, 0, Nat.zero_le _, Nat.pow_pos (by omega), rfl, rfl, rfl⟩
  case round =>
    obtain ⟨k, s, hk, hs, rfl, rfl, hsc⟩ := hrel
    have HS := Lib.hid hsc
    clear hsc
    by_cases hlt : k < len
    · have hcell := HC.out k (by omega)
      generalize hx : zs.getD k 0 = x at hcell
      have HX := Lib.hid hx
      clear hx
      have hdrop : zs.drop k = x :: zs.drop (k + 1) := by
        rw [List.drop_eq_getElem_cons (by omega), ← HX.out]; simp [List.getD, List.getElem?_eq_getElem (show k < zs.length by omega)]
      have HD := Lib.hid hdrop
      clear hdrop
      by_cases h0 : x < 0
      · go_wp2
        go_ret2
        exact ⟨ret_two (by rw [HS.out, HD.out, scan_range (.inl h0)]) (by rw [HS.out, HD.out, scan_range (.inl h0)]), rfl⟩
      · obtain ⟨p, rfl⟩ := Int.eq_ofNat_of_zero_le (show 0 ≤ x by omega)
        by_cases h1 : n ≤ p
        · go_wp2
          go_ret2
          exact ⟨ret_two (by rw [HS.out, HD.out, scan_range (.inr (by omega))]) (by rw [HS.out, HD.out, scan_range (.inr (by omega))]), rfl⟩
        · have hs32 : s < 32 := Nat.lt_of_lt_of_le hs (Nat.pow_le_pow_right (by omega) (show n ≤ 5 by omega))
          go_wp2
          · have hb : (bits BinOp.and IntKind.i64 (↑s) (wrap64 (2 ^ p)) != 0) = true := by assumption
            have hyes := bit_yes s p hs32 (by omega) hb
            go_ret2
            exact ⟨ret_two (by rw [HS.out, HD.out, scan_twice (by omega) (by omega) (by simpa using hyes)]) (by rw [HS.out, HD.out, scan_twice (by omega) (by omega) (by simpa using hyes)]), rfl⟩
          · have hb : (bits BinOp.and IntKind.i64 (↑s) (wrap64 (2 ^ p)) != 0) = false := by assumption
            have hno := bit_no s p hs32 (by omega) hb
            go_round
            case rel => exact ⟨k + 1, s + 2 ^ p, by omega, room n (by omega) p (by omega) s hs hno, by go_num, by rw [bit_or s p hs32 (by omega) hno], by rw [HS.out, HD.out, scan_more (by omega) (by omega) (by simpa using hno)]; simp⟩
            case measure => simp [intOf]; omega
    · go_wp2
      go_ret2
      have hk' : k = zs.length := by omega
      exact ⟨ret_two (by rw [HS.out, hk', List.drop_length]; rfl) (by rw [HS.out, hk', List.drop_length]; rfl), rfl⟩

theorem of_nil (n : Int) (h1 : 1 ≤ n) (h2 : n ≤ 5) (a : Option Addr) (cap : Nat) (w : World) : Calls Try.prog 63 #[.int .i64 n, .slice a 0 cap] w fun e w' => e = .returned (.tuple #[.int .i64 0, .int .i64 0]) ∧ w = w' := by
  go_enter Try.func63, Try.ntmps63
  go_wp2_with (go_at_call 67; refine (checkN_ok _ (by omega) (by omega) _).mono ?_; rintro e w' ⟨rfl, rfl⟩)
  go_loop [7, 17] (fun t i => i = .int .i64 0 ∧ t = .int .i64 0) (fun _ _ => 0)
  case atStart => exact ⟨rfl, rfl⟩
  case round =>
    obtain ⟨rfl, rfl⟩ := hrel
    go_wp2
    go_ret2
    exact ⟨rfl, rfl⟩
theorem of_bad (n : Int) (h : n < 1 ∨ 5 < n) (l : Value) (w : World) : Calls Try.prog 63 #[.int .i64 n, l] w fun e w' => e = .returned (.tuple #[.int .i64 0, .int .i64 1]) ∧ w = w' := by
  go_enter Try.func63, Try.ntmps63
  go_wp2_with (go_at_call 67; refine (checkN_bad _ h _).mono ?_; rintro e w' ⟨rfl, rfl⟩)
  go_ret2
  exact ⟨rfl, rfl⟩
theorem all_ok (n : Nat) (h1 : 1 ≤ n) (h5 : n ≤ 5) (w : World) : Calls Try.prog 41 #[.int .i64 n] w fun e w' => e = .returned (.tuple #[.int .i64 ((2 ^ n - 1 : Nat) : Int), .int .i64 0]) ∧ w = w' := by
  rcases (by omega : n = 1 ∨ n = 2 ∨ n = 3 ∨ n = 4 ∨ n = 5) with rfl | rfl | rfl | rfl | rfl
  all_goals
    go_enter Try.func41, Try.ntmps41
    go_wp2_with (go_at_call 67; refine (checkN_ok _ (by omega) (by omega) _).mono ?_; rintro e w' ⟨rfl, rfl⟩)
    go_ret2
    exact ⟨rfl, rfl⟩
/-- The set of the members of any list. -/
theorem of_ints (n : Nat) (hn1 : 1 ≤ n) (hn5 : n ≤ 5) {w : World} {v : Value} {zs : List Int} (h : IntsAt w .i64 v zs) :
    Calls Try.prog 63 #[.int .i64 n, v] w fun e w' => e = .returned (.tuple #[.int .i64 (scan n zs 0).1, .int .i64 (scan n zs 0).2]) ∧ w = w' := by
  obtain ⟨a, cap, rfl, h1, h2, h0⟩ := h
  rcases h0 with rfl | ⟨b, off, rfl, hlt, hc⟩
  · exact of_nil n (by omega) (by omega) a cap w
  · exact of_any n hn1 hn5 b off _ cap zs rfl (by have : maxLen = 9223372036854775807 := rfl; omega) w hc
end Go.Proofs.Ytlacohjecehpiaa.Sets
namespace Go.Proofs.Ytlacohjecehpiaa.Part
open Go Go.RowKit Go.Law Go.Part Go.Col
open Go.Proofs.Ytlacohjecehpiaa.Sets (of_ints)

/-- The set of the members of a list. -/
def mask (n : Nat) (c : List Int) : Int := (scan n c 0).1
def sets (n : Nat) (L : List (List Int)) (k : Nat) : List Int := (List.range k).map fun j => mask n (L.getD j [])
theorem sets_succ (n : Nat) (L : List (List Int)) (k : Nat) : sets n L (k + 1) = sets n L k ++ [mask n (L.getD k [])] := by simp [sets, List.range_succ]
def SetPost (n : Nat) (L : List (List Int)) (W : World) (e : Ending) (w' : World) : Prop := ∃ v b, e = .returned (.tuple #[v, .bool true]) ∧ Below W.heap.size W w' ∧ W.heap.size ≤ b ∧ w'.ownsRow b 3 1 v L.length ((sets n L L.length).map (Value.int .i64))
set_option maxRecDepth 100000 in
set_option maxHeartbeats 2000000 in
theorem caseSets_ok {n : Nat} (h1 : 1 ≤ n) (h5 : n ≤ 5) {L : List (List Int)} (hL : L.length ≤ 5) (hs : ∀ j, j < L.length → (scan n (L.getD j []) 0).2 = 0) {w : World} {v : Value}
    (HC : Hid (Calls Try.prog 14 #[v] w (ClassPost L 0 w))) : Calls Try.prog 40 #[.int .i64 n, v] w (SetPost n L w) := by
  have HS := Lib.hid hs
  clear hs
  go_enter Try.func40, Try.ntmps40
  go_wp2_with (go_at_call 14; refine (HC.out).mono ?_; rintro e w1 ⟨v1, rfl, hb1, a1, cap1, rfl, hl1, hj1⟩; have T1 := Lib.hid hb1; have HJ := Lib.hid hj1; clear hb1 hj1)
  obtain ⟨i0, hi, hz0, hz1, hz2⟩ := info_parts info3
  have hT := T1.out.size
  have HN : Hid (w1.ownsRow w1.heap.size 3 1 (.slice none 0 0) 0 ((sets n L 0).map (Value.int .i64))) := Lib.hid ⟨rfl, .inl ⟨rfl, rfl⟩⟩
  go_loopw [8, 22] (fun o i wr => ∃ k : Nat, k ≤ L.length ∧ i = .int .i64 k ∧ Below w1.heap.size w1 wr ∧ wr.ownsRow w1.heap.size 3 1 o k ((sets n L k).map (Value.int .i64))) (fun _ i _ => L.length - (intOf i).toNat)
  case atStart => exact ⟨0, Nat.zero_le _, rfl, Below.refl _ _, HN.out⟩
  case round =>
    obtain ⟨k, hk, rfl, hbl, hown⟩ := hrel
    have HB := Lib.hid hbl
    have HO := Lib.hid hown
    have hsz := hbl.size
    clear hbl hown
    by_cases hlt : k < L.length
    · obtain ⟨p, u, hp, hix, hc, hiu⟩ := HJ.out k hlt
      have hc2 := (HB.out.cell hp).trans hc
      have HI := Lib.hid (ints_below hiu HB.out)
      have OF := Lib.hid (fun (W : World) (h : IntsAt W .i64 u (L.getD k [])) => (by have := of_ints n h1 h5 h; rw [HS.out k hlt] at this; exact this : Calls Try.prog 63 #[.int .i64 n, u] W fun e w' => e = .returned (.tuple #[.int .i64 (mask n (L.getD k [])), .int .i64 0]) ∧ W = w'))
      have HNS := Lib.hid (sets_succ n L k)
      generalize mask n (L.getD k []) = mk at *
      clear hiu hc
      go_wp2_with (first
        | (go_at_call 63; refine (OF.out _ HI.out).mono ?_; rintro e w2 ⟨rfl, rfl⟩)
        | (at_builtin; refine wpList_append_own _ rfl _ _ 22 rfl w1.heap.size 3 i0 (.int .i64 0) 1 8 Try.underlying22 hi hz0 hz1 hz2 rfl (by decide) _ _ _ rfl (HO.out.alloc _) ⟨wr.heap.size, 0, none⟩ 1 1 [.int .i64 mk] rfl rfl (cell_one_new _ _ _) (fun x hx => by simp at hx; subst hx; rfl) (by unfold maxLen; omega) (by omega) (by simp; omega) ?_; intro v' w2 hown' hgrow _; have HO1 := Lib.hid hown'; have HG1 := Lib.hid hgrow; clear hown' hgrow))
      go_roundw
      case rel => exact ⟨k + 1, by omega, by go_num, (HB.out.alloc (by omega) _).grown HG1.out (by simp; omega) (own_block HO.out), by rw [HNS.out, List.map_append]; exact HO1.out⟩
      case measure => simp [intOf]; omega
    · have hk' : k = L.length := by omega
      subst hk'
      go_wp2
      go_ret2
      exact ⟨_, _, rfl, T1.out.trans (bel_le HB.out hT), hT, HO.out⟩
end Go.Proofs.Ytlacohjecehpiaa.Part
