/-
  Compositions of permutations.
-/
import Derived.Test.YtlineonmpbdkgaaDoorEvRoPermRef
import Derived.Test.YtlineonmpbdkgaaDoorEvRoSeat
import Derived.Test.YtlineonmpbdkgaaDoorEvPermMath3
import Derived.Laws.AppendOwn
namespace Go.Proofs.YtlineonmpbdkgaaDoor.Perm
open Go Go.RowKit Go.Perm Go.Law
open Go.Proofs.YtlineonmpbdkgaaDoor.Col (ret_int ret_bool ret_two bit_yes bit_no i64_or_nat i64_and_nat wrap_pow pow_small)

theorem or_any (s p : Nat) (hs : s < 32) (hp : p < 5) : bits BinOp.or IntKind.i64 (s : Int) (wrap64 (2 ^ p)) = ((s ||| 2 ^ p : Nat) : Int) := by
  rw [wrap_pow p hp, i64_or_nat _ _ (by omega) (pow_small p hp)]
theorem lt32 {a n : Nat} (h : a < 2 ^ n) (hn : n ≤ 5) : a < 32 := Nat.lt_of_lt_of_le h (Nat.pow_le_pow_right (by omega) hn)

set_option maxHeartbeats 800000 in
theorem set_any (b off len cap : Nat) (zs : List Int) (S : Nat) (hz : zs.length = len) (hok : check zs = 0) (hcap : len ≤ cap) (hS : S < 2 ^ len) (w : World) (hc : At w b off zs) :
    Calls Tryd.prog 32 #[.slice (some ⟨b, off, none⟩) len cap, .int .i64 S] w fun e w' => e = .returned (.tuple #[.int .i64 (img S zs 0 0), .int .i64 0]) ∧ w = w' := by
  obtain ⟨h1, h5, hr, _⟩ := check_ok hok
  rw [hz] at h1 h5 hr
  have HR := Lib.hid hr
  clear hr
  have HC := Lib.hid hc
  clear hc
  have HO := Lib.hid hok
  clear hok
  have hS32 : S < 32 := lt32 hS h5
  have HZ := Lib.hid hz
  clear hz
  have hp1 : (S : Int) < 2 ^ len := by exact_mod_cast hS
  have hp2 : (2 : Int) ^ len ≤ 32 := by have := Nat.pow_le_pow_right (n := 2) (by omega) h5; exact_mod_cast this
  have hp0 : 0 ≤ (2 : Int) ^ len := by omega
  go_enter Tryd.func32, Tryd.ntmps32
  go_wp2_with (go_at_call 58; refine (check_any _ _ _ _ zs HZ.out (by omega) (by omega) hcap _ HC.out).mono ?_; rintro e w' ⟨rfl, rfl⟩; rw [HO.out])
  go_loop [7, 26] (fun t i => ∃ k o : Nat, k ≤ len ∧ o < 2 ^ len ∧ i = .int .i64 k ∧ t = .int .i64 o ∧ img S zs 0 0 = img S (zs.drop k) k o) (fun _ i => len - (intOf i).toNat)
  case atStart => exact ⟨0, 0, Nat.zero_le _, Nat.pow_pos (by omega), rfl, rfl, rfl⟩
  case round =>
    obtain ⟨k, o, hk, ho, rfl, rfl, hsc⟩ := hrel
    have HS := Lib.hid hsc
    clear hsc
    have hz := HZ.out
    by_cases hlt : k < len
    · have hcell := HC.out k (by omega)
      have HD := Lib.hid (drop_cons (l := zs) (k := k) (by omega))
      have hx := HR.out (zs.getD k 0) (getD_mem (by omega))
      generalize zs.getD k 0 = x at *
      obtain ⟨hx0, hx1⟩ := hx
      obtain ⟨q, rfl⟩ := Int.eq_ofNat_of_zero_le hx0
      have ho32 : o < 32 := lt32 ho h5
      clear hz
      go_wp2
      · have hb : (bits BinOp.and IntKind.i64 (↑S) (wrap64 (2 ^ k)) != 0) = true := by assumption
        have hyes := bit_yes S k hS32 (by omega) hb
        go_round
        case rel => exact ⟨k + 1, o ||| 2 ^ q, by omega, or_lt o q len ho (by omega), by go_num, by rw [or_any o q ho32 (by omega)], by rw [HS.out, HD.out, img_yes hyes]; simp⟩
        case measure => simp [intOf]; omega
      · have hb : (bits BinOp.and IntKind.i64 (↑S) (wrap64 (2 ^ k)) != 0) = false := by assumption
        have hno := bit_no S k hS32 (by omega) hb
        go_round
        case rel => exact ⟨k + 1, o, by omega, ho, by go_num, rfl, by rw [HS.out, HD.out, img_no hno]⟩
        case measure => simp [intOf]; omega
    · clear hz
      go_wp2
      go_ret2
      have hz := HZ.out
      have hk' : k = zs.length := by omega
      exact ⟨ret_two (by rw [HS.out, hk', List.drop_length]; rfl) rfl, rfl⟩

theorem shr_bit (S k : Nat) (hS : S < 32) : bits BinOp.and IntKind.i64 ((S : Int) / 2 ^ k) 1 = ((S / 2 ^ k % 2 : Nat) : Int) := by
  have h : (S : Int) / 2 ^ k = ((S / 2 ^ k : Nat) : Int) := by push_cast; rfl
  have hd : S / 2 ^ k ≤ S := Nat.div_le_self _ _
  rw [h, show (1 : Int) = ((1 : Nat) : Int) from rfl, i64_and_nat _ _ (by omega) (by omega), Nat.and_one_is_mod]
set_option maxHeartbeats 800000 in
theorem image_any (b off len cap : Nat) (zs : List Int) (S : Nat) (hz : zs.length = len) (hok : check zs = 0) (hcap : len ≤ cap) (hS : S < 2 ^ len) (w : World) (hc : At w b off zs) :
    Calls Tryd.prog 70 #[.slice (some ⟨b, off, none⟩) len cap, .int .i64 S] w fun e w' => e = .returned (.int .i64 (img S zs 0 0)) ∧ w = w' := by
  obtain ⟨h1, h5, hr, _⟩ := check_ok hok
  rw [hz] at h1 h5 hr
  have HR := Lib.hid hr
  clear hr
  have HC := Lib.hid hc
  clear hc
  have HO := Lib.hid hok
  clear hok
  have hS32 : S < 32 := lt32 hS h5
  have HZ := Lib.hid hz
  clear hz
  go_enter Tryd.func70, Tryd.ntmps70
  go_wp2
  go_loop [5, 6] (fun t i => ∃ k o : Nat, k ≤ len ∧ o < 2 ^ len ∧ i = .int .i64 k ∧ t = .int .i64 o ∧ img S zs 0 0 = img S (zs.drop k) k o) (fun _ i => len - (intOf i).toNat)
  case atStart => exact ⟨0, 0, Nat.zero_le _, Nat.pow_pos (by omega), rfl, rfl, rfl⟩
  case round =>
    obtain ⟨k, o, hk, ho, rfl, rfl, hsc⟩ := hrel
    have HS := Lib.hid hsc
    clear hsc
    have hz := HZ.out
    by_cases hlt : k < len
    · have hcell := HC.out k (by omega)
      have HD := Lib.hid (drop_cons (l := zs) (k := k) (by omega))
      have hx := HR.out (zs.getD k 0) (getD_mem (by omega))
      generalize zs.getD k 0 = x at *
      obtain ⟨hx0, hx1⟩ := hx
      obtain ⟨q, rfl⟩ := Int.eq_ofNat_of_zero_le hx0
      have ho32 : o < 32 := lt32 ho h5
      clear hz
      go_wp2
      · have hb : (bits BinOp.and IntKind.i64 (↑S / 2 ^ k) 1 == 1) = true := by assumption
        rw [shr_bit S k hS32] at hb
        have hyes : S / 2 ^ k % 2 = 1 := by have := eq_of_beq hb; omega
        go_round
        case rel => exact ⟨k + 1, o ||| 2 ^ q, by omega, or_lt o q len ho (by omega), by go_num, by rw [or_any o q ho32 (by omega)], by rw [HS.out, HD.out, img_yes hyes]; simp⟩
        case measure => simp [intOf]; omega
      · have hb : (bits BinOp.and IntKind.i64 (↑S / 2 ^ k) 1 == 1) = false := by assumption
        rw [shr_bit S k hS32] at hb
        have hno : S / 2 ^ k % 2 = 0 := by
          have := beq_eq_false_iff_ne.1 hb
          omega
        go_round
        case rel => exact ⟨k + 1, o, by omega, ho, by go_num, rfl, by rw [HS.out, HD.out, img_no hno]⟩
        case measure => simp [intOf]; omega
    · clear hz
      go_wp2
      go_ret
      have hz := HZ.out
      have hk' : k = zs.length := by omega
      exact ⟨ret_int (by rw [HS.out, hk', List.drop_length]; rfl), rfl⟩

/-! A list that is no permutation, or a set that is none of these processes. -/
theorem set_err (v : Value) (c : Int) (hc0 : c ≠ 0) (S : Int) (w : World) (h : Calls Tryd.prog 58 #[v] w fun e w' => e = .returned (.int .i64 c) ∧ w = w') :
    Calls Tryd.prog 32 #[v, .int .i64 S] w fun e w' => e = .returned (.tuple #[.int .i64 0, .int .i64 c]) ∧ w = w' := by
  have HI := Lib.hid h
  clear h
  have hb : (c != 0) = true := by simpa using hc0
  go_enter Tryd.func32, Tryd.ntmps32
  go_wp2_with (go_at_call 58; refine (HI.out).mono ?_; rintro e w' ⟨rfl, rfl⟩)
  go_ret2
  exact ⟨rfl, rfl⟩
theorem set_range (a : Option Addr) (len cap : Nat) (h5 : len ≤ 5) (S : Int) (hS : S < 0 ∨ 2 ^ len ≤ S) (w : World) (h : Calls Tryd.prog 58 #[.slice a len cap] w fun e w' => e = .returned (.int .i64 0) ∧ w = w') :
    Calls Tryd.prog 32 #[.slice a len cap, .int .i64 S] w fun e w' => e = .returned (.tuple #[.int .i64 0, .int .i64 2]) ∧ w = w' := by
  have HI := Lib.hid h
  clear h
  have hp2 : (2 : Int) ^ len ≤ 32 := by have := Nat.pow_le_pow_right (n := 2) (by omega) h5; exact_mod_cast this
  have hp0 : 0 ≤ (2 : Int) ^ len := by have := Nat.zero_le (2 ^ len); exact_mod_cast this
  rcases hS with hS | hS
  · go_enter Tryd.func32, Tryd.ntmps32
    go_wp2_with (go_at_call 58; refine (HI.out).mono ?_; rintro e w' ⟨rfl, rfl⟩)
    go_ret2
    exact ⟨rfl, rfl⟩
  · have h0 : ¬ S < 0 := by omega
    go_enter Tryd.func32, Tryd.ntmps32
    go_wp2_with (go_at_call 58; refine (HI.out).mono ?_; rintro e w' ⟨rfl, rfl⟩)
    go_ret2
    exact ⟨rfl, rfl⟩
end Go.Proofs.YtlineonmpbdkgaaDoor.Perm
namespace Go.Proofs.YtlineonmpbdkgaaDoor.Perm
open Go Go.Ev Go.RowKit Go.Perm Go.Law
open Go.Proofs.YtlineonmpbdkgaaDoor.Col (ret_int ret_bool ret_two)
open Go.Proofs.YtlineonmpbdkgaaDoor.Ev

theorem block_lt {w : World} {b : Nat} {o : Obj} (h : w.heap[b]? = some o) : b < w.heap.size := by
  by_cases hb : b < w.heap.size
  · exact hb
  · rw [Array.getElem?_eq_none (by omega)] at h; cases h
theorem nil_ints (w : World) : IntsAt w .i64 (.slice none 0 0) [] := ⟨none, 0, rfl, Nat.le_refl _, by simp [maxLen], .inl rfl⟩
theorem _root_.Go.Law.IntsAt.below {w w' : World} {v : Value} {zs : List Int} (h : IntsAt w .i64 v zs) (hb : Below w.heap.size w w') : IntsAt w' .i64 v zs := by
  obtain ⟨a, cap, rfl, h1, h2, h0⟩ := h
  refine ⟨a, cap, rfl, h1, h2, h0.imp id ?_⟩
  rintro ⟨b, off, rfl, hlt, hc⟩
  exact ⟨b, off, rfl, Nat.lt_of_lt_of_le hlt hb.size, fun j hj => by rw [hb.cell hlt]; exact hc j hj⟩
theorem _root_.Go.Law.IntsAt.drewN {w : World} {v : Value} {zs : List Int} (h : IntsAt w .i64 v zs) (m : Nat) : IntsAt (w.drewN m) .i64 v zs := h.below (below_drewN (Below.refl _ _) m)

/-! The four calls, at whatever can be read. -/
theorem check_ints {w : World} {v : Value} {zs : List Int} (h : IntsAt w .i64 v zs) : Calls Tryd.prog 58 #[v] w fun e w' => e = .returned (.int .i64 (check zs)) ∧ w = w' := by
  obtain ⟨a, cap, rfl, h1, h2, h0⟩ := h
  by_cases hl : zs.length < 1 ∨ 5 < zs.length
  · rw [check_len hl]; exact check_bad _ _ _ hl _
  · rcases h0 with rfl | ⟨b, off, rfl, hlt, hc⟩
    · simp at hl
    · exact check_any b off _ cap zs rfl (by omega) (by omega) h1 w hc
theorem rcheck_ints {w : World} {v : Value} {zs : List Int} (h : IntsAt w .i64 v zs) : Calls Tryd.prog 27 #[v] w (Quiet (.int .i64 (check zs)) w) := by
  obtain ⟨a, cap, rfl, h1, h2, h0⟩ := h
  by_cases hl : zs.length < 1 ∨ 5 < zs.length
  · rw [check_len hl]; exact rcheck_bad _ _ _ hl _
  · rcases h0 with rfl | ⟨b, off, rfl, hlt, hc⟩
    · simp at hl
    · exact rcheck_any b off _ cap zs rfl (by omega) (by omega) h1 w hc

def setR (zs : List Int) (S : Int) : Int × Int := if check zs ≠ 0 then (0, check zs) else if S < 0 ∨ 2 ^ zs.length ≤ S then (0, 2) else (img S.toNat zs 0 0, 0)
def vecR (zs vs : List Int) : List Int × Int := if check zs ≠ 0 then ([], check zs) else if vs.length ≠ zs.length then ([], 15) else (mv zs vs zs.length, 0)
theorem nat_lt_pow {S n : Nat} (h : ¬ (2 : Int) ^ n ≤ (S : Int)) : S < 2 ^ n := by
  have : (S : Int) < ((2 ^ n : Nat) : Int) := by push_cast; omega
  exact_mod_cast this
theorem set_ints {w : World} {v : Value} {zs : List Int} (h : IntsAt w .i64 v zs) (S : Int) : Calls Tryd.prog 32 #[v, .int .i64 S] w fun e w' => e = .returned (.tuple #[.int .i64 (setR zs S).1, .int .i64 (setR zs S).2]) ∧ w = w' := by
  have hk := check_ints h
  unfold setR
  by_cases h0 : check zs ≠ 0
  · rw [if_pos h0]; exact set_err v _ h0 S w hk
  · rw [if_neg h0]
    have h0' : check zs = 0 := Decidable.not_not.1 h0
    obtain ⟨g1, g5, _, _⟩ := check_ok h0'
    rw [h0'] at hk
    obtain ⟨a, cap, rfl, h1, h2, hc⟩ := h
    by_cases hS : S < 0 ∨ 2 ^ zs.length ≤ S
    · rw [if_pos hS]; exact set_range a _ cap g5 S hS w hk
    · rw [if_neg hS]
      obtain ⟨s, rfl⟩ := Int.eq_ofNat_of_zero_le (show 0 ≤ S by omega)
      rcases hc with rfl | ⟨b, off, rfl, hlt, hc⟩
      · simp at g1
      · exact set_any b off _ cap zs s rfl h0' h1 (nat_lt_pow (by omega)) w hc
end Go.Proofs.YtlineonmpbdkgaaDoor.Perm
namespace Go.Proofs.YtlineonmpbdkgaaDoor.Perm
open Go Go.RowKit Go.Perm Go.Law
open Go.Proofs.YtlineonmpbdkgaaDoor.Col (ret_int ret_bool ret_two)

theorem info3 : (Tryd.prog.info? 3).map (fun i => (i.zero, i.size, i.bytes)) = some (some (.int .i64 0), 1, 8) := by kernel_rfl
theorem make_ints (n : Nat) (hn : n ≤ 5) (W : World) : (Instr.makeSlice 33 (.int .i64 (n : Int)) (.int .i64 (n : Int))).run Tryd.prog W = .ok (.slice (some ⟨W.heap.size, 0, none⟩) n n) (W.alloc (.cells (madeCells #[.int .i64 0] n) 3)) := by
  obtain ⟨i0, hi, hz0, hz1, hz2⟩ := info_parts info3
  have := run_make (P := Tryd.prog) W 33 3 i0 (.int .i64 0) Tryd.underlying33 hi hz0 .i64 .i64 (n : Int) (n : Int) (by omega) (by omega) (by rw [hz2]; omega) (by omega)
  rw [this, hz1]
  simp [Value.cells]
/-- A list of its own, with a number. -/
def VecPost (zs : List Int) (c : Int) (W : World) (e : Ending) (w' : World) : Prop := ∃ v, e = .returned (.tuple #[v, .int .i64 c]) ∧ Below W.heap.size W w' ∧ IntsAt w' .i64 v zs
theorem own_ints {w : World} {B n : Nat} {zs : List Int} (h : Law.Own w B 3 (zs.map (Value.int .i64))) (hn : zs.length = n) (h5 : n ≤ 5) : IntsAt w .i64 (.slice (some ⟨B, 0, none⟩) n n) zs := by
  subst hn
  exact ⟨_, _, rfl, Nat.le_refl _, by unfold maxLen; omega, .inr ⟨B, 0, rfl, h.lt, h.at⟩⟩

def OnePost (zs : List Int) (W : World) (e : Ending) (w' : World) : Prop := ∃ v, e = .returned v ∧ Below W.heap.size W w' ∧ IntsAt w' .i64 v zs
theorem replicate_map (n : Nat) (vs : List Int) (h : vs.length = n) : List.replicate n (Value.int .i64 0) = (cp vs 0).map (Value.int .i64) := by rw [cp_zero, h]; simp

set_option maxHeartbeats 800000 in
theorem compose_any (b off len cap : Nat) (zs : List Int) (b1 off1 cap1 : Nat) (vs : List Int) (hz : zs.length = len) (hv : vs.length = len) (h1 : 1 ≤ len) (h5 : len ≤ 5) (hf : Go.Perm.Fits len vs) (w : World) (hc : At w b off zs) (hd : At w b1 off1 vs) :
    Calls Tryd.prog 59 #[.slice (some ⟨b, off, none⟩) len cap, .slice (some ⟨b1, off1, none⟩) len cap1] w (OnePost (comp zs vs) w) := by
  have hb := hc.lt (by omega)
  have hb1 := hd.lt (by omega)
  have HF := Lib.hid hf
  have HC := Lib.hid hc
  have HD := Lib.hid hd
  have HZ := Lib.hid hz
  have HV := Lib.hid hv
  have HL := Lib.hid (show (comp zs vs).length = len by rw [comp_length]; exact hv)
  clear hf hc hd hz hv
  have HM := Lib.hid (Law.Own.made w 3 (.int .i64 0) len)
  have hmk := make_ints len h5
  go_enter Tryd.func59, Tryd.ntmps59
  go_wp2
  go_loopw [13] (fun i wr => ∃ k : Nat, k ≤ len ∧ i = .int .i64 k ∧ Below w.heap.size w wr ∧ Law.Own wr w.heap.size 3 ((cp (comp zs vs) k).map (Value.int .i64))) (fun i _ => len - (intOf i).toNat)
  case atStart => exact ⟨0, Nat.zero_le _, rfl, (Below.refl _ _).alloc (Nat.le_refl _) _, by rw [← replicate_map len _ HL.out]; exact HM.out⟩
  case round =>
    obtain ⟨k, hk, rfl, hbl, hown⟩ := hrel
    have hz := HZ.out
    have hv := HV.out
    have hL := HL.out
    by_cases hlt : k < len
    · have HE := Lib.hid (cp_succ (comp zs vs) k (by omega))
      have HG := Lib.hid (comp_getD (a := zs) (b := vs) (k := k) (by omega))
      have hcell1 := (HD.out.below hbl hb1) k (by omega)
      have hx := HF.out (vs.getD k 0) (getD_mem (by omega))
      have hl : (cp (comp zs vs) k).length = len := by rw [cp_length _ _ (by omega)]; exact hL
      generalize vs.getD k 0 = x at *
      obtain ⟨hx0, hx1⟩ := hx
      obtain ⟨q, rfl⟩ := Int.eq_ofNat_of_zero_le hx0
      have hcell := (HC.out.below hbl hb) q (by omega)
      generalize hy : (comp zs vs).getD k 0 = y at *
      have HY : Hid (zs.getD q 0 = y) := Lib.hid (by have := HG.out; simpa using this.symm)
      rw [HY.out] at hcell
      have hoc : wr.cell? ⟨w.heap.size, k, none⟩ = some (.int .i64 ((cp (comp zs vs) k).getD k 0)) := by have := hown.at k (by omega); simpa using this
      have hfr := hown.free k
      have HOW := Lib.hid hown
      have HBL := Lib.hid hbl
      clear hown hl hbl hz hv hL hy HG
      go_wp2
      go_roundw
      case rel => exact ⟨k + 1, by omega, by go_num, HBL.out.setCell (by simp) _, by rw [HE.out, List.map_set]; exact HOW.out.set k _⟩
      case measure => simp [intOf]; omega
    · have HOW := Lib.hid hown
      have HBL := Lib.hid hbl
      clear hown hbl hz hv hL
      go_wp2
      go_ret
      have hk' : k = len := by omega
      subst hk'
      have hall : cp (comp zs vs) k = comp zs vs := by have := cp_all (comp zs vs); rwa [HL.out] at this
      exact ⟨_, rfl, HBL.out, own_ints (by rw [← hall]; exact HOW.out) HL.out h5⟩
theorem own_row {w : World} {base : Nat} {v : Value} {zs : List Int} (h : w.ownsRow base 3 1 v zs.length (zs.map (Value.int .i64))) : IntsAt w .i64 v zs := by
  rcases h.2 with ⟨rfl, hn⟩ | ⟨g, cap, cur, rfl, hg, hb, hn, hcap, hcs, htake⟩
  · have : zs = [] := List.length_eq_zero_iff.1 hn
    subst this
    exact ⟨none, 0, rfl, Nat.le_refl _, by simp [maxLen], .inl rfl⟩
  · refine ⟨_, _, rfl, hn, hcap, .inr ⟨g, 0, rfl, ?_, fun j hj => ?_⟩⟩
    · by_cases hlt : g < w.heap.size
      · exact hlt
      · rw [Array.getElem?_eq_none (by omega)] at hb; cases hb
    · have h1 : (cur.toList.take (zs.length * 1))[j]? = some (.int .i64 (zs.getD j 0)) := by
        rw [htake, List.getElem?_map, List.getElem?_eq_getElem hj]
        simp [List.getD, List.getElem?_eq_getElem hj]
      rw [List.getElem?_take, if_pos (by omega)] at h1
      simp only [World.cell?, hb]
      simpa using h1

theorem own_block {w : World} {base n size : Nat} {e : TypeId} {v : Value} {xs : List Value} (h : w.ownsRow base e size v n xs) : ∀ k, v.ownBlock = some k → base ≤ k := by
  intro k hk
  rcases h.2 with ⟨rfl, _⟩ | ⟨g, cap, cur, rfl, hg, _⟩
  · cases hk
  · cases hk; exact hg
theorem cell_one_new (w : World) (v : Value) (t : TypeId) : ∀ (j : Nat) (u : Value), [v][j]? = some u → (w.alloc (.cells #[v] t)).cell? ((⟨w.heap.size, 0, none⟩ : Addr).add j) = some u := by
  intro j u h
  match j, h with
  | 0, h =>
    obtain rfl : v = u := by simpa using h
    rw [show (⟨w.heap.size, 0, none⟩ : Addr).add 0 = ⟨w.heap.size, 0, none⟩ from rfl, World.cell?_alloc_at _ _ _ _ rfl]; rfl
  | j + 1, h => simp at h
set_option maxHeartbeats 1000000 in
set_option maxRecDepth 100000 in
theorem times_any (b off len cap : Nat) (zs : List Int) (b1 off1 cap1 : Nat) (vs : List Int) (hz : zs.length = len) (hv : vs.length = len) (h1 : 1 ≤ len) (h5 : len ≤ 5) (hf : Go.Perm.Fits len vs) (w : World) (hc : At w b off zs) (hd : At w b1 off1 vs) :
    Calls Tryd.prog 30 #[.slice (some ⟨b, off, none⟩) len cap, .slice (some ⟨b1, off1, none⟩) len cap1] w (OnePost (comp zs vs) w) := by
  have hb := hc.lt (by omega)
  have hb1 := hd.lt (by omega)
  have HF := Lib.hid hf
  have HC := Lib.hid hc
  have HD := Lib.hid hd
  have HZ := Lib.hid hz
  have HV := Lib.hid hv
  have HL := Lib.hid (show (comp zs vs).length = len by rw [comp_length]; exact hv)
  clear hf hc hd hz hv
  obtain ⟨i0, hi, hz0, hz1, hz2⟩ := info_parts info3
  have HN : Hid (w.ownsRow w.heap.size 3 1 (.slice none 0 0) ((comp zs vs).take 0).length (((comp zs vs).take 0).map (Value.int .i64))) := Lib.hid ⟨rfl, .inl ⟨rfl, rfl⟩⟩
  go_enter Tryd.func30, Tryd.ntmps30
  go_wp2
  go_loopw [5, 6] (fun v i wr => ∃ k : Nat, k ≤ len ∧ i = .int .i64 k ∧ Below w.heap.size w wr ∧ wr.ownsRow w.heap.size 3 1 v ((comp zs vs).take k).length (((comp zs vs).take k).map (Value.int .i64))) (fun _ i _ => len - (intOf i).toNat)
  case atStart => exact ⟨0, Nat.zero_le _, rfl, Below.refl _ _, HN.out⟩
  case round =>
    obtain ⟨k, hk, rfl, hbl, hown⟩ := hrel
    have hz := HZ.out
    have hv := HV.out
    have hL := HL.out
    by_cases hlt : k < len
    · have hT0 := take_snoc (l := comp zs vs) (k := k) (by omega)
      have HG := Lib.hid (comp_getD (a := zs) (b := vs) (k := k) (by omega))
      have hcell1 := (HD.out.below hbl hb1) k (by omega)
      have hx := HF.out (vs.getD k 0) (getD_mem (by omega))
      have hl : ((comp zs vs).take k).length = k := by rw [List.length_take]; omega
      have hl1 : ((comp zs vs).take (k + 1)).length = k + 1 := by rw [List.length_take]; omega
      have HT := Lib.hid hT0
      clear hT0
      generalize vs.getD k 0 = x at *
      obtain ⟨hx0, hx1⟩ := hx
      obtain ⟨q, rfl⟩ := Int.eq_ofNat_of_zero_le hx0
      have hcell := (HC.out.below hbl hb) q (by omega)
      generalize hy : (comp zs vs).getD k 0 = y at *
      have HY : Hid (zs.getD q 0 = y) := Lib.hid (by have := HG.out; simpa using this.symm)
      rw [HY.out] at hcell
      rw [hl] at hown
      have HL1 := Lib.hid hl1
      have HOW := Lib.hid hown
      have HBL := Lib.hid hbl
      clear hown hl hl1 hbl hz hv hL hy HG
      go_wp2_with (at_builtin; refine wpList_append_own _ rfl _ _ 33 rfl w.heap.size 3 i0 (.int .i64 0) 1 8 Tryd.underlying33 hi hz0 hz1 hz2 rfl (by decide) _ _ _ rfl (HOW.out.alloc _) ⟨wr.heap.size, 0, none⟩ 1 1 [.int .i64 y] rfl rfl (cell_one_new _ _ _) (fun x hx => by simp at hx; subst hx; rfl) (by unfold maxLen; omega) (by omega) (by have := HBL.out.size; simp; omega) ?_; intro v' w1 hown' hgrow _; have HO1 := Lib.hid hown'; have HG1 := Lib.hid hgrow; clear hown' hgrow)
      go_roundw
      case rel => exact ⟨k + 1, by omega, by go_num, (HBL.out.alloc HBL.out.size _).grown HG1.out (by have := HBL.out.size; simp; omega) (own_block HOW.out), by rw [HL1.out, HT.out, List.map_append]; exact HO1.out⟩
      case measure => simp [intOf]; omega
    · have hk' : k = len := by omega
      subst hk'
      rw [List.take_of_length_le (by omega)] at hown
      have HOW := Lib.hid hown
      have HBL := Lib.hid hbl
      clear hown hbl hz hv hL
      go_wp2
      go_ret
      exact ⟨_, rfl, HBL.out, own_row HOW.out⟩
theorem at_ints {w : World} {v : Value} {zs : List Int} (h : IntsAt w .i64 v zs) (h1 : 1 ≤ zs.length) : ∃ b off cap, v = .slice (some ⟨b, off, none⟩) zs.length cap ∧ At w b off zs := by
  obtain ⟨a, cap, rfl, _, _, h0⟩ := h
  rcases h0 with rfl | ⟨b, off, rfl, _, hc⟩
  · simp at h1
  · exact ⟨b, off, cap, rfl, hc⟩
theorem compose_ints {w : World} {v u : Value} {zs vs : List Int} (h : IntsAt w .i64 v zs) (g : IntsAt w .i64 u vs) (hl : vs.length = zs.length) (h1 : 1 ≤ zs.length) (h5 : zs.length ≤ 5) (hf : Go.Perm.Fits zs.length vs) :
    Calls Tryd.prog 59 #[v, u] w (OnePost (comp zs vs) w) := by
  obtain ⟨b, off, cap, rfl, hc⟩ := at_ints h h1
  obtain ⟨b', off', cap', rfl, hc'⟩ := at_ints g (by omega)
  rw [hl]
  exact compose_any b off _ cap zs b' off' cap' vs rfl hl h1 h5 hf w hc hc'
theorem times_ints {w : World} {v u : Value} {zs vs : List Int} (h : IntsAt w .i64 v zs) (g : IntsAt w .i64 u vs) (hl : vs.length = zs.length) (h1 : 1 ≤ zs.length) (h5 : zs.length ≤ 5) (hf : Go.Perm.Fits zs.length vs) :
    Calls Tryd.prog 30 #[v, u] w (OnePost (comp zs vs) w) := by
  obtain ⟨b, off, cap, rfl, hc⟩ := at_ints h h1
  obtain ⟨b', off', cap', rfl, hc'⟩ := at_ints g (by omega)
  rw [hl]
  exact times_any b off _ cap zs b' off' cap' vs rfl hl h1 h5 hf w hc hc'

def compR (x y : List Int) : List Int × Int := if check x ≠ 0 then ([], check x) else if check y ≠ 0 then ([], check y) else if x.length ≠ y.length then ([], 22) else (comp x y, 0)
set_option maxHeartbeats 1000000 in
theorem comp_ints {w : World} {v u : Value} {x y : List Int} (h : IntsAt w .i64 v x) (g : IntsAt w .i64 u y) : Calls Tryd.prog 29 #[v, u] w (VecPost (compR x y).1 (compR x y).2 w) := by
  have h' := h
  have g' := g
  obtain ⟨a, cap, rfl, _⟩ := h'
  obtain ⟨a', cap', rfl, _⟩ := g'
  have H := Lib.hid h
  have G := Lib.hid g
  clear h g
  unfold compR
  by_cases k1 : check x ≠ 0
  · rw [if_pos k1]
    have hb : (check x != 0) = true := by simpa using k1
    go_enter Tryd.func29, Tryd.ntmps29
    go_wp2_with fail
    refine (check_ints H.out).mono ?_
    rintro e w1 ⟨rfl, rfl⟩
    go_wp2
    go_ret2
    exact ⟨_, rfl, Below.refl _ _, nil_ints _⟩
  · rw [if_neg k1]
    have k1' := Lib.hid (Decidable.not_not.1 k1)
    by_cases k2 : check y ≠ 0
    · rw [if_pos k2]
      have hb : (check y != 0) = true := by simpa using k2
      clear k1
      go_enter Tryd.func29, Tryd.ntmps29
      go_wp2_with fail
      refine (check_ints H.out).mono ?_
      rintro e w1 ⟨rfl, rfl⟩
      rw [k1'.out]
      go_wp2_with fail
      refine (check_ints G.out).mono ?_
      rintro e w2 ⟨rfl, rfl⟩
      go_wp2
      go_ret2
      exact ⟨_, rfl, Below.refl _ _, nil_ints _⟩
    · rw [if_neg k2]
      have k2' := Lib.hid (Decidable.not_not.1 k2)
      clear k1 k2
      by_cases hl : x.length ≠ y.length
      · rw [if_pos hl]
        have hb : ((x.length : Int) != (y.length : Int)) = true := by simpa using (by omega : (x.length : Int) ≠ y.length)
        go_enter Tryd.func29, Tryd.ntmps29
        go_wp2_with fail
        refine (check_ints H.out).mono ?_
        rintro e w1 ⟨rfl, rfl⟩
        rw [k1'.out]
        go_wp2_with fail
        refine (check_ints G.out).mono ?_
        rintro e w2 ⟨rfl, rfl⟩
        rw [k2'.out]
        go_wp2
        go_ret2
        exact ⟨_, rfl, Below.refl _ _, nil_ints _⟩
      · rw [if_neg hl]
        have hl' := Decidable.not_not.1 hl
        obtain ⟨g1, g5, _, _⟩ := check_ok k1'.out
        have HF : Hid (Go.Perm.Fits x.length y) := Lib.hid (by have := (check_ok k2'.out).2.2.1; rw [← hl'] at this; exact this)
        have HL := Lib.hid hl'.symm
        clear hl
        rw [← hl'] at G ⊢
        clear hl'
        generalize hn : x.length = n at *
        have HN := Lib.hid hn
        clear hn
        have hb : ((n : Int) != (n : Int)) = false := by simp
        go_enter Tryd.func29, Tryd.ntmps29
        go_wp2_with fail
        refine (check_ints H.out).mono ?_
        rintro e w1 ⟨rfl, rfl⟩
        rw [k1'.out]
        go_wp2_with fail
        refine (check_ints G.out).mono ?_
        rintro e w2 ⟨rfl, rfl⟩
        rw [k2'.out]
        go_wp2_with fail
        refine (compose_ints H.out G.out (by rw [HN.out, HL.out]) (by rw [HN.out]; exact g1) (by rw [HN.out]; exact g5) (by rw [HN.out]; exact HF.out)).mono ?_
        rintro e w3 ⟨z, rfl, hb3, hi3⟩
        have HB := Lib.hid hb3
        have HI := Lib.hid hi3
        clear hb3 hi3
        go_wp2
        go_ret2
        exact ⟨z, rfl, HB.out, HI.out⟩
end Go.Proofs.YtlineonmpbdkgaaDoor.Perm
