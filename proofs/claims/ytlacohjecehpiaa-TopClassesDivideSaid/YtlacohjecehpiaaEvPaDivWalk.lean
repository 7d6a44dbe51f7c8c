/-
  TopClassesDivide answers true on partitions of at most five elements: the classes are disjoint sets of all, those of the meet are the intersections, and each class of the join is a union of classes.
-/
import Derived.Test.YtlacohjecehpiaaEvPaDivCalls
namespace Go.Proofs.Ytlacohjecehpiaa.Part
open Go Go.RowKit Go.Law Go.Part Go.Col

theorem pow_below {w0 w w' : World} (h : Below w0.heap.size w0 w) (hb : Below w.heap.size w w') : Below w0.heap.size w0 w' := h.trans (bel_le hb h.size)
theorem and_nat (x y : Nat) (hx : x < 32) (hy : y < 32) : bits .and .i64 (x : Int) (y : Int) = ((x &&& y : Nat) : Int) := Sets.i64_and_nat x y (by omega) (by omega)
theorem slice_form {W : World} {a : Option Addr} {n cap : Nat} {zs : List Int} (h : IntsAt W .i64 (.slice a n cap) zs) (h0 : 0 < zs.length) : ∃ b off, a = some ⟨b, off, none⟩ ∧ zs.length = n ∧ b < W.heap.size ∧ At W b off zs := by
  obtain ⟨a', cap', e, _, _, h3⟩ := h
  cases e
  rcases h3 with rfl | ⟨b, off, rfl, hb, hc⟩
  · simp at h0
  · exact ⟨b, off, rfl, rfl, hb, hc⟩
theorem size_step {w6 wx : World} (h : w6.heap.size ≤ wx.heap.size) (o : Obj) : w6.heap.size ≤ (wx.alloc o).heap.size := Nat.le_trans h (below_one wx o).size
theorem own_snoc {w' : World} {base : Nat} {v' : Value} {L : List Nat} {c : Nat} (h : w'.ownsRow base 3 1 v' (L.length + 1) ((ints L).map (Value.int .i64) ++ [.int .i64 (c : Int)])) : w'.ownsRow base 3 1 v' (L ++ [c]).length ((ints (L ++ [c])).map (Value.int .i64)) := by
  rw [ints_app, List.map_append, List.length_append]; exact h
theorem sum_step {s k x : Nat} (h : s ≤ 32 * k) (hx : x < 32) : s + x ≤ 32 * (k + 1) := by omega
theorem len_row {l k q : Nat} (h : l ≤ 5 * k + q) (hq : q ≤ 5) : l ≤ 5 * (k + 1) := by omega
theorem len_step {L : List Nat} {k q c : Nat} (h : L.length ≤ 5 * k + q) : (L ++ [c]).length ≤ 5 * k + (q + 1) := by rw [List.length_append]; simp; omega
theorem asc_len (zs : List Int) : (asc zs).length = zs.length := by simp [asc, List.length_mergeSort]
theorem own_block_ge {w : World} {b c n : Nat} {v : Value} {xs : List Value} (h : w.ownsRow b 3 1 v n xs) (hc : c ≤ b) : ∀ k, v.ownBlock = some k → c ≤ k := fun k hk => Nat.le_trans hc (own_block h k hk)
theorem two_cells (w : World) (u v : Value) (t : TypeId) : (w.alloc (.cells #[u, v] t)).cell? ⟨w.heap.size, 0, none⟩ = some u ∧ (w.alloc (.cells #[u, v] t)).cell? ⟨w.heap.size, 1, none⟩ = some v := by
  constructor
  · rw [World.cell?_alloc_at _ _ _ _ rfl]; rfl
  · rw [World.cell?_alloc_at _ _ _ _ rfl]; rfl
set_option maxHeartbeats 16000000 in
set_option maxRecDepth 100000 in
theorem divide_ok {w : World} {a b : List Int} {x0 x1 : Option Addr} {n cap0 cap1 : Nat} (hn1 : 1 ≤ n) (hn5 : n ≤ 5) (hla : a.length = n) (hlb : b.length = n) (ha : wf a) (hb : wf b) (h0 : IntsAt w .i64 (.slice x0 n cap0) a) (h1 : IntsAt w .i64 (.slice x1 n cap1) b) :
    Calls Try.prog 11 #[.slice x0 n cap0, .slice x1 n cap1] w fun e w' => e = .returned (.bool true) ∧ Below w.heap.size w w' := by
  have HN := Lib.hid (nums_of hn1 hn5 hla hlb ha hb)
  have hlc : (cut a b).length = n := by rw [cut_len]; exact hla
  have RA : Hid (∀ w1, Below w.heap.size w w1 → Calls Try.prog 19 #[.slice x0 n cap0] w1 fun e w' => e = .returned (.int .i64 0) ∧ w1 = w') := Lib.hid fun w1 hb1 => by
    have := rcheck_any (ints_below h0 hb1)
    rwa [code_of (by omega) ha] at this
  have RB : Hid (∀ w1, Below w.heap.size w w1 → Calls Try.prog 19 #[.slice x1 n cap1] w1 fun e w' => e = .returned (.int .i64 0) ∧ w1 = w') := Lib.hid fun w1 hb1 => by
    have := rcheck_any (ints_below h1 hb1)
    rwa [code_of (by omega) hb] at this
  have KA : Hid (∀ w1, Below w.heap.size w w1 → Calls Try.prog 40 #[.int .i64 n, .slice x0 n cap0] w1 (OwnPost (masks n a) w1)) := Lib.hid fun w1 hb1 => case_ok hn1 hn5 hla ha (ints_below h0 hb1)
  have KB : Hid (∀ w1, Below w.heap.size w w1 → Calls Try.prog 40 #[.int .i64 n, .slice x1 n cap1] w1 (OwnPost (masks n b) w1)) := Lib.hid fun w1 hb1 => case_ok hn1 hn5 hlb hb (ints_below h1 hb1)
  have KM : Hid (∀ w1, Below w.heap.size w w1 → Calls Try.prog 28 #[.slice x0 n cap0, .slice x1 n cap1] w1 (PairPost (cut a b) 0 w1)) := Lib.hid fun w1 hb1 => meet_wf (ints_below h0 hb1) (ints_below h1 hb1) ha hb (by omega) (by omega)
  have KJ : Hid (∀ w1, Below w.heap.size w w1 → Calls Try.prog 30 #[.slice x0 n cap0, .slice x1 n cap1] w1 (PairPost (glue n a b) 0 w1)) := Lib.hid fun w1 hb1 => by
    have := join_wf (ints_below h0 hb1) (ints_below h1 hb1) ha hb (by omega) (by omega)
    rwa [hla] at this
  have KMS : Hid (∀ (w1 : World) (v : Value), IntsAt w1 .i64 v (cut a b) → Calls Try.prog 40 #[.int .i64 n, v] w1 (OwnPost (masks n (cut a b)) w1)) := Lib.hid fun w1 v hv => case_ok hn1 hn5 hlc (cut_wf a b) hv
  have KJS : Hid (∀ (w1 : World) (v : Value), IntsAt w1 .i64 v (glue n a b) → Calls Try.prog 40 #[.int .i64 n, v] w1 (OwnPost (masks n (glue n a b)) w1)) := Lib.hid fun w1 v hv => case_ok hn1 hn5 (glue_len n a b) (glue_wf n a b) hv
  have KL : Hid (∀ w1, Calls Try.prog 41 #[.int .i64 n] w1 fun e w' => e = .returned (.tuple #[.int .i64 ((2 ^ n - 1 : Nat) : Int), .int .i64 0]) ∧ w1 = w') := Lib.hid fun w1 => Sets.all_ok n hn1 hn5 w1
  clear hla hlb hlc ha hb h0 h1
  generalize masks n a = X at *
  generalize masks n b = Y at *
  generalize masks n (cut a b) = M at *
  generalize masks n (glue n a b) = J at *
  generalize cut a b = cm at *
  generalize glue n a b = jm at *
  obtain ⟨al, hal⟩ : ∃ al, 2 ^ n - 1 = al := ⟨_, rfl⟩
  have hsum := HN.out.sum
  rw [hal] at KL hsum
  clear hal
  have HS := Lib.hid hsum
  clear hsum
  have n1 : ¬ ((n : Int) < 1) := by omega
  have n5 : ¬ ((n : Int) > 5) := by omega
  have n6 : ((n : Int) != (n : Int)) = false := by simp
  obtain ⟨i0, hi, hz0, hz1, hz2⟩ := info_parts info3
  go_enter Try.func11, Try.ntmps11
  go_wp2_with (first
    | (go_at_call 39; ((with_reducible refine (Ev.awake39 _).mono ?_); rintro e w0 ⟨rfl, hb0⟩; have T0 := Lib.hid hb0; clear hb0))
    | (go_at_call 19; ((with_reducible refine (RA.out _ T0.out).mono ?_); rintro e w' ⟨rfl, rfl⟩))
    | (go_at_call 19; ((with_reducible refine (RB.out _ T0.out).mono ?_); rintro e w' ⟨rfl, rfl⟩))
    | (go_at_call 41; ((with_reducible refine (KL.out _).mono ?_); rintro e w' ⟨rfl, rfl⟩))
    | (go_at_call 40; ((with_reducible refine (KJS.out _ _ IJ5.out).mono ?_); rintro e w6 ⟨v6, b6, rfl, hb6, hbb6, hr6⟩; have R6 := Lib.hid hr6; have U6 := Lib.hid hb6; have T6 := Lib.hid (pow_below T5.out hb6); obtain ⟨a6, c6, rfl⟩ := row_form hr6; clear hb6 hr6))
    | (go_at_call 40; ((with_reducible refine (KMS.out _ _ IM4.out).mono ?_); rintro e w5 ⟨v5, b5, rfl, hb5, hbb5, hr5⟩; have R5 := Lib.hid hr5; have U5 := Lib.hid hb5; have T5 := Lib.hid (pow_below T4.out hb5); have IJ5 := Lib.hid (ints_below IJ.out hb5); obtain ⟨a5, c5, rfl⟩ := row_form hr5; clear hb5 hr5))
    | (go_at_call 30; ((with_reducible refine (KJ.out _ T3.out).mono ?_); rintro e w4 ⟨v4, rfl, hb4, hi4⟩; have U4 := Lib.hid hb4; have T4 := Lib.hid (pow_below T3.out hb4); have IM4 := Lib.hid (ints_below IM.out hb4); have IJ := Lib.hid hi4; clear hb4 hi4))
    | (go_at_call 28; ((with_reducible refine (KM.out _ T2.out).mono ?_); rintro e w3 ⟨v3, rfl, hb3, hi3⟩; have U3 := Lib.hid hb3; have T3 := Lib.hid (pow_below T2.out hb3); have IM := Lib.hid hi3; clear hb3 hi3))
    | (go_at_call 40; ((with_reducible refine (KB.out _ T1.out).mono ?_); rintro e w2 ⟨v2, b2, rfl, hb2, hbb2, hr2⟩; have R2 := Lib.hid hr2; have U2 := Lib.hid hb2; have T2 := Lib.hid (pow_below T1.out hb2); obtain ⟨a2, c2, rfl⟩ := row_form hr2; clear hb2 hr2))
    | (go_at_call 40; ((with_reducible refine (KA.out _ T0.out).mono ?_); rintro e w1 ⟨v1, b1, rfl, hb1, hbb1, hr1⟩; have R1 := Lib.hid hr1; have T1 := Lib.hid (pow_below T0.out hb1); obtain ⟨a1, c1, rfl⟩ := row_form hr1; clear hb1 hr1)))
  have X2 := Lib.hid (ints_below (own_list R1.out) U2.out)
  have X4 := Lib.hid (ints_below (ints_below X2.out U3.out) U4.out)
  have Y4 := Lib.hid (ints_below (ints_below (own_list R2.out) U3.out) U4.out)
  have V6 := Lib.hid (U5.out.trans (bel_le U6.out U5.out.size))
  have X6 := Lib.hid (ints_below X4.out V6.out)
  have Y6 := Lib.hid (ints_below Y4.out V6.out)
  have Z5 := Lib.hid (R5.out.lt)
  have Z6 := Lib.hid (row_below R5.out U6.out)
  clear RA RB KA KB KM KJ KMS KJS KL IM IM4 IJ IJ5 R1 R2 X2 T0 T1 T2 T3 T5 T6 U2 U3 U4 hbb1 hbb2 n1 n5 n6
  have hs5 := U5.out.size
  have hs6 := U6.out.size
  have N0 : Hid (w6.ownsRow w6.heap.size 3 1 (.slice none 0 0) (wantN (X.take 0) Y).length ((ints (wantN (X.take 0) Y)).map (Value.int .i64))) := Lib.hid ⟨by simp [wantN, ints], .inl ⟨rfl, by simp [wantN]⟩⟩
  go_loopw [18, 19, 111] (fun sm wn i wr => ∃ k : Nat, k ≤ X.length ∧ i = .int .i64 k ∧ sm = .int .i64 (((X.take k).sum : Nat) : Int) ∧ (X.take k).sum ≤ 32 * k ∧ (wantN (X.take k) Y).length ≤ 5 * k ∧ Below w6.heap.size w6 wr ∧ wr.ownsRow w6.heap.size 3 1 wn (wantN (X.take k) Y).length ((ints (wantN (X.take k) Y)).map (Value.int .i64))) (fun _ _ i _ => X.length - (intOf i).toNat)
  case atStart => exact ⟨0, Nat.zero_le _, rfl, by simp, by simp, by simp [wantN], Below.refl _ _, N0.out⟩
  case round =>
    obtain ⟨k, hk, rfl, rfl, hsm, hwl, hbl, hown⟩ := hrel
    have HB := Lib.hid hbl
    have HO := Lib.hid hown
    have hsz := hbl.size
    clear hbl hown
    have hxl := HN.out.lx
    have hyl := HN.out.ly
    by_cases hlt : k < X.length
    · obtain ⟨p, hp, hix, hc⟩ := ints_index X6.out (j := k) (by rw [ints_len]; exact hlt)
      rw [ints_get] at hc
      have hc2 := (HB.out.cell hp).trans hc
      have hx32 := HN.out.x k hlt
      have HW := Lib.hid (want_succ (Y := Y) hlt)
      have HU := Lib.hid (sum_succ hlt)
      generalize X.getD k 0 = x at *
      have hadd : wrap64 ((((X.take k).sum : Nat) : Int) + (x : Int)) = (((X.take k).sum + x : Nat) : Int) := by unfold wrap64; omega
      generalize wantN (X.take k) Y = Wk at *
      generalize (X.take k).sum = sk at *
      have HADD := Lib.hid hadd
      clear hc hadd
      go_wp2
      have HO0 : Hid (wr.ownsRow w6.heap.size 3 1 _ (Wk ++ inn x (Y.take 0)).length ((ints (Wk ++ inn x (Y.take 0))).map (Value.int .i64))) := Lib.hid (by simpa [inn] using HO.out)
      go_loopw [19, 120] (fun wn j wx => ∃ q : Nat, q ≤ Y.length ∧ j = .int .i64 q ∧ (Wk ++ inn x (Y.take q)).length ≤ 5 * k + q ∧ Below w6.heap.size w6 wx ∧ wx.ownsRow w6.heap.size 3 1 wn (Wk ++ inn x (Y.take q)).length ((ints (Wk ++ inn x (Y.take q))).map (Value.int .i64))) (fun _ j _ => Y.length - (intOf j).toNat)
      case atStart => exact ⟨0, Nat.zero_le _, rfl, by simpa [inn] using hwl, HB.out, HO0.out⟩
      case round =>
        obtain ⟨q, hq, rfl, hql, hbl, hown⟩ := hrel
        have HBx := Lib.hid hbl
        have HOx := Lib.hid hown
        have hszx := hbl.size
        clear hbl hown
        by_cases hqt : q < Y.length
        · obtain ⟨py, hpy, hiy, hcy⟩ := ints_index Y6.out (j := q) (by rw [ints_len]; exact hqt)
          rw [ints_get] at hcy
          have hcy2 := (HBx.out.cell hpy).trans hcy
          have hy32 := HN.out.y q hqt
          have hand := and_nat x (Y.getD q 0) hx32 hy32
          by_cases hz : x &&& Y.getD q 0 = 0
          · have HI := Lib.hid (inn_miss (x := x) hqt hz)
            have hb0 : (bits .and .i64 (x : Int) ((Y.getD q 0 : Nat) : Int) != 0) = false := by rw [hand, hz]; rfl
            clear hand hz hcy
            generalize Y.getD q 0 = y at *
            go_wp2
            go_roundw
            case rel => exact ⟨q + 1, Nat.succ_le_of_lt hqt, by go_num, by rw [HI.out]; exact Nat.le_succ_of_le hql, HBx.out, by rw [HI.out]; exact HOx.out⟩
            case measure => simp [intOf]; omega
          · have HI := Lib.hid (inn_hit (x := x) hqt hz)
            have hb0 : (bits .and .i64 (x : Int) ((Y.getD q 0 : Nat) : Int) != 0) = true := by rw [hand]; simpa using hz
            clear hz hcy
            have hln : (Wk ++ inn x (Y.take q)).length ≤ 30 := by omega
            have HI2 := Lib.hid (show Wk ++ inn x (Y.take (q + 1)) = (Wk ++ inn x (Y.take q)) ++ [x &&& Y.getD q 0] by rw [HI.out, List.append_assoc])
            generalize Y.getD q 0 = y at *
            generalize Wk ++ inn x (Y.take q) = L at *
            clear HI
            go_wp2_with (at_builtin; refine wpList_append_own _ rfl _ _ 22 rfl w6.heap.size 3 i0 (.int .i64 0) 1 8 Try.underlying22 hi hz0 hz1 hz2 rfl (by decide) _ _ _ rfl (HOx.out.alloc _) ⟨wr.heap.size, 0, none⟩ 1 1 [.int .i64 ((x &&& y : Nat) : Int)] rfl rfl (cell_one_new _ _ _) (fun u hu => by simp at hu; subst hu; rfl) (by unfold maxLen; omega) (by omega) (by simp; omega) ?_; intro v' w' hown' hgrow _; have HO1 := Lib.hid hown'; have HG1 := Lib.hid hgrow; clear hown' hgrow)
            go_roundw
            case rel => exact ⟨q + 1, Nat.succ_le_of_lt hqt, by go_num, by rw [HI2.out]; exact len_step hql, (HBx.out.alloc hszx _).grown HG1.out (size_step hszx _) (own_block HOx.out), by rw [HI2.out]; exact own_snoc HO1.out⟩
            case measure => simp [intOf]; omega
        · have hq' : q = Y.length := by omega
          subst hq'
          rw [List.take_length, ← HW.out] at hql HOx
          go_wp2
          go_roundw
          case rel => exact ⟨k + 1, Nat.succ_le_of_lt hlt, by go_num, by rw [HU.out]; first | rfl | rw [Int.natCast_add] | rw [HADD.out], by rw [HU.out]; exact sum_step hsm hx32, len_row hql HN.out.ly.2, HBx.out, HOx.out⟩
          case measure => simp [intOf]; omega
    · have hk' : k = X.length := by omega
      subst hk'
      rw [List.take_length] at HO hwl
      rw [List.take_length, HS.out]
      have hlm := HN.out.lm
      have hlen := HN.out.len
      have hlj := HN.out.lj
      have HSM := Lib.hid HN.out.same
      clear hsm
      rw [hlen] at HO hwl
      have hnn : ((al : Int) != (al : Int)) = false := by simp
      have hms : ((M.length : Int) != (M.length : Int)) = false := by simp
      go_wp2_with (first
        | (go_at_call 42; ((with_reducible refine (sort_own (zs := ints M) (by omega) (by omega) (ints_len M) (row_below Z6.out T7.out)).mono ?_); rintro e w8 ⟨rfl, hg8, hr8⟩; have G8 := Lib.hid hg8; have R8 := Lib.hid hr8; clear hg8 hr8))
        | (go_at_call 42; ((with_reducible refine (sort_own (zs := ints (wantN X Y)) (by omega) (by omega) (by rw [ints_len]; exact hlen) HO.out).mono ?_); rintro e w7 ⟨rfl, hg7, hr7⟩; have T7 := Lib.hid (HB.out.grown hg7 hsz (own_block HO.out)); have R7 := Lib.hid hr7; clear hg7 hr7))
        | (go_at_call 36; ((with_reducible refine (equal_any (own_row (by rw [asc_len, ints_len]; exact hlen) (own_kept R7.out G8.out (fun g hg => (Z5.out g hg).2) hs6)) (own_row (by rw [asc_len, ints_len]) R8.out)).mono ?_); rintro e w9 ⟨m9, rfl, rfl⟩; rw [decide_eq_true HSM.out])))
      have T8 := Lib.hid ((V6.out.trans (bel_le T7.out V6.out.size)).grown G8.out (Nat.le_trans V6.out.size T7.out.size) (own_block_ge R5.out hbb5))
      have X9 := Lib.hid (ints_drewN (ints_below X4.out T8.out) m9)
      have Y9 := Lib.hid (ints_drewN (ints_below Y4.out T8.out) m9)
      have J9 := Lib.hid (ints_drewN (own_list (own_kept (row_below R6.out T7.out) G8.out (fun g hg => (Z5.out g hg).2) hbb6)) m9)
      have B9 := Lib.hid (below_drewN ((pow_below (pow_below T4.out (Below.refl _ _)) T8.out)) m9)
      generalize World.drewN w8 m9 = w9 at *
      obtain ⟨bx, ox, rfl, ex, hbx, atx⟩ := slice_form X9.out (by rw [ints_len]; omega)
      obtain ⟨by_, oy, rfl, ey, hby, aty⟩ := slice_form Y9.out (by rw [ints_len]; omega)
      have AX := Lib.hid atx
      have AY := Lib.hid aty
      clear atx aty
      go_loopw [159] (fun i wr => ∃ k : Nat, k ≤ J.length ∧ i = .int .i64 k ∧ Below w9.heap.size w9 wr) (fun i _ => J.length - (intOf i).toNat)
      case atStart => exact ⟨0, Nat.zero_le _, rfl, Below.refl _ _⟩
      case round =>
        obtain ⟨k, hk, rfl, hbl⟩ := hrel
        have HBj := Lib.hid hbl
        have hszj := hbl.size
        clear hbl
        by_cases hlt : k < J.length
        · obtain ⟨p, hp, hix, hc⟩ := ints_index J9.out (j := k) (by rw [ints_len]; exact hlt)
          rw [ints_get] at hc
          have hc2 := (HBj.out.cell hp).trans hc
          have hs32 := HN.out.s k hlt
          have HIN := Lib.hid (HN.out.into k hlt)
          generalize J.getD k 0 = s at *
          clear hc
          have HC := Lib.hid (two_cells wr (.slice (some ⟨bx, ox, none⟩) X.length c1) (.slice (some ⟨by_, oy, none⟩) Y.length c2) 22)
          have KC := Lib.hid (fun (w2 : World) (hw : w2 = wr.alloc (.cells #[.slice (some ⟨bx, ox, none⟩) X.length c1, .slice (some ⟨by_, oy, none⟩) Y.length c2] 22)) => hw ▸ concat_ok (w := wr.alloc (.cells #[.slice (some ⟨bx, ox, none⟩) X.length c1, .slice (some ⟨by_, oy, none⟩) Y.length c2] 22)) (B := wr.heap.size) (ints_len X) (ints_len Y) (by omega) (by omega) (by omega) HC.out.1 HC.out.2 (by simp) (by simp; omega) (by simp; omega) ((AX.out.below HBj.out hbx).below (below_one _ _) (by omega)) ((AY.out.below HBj.out hby).below (below_one _ _) (by omega)))
          go_wp2_with (go_at_call 43; refine (KC.out _ rfl).mono ?_; rintro e w10 ⟨v10, rfl, hb10, hi10⟩; have I10 := Lib.hid hi10; have T10 := Lib.hid (HBj.out.trans (bel_le ((below_one wr _).trans (bel_le hb10 (by simp))) hszj)); rw [← ints_app] at I10; clear hi10 hb10; obtain ⟨nz, hnz⟩ : ∃ nz, (ints (X ++ Y)).length = nz := ⟨_, rfl⟩; have HNZ := Lib.hid ((ints_len _).symm.trans hnz); obtain ⟨a10, cap10, rfl, _, _, _⟩ := I10.out; rw [hnz] at I10 ⊢; clear hnz)
          have hnz10 : nz ≤ 10 := by
            have h1 := HNZ.out
            have h2 := HN.out.lx.2
            have h3 := HN.out.ly.2
            rw [List.length_append] at h1
            omega
          go_loop [168] (fun i => ∃ q : Nat, q ≤ nz ∧ i = .int .i64 q) (fun i => nz - (intOf i).toNat)
          case atStart => exact ⟨0, Nat.zero_le _, rfl⟩
          case round =>
            obtain ⟨q, hq, rfl⟩ := hrel
            by_cases hqt : q < nz
            · obtain ⟨pq, hpq, hiq, hcq⟩ := ints_index I10.out (j := q) (by rw [ints_len, HNZ.out]; exact hqt)
              rw [ints_get] at hcq
              have hmem := getD_in (X := X ++ Y) (j := q) (by rw [HNZ.out]; exact hqt)
              have hc32 := HN.out.ix _ hmem
              have hin := HIN.out _ hmem
              generalize (X ++ Y).getD q 0 = c at *
              have hand := and_nat c s hc32 hs32
              rcases hin with h0 | h0
              · have hb0 : (bits .and .i64 (c : Int) (s : Int) != 0) = false := by rw [hand, h0]; rfl
                clear hand h0 hmem
                go_wp2
                go_round
                case rel => exact ⟨q + 1, by omega, by go_num⟩
                case measure => simp [intOf]; omega
              · have hn0 := and_not c hc32 s hs32 h0
                have hb1 : (bits .andNot .i64 (c : Int) (s : Int) != 0) = false := by rw [hn0]; rfl
                by_cases hcz : c = 0
                · have hb0 : (bits .and .i64 (c : Int) (s : Int) != 0) = false := by rw [hand, h0, hcz]; rfl
                  clear hand h0 hmem hn0 hcz
                  go_wp2
                  go_round
                  case rel => exact ⟨q + 1, by omega, by go_num⟩
                  case measure => simp [intOf]; omega
                · have hb0 : (bits .and .i64 (c : Int) (s : Int) != 0) = true := by rw [hand, h0]; simpa using hcz
                  clear hand h0 hmem hn0 hcz
                  go_wp2
                  go_round
                  case rel => exact ⟨q + 1, by omega, by go_num⟩
                  case measure => simp [intOf]; omega
            · have hq' : q = nz := by omega
              subst hq'
              go_wp2
              go_roundw
              case rel => exact ⟨k + 1, by omega, by go_num, T10.out⟩
              case measure => simp [intOf]; omega
        · have hk' : k = J.length := by omega
          subst hk'
          go_wp2
          go_ret
          exact ⟨rfl, pow_below B9.out HBj.out⟩
end Go.Proofs.Ytlacohjecehpiaa.Part
