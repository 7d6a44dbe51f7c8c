/-
  PermutationMoves answers true, at whatever can be read.
-/
import Derived.Test.YtpdlnijdcgcfbabDoorEvBGroupWalk
import Derived.Test.YtpdlnijdcgcfbabDoorEvBSorted
namespace Go.Proofs.YtpdlnijdcgcfbabDoor.Perm
open Go Go.Ev Go.RowKit Go.Perm Go.Law
open Go.Proofs.YtpdlnijdcgcfbabDoor.Col (ret_int ret_bool ret_two)
open Go.Proofs.YtpdlnijdcgcfbabDoor.Ev
open Go.Proofs.YtpdlnijdcgcfbabDoor.Iter (asc asc_len' values_call sorted_call ones)

theorem two_cells (w : World) (a b : Value) (t : TypeId) : ∀ j, j < 2 → (w.alloc (.cells #[a, b] t)).cell? ⟨w.heap.size, j, none⟩ = some ([a, b].getD j undef) := by
  intro j hj
  rw [World.cell?_alloc_at _ _ _ _ rfl]
  match j, hj with
  | 0, _ => rfl
  | 1, _ => rfl
theorem two_ints {w : World} {a b : Value} {x y : List Int} (h1 : IntsAt w .i64 a x) (h2 : IntsAt w .i64 b y) : ∀ j, j < 2 → IntsAt w .i64 ([a, b].getD j undef) ([x, y].getD j []) := by
  intro j hj
  match j, hj with
  | 0, _ => exact h1
  | 1, _ => exact h2
set_option maxHeartbeats 1000000 in
theorem moves_no (a a1 : Option Addr) (cap cap1 : Nat) (x y : List Int) (s : Int) {W : World} {e0 e1 e2 : TypeId} (H : Held W (tabs e0 e1 e2)) (h1 : IntsAt W .i64 (.slice a x.length cap) x) (h2 : IntsAt W .i64 (.slice a1 y.length cap1) y)
    (hg : [x, y].all (good x.length) = false) : Calls Tryd.prog 4 #[.slice a x.length cap, .slice a1 y.length cap1, .int .u8 s] W fun e w' => e = .returned (.bool true) ∧ Below W.heap.size W w' := by
  have HH := Lib.hid H
  have HG := Lib.hid hg
  have HR := Lib.hid (right_any W.heap.size [.slice a x.length cap, .slice a1 y.length cap1] [x, y] 2 x.length _ rfl (by omega) (by omega) (two_cells W _ _ 22) (two_ints (h1.below (below_alloc _ _)) (h2.below (below_alloc _ _))) rfl)
  clear H hg h1 h2
  generalize x.length = n at *
  go_enter Tryd.func4, Tryd.ntmps4
  go_wp2_with fail
  refine (HR.out).mono ?_
  rintro e w1 ⟨rfl, m, rfl⟩
  rw [HG.out]
  go_wp2_with fail
  have HB := Lib.hid ((below_drewN (below_alloc W (.cells #[.slice a n cap, .slice a1 y.length cap1] 22)) m))
  refine (awake (HH.out.below HB.out)).mono ?_
  rintro e w2 ⟨rfl, hb2⟩
  have HB2 := Lib.hid (HB.out.trans (hb2.mono HB.out.size))
  clear hb2
  go_wp2
  go_ret
  exact ⟨rfl, HB2.out⟩
/-- What the law's calls give. -/
structure Mv (x y LC LM LN V0 : List Int) (S X1 Z1 n : Nat) : Prop where
  co : ∀ (W : World) (va vb : Value), IntsAt W .i64 va x → IntsAt W .i64 vb y → Calls Tryd.prog 9 #[va, vb] W (VecPost LC 0 W)
  sb : ∀ (W : World) (vb : Value), IntsAt W .i64 vb y → Calls Tryd.prog 14 #[vb, .int .i64 S] W fun e w' => e = .returned (.tuple #[.int .i64 X1, .int .i64 0]) ∧ W = w'
  sa : ∀ (W : World) (va : Value), IntsAt W .i64 va x → Calls Tryd.prog 14 #[va, .int .i64 X1] W fun e w' => e = .returned (.tuple #[.int .i64 Z1, .int .i64 0]) ∧ W = w'
  so : ∀ (W : World) (vc : Value), IntsAt W .i64 vc LC → Calls Tryd.prog 14 #[vc, .int .i64 S] W fun e w' => e = .returned (.tuple #[.int .i64 Z1, .int .i64 0]) ∧ W = w'
  vb : ∀ (W : World) (vb vv : Value), IntsAt W .i64 vb y → IntsAt W .i64 vv V0 → Calls Tryd.prog 15 #[vb, vv] W (VecPost LM 0 W)
  va : ∀ (W : World) (va vm : Value), IntsAt W .i64 va x → IntsAt W .i64 vm LM → Calls Tryd.prog 15 #[va, vm] W (VecPost LN 0 W)
  vo : ∀ (W : World) (vc vv : Value), IntsAt W .i64 vc LC → IntsAt W .i64 vv V0 → Calls Tryd.prog 15 #[vc, vv] W (VecPost LN 0 W)
  pz : pop Z1 = pop S
  z32 : Z1 < 32
  s32 : S < 32
  asq : asc LN = asc V0
  ln : LN.length = n
  lv : V0.length = n
theorem set_fact {zs : List Int} {S : Nat} (hz : check zs = 0) (hS : S < 2 ^ zs.length) (W : World) (v : Value) (h : IntsAt W .i64 v zs) : Calls Tryd.prog 14 #[v, .int .i64 S] W fun e w' => e = .returned (.tuple #[.int .i64 (img S zs 0 0 : Nat), .int .i64 0]) ∧ W = w' := by
  have := set_ints h (S : Int)
  unfold setR at this
  have hlt : ¬ ((S : Int) < 0 ∨ 2 ^ zs.length ≤ (S : Int)) := by
    have : (S : Int) < 2 ^ zs.length := by exact_mod_cast hS
    omega
  rw [if_neg (by omega), if_neg hlt, Int.toNat_natCast] at this
  exact this
theorem vec_fact {zs vs : List Int} (hz : check zs = 0) (hl : vs.length = zs.length) (W : World) (v u : Value) (h : IntsAt W .i64 v zs) (g : IntsAt W .i64 u vs) : Calls Tryd.prog 15 #[v, u] W (VecPost (mv zs vs zs.length) 0 W) := by
  have := vec_ints h g
  unfold vecR at this
  rw [if_neg (by omega), if_neg (by omega)] at this
  exact this
theorem mv_of {x y : List Int} (hx : check x = 0) (hy : check y = 0) (hl : y.length = x.length) (s : Nat) :
    Mv x y (comp x y) (mv y (vv s x.length) x.length) (mv x (mv y (vv s x.length) x.length) x.length) (vv s x.length) (s % 2 ^ x.length) (img (s % 2 ^ x.length) y 0 0) (img (s % 2 ^ x.length) (comp x y) 0 0) x.length := by
  obtain ⟨h1, h5, _, _⟩ := check_ok hx
  have hc := comp_ok hx hy hl
  have lc : (comp x y).length = x.length := by rw [comp_length, hl]
  have hS : s % 2 ^ x.length < 2 ^ x.length := Nat.mod_lt _ (Nat.pow_pos (by omega))
  have h32 : 2 ^ x.length ≤ 2 ^ 5 := Nat.pow_le_pow_right (by omega) h5
  have py := img_pop hy (s := s % 2 ^ x.length) (by rw [hl]; exact hS)
  have pc := img_pop hc (s := s % 2 ^ x.length) (by rw [lc]; exact hS)
  have lv := vv_len s x.length
  have hm : mv x (mv y (vv s x.length) x.length) x.length = mv (comp x y) (vv s x.length) x.length := by
    have := mv_mv hx hy hl lv
    rw [hl, lc] at this
    exact this
  have p1 : (mv y (vv s x.length) x.length).Perm (vv s x.length) := by
    have := mv_perm hy (v := vv s x.length) (by omega)
    rwa [hl] at this
  have p2 : (mv x (mv y (vv s x.length) x.length) x.length).Perm (mv y (vv s x.length) x.length) := mv_perm hx (by rw [mv_length]; exact lv)
  refine ⟨fun W va vb ha hb => compose2 ha hb hx hy hl, fun W vb hb => set_fact hy (by rw [hl]; exact hS) W vb hb, fun W va ha => ?_, fun W vc hc' => set_fact hc (by rw [lc]; exact hS) W vc hc', fun W vb vv' hb hv => ?_, fun W va vm ha hm' => ?_, fun W vc vv' hc' hv => ?_, pc.1, Nat.lt_of_lt_of_le pc.2 (by rw [lc]; exact h32), Nat.lt_of_lt_of_le hS h32, asc_eq (p2.trans p1), by rw [mv_length, mv_length]; exact lv, lv⟩
  · have := set_fact hx (S := img (s % 2 ^ x.length) y 0 0) (by rw [hl] at py; exact py.2) W va ha
    rw [img_img hx hy hl] at this
    exact this
  · have := vec_fact hy (by omega) W vb vv' hb hv
    rwa [hl] at this
  · exact vec_fact hx (by rw [mv_length]; exact lv) W va vm ha hm'
  · have := vec_fact hc (by rw [lc]; exact lv) W vc vv' hc' hv
    rw [lc] at this
    rw [hm]; exact this
theorem five {n : Nat} (h : 1 ≤ n) (h' : n ≤ 5) : n = 1 ∨ n = 2 ∨ n = 3 ∨ n = 4 ∨ n = 5 := by omega
theorem usm (q : Nat) (h : q < 256) : IntKind.u64.wrap (q : Int) = q := IntWalk.u64_in _ (by omega)
theorem ism (q : Nat) (h : q < 256) : IntKind.i64.wrap (q : Int) = q := IntWalk.i64_in _ (by omega)
theorem wsm (q : Nat) (h : q < 256) : wrap64 (q : Int) = q := by unfold wrap64; omega
theorem seed_bits : ∀ s : Nat, s < 256 → ∀ k : Nat, k < 5 → bits .and .i64 ((s : Int) / 2 ^ k) 3 = ((s / 2 ^ k % 4 : Nat) : Int) := by decide +kernel
set_option maxHeartbeats 4000000 in
set_option maxRecDepth 100000 in
theorem moves_yes (a a1 : Option Addr) (cap cap1 n : Nat) (x y LC LM LN V0 : List Int) (s S X1 Z1 : Nat) (hs : s < 256) (hS : S = s % 2 ^ n) (hV : V0 = vv s n) {W : World} {e0 e1 e2 : TypeId} (H : Held W (tabs e0 e1 e2)) (h1 : IntsAt W .i64 (.slice a n cap) x) (h2 : IntsAt W .i64 (.slice a1 n cap1) y)
    (hx : x.length = n) (hy : y.length = n) (hn1 : 1 ≤ n) (hn5 : n ≤ 5) (hm : Mv x y LC LM LN V0 S X1 Z1 n) (hg : [x, y].all (good n) = true) : Calls Tryd.prog 4 #[.slice a n cap, .slice a1 n cap1, .int .u8 s] W fun e w' => e = .returned (.bool true) ∧ Below W.heap.size W w' := by
  have HH := Lib.hid H
  have HG := Lib.hid hg
  have HM := Lib.hid hm
  have HV := Lib.hid hV
  have Ia0 := Lib.hid h1
  have Ib0 := Lib.hid h2
  have HR := Lib.hid (right_any W.heap.size [.slice a n cap, .slice a1 n cap1] [x, y] 2 n _ rfl (by omega) (by omega) (two_cells W _ _ 22) (two_ints (h1.below (below_alloc _ _)) (h2.below (below_alloc _ _))) (by simpa using hx))
  have HSB := Lib.hid (seed_bits s hs)
  have hp0 : 0 < 2 ^ n := Nat.pow_pos (by omega)
  have hp5 : 2 ^ n ≤ 2 ^ 5 := Nat.pow_le_pow_right (by omega) hn5
  have HS := Lib.hid hS
  have hw : wrap64 ((2 : Int) ^ n) = 2 ^ n := by rcases five hn1 hn5 with rfl | rfl | rfl | rfl | rfl <;> decide +kernel
  have hw0 : (2 : Int) ^ n ≠ 0 := by rcases five hn1 hn5 with rfl | rfl | rfl | rfl | rfl <;> decide
  have hw1 : ((2 : Int) ^ n == 0) = false := by simpa using hw0
  have hr : ((s : Int)).tmod ((2 : Int) ^ n) = (S : Int) := by subst hS; rw [show ((2 : Int) ^ n) = ((2 ^ n : Nat) : Int) by push_cast; rfl]; rfl
  have HN0 : Hid (∀ w : World, w.ownsRow w.heap.size 3 1 (.slice none 0 0) (vv s 0).length ((vv s 0).map (Value.int .i64))) := Lib.hid fun _ => ⟨rfl, .inl ⟨rfl, rfl⟩⟩
  have hs1 : wrap64 (s : Int) = s := wsm s hs
  have hs2 : IntKind.i64.wrap (s : Int) = s := ism s hs
  have hz1 : IntKind.u64.wrap (Z1 : Int) = Z1 := usm Z1 (Nat.lt_trans hm.z32 (by decide))
  have hz2 : IntKind.u64.wrap (S : Int) = S := usm S (Nat.lt_trans hm.s32 (by decide))
  have hsw : wrap64 (S : Int) = S := wsm S (Nat.lt_trans hm.s32 (by decide))
  obtain ⟨i0, hi0, hy0, hy1, hy2⟩ := info_parts info3
  clear H hg hm hV h1 h2 hx hy hS
  go_enter Tryd.func4, Tryd.ntmps4
  go_wp2_with fail
  refine (HR.out).mono ?_
  rintro e w1 ⟨rfl, m, rfl⟩
  rw [HG.out]
  have B1 := Lib.hid ((below_drewN (below_alloc W (.cells #[.slice a n cap, .slice a1 n cap1] 22)) m))
  have Ia1 := Lib.hid (Ia0.out.below B1.out)
  have Ib1 := Lib.hid (Ib0.out.below B1.out)
  generalize World.drewN (World.alloc W _) m = w1 at *
  clear HR Ia0 Ib0
  go_wp2_with fail
  go_loopw [8, 39] (fun v i wr => ∃ k : Nat, k ≤ n ∧ i = .int .i64 k ∧ Below w1.heap.size w1 wr ∧ wr.ownsRow w1.heap.size 3 1 v (vv s k).length ((vv s k).map (Value.int .i64))) (fun _ i _ => n - (intOf i).toNat)
  case atStart => exact ⟨0, Nat.zero_le _, rfl, Below.refl _ _, HN0.out _⟩
  case round =>
    obtain ⟨k, hk, rfl, hbl, hown⟩ := hrel
    have HBL := Lib.hid hbl
    by_cases hlt : k < n
    · have hbk := HSB.out k (by omega)
      have HT := Lib.hid (vv_succ s k)
      have HL1 := Lib.hid (vv_len s (k + 1))
      rw [vv_len] at hown
      have HOW := Lib.hid hown
      clear hown hbl
      go_wp2_with (at_builtin; refine wpList_append_own _ rfl _ _ 22 rfl w1.heap.size 3 i0 (.int .i64 0) 1 8 Tryd.underlying22 hi0 hy0 hy1 hy2 rfl (by decide) _ _ _ rfl (HOW.out.alloc _) ⟨wr.heap.size, 0, none⟩ 1 1 [.int .i64 ((s / 2 ^ k % 4 : Nat) : Int)] rfl rfl (cell_one_new _ _ _) (fun x hx => by simp at hx; subst hx; rfl) (by unfold maxLen; omega) (by omega) (by have := HBL.out.size; simp; omega) ?_; intro v' w2 hown' hgrow _; have HO1 := Lib.hid hown'; have HG1 := Lib.hid hgrow; clear hown' hgrow)
      go_roundw
      case rel =>
        rw [hw]
        refine ⟨_, _, _, _, _, _, _, _, _, _, _, _, _, _, ?_, rfl⟩
        exact ⟨k + 1, by omega, by go_num, (HBL.out.alloc HBL.out.size _).grown HG1.out (by have := HBL.out.size; simp; omega) (own_block HOW.out), by rw [HL1.out, HT.out, List.map_append]; exact HO1.out⟩
      case measure => simp [intOf]; omega
    · have hk' : n = k := by omega
      subst hk'
      have HVI := Lib.hid (own_row hown)
      have B2 := Lib.hid (B1.out.trans (hbl.mono B1.out.size))
      have Ia2 := Lib.hid (Ia1.out.below hbl)
      have Ib2 := Lib.hid (Ib1.out.below hbl)
      clear hown hbl Ia1 Ib1
      have Iv2 : Hid (IntsAt wr .i64 u8 V0) := Lib.hid (by rw [HV.out]; exact HVI.out)
      clear HVI
      obtain ⟨av, capv, rfl, -, -, -⟩ := Iv2.out
      go_wp2_with fail
      refine (HM.out.co _ _ _ Ia2.out Ib2.out).mono ?_
      rintro e w3 ⟨vab, rfl, hb, hi⟩
      have Ia3 := Lib.hid (Ia2.out.below hb)
      have Ib3 := Lib.hid (Ib2.out.below hb)
      have Iv3 := Lib.hid (Iv2.out.below hb)
      have B3 := Lib.hid (B2.out.trans (hb.mono B2.out.size))
      have Iab3 := Lib.hid hi
      clear hb hi Ia2 Ib2 Iv2 B2
      go_wp2_with fail
      refine (HM.out.sb _ _ Ib3.out).mono ?_
      rintro e w9 ⟨rfl, rfl⟩
      go_wp2_with fail
      refine (HM.out.sa _ _ Ia3.out).mono ?_
      rintro e w9 ⟨rfl, rfl⟩
      go_wp2_with fail
      refine (HM.out.so _ _ Iab3.out).mono ?_
      rintro e w9 ⟨rfl, rfl⟩
      go_wp2_with fail
      refine (HM.out.vb _ _ _ Ib3.out Iv3.out).mono ?_
      rintro e w4 ⟨vm, rfl, hb, hi⟩
      have Ia4 := Lib.hid (Ia3.out.below hb)
      have Ib4 := Lib.hid (Ib3.out.below hb)
      have Iv4 := Lib.hid (Iv3.out.below hb)
      have Iab4 := Lib.hid (Iab3.out.below hb)
      have B4 := Lib.hid (B3.out.trans (hb.mono B3.out.size))
      have Im4 := Lib.hid hi
      clear hb hi Ia3 Ib3 Iv3 Iab3 B3
      go_wp2_with fail
      refine (HM.out.va _ _ _ Ia4.out Im4.out).mono ?_
      rintro e w5 ⟨vn, rfl, hb, hi⟩
      have Ia5 := Lib.hid (Ia4.out.below hb)
      have Ib5 := Lib.hid (Ib4.out.below hb)
      have Iv5 := Lib.hid (Iv4.out.below hb)
      have Iab5 := Lib.hid (Iab4.out.below hb)
      have Im5 := Lib.hid (Im4.out.below hb)
      have B5 := Lib.hid (B4.out.trans (hb.mono B4.out.size))
      have In5 := Lib.hid hi
      clear hb hi Ia4 Ib4 Iv4 Iab4 Im4 B4
      obtain ⟨an, capn, rfl, -, -, -⟩ := In5.out
      go_wp2_with fail
      refine (HM.out.vo _ _ _ Iab5.out Iv5.out).mono ?_
      rintro e w6 ⟨vo, rfl, hb, hi⟩
      have Ia6 := Lib.hid (Ia5.out.below hb)
      have Ib6 := Lib.hid (Ib5.out.below hb)
      have Iv6 := Lib.hid (Iv5.out.below hb)
      have Iab6 := Lib.hid (Iab5.out.below hb)
      have Im6 := Lib.hid (Im5.out.below hb)
      have In6 := Lib.hid (In5.out.below hb)
      have B6 := Lib.hid (B5.out.trans (hb.mono B5.out.size))
      have Io6 := Lib.hid hi
      clear hb hi Ia5 Ib5 Iv5 Iab5 Im5 In5 B5
      go_wp2_with fail
      refine (values_call _ _ _ _).mono ?_
      rintro e w9 ⟨rfl, rfl⟩
      have hb := below_alloc w6 (.cells #[.slice an LN.length capn] 22)
      have Ia7 := Lib.hid (Ia6.out.below hb)
      have Ib7 := Lib.hid (Ib6.out.below hb)
      have Iv7 := Lib.hid (Iv6.out.below hb)
      have Iab7 := Lib.hid (Iab6.out.below hb)
      have Im7 := Lib.hid (Im6.out.below hb)
      have In7 := Lib.hid (In6.out.below hb)
      have Io7 := Lib.hid (Io6.out.below hb)
      have B7 := Lib.hid (B6.out.trans (hb.mono B6.out.size))
      clear hb Ia6 Ib6 Iv6 Iab6 Im6 In6 Io6 B6
      go_wp2_with fail
      refine (sorted_call (by rw [HM.out.ln]; omega) (by rw [HM.out.ln]; omega) (by simp) (World.cell?_alloc_at _ _ _ _ rfl) In7.out).mono ?_
      rintro e w8 ⟨vs, rfl, hb, hi⟩
      have Ia8 := Lib.hid (Ia7.out.below hb)
      have Ib8 := Lib.hid (Ib7.out.below hb)
      have Iv8 := Lib.hid (Iv7.out.below hb)
      have Iab8 := Lib.hid (Iab7.out.below hb)
      have Im8 := Lib.hid (Im7.out.below hb)
      have In8 := Lib.hid (In7.out.below hb)
      have Io8 := Lib.hid (Io7.out.below hb)
      have B8 := Lib.hid (B7.out.trans (hb.mono B7.out.size))
      have Is8 := Lib.hid hi
      clear hb hi Ia7 Ib7 Iv7 Iab7 Im7 In7 Io7 B7
      go_wp2_with fail
      refine (awake (HH.out.below B8.out)).mono ?_
      rintro e w9 ⟨rfl, hb⟩
      have Ia9 := Lib.hid (Ia8.out.below hb)
      have Ib9 := Lib.hid (Ib8.out.below hb)
      have Iv9 := Lib.hid (Iv8.out.below hb)
      have Iab9 := Lib.hid (Iab8.out.below hb)
      have Im9 := Lib.hid (Im8.out.below hb)
      have In9 := Lib.hid (In8.out.below hb)
      have Io9 := Lib.hid (Io8.out.below hb)
      have Is9 := Lib.hid (Is8.out.below hb)
      have B9 := Lib.hid (B8.out.trans (hb.mono B8.out.size))
      clear hb Ia8 Ib8 Iv8 Iab8 Im8 In8 Io8 Is8 B8
      go_wp2_with fail
      refine (equal_same In9.out Io9.out).mono ?_
      rintro e w9 ⟨rfl, m2, rfl⟩
      have hb := below_drewN (Below.refl w9.heap.size w9) m2
      have Ia10 := Lib.hid (Ia9.out.below hb)
      have Ib10 := Lib.hid (Ib9.out.below hb)
      have Iv10 := Lib.hid (Iv9.out.below hb)
      have Iab10 := Lib.hid (Iab9.out.below hb)
      have Im10 := Lib.hid (Im9.out.below hb)
      have In10 := Lib.hid (In9.out.below hb)
      have Io10 := Lib.hid (Io9.out.below hb)
      have Is10 := Lib.hid (Is9.out.below hb)
      have B10 := Lib.hid (B9.out.trans (hb.mono B9.out.size))
      clear hb Ia9 Ib9 Iv9 Iab9 Im9 In9 Io9 Is9 B9
      have H1 := Lib.hid (ones (HH.out.below B10.out) Z1 HM.out.z32)
      rw [HM.out.pz] at H1
      go_wp2_with fail
      refine (H1.out).mono ?_
      rintro e w11 ⟨rfl, hb⟩
      clear H1
      have Ia11 := Lib.hid (Ia10.out.below hb)
      have Ib11 := Lib.hid (Ib10.out.below hb)
      have Iv11 := Lib.hid (Iv10.out.below hb)
      have Iab11 := Lib.hid (Iab10.out.below hb)
      have Im11 := Lib.hid (Im10.out.below hb)
      have In11 := Lib.hid (In10.out.below hb)
      have Io11 := Lib.hid (Io10.out.below hb)
      have Is11 := Lib.hid (Is10.out.below hb)
      have B11 := Lib.hid (B10.out.trans (hb.mono B10.out.size))
      clear hb Ia10 Ib10 Iv10 Iab10 Im10 In10 Io10 Is10 B10
      have H1 := Lib.hid (ones (HH.out.below B11.out) S HM.out.s32)
      go_wp2_with fail
      refine (H1.out).mono ?_
      rintro e w12 ⟨rfl, hb⟩
      clear H1
      have Ia12 := Lib.hid (Ia11.out.below hb)
      have Ib12 := Lib.hid (Ib11.out.below hb)
      have Iv12 := Lib.hid (Iv11.out.below hb)
      have Iab12 := Lib.hid (Iab11.out.below hb)
      have Im12 := Lib.hid (Im11.out.below hb)
      have In12 := Lib.hid (In11.out.below hb)
      have Io12 := Lib.hid (Io11.out.below hb)
      have Is12 := Lib.hid (Is11.out.below hb)
      have B12 := Lib.hid (B11.out.trans (hb.mono B11.out.size))
      clear hb Ia11 Ib11 Iv11 Iab11 Im11 In11 Io11 Is11 B11
      go_wp2_with fail
      refine (values_call _ _ _ _).mono ?_
      rintro e w9 ⟨rfl, rfl⟩
      have hb := below_alloc w12 (.cells #[.slice av V0.length capv] 22)
      have Ia13 := Lib.hid (Ia12.out.below hb)
      have Ib13 := Lib.hid (Ib12.out.below hb)
      have Iv13 := Lib.hid (Iv12.out.below hb)
      have Iab13 := Lib.hid (Iab12.out.below hb)
      have Im13 := Lib.hid (Im12.out.below hb)
      have In13 := Lib.hid (In12.out.below hb)
      have Io13 := Lib.hid (Io12.out.below hb)
      have Is13 := Lib.hid (Is12.out.below hb)
      have B13 := Lib.hid (B12.out.trans (hb.mono B12.out.size))
      clear hb Ia12 Ib12 Iv12 Iab12 Im12 In12 Io12 Is12 B12
      go_wp2_with fail
      refine (sorted_call (by rw [HM.out.lv]; omega) (by rw [HM.out.lv]; omega) (by simp) (World.cell?_alloc_at _ _ _ _ rfl) Iv13.out).mono ?_
      rintro e w14 ⟨vt, rfl, hb, hi⟩
      have Ia14 := Lib.hid (Ia13.out.below hb)
      have Ib14 := Lib.hid (Ib13.out.below hb)
      have Iv14 := Lib.hid (Iv13.out.below hb)
      have Iab14 := Lib.hid (Iab13.out.below hb)
      have Im14 := Lib.hid (Im13.out.below hb)
      have In14 := Lib.hid (In13.out.below hb)
      have Io14 := Lib.hid (Io13.out.below hb)
      have Is14 := Lib.hid (Is13.out.below hb)
      have B14 := Lib.hid (B13.out.trans (hb.mono B13.out.size))
      have It14 := Lib.hid hi
      clear hb hi Ia13 Ib13 Iv13 Iab13 Im13 In13 Io13 Is13 B13
      go_wp2_with fail
      refine (equal_yes Is14.out It14.out HM.out.asq).mono ?_
      rintro e w9 ⟨rfl, m3, rfl⟩
      have hb := below_drewN (Below.refl w14.heap.size w14) m3
      have Ia15 := Lib.hid (Ia14.out.below hb)
      have Ib15 := Lib.hid (Ib14.out.below hb)
      have Iv15 := Lib.hid (Iv14.out.below hb)
      have Iab15 := Lib.hid (Iab14.out.below hb)
      have Im15 := Lib.hid (Im14.out.below hb)
      have In15 := Lib.hid (In14.out.below hb)
      have Io15 := Lib.hid (Io14.out.below hb)
      have Is15 := Lib.hid (Is14.out.below hb)
      have It15 := Lib.hid (It14.out.below hb)
      have B15 := Lib.hid (B14.out.trans (hb.mono B14.out.size))
      clear hb Ia14 Ib14 Iv14 Iab14 Im14 In14 Io14 Is14 It14 B14
      go_wp2
      go_ret
      exact ⟨rfl, B15.out⟩
theorem byte_of (n : Int) (h : (Lit.int .u8 n).wf = true) : ∃ x : Nat, n = (x : Int) ∧ x < 256 := by
  have e1 : IntKind.u8.min = 0 := by decide
  have e2 : IntKind.u8.max = 255 := by decide
  simp [Lit.wf, e1, e2] at h
  exact ⟨n.toNat, by omega, by omega⟩
theorem moves_any {W : World} {e0 e1 e2 : TypeId} (H : Held W (tabs e0 e1 e2)) {t u : Value} {x y : List Int} (h1 : IntsAt W .i64 t x) (h2 : IntsAt W .i64 u y) (q : Int) (hq : (Lit.int .u8 q).wf = true) :
    Calls Tryd.prog 4 #[t, u, .int .u8 q] W fun e w' => e = .returned (.bool true) ∧ Below W.heap.size W w' := by
  obtain ⟨s, rfl, hs⟩ := byte_of q hq
  have h1' := h1
  have h2' := h2
  obtain ⟨a, cap, rfl, _⟩ := h1'
  obtain ⟨a1, cap1, rfl, _⟩ := h2'
  cases hg : [x, y].all (good x.length) with
  | false => exact moves_no a a1 cap cap1 x y s H h1 h2 hg
  | true =>
    have hg' := hg
    simp only [List.all_cons, List.all_nil, good, Bool.and_true, Bool.and_eq_true, beq_iff_eq] at hg'
    obtain ⟨⟨k1, _⟩, k2, l2⟩ := hg'
    obtain ⟨ok1, ok5, _, _⟩ := check_ok k1
    rw [l2] at h2 ⊢
    exact moves_yes a a1 cap cap1 x.length x y _ _ _ _ s _ _ _ hs rfl rfl H h1 h2 rfl l2 ok1 ok5 (mv_of k1 k2 l2 s) hg
end Go.Proofs.YtpdlnijdcgcfbabDoor.Perm
