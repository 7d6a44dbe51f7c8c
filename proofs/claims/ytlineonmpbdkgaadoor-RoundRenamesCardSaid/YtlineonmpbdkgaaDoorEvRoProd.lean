/-
  Products of words: the mathematics, and the graph without edges.
-/
import Derived.Test.YtlineonmpbdkgaaDoorEvRoPermutes
import Derived.Test.YtlineonmpbdkgaaDoorEvU
import Derived.Test.YtlineonmpbdkgaaDoorEvRoRObliged
import Derived.Test.YtlineonmpbdkgaaDoorEvRoGRefProd
import Derived.Test.YtlineonmpbdkgaaDoorEvRoGRenRef
namespace Go.Proofs.YtlineonmpbdkgaaDoor.Graph
open Go Go.RowKit Go.Graph Go.Law Go.Ev
open Go.Proofs.YtlineonmpbdkgaaDoor.Col
open Go.Proofs.YtlineonmpbdkgaaDoor.Ev (tabs Len awake)
open Go.Proofs.YtlineonmpbdkgaaDoor.Perm (Quiet check_ints rcheck_ints set_ints setR image_any)

theorem rcheck_zero {n f : Int} {r0 r1 r2 r3 r4 : Int} (h : rcheck n [r0, r1, r2, r3, r4] f = 0) : ∃ (k q : Nat) (a : Nat → Nat), WF k a ∧ n = k ∧ r0 = a 0 ∧ r1 = a 1 ∧ r2 = a 2 ∧ r3 = a 3 ∧ r4 = a 4 ∧ f = q ∧ q < 2 ^ k := by
  unfold rcheck at h
  by_cases hc : check n [r0, r1, r2, r3, r4] = 0
  · rw [if_neg (by omega)] at h
    obtain ⟨h1, h5⟩ := check_size hc
    obtain ⟨k, rfl⟩ := Int.eq_ofNat_of_zero_le (show 0 ≤ n by omega)
    unfold check at hc
    rw [if_neg (by omega), Int.toNat_natCast] at hc
    obtain ⟨a, ha, e0, e1, e2, e3, e4⟩ := wf_of (by omega) (by omega) hc
    rw [Int.toNat_natCast] at h
    by_cases hf : f < 0 ∨ ((2 ^ k : Nat) : Int) ≤ f
    · rw [if_pos hf] at h; omega
    · obtain ⟨q, rfl⟩ := Int.eq_ofNat_of_zero_le (show 0 ≤ f by omega)
      exact ⟨k, q, a, ha, rfl, e0, e1, e2, e3, e4, rfl, by omega⟩
  · rw [if_pos hc] at h; exact absurd h hc
theorem ints_form {W : World} {p : Option Addr} {n cap : Nat} {zs : List Int} (h : IntsAt W .i64 (.slice p n cap) zs) (h0 : 0 < zs.length) : ∃ b off, p = some ⟨b, off, none⟩ ∧ zs.length = n ∧ n ≤ cap ∧ b < W.heap.size ∧ At W b off zs := by
  obtain ⟨a', cap', e, h1, _, h3⟩ := h
  cases e
  rcases h3 with rfl | ⟨b, off, rfl, hb, hc⟩
  · simp at h0
  · exact ⟨b, off, rfl, rfl, h1, hb, hc⟩
/-- What both give. -/
theorem permutes_any (n r0 r1 r2 r3 r4 f : Int) (p : Option Addr) (len cap : Nat) (zs : List Int) (hz : zs.length = len) : ∃ c0 c1 c2 c3 c4 c5 c6 e : Int,
    (∀ w : World, IntsAt w .i64 (.slice p len cap) zs → Calls Tryd.prog 14 #[.agg #[.int .i64 n, .int .i64 r0, .int .i64 r1, .int .i64 r2, .int .i64 r3, .int .i64 r4, .int .i64 f], .slice p len cap] w fun x w' => x = .returned (pair7 c0 c1 c2 c3 c4 c5 c6 e) ∧ Below w.heap.size w w') ∧
    (∀ w : World, IntsAt w .i64 (.slice p len cap) zs → Calls Tryd.prog 15 #[.agg #[.int .i64 n, .int .i64 r0, .int .i64 r1, .int .i64 r2, .int .i64 r3, .int .i64 r4, .int .i64 f], .slice p len cap] w fun x w' => x = .returned (pair7 c0 c1 c2 c3 c4 c5 c6 e) ∧ Below w.heap.size w w') := by
  have h9 := round_check n r0 r1 r2 r3 r4 f
  have h10 := rround_check n r0 r1 r2 r3 r4 f
  by_cases hc : rcheck n [r0, r1, r2, r3, r4] f = 0
  · rw [hc] at h9 h10
    obtain ⟨k, q, a, ha, rfl, rfl, rfl, rfl, rfl, rfl, rfl, hq⟩ := rcheck_zero hc
    have HK := fun (w : World) (h : IntsAt w .i64 (.slice p len cap) zs) => check_ints h
    have HR := fun (w : World) (h : IntsAt w .i64 (.slice p len cap) zs) => rcheck_ints h
    by_cases hk : Go.Perm.check zs = 0
    · rw [hk] at HK HR
      by_cases hl : len = k
      · subst hl
        obtain ⟨hp1, hp5, _, _⟩ := Go.Perm.check_ok hk
        refine ⟨len, (ren len a (idx zs) 0 : Nat), (ren len a (idx zs) 1 : Nat), (ren len a (idx zs) 2 : Nat), (ren len a (idx zs) 3 : Nat), (ren len a (idx zs) 4 : Nat), (Go.Perm.img q zs 0 0 : Nat), 0, fun w h => ?_, fun w h => ?_⟩
        · refine perm14_ok _ _ _ _ _ _ _ _ _ _ _ _ _ _ zs h9 (fun w h => ?_) (fun w h => ?_) w h
          · obtain ⟨b, off, rfl, e1, e2, e3, e4⟩ := ints_form h (by omega)
            refine permute_wf ha b off cap zs e1 hk e2 w e3 e4 fun w' h' => HK w' ?_
            obtain ⟨_, _, e, g1, g2, _⟩ := h
            cases e
            refine ⟨_, _, by rw [e1], by omega, g2, .inr ⟨b, off, rfl, h'.lt (by omega), h'⟩⟩
          · have := set_ints h (q : Int)
            unfold setR at this
            have hlt : ¬ ((q : Int) < 0 ∨ 2 ^ zs.length ≤ (q : Int)) := by
              rw [hz]
              have : (q : Int) < 2 ^ len := by exact_mod_cast hq
              omega
            rw [if_neg (by omega), if_neg hlt, Int.toNat_natCast] at this
            exact this
        · refine perm15_ok _ _ _ _ _ _ _ _ _ _ _ _ _ p len cap zs rfl h10 HR (fun w h => ?_) w h
          refine renamed46 _ _ _ _ _ _ _ _ _ _ _ _ _ _ zs (fun w h => ?_) (fun w h => ?_) w h
          · obtain ⟨b, off, rfl, e1, e2, e3, e4⟩ := ints_form h (by omega)
            exact renamed_wf ha b off cap zs e1 hk e2 w e3 e4
          · obtain ⟨b, off, rfl, e1, e2, e3, e4⟩ := ints_form h (by omega)
            exact image_any b off len cap zs q e1 hk e2 hq w e4
      · refine ⟨0, 0, 0, 0, 0, 0, 0, 22, fun w h => ?_, fun w h => ?_⟩
        · exact perm14_second _ _ _ _ _ _ _ 22 _ zs (by decide) h9 (fun w h => perm27_third ha p len cap zs hl HK w h) w h
        · exact perm15_third _ _ _ _ _ _ _ p len cap zs (by exact_mod_cast hl) h10 HR w h
    · refine ⟨0, 0, 0, 0, 0, 0, 0, Go.Perm.check zs, fun w h => ?_, fun w h => ?_⟩
      · exact perm14_second _ _ _ _ _ _ _ _ _ zs hk h9 (fun w h => perm27_second ha _ _ zs hk HK w h) w h
      · exact perm15_second _ _ _ _ _ _ _ _ _ zs hk h10 HR w h
  · refine ⟨0, 0, 0, 0, 0, 0, 0, rcheck n [r0, r1, r2, r3, r4] f, fun w h => ?_, fun w h => ?_⟩
    · exact perm14_first _ _ _ _ _ _ _ _ _ hc h9 w
    · exact perm15_first _ _ _ _ _ _ _ _ _ hc h10 w
set_option maxRecDepth 100000 in
set_option maxHeartbeats 2000000 in
theorem permutes_long {w : World} {e0 e1 : TypeId} (hH : Held w (tabs e0 e1)) (hM : Len w) (n r0 r1 r2 r3 r4 f : Int) (p : Option Addr) (len cap : Nat) (hl : 20 < len) :
    Calls Tryd.prog 4 #[.agg #[.int .i64 n, .int .i64 r0, .int .i64 r1, .int .i64 r2, .int .i64 r3, .int .i64 r4, .int .i64 f], .slice p len cap] w fun e w' => e = .returned (.bool true) ∧ Below w.heap.size w w' := by
  have h20 : (len : Int) > 20 := by omega
  have T0 := Lib.hid (below_alloc w (.cells #[.int .i64 n, .int .i64 r0, .int .i64 r1, .int .i64 r2, .int .i64 r3, .int .i64 r4, .int .i64 f] 26))
  have HA := Lib.hid (still_true hH hM T0.out)
  clear hH hM
  go_enter Tryd.func4, Tryd.ntmps4
  go_wp2_with (go_at_call 13; refine (HA.out).mono ?_; rintro e w1 ⟨rfl, hb1⟩; have T1 := Lib.hid (T0.out.trans (bel_le hb1 T0.out.size)))
  go_ret
  exact ⟨rfl, T1.out⟩
set_option maxRecDepth 100000 in
set_option maxHeartbeats 2000000 in
theorem permutes_short {w : World} {e0 e1 : TypeId} (hH : Held w (tabs e0 e1)) (hM : Len w) (n r0 r1 r2 r3 r4 f : Int) (p : Option Addr) (len cap : Nat) (zs : List Int) (hz : zs.length = len) (hl : ¬ 20 < len) (hi : IntsAt w .i64 (.slice p len cap) zs) :
    Calls Tryd.prog 4 #[.agg #[.int .i64 n, .int .i64 r0, .int .i64 r1, .int .i64 r2, .int .i64 r3, .int .i64 r4, .int .i64 f], .slice p len cap] w fun e w' => e = .returned (.bool true) ∧ Below w.heap.size w w' := by
  obtain ⟨c0, c1, c2, c3, c4, c5, c6, c, hp, hr⟩ := permutes_any n r0 r1 r2 r3 r4 f p len cap zs hz
  have HP := Lib.hid hp
  have HQ := Lib.hid hr
  unfold pair7 at HP HQ
  clear hp hr
  have HH := Lib.hid hH
  have HM := Lib.hid hM
  clear hH hM
  have h20 : ¬ (len : Int) > 20 := by omega
  have T0 := Lib.hid (below_alloc w (.cells #[.int .i64 n, .int .i64 r0, .int .i64 r1, .int .i64 r2, .int .i64 r3, .int .i64 r4, .int .i64 f] 26))
  have HI := Lib.hid (hi.below T0.out)
  clear hi
  have RA := Lib.hid (row7_new w n r0 r1 r2 r3 r4 f)
  have he9 := arr_known (r0 := c1) (r1 := c2) (r2 := c3) (r3 := c4) (r4 := c5) (s0 := c1) (s1 := c2) (s2 := c3) (s3 := c4) (s4 := c5) (d := true) (by simp) 9997
  have he8 := arr_known (r0 := c1) (r1 := c2) (r2 := c3) (r3 := c4) (r4 := c5) (s0 := c1) (s1 := c2) (s2 := c3) (s3 := c4) (s4 := c5) (d := true) (by simp) 9996
  have he7 := arr_known (r0 := c1) (r1 := c2) (r2 := c3) (r3 := c4) (r4 := c5) (s0 := c1) (s1 := c2) (s2 := c3) (s3 := c4) (s4 := c5) (d := true) (by simp) 9995
  go_enter Tryd.func4, Tryd.ntmps4
  go_wp2_with (first
    | (go_at_call 14; refine (HP.out _ HI.out).mono ?_; rintro e w1 ⟨rfl, hb1⟩; have T1 := Lib.hid (T0.out.trans (bel_le hb1 T0.out.size)); have T2 := Lib.hid (T1.out.alloc T1.out.size (.cells #[.int .i64 c0, .int .i64 c1, .int .i64 c2, .int .i64 c3, .int .i64 c4, .int .i64 c5, .int .i64 c6] 26)); have HI1 := Lib.hid ((HI.out.below hb1).below (below_alloc w1 (.cells #[.int .i64 c0, .int .i64 c1, .int .i64 c2, .int .i64 c3, .int .i64 c4, .int .i64 c5, .int .i64 c6] 26))); have RA1 := Lib.hid (row7_alloc (row7_below RA.out hb1) (.cells #[.int .i64 c0, .int .i64 c1, .int .i64 c2, .int .i64 c3, .int .i64 c4, .int .i64 c5, .int .i64 c6] 26)); have RC := Lib.hid (row7_new w1 c0 c1 c2 c3 c4 c5 c6); clear hb1; obtain ⟨p0, p1, p2, p3, p4, p5, p6⟩ := RA1.out)
    | (go_at_call 15; refine (HQ.out _ HI1.out).mono ?_; rintro e w2 ⟨rfl, hb2⟩; have T3 := Lib.hid (T2.out.trans (bel_le hb2 T2.out.size)); have T4 := Lib.hid (T3.out.alloc T3.out.size (.cells #[.int .i64 c0, .int .i64 c1, .int .i64 c2, .int .i64 c3, .int .i64 c4, .int .i64 c5, .int .i64 c6] 26)); have RC1 := Lib.hid (row7_alloc (row7_below RC.out hb2) (.cells #[.int .i64 c0, .int .i64 c1, .int .i64 c2, .int .i64 c3, .int .i64 c4, .int .i64 c5, .int .i64 c6] 26)); clear hb2; obtain ⟨u0, u1, u2, u3, u4, u5, u6⟩ := RC1.out)
    | (go_at_call 13; refine (still_true HH.out HM.out T4.out).mono ?_; rintro e w3 ⟨rfl, hb3⟩; have T5 := Lib.hid (T4.out.trans (bel_le hb3 T4.out.size)); clear hb3))
  go_ret
  exact ⟨rfl, T5.out⟩
theorem roundPermutes_walk {w : World} {e0 e1 : TypeId} (hH : Held w (tabs e0 e1)) (hM : Len w) (n r0 r1 r2 r3 r4 f : Int) {v : Value} {zs : List Int} (hi : IntsAt w .i64 v zs) :
    Calls Tryd.prog 4 #[.agg #[.int .i64 n, .int .i64 r0, .int .i64 r1, .int .i64 r2, .int .i64 r3, .int .i64 r4, .int .i64 f], v] w fun e w' => e = .returned (.bool true) ∧ Below w.heap.size w w' := by
  have hi' := hi
  obtain ⟨p, cap, rfl, _⟩ := hi'
  by_cases hl : 20 < zs.length
  · exact permutes_long hH hM n r0 r1 r2 r3 r4 f p _ cap hl
  · exact permutes_short hH hM n r0 r1 r2 r3 r4 f p _ cap zs rfl hl hi
end Go.Proofs.YtlineonmpbdkgaaDoor.Graph
namespace Go.Ev
open Go Go.RowKit

mutual
noncomputable def plainV : AV → Option Value
  | .bool b => some (.bool b)
  | .int k n => some (.int k n)
  | .str s => some (.string ⟨⟨s⟩⟩)
  | .agg cs => (plainVs cs).map fun l => .agg ⟨l⟩
  | .tup cs => (plainVs cs).map fun l => .tuple ⟨l⟩
  | _ => none
noncomputable def plainVs : List AV → Option (List Value)
  | [] => some []
  | a :: l => match plainV a, plainVs l with
    | some v, some vs => some (v :: vs)
    | _, _ => none
end
mutual
theorem VR.plain {c : Ctx} : ∀ {a : AV} {v : Value}, VR c a v → ∀ u, plainV a = some u → v = u
  | _, _, .bool b, u, h => by simpa [plainV] using h
  | _, _, .int k n, u, h => by simpa [plainV] using h
  | _, _, .str l, u, h => by simpa [plainV] using h
  | _, _, .agg (cs := cs) hs, u, h => by
    simp only [plainV, Option.map_eq_some_iff] at h
    obtain ⟨l, hl, rfl⟩ := h
    rw [VRs.plain hs l hl]
  | _, _, .tup (cs := cs) hs, u, h => by
    simp only [plainV, Option.map_eq_some_iff] at h
    obtain ⟨l, hl, rfl⟩ := h
    rw [VRs.plain hs l hl]
  | _, _, .nilp, _, h => by simp [plainV] at h
  | _, _, .ptr _ _, _, h => by simp [plainV] at h
  | _, _, .nils, _, h => by simp [plainV] at h
  | _, _, .esl _ _, _, h => by simp [plainV] at h
  | _, _, .slice _ _ _ _ _ _, _, h => by simp [plainV] at h
  | _, _, .nilm, _, h => by simp [plainV] at h
  | _, _, .map _, _, h => by simp [plainV] at h
  | _, _, .fn _ _ _, _, h => by simp [plainV] at h
  | _, _, .yld _, _, h => by simp [plainV] at h
  | _, _, .nilf, _, h => by simp [plainV] at h
  | _, _, .nili, _, h => by simp [plainV] at h
  | _, _, .iface _ _, _, h => by simp [plainV] at h
  | _, _, .unk _ _, _, h => by simp [plainV] at h
  | _, _, .big _ _, _, h => by simp [plainV] at h
  | _, _, .cong _ _ _, _, h => by simp [plainV] at h
theorem VRs.plain {c : Ctx} : ∀ {a : List AV} {v : List Value}, VRs c a v → ∀ u, plainVs a = some u → v = u
  | _, _, .nil, u, h => by simpa [plainVs] using h
  | a :: l, _, .cons h1 t, u, h => by
    cases ha : plainV a with
    | none => simp [plainVs, ha] at h
    | some x =>
      cases hb : plainVs l with
      | none => simp [plainVs, ha, hb] at h
      | some xs =>
        simp only [plainVs, ha, hb, Option.some.injEq] at h
        rw [← h, VR.plain h1 x ha, VRs.plain t xs hb]
end
noncomputable def outV : Option (AV × Hp) → Option Value
  | some (v, _) => plainV v
  | none => none
/-- A closed call's plain result. -/
theorem call_plain {C : Cfg} {w : World} (K : CfgOK C (Kp.low w.heap.size) w) {ts : List Tab} (hG : ∀ g r, C.glob g = some r → ∃ t, ts[r]? = some t ∧ t.blk = g) {d : Nat} {f : FuncId} {args : List AV} {args' : List Value} (hA : VRs (tabCtx ts) args args')
    {u : Value} (e : outV ((evRec C d).call f args (tabHp ts)) = some u) (H : Held w ts) :
    Calls C.P f ⟨args'⟩ w fun e w' => e = .returned u ∧ Below w.heap.size w w' := by
  cases hc : (evRec C d).call f args (tabHp ts) with
  | none => rw [hc] at e; cases e
  | some r =>
    obtain ⟨v, h'⟩ := r
    rw [hc] at e
    refine (call_held K hG hA hc H).mono fun ed w' ⟨c', x, he, hv, hb⟩ => ⟨?_, hb⟩
    rw [he, hv.plain u e]
#print axioms call_plain
end Go.Ev
namespace Go.Proofs.YtlineonmpbdkgaaDoor.Word
open Go Go.RowKit Go.Graph Go.Law
open Go.Proofs.YtlineonmpbdkgaaDoor.Graph

/-- A round's rows. -/
def rowsR (x : Rd) (i : Nat) : Nat := ([x.r0, x.r1, x.r2, x.r3, x.r4].getD i 0).toNat
theorem rowsR_eq {x : Rd} {n : Nat} {a : Nat → Nat} (h : WF n a) (e0 : x.r0 = a 0) (e1 : x.r1 = a 1) (e2 : x.r2 = a 2) (e3 : x.r3 = a 3) (e4 : x.r4 = a 4) : rowsR x = a := by
  funext i
  unfold rowsR
  match i with
  | 0 => simp [e0]
  | 1 => simp [e1]
  | 2 => simp [e2]
  | 3 => simp [e3]
  | 4 => simp [e4]
  | i + 5 => rw [h.out (i + 5) (by have := h.top; omega)]; simp
theorem word_err {n : Int} {l : List Rd} (h : wordR n l = 0) {j : Nat} (hj : j < l.length) : err n (before l j, rd l j) = 0 := by
  unfold wordR at h
  split at h
  · exact absurd h (by decide)
  · split at h
    · exact absurd h (by decide)
    · have : scanP n (seqTo l (j + 1)) = 0 := by
        by_cases e : scanP n (seqTo l (j + 1)) = 0
        · exact e
        · rw [scan_le n l (show j + 1 ≤ l.length by omega) e] at h; exact absurd h e
      exact (scan_zero this).2
theorem word_row {k : Nat} {l : List Rd} (h : wordR k l = 0) {j : Nat} (hj : j < l.length) :
    WF k (rowsR (rd l j)) ∧ (rd l j).n = k ∧ (rd l j).r0 = (rowsR (rd l j) 0 : Nat) ∧ (rd l j).r1 = (rowsR (rd l j) 1 : Nat) ∧ (rd l j).r2 = (rowsR (rd l j) 2 : Nat) ∧ (rd l j).r3 = (rowsR (rd l j) 3 : Nat) ∧ (rd l j).r4 = (rowsR (rd l j) 4 : Nat) := by
  obtain ⟨h1, h2⟩ := err_zero (word_err h hj)
  simp only at h1 h2
  obtain ⟨k', q, a, ha, e, e0, e1, e2, e3, e4, _, _⟩ := rcheck_zero h1
  have hk : k' = k := by rw [h2] at e; omega
  subst hk
  rw [rowsR_eq ha e0 e1 e2 e3 e4]
  exact ⟨ha, h2, e0, e1, e2, e3, e4⟩
/-- The product of a word's first rounds. -/
def wprod (k : Nat) (l : List Rd) : Nat → Nat → Nat
  | 0 => sil k
  | j + 1 => prod k (wprod k l j) (rowsR (rd l j))
theorem wprod_wf {k : Nat} {l : List Rd} (h1 : 1 ≤ k) (h5 : k ≤ 5) (h : wordR k l = 0) : ∀ j, j ≤ l.length → WF k (wprod k l j)
  | 0, _ => WF.sil h1 h5
  | j + 1, hj => (wprod_wf h1 h5 h j (by omega)).prod (word_row h (show j < l.length by omega)).1

noncomputable def cfg0 : Go.Ev.Cfg := { P := Tryd.prog, glob := fun _ => none, prim := fun _ => none, ext := Ev.ex, lim := 10000 }
theorem cfg0_ok {B : Go.Ev.Kp} {w0 : World} : Go.Ev.CfgOK cfg0 B w0 := ⟨by kernel_rfl, fun _ _ _ f g h => (by cases h), Ev.ext_ok (pr := fun _ => none), fun f fn hf hb hn => by
  have h := Ev.numg
  rw [List.all_eq_true] at h
  have hf' : Tryd.prog.funcs[f]? = some fn := hf
  have := h fn (List.mem_of_getElem? (i := f) (by simpa using hf'))
  cases hbody : fn.body with
  | none => rw [hbody] at hb; cases hb
  | some b => rw [hbody, hn] at this; cases this⟩
noncomputable def fast0 : Go.Ev.FC := Go.Ev.FC.of cfg0 (Go.Ev.TT.fast Tryd.prog Ev.tT Ev.tF)
theorem fast0_eq (d : Nat) : Go.Ev.F.evRec fast0 d = Go.Ev.evRec cfg0 d := Go.Ev.F.eq (C := cfg0) (Go.Ev.TT.fast_eq Tryd.prog) d
noncomputable def run (f : FuncId) (n : Int) : Option Value := Go.Ev.outV ((Go.Ev.F.evRec fast0 50).call f [.int .i64 n] (Go.Ev.tabHp []))
theorem closed {f : FuncId} {n : Int} {u : Value} (e : run f n = some u) (w : World) :
    Calls Tryd.prog f #[.int .i64 n] w fun e w' => e = .returned u ∧ Below w.heap.size w w' :=
  Go.Ev.call_plain (C := cfg0) cfg0_ok (ts := []) (fun g r h => by cases h) (args := [.int .i64 n]) (args' := [.int .i64 n]) (.cons (.int _ _) .nil) (by rw [← fast0_eq]; exact e) (fun t ht => by cases ht)
theorem run50_1 : run 50 1 = some (pairV 1 1 0 0 0 0 0) := by kernel_rfl
theorem run50_2 : run 50 2 = some (pairV 2 1 2 0 0 0 0) := by kernel_rfl
theorem run50_3 : run 50 3 = some (pairV 3 1 2 4 0 0 0) := by kernel_rfl
theorem run50_4 : run 50 4 = some (pairV 4 1 2 4 8 0 0) := by kernel_rfl
theorem run50_5 : run 50 5 = some (pairV 5 1 2 4 8 16 0) := by kernel_rfl
theorem run74_1 : run 74 1 = some (pairV 1 1 0 0 0 0 0) := by kernel_rfl
theorem run74_2 : run 74 2 = some (pairV 2 1 2 0 0 0 0) := by kernel_rfl
theorem run74_3 : run 74 3 = some (pairV 3 1 2 4 0 0 0) := by kernel_rfl
theorem run74_4 : run 74 4 = some (pairV 4 1 2 4 8 0 0) := by kernel_rfl
theorem run74_5 : run 74 5 = some (pairV 5 1 2 4 8 16 0) := by kernel_rfl
theorem silent_wf (k : Nat) (h1 : 1 ≤ k) (h5 : k ≤ 5) (w : World) : Calls Tryd.prog 50 #[.int .i64 k] w fun e w' => e = .returned (pairV k (sil k 0 : Nat) (sil k 1 : Nat) (sil k 2 : Nat) (sil k 3 : Nat) (sil k 4 : Nat) 0) ∧ Below w.heap.size w w' := by
  rcases (by omega : k = 1 ∨ k = 2 ∨ k = 3 ∨ k = 4 ∨ k = 5) with rfl | rfl | rfl | rfl | rfl
  · exact closed run50_1 w
  · exact closed run50_2 w
  · exact closed run50_3 w
  · exact closed run50_4 w
  · exact closed run50_5 w
theorem rsilent_wf (k : Nat) (h1 : 1 ≤ k) (h5 : k ≤ 5) (w : World) : Calls Tryd.prog 74 #[.int .i64 k] w fun e w' => e = .returned (pairV k (sil k 0 : Nat) (sil k 1 : Nat) (sil k 2 : Nat) (sil k 3 : Nat) (sil k 4 : Nat) 0) ∧ Below w.heap.size w w' := by
  rcases (by omega : k = 1 ∨ k = 2 ∨ k = 3 ∨ k = 4 ∨ k = 5) with rfl | rfl | rfl | rfl | rfl
  · exact closed run74_1 w
  · exact closed run74_2 w
  · exact closed run74_3 w
  · exact closed run74_4 w
  · exact closed run74_5 w
end Go.Proofs.YtlineonmpbdkgaaDoor.Word
