/-
  Graphs with renamed processes, with their errors.
-/
import Derived.Test.YtlineonmpbdkgaaDoorEvRoGRenRef
namespace Go.Proofs.YtlineonmpbdkgaaDoor.Graph
open Go Go.RowKit Go.Graph Go.Law
open Go.Proofs.YtlineonmpbdkgaaDoor.Col

open Go.Proofs.YtlineonmpbdkgaaDoor.Perm (Quiet check_ints rcheck_ints)
set_option maxRecDepth 100000 in
set_option maxHeartbeats 4000000 in
theorem permute_wf {n : Nat} {a : Nat → Nat} (ha : WF n a) (b off cap : Nat) (zs : List Int) (hz : zs.length = n) (hok : Go.Perm.check zs = 0) (hcap : n ≤ cap) (w : World) (hb : b < w.heap.size) (hc : At w b off zs)
    (hck : ∀ w : World, At w b off zs → Calls Tryd.prog 58 #[.slice (some ⟨b, off, none⟩) n cap] w fun e w' => e = .returned (.int .i64 0) ∧ w = w') :
    Calls Tryd.prog 31 #[.agg #[.int .i64 n, .int .i64 (a 0), .int .i64 (a 1), .int .i64 (a 2), .int .i64 (a 3), .int .i64 (a 4)], .slice (some ⟨b, off, none⟩) n cap] w fun e w' => e = .returned (pairV n (ren n a (idx zs) 0 : Nat) (ren n a (idx zs) 1 : Nat) (ren n a (idx zs) 2 : Nat) (ren n a (idx zs) 3 : Nat) (ren n a (idx zs) 4 : Nat) 0) ∧ Below w.heap.size w w' := by
  unfold ren
  have h5 := ha.top
  have hpre := ha.pos
  have LA := Lib.hid ha.lt32
  have HL := Lib.hid hz
  have HI := Lib.hid (fun i (hi : i < n) => (by have := idx_lt hok i (by omega); rw [hz] at this; exact this : idx zs i < n ∧ zs.getD i 0 = (idx zs i : Nat)))
  have hlow : ∀ i, i < n → idx zs i < n := fun i hi => (HI.out i hi).1
  have HACC := Lib.hid (acc_lt32 (r := a) hlow h5)
  clear hlow
  have HZ := Lib.hid ((hc.below (below_alloc w (.cells #[.int .i64 n, .int .i64 (a 0), .int .i64 (a 1), .int .i64 (a 2), .int .i64 (a 3), .int .i64 (a 4)] 24)) hb).below ((Below.refl _ _).alloc (Nat.le_refl _) (.cells #[.int .i64 0, .int .i64 0, .int .i64 0, .int .i64 0, .int .i64 0, .int .i64 0] 24)) (by rw [size_alloc]; omega))
  have HB := Lib.hid (check_wf ha)
  have HC := Lib.hid hck
  clear ha hc hck
  have T0 := Lib.hid ((below_alloc w (.cells #[.int .i64 n, .int .i64 (a 0), .int .i64 (a 1), .int .i64 (a 2), .int .i64 (a 3), .int .i64 (a 4)] 24)).alloc (by rw [size_alloc]; omega) (.cells #[.int .i64 0, .int .i64 0, .int .i64 0, .int .i64 0, .int .i64 0, .int .i64 0] 24))
  have RA := Lib.hid (row_alloc (row_new w n (a 0) (a 1) (a 2) (a 3) (a 4)) (.cells #[.int .i64 0, .int .i64 0, .int .i64 0, .int .i64 0, .int .i64 0, .int .i64 0] 24))
  have RO := Lib.hid (own_new (w.alloc (.cells #[.int .i64 n, .int .i64 (a 0), .int .i64 (a 1), .int .i64 (a 2), .int .i64 (a 3), .int .i64 (a 4)] 24)) [.int .i64 0, .int .i64 0, .int .i64 0, .int .i64 0, .int .i64 0, .int .i64 0] 24)
  rw [size_alloc] at RO
  have hsl := arr_slice w.heap.size 1 n h5
  go_enter Tryd.func31, Tryd.ntmps31
  go_wp2_with first
    | (go_at_call 58; refine (HC.out _ HZa.out).mono ?_; rintro e w2 ⟨rfl, rfl⟩)
    | (go_at_call 34; refine (HB.out _).mono ?_; rintro e w1 ⟨rfl, hb1⟩; have t1 := Lib.hid (T0.out.trans (bel_lg hb1 T0.out.size)); have s1 : w.heap.size + 1 < w1.heap.size := (by have := hb1.size; rw [size_alloc, size_alloc] at this; omega); have HZa := Lib.hid (HZ.out.below hb1 (by rw [size_alloc, size_alloc]; omega)); have RA1 := Lib.hid (row_alloc (row_below RA.out hb1) (.cells #[.int .i64 n, .int .i64 0, .int .i64 0, .int .i64 0, .int .i64 0, .int .i64 0] 24)); have RO1 := Lib.hid ((RO.out.below hb1 RO.out.lt).alloc (.cells #[.int .i64 n, .int .i64 0, .int .i64 0, .int .i64 0, .int .i64 0, .int .i64 0] 24)); have hn1 := (row_below RA.out hb1).1; have hn2 := RA1.out.1; have RG := Lib.hid (own_new w1 [.int .i64 n, .int .i64 0, .int .i64 0, .int .i64 0, .int .i64 0, .int .i64 0] 24); clear hb1)
  have HZ1 := Lib.hid (HZa.out.below ((Below.refl _ _).alloc (Nat.le_refl _) (.cells #[.int .i64 n, .int .i64 0, .int .i64 0, .int .i64 0, .int .i64 0, .int .i64 0] 24)) (by omega))
  have T1 := Lib.hid (t1.out.alloc t1.out.size (.cells #[.int .i64 n, .int .i64 0, .int .i64 0, .int .i64 0, .int .i64 0, .int .i64 0] 24))
  have g0 : w.heap.size < w1.heap.size := by omega
  have g2 : b < w1.heap.size := by omega
  have g3 : w.heap.size ≤ w1.heap.size := by omega
  clear t1 hn1 hn2 HZa
  have hn0 := RA1.out.1
  generalize World.alloc w1 _ = W4 at *
  generalize hG : w1.heap.size = G at *
  clear hG
  go_loopw [38] (fun i wr => ∃ p : Nat, p ≤ n ∧ i = .int .i64 p ∧ Below G W4 wr ∧ Own wr G 24 (.int .i64 n :: (rowsL (accTo n a (idx zs) p)).map (Value.int .i64))) (fun i _ => n - (intOf i).toNat)
  case atStart => exact ⟨0, Nat.zero_le _, rfl, Below.refl _ _, RG.out⟩
  case round =>
    obtain ⟨p, hp, rfl, hbl, hown⟩ := hrel
    have HBL := Lib.hid hbl
    have HOWN := Lib.hid hown
    clear hbl hown hn0
    have hna := (row_bel RA1.out HBL.out (by omega)).1
    by_cases hlt : p < n
    · obtain ⟨hpp, hpv⟩ := HI.out p hlt
      have HPV := Lib.hid hpv
      clear hpv
      have hca0 := row_wf (row_bel RA1.out HBL.out (by omega)) p (by omega)
      go_wp2
      go_loopw [45] (fun j wr => ∃ m : Nat, m ≤ n ∧ j = .int .i64 m ∧ Below G W4 wr ∧ Own wr G 24 (.int .i64 n :: (rowsL (accIn a (idx zs) p (accTo n a (idx zs) p) m)).map (Value.int .i64))) (fun j _ => n - (intOf j).toNat)
      case atStart => exact ⟨0, Nat.zero_le _, rfl, HBL.out, HOWN.out⟩
      case round =>
        obtain ⟨m, hm, rfl, hbl, hown⟩ := hrel
        have HBL := Lib.hid hbl
        have HOWN := Lib.hid hown
        clear hbl hown hna
        have hna := (row_bel RA1.out HBL.out (by omega)).1
        by_cases hlt2 : m < n
        · obtain ⟨hmm, hmv⟩ := HI.out m hlt2
          have HMV := Lib.hid hmv
          clear hmv
          have hcp : wr.cell? ⟨b, off + p, none⟩ = some (.int .i64 (idx zs p : Nat)) := by rw [← HPV.out]; exact (HZ1.out.below HBL.out (by omega)) p (by have := HL.out; omega)
          have hcq : wr.cell? ⟨b, off + m, none⟩ = some (.int .i64 (idx zs m : Nat)) := by rw [← HMV.out]; exact (HZ1.out.below HBL.out (by omega)) m (by have := HL.out; omega)
          have hcg := HOWN.out.cell (rowsL_cell n (accIn a (idx zs) p (accTo n a (idx zs) p) m) (idx zs p) (by omega))
          have hfr := HOWN.out.free (1 + idx zs p)
          have hx := (HACC.out p hlt m hm) (idx zs p)
          have hca := row_wf (row_bel RA1.out HBL.out (by omega)) p (by omega)
          have hl := LA.out p
          have HU := Lib.hid (show accIn a (idx zs) p (accTo n a (idx zs) p) (m + 1) = if a p / 2 ^ m % 2 = 1 then upd (accIn a (idx zs) p (accTo n a (idx zs) p) m) (idx zs p) (accIn a (idx zs) p (accTo n a (idx zs) p) m (idx zs p) ||| 2 ^ idx zs m) else accIn a (idx zs) p (accTo n a (idx zs) p) m from rfl)
          have HOR := Lib.hid (or_pow _ (idx zs m) hx (by omega))
          have HP := Lib.hid (fun v => rowsL_put n (accIn a (idx zs) p (accTo n a (idx zs) p) m) (idx zs p) v)
          generalize accIn a (idx zs) p (accTo n a (idx zs) p) m (idx zs p) = x at *
          have i0 : (0 : Int) ≤ (idx zs p : Nat) := Int.natCast_nonneg _
          have i1 : ((idx zs p : Nat) : Int) < 5 := by omega
          have i2 : (0 : Int) ≤ (idx zs m : Nat) := Int.natCast_nonneg _
          have i3 : ((idx zs m : Nat) : Int) < 5 := by omega
          have i4 : (p : Int) < n := by omega
          have i5 : (m : Int) < n := by omega
          generalize idx zs p = ip at *
          generalize idx zs m = iq at *
          by_cases hbit : a p / 2 ^ m % 2 = 1
          · have HBIT := Lib.hid hbit
            have HX := bit_yes (a p) m hl (by omega) hbit
            clear hbit
            go_wp2
            go_region
            go_wp2
            exact ⟨⟨m + 1, by omega, by go_num, (HBL.out.setCell (Nat.le_refl _) _).drew, by rw [HU.out, if_pos HBIT.out, ← HP.out, ← HOR.out]; exact (HOWN.out.set (1 + ip) _).drew⟩, by simp [intOf]; omega⟩
          · have HBIT := Lib.hid hbit
            have HX := bit_no (a p) m hl (by omega) hbit
            clear hbit
            go_wp2
            exact ⟨⟨m + 1, by omega, by go_num, HBL.out, by rw [HU.out, if_neg HBIT.out]; exact HOWN.out⟩, by simp [intOf]; omega⟩
        · have hk' : m = n := by omega
          subst hk'
          go_wp2
          exact ⟨⟨p + 1, by omega, by go_num, HBL.out, HOWN.out⟩, by simp [intOf]; omega⟩
    · have hk' : p = n := by omega
      subst hk'
      rw [rowsL_five] at HOWN
      have c0 := HOWN.out.cell (j := 0) (v := .int .i64 p) rfl
      have c1 := HOWN.out.cell (j := 1) (v := .int .i64 (accTo p a (idx zs) p 0 : Nat)) rfl
      have c2 := HOWN.out.cell (j := 2) (v := .int .i64 (accTo p a (idx zs) p 1 : Nat)) rfl
      have c3 := HOWN.out.cell (j := 3) (v := .int .i64 (accTo p a (idx zs) p 2 : Nat)) rfl
      have c4 := HOWN.out.cell (j := 4) (v := .int .i64 (accTo p a (idx zs) p 3 : Nat)) rfl
      have c5 := HOWN.out.cell (j := 5) (v := .int .i64 (accTo p a (idx zs) p 4 : Nat)) rfl
      have HRES := Lib.hid (RO1.out.below HBL.out (by omega))
      have d0 := HRES.out.cell (j := 0) (v := .int .i64 0) rfl
      have d1 := HRES.out.cell (j := 1) (v := .int .i64 0) rfl
      have d2 := HRES.out.cell (j := 2) (v := .int .i64 0) rfl
      have d3 := HRES.out.cell (j := 3) (v := .int .i64 0) rfl
      have d4 := HRES.out.cell (j := 4) (v := .int .i64 0) rfl
      have d5 := HRES.out.cell (j := 5) (v := .int .i64 0) rfl
      have z0 := HRES.out.free 0
      have z1 := HRES.out.free 1
      have z2 := HRES.out.free 2
      have z3 := HRES.out.free 3
      have z4 := HRES.out.free 4
      have z5 := HRES.out.free 5
      go_wp2
      (try simp only [Exit.inBlock, Exit.then])
      refine bodyPost_ret (v := pairV p (accTo p a (idx zs) p 0 : Nat) (accTo p a (idx zs) p 1 : Nat) (accTo p a (idx zs) p 2 : Nat) (accTo p a (idx zs) p 3 : Nat) (accTo p a (idx zs) p 4 : Nat) 0) (by simp [results, Tryd.results31, go_sem, pairV, d0, d1, d2, d3, d4, d5]) rfl ⟨rfl, below_set6 (T1.out.trans (bel_lg HBL.out g3)) (by show w.heap.size ≤ w.heap.size + 1; omega) _ _ _ _ _ _⟩
end Go.Proofs.YtlineonmpbdkgaaDoor.Graph
namespace Go.Proofs.YtlineonmpbdkgaaDoor.Graph
open Go Go.RowKit Go.Graph Go.Law
open Go.Proofs.YtlineonmpbdkgaaDoor.Col

open Go.Proofs.YtlineonmpbdkgaaDoor.Perm (Quiet check_ints rcheck_ints)
set_option maxRecDepth 100000 in
set_option maxHeartbeats 1000000 in
theorem perm27_first (n r0 r1 r2 r3 r4 c : Int) (v : Value) (hc : c ≠ 0) (hb : ∀ w : World, Calls Tryd.prog 34 #[.agg #[.int .i64 n, .int .i64 r0, .int .i64 r1, .int .i64 r2, .int .i64 r3, .int .i64 r4]] w fun e w' => e = .returned (.int .i64 c) ∧ Below w.heap.size w w') (w : World) :
    Calls Tryd.prog 31 #[.agg #[.int .i64 n, .int .i64 r0, .int .i64 r1, .int .i64 r2, .int .i64 r3, .int .i64 r4], v] w fun e w' => e = .returned (pairV 0 0 0 0 0 0 c) ∧ Below w.heap.size w w' := by
  have e1 : (c != 0) = true := by simpa using hc
  clear hc
  have HB := Lib.hid hb
  clear hb
  have T0 := Lib.hid ((below_alloc w (.cells #[.int .i64 n, .int .i64 r0, .int .i64 r1, .int .i64 r2, .int .i64 r3, .int .i64 r4] 24)).alloc (by rw [size_alloc]; omega) (.cells #[.int .i64 0, .int .i64 0, .int .i64 0, .int .i64 0, .int .i64 0, .int .i64 0] 24))
  have RA := Lib.hid (row_alloc (row_new w n r0 r1 r2 r3 r4) (.cells #[.int .i64 0, .int .i64 0, .int .i64 0, .int .i64 0, .int .i64 0, .int .i64 0] 24))
  have RO := Lib.hid (own_new (w.alloc (.cells #[.int .i64 n, .int .i64 r0, .int .i64 r1, .int .i64 r2, .int .i64 r3, .int .i64 r4] 24)) [.int .i64 0, .int .i64 0, .int .i64 0, .int .i64 0, .int .i64 0, .int .i64 0] 24)
  rw [size_alloc] at RO
  go_enter Tryd.func31, Tryd.ntmps31
  go_wp2_with (go_at_call 34; refine (HB.out _).mono ?_; rintro e w1 ⟨rfl, hb1⟩; have t1 := Lib.hid (T0.out.trans (bel_lg hb1 T0.out.size)); have O := Lib.hid (RO.out.below hb1 RO.out.lt); clear hb1; have d0 := O.out.cell (j := 0) (v := .int .i64 0) rfl; have d1 := O.out.cell (j := 1) (v := .int .i64 0) rfl; have d2 := O.out.cell (j := 2) (v := .int .i64 0) rfl; have d3 := O.out.cell (j := 3) (v := .int .i64 0) rfl; have d4 := O.out.cell (j := 4) (v := .int .i64 0) rfl; have d5 := O.out.cell (j := 5) (v := .int .i64 0) rfl; have z0 := O.out.free 0; have z1 := O.out.free 1; have z2 := O.out.free 2; have z3 := O.out.free 3; have z4 := O.out.free 4; have z5 := O.out.free 5)
  (try simp only [Exit.inBlock, Exit.then])
  refine bodyPost_ret (v := pairV 0 0 0 0 0 0 c) (by simp [results, Tryd.results31, go_sem, pairV, d0, d1, d2, d3, d4, d5]) rfl ⟨rfl, below_set6 t1.out (by show w.heap.size ≤ w.heap.size + 1; omega) _ _ _ _ _ _⟩
set_option maxRecDepth 100000 in
set_option maxHeartbeats 1000000 in
theorem perm27_second {n : Nat} {a : Nat → Nat} (ha : WF n a) (c : Int) (v : Value) (zs : List Int) (hc : c ≠ 0) (hk : ∀ w : World, IntsAt w .i64 v zs → Calls Tryd.prog 58 #[v] w fun e w' => e = .returned (.int .i64 c) ∧ w = w') (w : World) (hi : IntsAt w .i64 v zs) :
    Calls Tryd.prog 31 #[.agg #[.int .i64 n, .int .i64 (a 0), .int .i64 (a 1), .int .i64 (a 2), .int .i64 (a 3), .int .i64 (a 4)], v] w fun e w' => e = .returned (pairV 0 0 0 0 0 0 c) ∧ Below w.heap.size w w' := by
  have e1 : (c != 0) = true := by simpa using hc
  clear hc
  have HB := Lib.hid (check_wf ha)
  have HK := Lib.hid hk
  clear hk ha
  have T0 := Lib.hid ((below_alloc w (.cells #[.int .i64 n, .int .i64 (a 0), .int .i64 (a 1), .int .i64 (a 2), .int .i64 (a 3), .int .i64 (a 4)] 24)).alloc (by rw [size_alloc]; omega) (.cells #[.int .i64 0, .int .i64 0, .int .i64 0, .int .i64 0, .int .i64 0, .int .i64 0] 24))
  have RA := Lib.hid (row_alloc (row_new w n (a 0) (a 1) (a 2) (a 3) (a 4)) (.cells #[.int .i64 0, .int .i64 0, .int .i64 0, .int .i64 0, .int .i64 0, .int .i64 0] 24))
  have RO := Lib.hid (own_new (w.alloc (.cells #[.int .i64 n, .int .i64 (a 0), .int .i64 (a 1), .int .i64 (a 2), .int .i64 (a 3), .int .i64 (a 4)] 24)) [.int .i64 0, .int .i64 0, .int .i64 0, .int .i64 0, .int .i64 0, .int .i64 0] 24)
  rw [size_alloc] at RO
  have HI := Lib.hid (hi.below T0.out)
  clear hi
  go_enter Tryd.func31, Tryd.ntmps31
  go_wp2_with first
    | (go_at_call 58; refine (HK.out _ HI1.out).mono ?_; rintro e w2 ⟨rfl, rfl⟩)
    | (go_at_call 34; refine (HB.out _).mono ?_; rintro e w1 ⟨rfl, hb1⟩; have t1 := Lib.hid (T0.out.trans (bel_lg hb1 T0.out.size)); have O := Lib.hid (RO.out.below hb1 RO.out.lt); have HI1 := Lib.hid (HI.out.below hb1); clear hb1; have d0 := O.out.cell (j := 0) (v := .int .i64 0) rfl; have d1 := O.out.cell (j := 1) (v := .int .i64 0) rfl; have d2 := O.out.cell (j := 2) (v := .int .i64 0) rfl; have d3 := O.out.cell (j := 3) (v := .int .i64 0) rfl; have d4 := O.out.cell (j := 4) (v := .int .i64 0) rfl; have d5 := O.out.cell (j := 5) (v := .int .i64 0) rfl; have z0 := O.out.free 0; have z1 := O.out.free 1; have z2 := O.out.free 2; have z3 := O.out.free 3; have z4 := O.out.free 4; have z5 := O.out.free 5)
  (try simp only [Exit.inBlock, Exit.then])
  refine bodyPost_ret (v := pairV 0 0 0 0 0 0 c) (by simp [results, Tryd.results31, go_sem, pairV, d0, d1, d2, d3, d4, d5]) rfl ⟨rfl, below_set6 t1.out (by show w.heap.size ≤ w.heap.size + 1; omega) _ _ _ _ _ _⟩
set_option maxRecDepth 100000 in
set_option maxHeartbeats 1000000 in
theorem perm27_third {n : Nat} {a : Nat → Nat} (ha : WF n a) (p : Option Addr) (len cap : Nat) (zs : List Int) (hne : len ≠ n) (hk : ∀ w : World, IntsAt w .i64 (.slice p len cap) zs → Calls Tryd.prog 58 #[.slice p len cap] w fun e w' => e = .returned (.int .i64 0) ∧ w = w') (w : World) (hi : IntsAt w .i64 (.slice p len cap) zs) :
    Calls Tryd.prog 31 #[.agg #[.int .i64 n, .int .i64 (a 0), .int .i64 (a 1), .int .i64 (a 2), .int .i64 (a 3), .int .i64 (a 4)], .slice p len cap] w fun e w' => e = .returned (pairV 0 0 0 0 0 0 22) ∧ Below w.heap.size w w' := by
  have e1 : ((len : Int) != (n : Int)) = true := bne_iff_ne.2 (by omega)
  clear hne
  have HB := Lib.hid (check_wf ha)
  have HK := Lib.hid hk
  clear hk ha
  have T0 := Lib.hid ((below_alloc w (.cells #[.int .i64 n, .int .i64 (a 0), .int .i64 (a 1), .int .i64 (a 2), .int .i64 (a 3), .int .i64 (a 4)] 24)).alloc (by rw [size_alloc]; omega) (.cells #[.int .i64 0, .int .i64 0, .int .i64 0, .int .i64 0, .int .i64 0, .int .i64 0] 24))
  have RA := Lib.hid (row_alloc (row_new w n (a 0) (a 1) (a 2) (a 3) (a 4)) (.cells #[.int .i64 0, .int .i64 0, .int .i64 0, .int .i64 0, .int .i64 0, .int .i64 0] 24))
  have RO := Lib.hid (own_new (w.alloc (.cells #[.int .i64 n, .int .i64 (a 0), .int .i64 (a 1), .int .i64 (a 2), .int .i64 (a 3), .int .i64 (a 4)] 24)) [.int .i64 0, .int .i64 0, .int .i64 0, .int .i64 0, .int .i64 0, .int .i64 0] 24)
  rw [size_alloc] at RO
  have HI := Lib.hid (hi.below T0.out)
  clear hi
  go_enter Tryd.func31, Tryd.ntmps31
  go_wp2_with first
    | (go_at_call 58; refine (HK.out _ HI1.out).mono ?_; rintro e w2 ⟨rfl, rfl⟩)
    | (go_at_call 34; refine (HB.out _).mono ?_; rintro e w1 ⟨rfl, hb1⟩; have t1 := Lib.hid (T0.out.trans (bel_lg hb1 T0.out.size)); have O := Lib.hid (RO.out.below hb1 RO.out.lt); have HI1 := Lib.hid (HI.out.below hb1); have hn1 := (row_below RA.out hb1).1; clear hb1; have d0 := O.out.cell (j := 0) (v := .int .i64 0) rfl; have d1 := O.out.cell (j := 1) (v := .int .i64 0) rfl; have d2 := O.out.cell (j := 2) (v := .int .i64 0) rfl; have d3 := O.out.cell (j := 3) (v := .int .i64 0) rfl; have d4 := O.out.cell (j := 4) (v := .int .i64 0) rfl; have d5 := O.out.cell (j := 5) (v := .int .i64 0) rfl; have z0 := O.out.free 0; have z1 := O.out.free 1; have z2 := O.out.free 2; have z3 := O.out.free 3; have z4 := O.out.free 4; have z5 := O.out.free 5)
  (try simp only [Exit.inBlock, Exit.then])
  refine bodyPost_ret (v := pairV 0 0 0 0 0 0 22) (by simp [results, Tryd.results31, go_sem, pairV, d0, d1, d2, d3, d4, d5]) rfl ⟨rfl, below_set6 t1.out (by show w.heap.size ≤ w.heap.size + 1; omega) _ _ _ _ _ _⟩
end Go.Proofs.YtlineonmpbdkgaaDoor.Graph
