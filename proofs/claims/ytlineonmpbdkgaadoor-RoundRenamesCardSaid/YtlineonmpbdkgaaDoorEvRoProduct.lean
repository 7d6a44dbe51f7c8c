/-
  Products of words: the program's and the reference's.
-/
import Derived.Test.YtlineonmpbdkgaaDoorEvRoProd
namespace Go.Proofs.YtlineonmpbdkgaaDoor.Word
open Go Go.RowKit Go.Graph Go.Law
open Go.Proofs.YtlineonmpbdkgaaDoor.Graph

def prodR (n : Int) (l : List Rd) : Value := if wordR n l ≠ 0 then pairV 0 0 0 0 0 0 (wordR n l) else pairV n (wprod n.toNat l l.length 0 : Nat) (wprod n.toNat l l.length 1 : Nat) (wprod n.toNat l l.length 2 : Nat) (wprod n.toNat l l.length 3 : Nat) (wprod n.toNat l l.length 4 : Nat) 0
theorem own_far6 {w : World} {S B : Nat} {t : TypeId} {cs : List Value} (h : Law.Own w S t cs) (hn : B ≠ S) (y0 y1 y2 y3 y4 y5 : Value) :
    Law.Own ((((((w.setCell ⟨B, 0, none⟩ y0).setCell ⟨B, 1, none⟩ y1).setCell ⟨B, 2, none⟩ y2).setCell ⟨B, 3, none⟩ y3).setCell ⟨B, 4, none⟩ y4).setCell ⟨B, 5, none⟩ y5) S t cs :=
  (((((h.set_far (p := ⟨B, 0, none⟩) hn y0).set_far (p := ⟨B, 1, none⟩) hn y1).set_far (p := ⟨B, 2, none⟩) hn y2).set_far (p := ⟨B, 3, none⟩) hn y3).set_far (p := ⟨B, 4, none⟩) hn y4).set_far (p := ⟨B, 5, none⟩) hn y5
theorem len_lt_max {len : Nat} (h : len ≤ 1024) : (len : Int) ≤ 1024 := by omega
/-- A word without a fault is not too long. -/
theorem word_len {n : Int} {l : List Rd} (h : wordR n l = 0) : l.length ≤ 1024 := by
  unfold wordR at h
  split at h
  · exact absurd h (by decide)
  · split at h
    · exact absurd h (by decide)
    · omega
/-- What a round of the product needs of the word. -/
structure Word0 (k : Nat) (l : List Rd) : Prop where
  pos : 1 ≤ k
  top : k ≤ 5
  len : l.length ≤ 1024
  wf : ∀ j, j ≤ l.length → WF k (wprod k l j)
  row : ∀ j, j < l.length → WF k (rowsR (rd l j)) ∧ (rd l j).n = k ∧ (rd l j).r0 = (rowsR (rd l j) 0 : Nat) ∧ (rd l j).r1 = (rowsR (rd l j) 1 : Nat) ∧ (rd l j).r2 = (rowsR (rd l j) 2 : Nat) ∧ (rd l j).r3 = (rowsR (rd l j) 3 : Nat) ∧ (rd l j).r4 = (rowsR (rd l j) 4 : Nat)
theorem word0 {k : Nat} {l : List Rd} (h1 : 1 ≤ k) (h5 : k ≤ 5) (h : wordR k l = 0) : Word0 k l := ⟨h1, h5, word_len h, wprod_wf h1 h5 h, fun _ hj => word_row h hj⟩
set_option maxRecDepth 100000 in
set_option maxHeartbeats 1000000 in
theorem product_fault (n c : Int) (hc : c ≠ 0) {W : World} {v : Value} (hw : ∀ w1 : World, Below W.heap.size W w1 → Calls Tryd.prog 23 #[.int .i64 n, v] w1 fun e w' => e = .returned (.int .i64 c) ∧ Below w1.heap.size w1 w') :
    Calls Tryd.prog 21 #[.int .i64 n, v] W fun e w' => e = .returned (pairV 0 0 0 0 0 0 c) ∧ Below W.heap.size W w' := by
  have e1 : (c != 0) = true := by simpa using hc
  clear hc
  have HW := Lib.hid hw
  clear hw
  have T0 := Lib.hid (below_alloc W (.cells #[.int .i64 0, .int .i64 0, .int .i64 0, .int .i64 0, .int .i64 0, .int .i64 0] 24))
  have RO := Lib.hid (own_new W [.int .i64 0, .int .i64 0, .int .i64 0, .int .i64 0, .int .i64 0, .int .i64 0] 24)
  go_enter Tryd.func21, Tryd.ntmps21
  go_wp2_with (go_at_call 23; refine (HW.out _ T0.out).mono ?_; rintro e w1 ⟨rfl, hb1⟩; have T1 := Lib.hid (T0.out.trans (bel_le hb1 T0.out.size)); have O := Lib.hid (RO.out.below hb1 RO.out.lt); clear hb1; have d0 := O.out.cell (j := 0) (v := .int .i64 0) rfl; have d1 := O.out.cell (j := 1) (v := .int .i64 0) rfl; have d2 := O.out.cell (j := 2) (v := .int .i64 0) rfl; have d3 := O.out.cell (j := 3) (v := .int .i64 0) rfl; have d4 := O.out.cell (j := 4) (v := .int .i64 0) rfl; have d5 := O.out.cell (j := 5) (v := .int .i64 0) rfl; have z0 := O.out.free 0; have z1 := O.out.free 1; have z2 := O.out.free 2; have z3 := O.out.free 3; have z4 := O.out.free 4; have z5 := O.out.free 5)
  (try simp only [Exit.inBlock, Exit.then])
  refine bodyPost_ret (v := pairV 0 0 0 0 0 0 c) (by simp [results, Tryd.results21, go_sem, pairV, d0, d1, d2, d3, d4, d5]) rfl ⟨rfl, below_set6 T1.out (Nat.le_refl _) _ _ _ _ _ _⟩
set_option maxRecDepth 100000 in
set_option maxHeartbeats 4000000 in
theorem product_fine (k : Nat) {W : World} (b off cap : Nat) (a : Option Addr) (l : List Rd) (ha : 0 < l.length → a = some ⟨b, off, none⟩) (hb : 0 < l.length → b < W.heap.size) (hc : RdAt W b off l.length l) (h0 : Word0 k l)
    (hw : ∀ w1 : World, Below W.heap.size W w1 → Calls Tryd.prog 23 #[.int .i64 k, .slice a l.length cap] w1 fun e w' => e = .returned (.int .i64 0) ∧ Below w1.heap.size w1 w') :
    Calls Tryd.prog 21 #[.int .i64 k, .slice a l.length cap] W fun e w' => e = .returned (pairV k (wprod k l l.length 0 : Nat) (wprod k l l.length 1 : Nat) (wprod k l l.length 2 : Nat) (wprod k l l.length 3 : Nat) (wprod k l l.length 4 : Nat) 0) ∧ Below W.heap.size W w' := by
  have HW := Lib.hid hw
  have H0 := Lib.hid h0
  have hlen := h0.len
  have HS := Lib.hid (silent_wf k h0.pos h0.top)
  unfold pairV at HS
  have HC := Lib.hid (fun (w1 : World) (hb1 : Below W.heap.size W w1) j (hj : j < l.length) i (hi : i < 7) => (hb1.cell (p := ⟨b, off + j * 7 + i, none⟩) (hb (by omega))).trans (hc j hj i hi))
  have HA := Lib.hid ha
  clear hw h0 hc hb ha
  generalize hl : l.length = len at *
  have HL := Lib.hid hl
  clear hl
  have T0 := Lib.hid (below_alloc W (.cells #[.int .i64 0, .int .i64 0, .int .i64 0, .int .i64 0, .int .i64 0, .int .i64 0] 24))
  have RO := Lib.hid (own_new W [.int .i64 0, .int .i64 0, .int .i64 0, .int .i64 0, .int .i64 0, .int .i64 0] 24)
  go_enter Tryd.func21, Tryd.ntmps21
  go_wp2_with first
    | (go_at_call 23; refine (HW.out _ T0.out).mono ?_; rintro e w1 ⟨rfl, hb1⟩; have T1 := Lib.hid (T0.out.trans (bel_le hb1 T0.out.size)); have O1 := Lib.hid (RO.out.below hb1 RO.out.lt); clear hb1)
    | (go_at_call 50; refine (HS.out _).mono ?_; rintro e w2 ⟨rfl, hb2⟩; have T2 := Lib.hid (T1.out.trans (bel_le hb2 T1.out.size)); have O2 := Lib.hid (O1.out.below hb2 O1.out.lt); clear hb2)
  have T3 := Lib.hid (T2.out.alloc T2.out.size (.cells #[.int .i64 k, .int .i64 (sil k 0 : Nat), .int .i64 (sil k 1 : Nat), .int .i64 (sil k 2 : Nat), .int .i64 (sil k 3 : Nat), .int .i64 (sil k 4 : Nat)] 24))
  have O3 := Lib.hid (O2.out.alloc (.cells #[.int .i64 k, .int .i64 (sil k 0 : Nat), .int .i64 (sil k 1 : Nat), .int .i64 (sil k 2 : Nat), .int .i64 (sil k 3 : Nat), .int .i64 (sil k 4 : Nat)] 24))
  have G3 := Lib.hid (own_new w2 [.int .i64 k, .int .i64 (sil k 0 : Nat), .int .i64 (sil k 1 : Nat), .int .i64 (sil k 2 : Nat), .int .i64 (sil k 3 : Nat), .int .i64 (sil k 4 : Nat)] 24)
  have hSB : Hid (W.heap.size < w2.heap.size) := Lib.hid O2.out.lt
  generalize World.alloc w2 _ = W3 at *
  generalize w2.heap.size = B at *
  generalize hS : W.heap.size = S at *
  have HSW := Lib.hid hS
  clear hS
  go_loopw [25] (fun i wr => ∃ j : Nat, j ≤ len ∧ i = .int .i64 j ∧ Below S W wr ∧ Law.Own wr S 24 [.int .i64 0, .int .i64 0, .int .i64 0, .int .i64 0, .int .i64 0, .int .i64 0] ∧ Law.Own wr B 24 [.int .i64 k, .int .i64 (wprod k l j 0 : Nat), .int .i64 (wprod k l j 1 : Nat), .int .i64 (wprod k l j 2 : Nat), .int .i64 (wprod k l j 3 : Nat), .int .i64 (wprod k l j 4 : Nat)]) (fun i _ => len - (intOf i).toNat)
  case atStart => exact ⟨0, Nat.zero_le _, rfl, T3.out, O3.out, G3.out⟩
  case round =>
    obtain ⟨j, hj, rfl, hB, hO, hG⟩ := hrel
    have HB := Lib.hid hB
    have HO := Lib.hid hO
    have HG := Lib.hid hG
    clear hB hO hG
    by_cases hlt : j < len
    · obtain rfl := HA.out (by omega)
      obtain ⟨hwf, e0, e1, e2, e3, e4, e5⟩ := H0.out.row j (by rw [HL.out]; exact hlt)
      have HP := Lib.hid (product_wf (H0.out.wf j (by rw [HL.out]; exact hj)) hwf)
      unfold pairV at HP
      have hcx := HC.out wr HB.out j hlt
      obtain ⟨x, hx⟩ : ∃ x, rd l j = x := ⟨_, rfl⟩
      have HN : Hid (∀ i, wprod k l (j + 1) i = prod k (wprod k l j) (rowsR x) i) := Lib.hid fun i => by rw [← hx]; rfl
      rw [hx] at hcx e0 e1 e2 e3 e4 e5 HP
      clear hwf hx
      have c0 := hcx 0 (by omega)
      have c1 := hcx 1 (by omega)
      have c2 := hcx 2 (by omega)
      have c3 := hcx 3 (by omega)
      have c4 := hcx 4 (by omega)
      have c5 := hcx 5 (by omega)
      have c6 := hcx 6 (by omega)
      simp only [Rd.vs, List.getD_cons_zero, List.getD_cons_succ, Nat.add_zero, e0, e1, e2, e3, e4, e5] at c0 c1 c2 c3 c4 c5 c6
      clear hcx e0 e1 e2 e3 e4 e5
      generalize rowsR x = q at *
      generalize x.f = f at *
      have hGW := Lib.hid (HG.out.alloc (.cells #[.int .i64 k, .int .i64 (q 0), .int .i64 (q 1), .int .i64 (q 2), .int .i64 (q 3), .int .i64 (q 4), .int .i64 f] 26))
      have g0 := hGW.out.cell (j := 0) (v := .int .i64 k) rfl
      have g1 := hGW.out.cell (j := 1) (v := .int .i64 (wprod k l j 0 : Nat)) rfl
      have g2 := hGW.out.cell (j := 2) (v := .int .i64 (wprod k l j 1 : Nat)) rfl
      have g3 := hGW.out.cell (j := 3) (v := .int .i64 (wprod k l j 2 : Nat)) rfl
      have g4 := hGW.out.cell (j := 4) (v := .int .i64 (wprod k l j 3 : Nat)) rfl
      have g5 := hGW.out.cell (j := 5) (v := .int .i64 (wprod k l j 4 : Nat)) rfl
      have hBW := Lib.hid (HB.out.alloc (Nat.le_of_lt HO.out.lt) (.cells #[.int .i64 k, .int .i64 (q 0), .int .i64 (q 1), .int .i64 (q 2), .int .i64 (q 3), .int .i64 (q 4), .int .i64 f] 26))
      have hOW := Lib.hid (HO.out.alloc (.cells #[.int .i64 k, .int .i64 (q 0), .int .i64 (q 1), .int .i64 (q 2), .int .i64 (q 3), .int .i64 (q 4), .int .i64 f] 26))
      obtain ⟨x0, x1, x2, x3, x4, x5, x6⟩ := row7_new wr k (q 0) (q 1) (q 2) (q 3) (q 4) f
      go_wp2_with (go_at_call 26; refine (HP.out _).mono ?_; rintro e w4 ⟨rfl, hb4⟩; have T4 := Lib.hid (hBW.out.trans (bel_le hb4 (Nat.le_of_lt hOW.out.lt))); have O4 := Lib.hid (hOW.out.below hb4 hOW.out.lt); have G4 := Lib.hid (hGW.out.below hb4 hGW.out.lt); clear hb4; have y0 := G4.out.cell (j := 0) (v := .int .i64 k) rfl; have y1 := G4.out.cell (j := 1) (v := .int .i64 (wprod k l j 0 : Nat)) rfl; have y2 := G4.out.cell (j := 2) (v := .int .i64 (wprod k l j 1 : Nat)) rfl; have y3 := G4.out.cell (j := 3) (v := .int .i64 (wprod k l j 2 : Nat)) rfl; have y4 := G4.out.cell (j := 4) (v := .int .i64 (wprod k l j 3 : Nat)) rfl; have y5 := G4.out.cell (j := 5) (v := .int .i64 (wprod k l j 4 : Nat)) rfl; have z0 := G4.out.free 0; have z1 := G4.out.free 1; have z2 := G4.out.free 2; have z3 := G4.out.free 3; have z4 := G4.out.free 4; have z5 := G4.out.free 5)
      go_roundw
      case rel => exact ⟨j + 1, by omega, by go_num, below_set6 T4.out (Nat.le_of_lt hSB.out) _ _ _ _ _ _, own_far6 O4.out (by have := hSB.out; omega) _ _ _ _ _ _, by simp only [HN.out]; exact own_set6 G4.out _ _ _ _ _ _⟩
      case measure => simp [intOf]; omega
    · obtain rfl : j = len := by omega
      have g0 := HG.out.cell (j := 0) (v := .int .i64 k) rfl
      have g1 := HG.out.cell (j := 1) (v := .int .i64 (wprod k l j 0 : Nat)) rfl
      have g2 := HG.out.cell (j := 2) (v := .int .i64 (wprod k l j 1 : Nat)) rfl
      have g3 := HG.out.cell (j := 3) (v := .int .i64 (wprod k l j 2 : Nat)) rfl
      have g4 := HG.out.cell (j := 4) (v := .int .i64 (wprod k l j 3 : Nat)) rfl
      have g5 := HG.out.cell (j := 5) (v := .int .i64 (wprod k l j 4 : Nat)) rfl
      have d0 := HO.out.cell (j := 0) (v := .int .i64 0) rfl
      have d1 := HO.out.cell (j := 1) (v := .int .i64 0) rfl
      have d2 := HO.out.cell (j := 2) (v := .int .i64 0) rfl
      have d3 := HO.out.cell (j := 3) (v := .int .i64 0) rfl
      have d4 := HO.out.cell (j := 4) (v := .int .i64 0) rfl
      have d5 := HO.out.cell (j := 5) (v := .int .i64 0) rfl
      have z0 := HO.out.free 0
      have z1 := HO.out.free 1
      have z2 := HO.out.free 2
      have z3 := HO.out.free 3
      have z4 := HO.out.free 4
      have z5 := HO.out.free 5
      go_wp2
      (try simp only [Exit.inBlock, Exit.then])
      refine bodyPost_ret (v := pairV k (wprod k l j 0 : Nat) (wprod k l j 1 : Nat) (wprod k l j 2 : Nat) (wprod k l j 3 : Nat) (wprod k l j 4 : Nat) 0) (by simp [results, Tryd.results21, go_sem, pairV, d0, d1, d2, d3, d4, d5]) rfl ⟨rfl, by rw [HSW.out]; exact below_set6 HB.out (Nat.le_refl _) _ _ _ _ _ _⟩
set_option maxRecDepth 100000 in
set_option maxHeartbeats 4000000 in
theorem all_fine (k : Nat) {W : World} (b off cap : Nat) (a : Option Addr) (l : List Rd) (ha : 0 < l.length → a = some ⟨b, off, none⟩) (hb : 0 < l.length → b < W.heap.size) (hc : RdAt W b off l.length l) (h0 : Word0 k l) :
    Calls Tryd.prog 51 #[.int .i64 k, .slice a l.length cap] W fun e W' => e = .returned (.agg #[.int .i64 k, .int .i64 (wprod k l l.length 0 : Nat), .int .i64 (wprod k l l.length 1 : Nat), .int .i64 (wprod k l l.length 2 : Nat), .int .i64 (wprod k l l.length 3 : Nat), .int .i64 (wprod k l l.length 4 : Nat)]) ∧ Below W.heap.size W W' := by
  have H0 := Lib.hid h0
  have hlen := h0.len
  have HS := Lib.hid (rsilent_wf k h0.pos h0.top)
  unfold pairV at HS
  have HC := Lib.hid (fun (w1 : World) (hb1 : Below W.heap.size W w1) j (hj : j < l.length) i (hi : i < 7) => (hb1.cell (p := ⟨b, off + j * 7 + i, none⟩) (hb (by omega))).trans (hc j hj i hi))
  have HA := Lib.hid ha
  clear h0 hc hb ha
  generalize hl : l.length = len at *
  have HL := Lib.hid hl
  clear hl
  have T0 := Lib.hid (below_alloc W (.cells #[.int .i64 0, .int .i64 0, .int .i64 0, .int .i64 0, .int .i64 0, .int .i64 0] 24))
  have RO := Lib.hid (own_new W [.int .i64 0, .int .i64 0, .int .i64 0, .int .i64 0, .int .i64 0, .int .i64 0] 24)
  go_enter Tryd.func51, Tryd.ntmps51
  go_wp2_with (go_at_call 74; refine (HS.out _).mono ?_; rintro e w2 ⟨rfl, hb2⟩; have T2 := Lib.hid (T0.out.trans (bel_le hb2 T0.out.size)); have O2 := Lib.hid (RO.out.below hb2 RO.out.lt); clear hb2)
  have T3 := Lib.hid (T2.out.alloc T2.out.size (.cells #[.int .i64 k, .int .i64 (sil k 0 : Nat), .int .i64 (sil k 1 : Nat), .int .i64 (sil k 2 : Nat), .int .i64 (sil k 3 : Nat), .int .i64 (sil k 4 : Nat)] 24))
  have O3 := Lib.hid (O2.out.alloc (.cells #[.int .i64 k, .int .i64 (sil k 0 : Nat), .int .i64 (sil k 1 : Nat), .int .i64 (sil k 2 : Nat), .int .i64 (sil k 3 : Nat), .int .i64 (sil k 4 : Nat)] 24))
  have G3 := Lib.hid (own_new w2 [.int .i64 k, .int .i64 (sil k 0 : Nat), .int .i64 (sil k 1 : Nat), .int .i64 (sil k 2 : Nat), .int .i64 (sil k 3 : Nat), .int .i64 (sil k 4 : Nat)] 24)
  have hSB : Hid (W.heap.size < w2.heap.size) := Lib.hid O2.out.lt
  generalize World.alloc w2 _ = W3 at *
  generalize w2.heap.size = B at *
  generalize hS : W.heap.size = S at *
  have HSW := Lib.hid hS
  clear hS
  go_loopw [7] (fun i wr => ∃ j : Nat, j ≤ len ∧ i = .int .i64 j ∧ Below S W wr ∧ Law.Own wr S 24 [.int .i64 0, .int .i64 0, .int .i64 0, .int .i64 0, .int .i64 0, .int .i64 0] ∧ Law.Own wr B 24 [.int .i64 k, .int .i64 (wprod k l j 0 : Nat), .int .i64 (wprod k l j 1 : Nat), .int .i64 (wprod k l j 2 : Nat), .int .i64 (wprod k l j 3 : Nat), .int .i64 (wprod k l j 4 : Nat)]) (fun i _ => len - (intOf i).toNat)
  case atStart => exact ⟨0, Nat.zero_le _, rfl, T3.out, O3.out, G3.out⟩
  case round =>
    obtain ⟨j, hj, rfl, hB, hO, hG⟩ := hrel
    have hBW := Lib.hid hB
    have hOW := Lib.hid hO
    have hGW := Lib.hid hG
    clear hB hO hG
    by_cases hlt : j < len
    · obtain rfl := HA.out (by omega)
      obtain ⟨hwf, e0, e1, e2, e3, e4, e5⟩ := H0.out.row j (by rw [HL.out]; exact hlt)
      have HP := Lib.hid (rproduct_wf (H0.out.wf j (by rw [HL.out]; exact hj)) hwf)
      have hcx := HC.out wr hBW.out j hlt
      obtain ⟨x, hx⟩ : ∃ x, rd l j = x := ⟨_, rfl⟩
      have HN : Hid (∀ i, wprod k l (j + 1) i = prod k (wprod k l j) (rowsR x) i) := Lib.hid fun i => by rw [← hx]; rfl
      rw [hx] at hcx e0 e1 e2 e3 e4 e5 HP
      clear hwf hx
      have c0 := hcx 0 (by omega)
      have c1 := hcx 1 (by omega)
      have c2 := hcx 2 (by omega)
      have c3 := hcx 3 (by omega)
      have c4 := hcx 4 (by omega)
      have c5 := hcx 5 (by omega)
      simp only [Rd.vs, List.getD_cons_zero, List.getD_cons_succ, Nat.add_zero, e0, e1, e2, e3, e4, e5] at c0 c1 c2 c3 c4 c5
      clear hcx e0 e1 e2 e3 e4 e5
      generalize rowsR x = q at *
      have g0 := hGW.out.cell (j := 0) (v := .int .i64 k) rfl
      have g1 := hGW.out.cell (j := 1) (v := .int .i64 (wprod k l j 0 : Nat)) rfl
      have g2 := hGW.out.cell (j := 2) (v := .int .i64 (wprod k l j 1 : Nat)) rfl
      have g3 := hGW.out.cell (j := 3) (v := .int .i64 (wprod k l j 2 : Nat)) rfl
      have g4 := hGW.out.cell (j := 4) (v := .int .i64 (wprod k l j 3 : Nat)) rfl
      have g5 := hGW.out.cell (j := 5) (v := .int .i64 (wprod k l j 4 : Nat)) rfl
      go_wp2
      refine wp_region_any (by kernel_rfl) ?_
      change wpAny _ _ _ _ _ _ _ (World.drew _)
      refine wpAny_take (i := 1) (v := .slice (some ⟨b, off, none⟩) len cap) rfl (by kernel_rfl) (by kernel_rfl) (by kernel_rfl) (fun _ _ _ h => h) (Or.inl ⟨by kernel_rfl, fun w => by go_simp⟩) ?_
      (try go_simp)
      refine wpAny_take (i := 2) (v := .int .i64 (j : Int)) rfl (by kernel_rfl) (by kernel_rfl) (by kernel_rfl) (fun _ _ _ h => h) (Or.inl ⟨by kernel_rfl, fun w => by go_simp⟩) ?_
      (try go_simp)
      refine wpAny_take (i := 3) (v := .pointer (some ⟨b, off + j * 7, none⟩)) rfl (by kernel_rfl) (by kernel_rfl) (by kernel_rfl) (fun _ _ _ h => h) (Or.inl ⟨by kernel_rfl, fun w => by go_simp⟩) ?_
      (try go_simp)
      refine wpAny_take (i := 4) (v := .pointer (some ⟨b, off + j * 7, none⟩)) rfl (by kernel_rfl) (by kernel_rfl) (by kernel_rfl) (fun _ _ _ h => h) (Or.inl ⟨by kernel_rfl, fun w => by go_simp⟩) ?_
      (try go_simp)
      refine wpAny_ready (rs := [0, 5]) (by kernel_rfl) (by simp) ?_
      refine (AllReady.cons rfl (fun K hK => ?_) (AllReady.cons rfl (fun K hK => ?_) AllReady.nil))
      · go_simp
        refine hK _ _ ?_
        clear hK K
        refine wpAny_ready (rs := [5]) (by kernel_rfl) (by simp) ?_
        refine (AllReady.cons rfl (fun K hK => ?_) AllReady.nil)
        go_simp
        refine hK _ _ ?_
        clear hK K
        refine wpAny_ready (rs := [6]) (by kernel_rfl) (by simp) ?_
        refine (AllReady.cons rfl (fun K hK => ?_) AllReady.nil)
        go_simp
        go_wp2_with (go_at_call 75; refine (HP.out _).mono ?_; rintro e w4 ⟨rfl, hb4⟩; have T4 := Lib.hid (hBW.out.drew.trans (bel_le hb4 (Nat.le_of_lt hOW.out.drew.lt))); have O4 := Lib.hid (hOW.out.drew.below hb4 hOW.out.drew.lt); have G4 := Lib.hid (hGW.out.drew.below hb4 hGW.out.drew.lt); clear hb4; have y0 := G4.out.cell (j := 0) (v := .int .i64 k) rfl; have y1 := G4.out.cell (j := 1) (v := .int .i64 (wprod k l j 0 : Nat)) rfl; have y2 := G4.out.cell (j := 2) (v := .int .i64 (wprod k l j 1 : Nat)) rfl; have y3 := G4.out.cell (j := 3) (v := .int .i64 (wprod k l j 2 : Nat)) rfl; have y4 := G4.out.cell (j := 4) (v := .int .i64 (wprod k l j 3 : Nat)) rfl; have y5 := G4.out.cell (j := 5) (v := .int .i64 (wprod k l j 4 : Nat)) rfl; have z0 := G4.out.free 0; have z1 := G4.out.free 1; have z2 := G4.out.free 2; have z3 := G4.out.free 3; have z4 := G4.out.free 4; have z5 := G4.out.free 5)
        refine wpAny_ready (rs := [7]) (by kernel_rfl) (by simp) ?_
        refine (AllReady.cons rfl (fun K hK => ?_) AllReady.nil)
        go_simp
        refine hK _ _ ?_
        clear hK K
        refine wpAny_done (by kernel_rfl) ?_ _
        go_wp2
        exact ⟨⟨j + 1, by omega, by go_num, below_set6 T4.out (Nat.le_of_lt hSB.out) _ _ _ _ _ _, own_far6 O4.out (by have := hSB.out; omega) _ _ _ _ _ _, by simp only [HN.out]; exact own_set6 G4.out _ _ _ _ _ _⟩, by simp [intOf]; omega⟩
      · go_simp
        refine hK _ _ ?_
        clear hK K
        refine wpAny_ready (rs := [0]) (by kernel_rfl) (by simp) ?_
        refine (AllReady.cons rfl (fun K hK => ?_) AllReady.nil)
        go_simp
        refine hK _ _ ?_
        clear hK K
        refine wpAny_ready (rs := [6]) (by kernel_rfl) (by simp) ?_
        refine (AllReady.cons rfl (fun K hK => ?_) AllReady.nil)
        go_simp
        go_wp2_with (go_at_call 75; refine (HP.out _).mono ?_; rintro e w4 ⟨rfl, hb4⟩; have T4 := Lib.hid (hBW.out.drew.trans (bel_le hb4 (Nat.le_of_lt hOW.out.drew.lt))); have O4 := Lib.hid (hOW.out.drew.below hb4 hOW.out.drew.lt); have G4 := Lib.hid (hGW.out.drew.below hb4 hGW.out.drew.lt); clear hb4; have y0 := G4.out.cell (j := 0) (v := .int .i64 k) rfl; have y1 := G4.out.cell (j := 1) (v := .int .i64 (wprod k l j 0 : Nat)) rfl; have y2 := G4.out.cell (j := 2) (v := .int .i64 (wprod k l j 1 : Nat)) rfl; have y3 := G4.out.cell (j := 3) (v := .int .i64 (wprod k l j 2 : Nat)) rfl; have y4 := G4.out.cell (j := 4) (v := .int .i64 (wprod k l j 3 : Nat)) rfl; have y5 := G4.out.cell (j := 5) (v := .int .i64 (wprod k l j 4 : Nat)) rfl; have z0 := G4.out.free 0; have z1 := G4.out.free 1; have z2 := G4.out.free 2; have z3 := G4.out.free 3; have z4 := G4.out.free 4; have z5 := G4.out.free 5)
        refine wpAny_ready (rs := [7]) (by kernel_rfl) (by simp) ?_
        refine (AllReady.cons rfl (fun K hK => ?_) AllReady.nil)
        go_simp
        refine hK _ _ ?_
        clear hK K
        refine wpAny_done (by kernel_rfl) ?_ _
        go_wp2
        exact ⟨⟨j + 1, by omega, by go_num, below_set6 T4.out (Nat.le_of_lt hSB.out) _ _ _ _ _ _, own_far6 O4.out (by have := hSB.out; omega) _ _ _ _ _ _, by simp only [HN.out]; exact own_set6 G4.out _ _ _ _ _ _⟩, by simp [intOf]; omega⟩
    · obtain rfl : j = len := by omega
      have g0 := hGW.out.cell (j := 0) (v := .int .i64 k) rfl
      have g1 := hGW.out.cell (j := 1) (v := .int .i64 (wprod k l j 0 : Nat)) rfl
      have g2 := hGW.out.cell (j := 2) (v := .int .i64 (wprod k l j 1 : Nat)) rfl
      have g3 := hGW.out.cell (j := 3) (v := .int .i64 (wprod k l j 2 : Nat)) rfl
      have g4 := hGW.out.cell (j := 4) (v := .int .i64 (wprod k l j 3 : Nat)) rfl
      have g5 := hGW.out.cell (j := 5) (v := .int .i64 (wprod k l j 4 : Nat)) rfl
      have d0 := hOW.out.cell (j := 0) (v := .int .i64 0) rfl
      have d1 := hOW.out.cell (j := 1) (v := .int .i64 0) rfl
      have d2 := hOW.out.cell (j := 2) (v := .int .i64 0) rfl
      have d3 := hOW.out.cell (j := 3) (v := .int .i64 0) rfl
      have d4 := hOW.out.cell (j := 4) (v := .int .i64 0) rfl
      have d5 := hOW.out.cell (j := 5) (v := .int .i64 0) rfl
      have z0 := hOW.out.free 0
      have z1 := hOW.out.free 1
      have z2 := hOW.out.free 2
      have z3 := hOW.out.free 3
      have z4 := hOW.out.free 4
      have z5 := hOW.out.free 5
      go_wp2
      (try simp only [Exit.inBlock, Exit.then])
      refine bodyPost_ret (v := .agg #[.int .i64 k, .int .i64 (wprod k l j 0 : Nat), .int .i64 (wprod k l j 1 : Nat), .int .i64 (wprod k l j 2 : Nat), .int .i64 (wprod k l j 3 : Nat), .int .i64 (wprod k l j 4 : Nat)]) (by simp [results, Tryd.results51, go_sem, d0, d1, d2, d3, d4, d5]) rfl ⟨rfl, by rw [HSW.out]; exact below_set6 hBW.out (Nat.le_refl _) _ _ _ _ _ _⟩
set_option maxRecDepth 100000 in
set_option maxHeartbeats 1000000 in
theorem rproduct_fault (n c : Int) (hc : c ≠ 0) {W : World} {v : Value} (hw : ∀ w1 : World, Below W.heap.size W w1 → Calls Tryd.prog 24 #[.int .i64 n, v] w1 fun e w' => e = .returned (.int .i64 c) ∧ Below w1.heap.size w1 w') :
    Calls Tryd.prog 22 #[.int .i64 n, v] W fun e w' => e = .returned (pairV 0 0 0 0 0 0 c) ∧ Below W.heap.size W w' := by
  have e1 : (c != 0) = true := by simpa using hc
  clear hc
  have HW := Lib.hid hw
  clear hw
  have T0 := Lib.hid (below_alloc W (.cells #[.int .i64 0, .int .i64 0, .int .i64 0, .int .i64 0, .int .i64 0, .int .i64 0] 24))
  have RO := Lib.hid (own_new W [.int .i64 0, .int .i64 0, .int .i64 0, .int .i64 0, .int .i64 0, .int .i64 0] 24)
  go_enter Tryd.func22, Tryd.ntmps22
  go_wp2_with (go_at_call 24; refine (HW.out _ T0.out).mono ?_; rintro e w1 ⟨rfl, hb1⟩; have T1 := Lib.hid (T0.out.trans (bel_le hb1 T0.out.size)); have O := Lib.hid (RO.out.below hb1 RO.out.lt); clear hb1; have d0 := O.out.cell (j := 0) (v := .int .i64 0) rfl; have d1 := O.out.cell (j := 1) (v := .int .i64 0) rfl; have d2 := O.out.cell (j := 2) (v := .int .i64 0) rfl; have d3 := O.out.cell (j := 3) (v := .int .i64 0) rfl; have d4 := O.out.cell (j := 4) (v := .int .i64 0) rfl; have d5 := O.out.cell (j := 5) (v := .int .i64 0) rfl; have z0 := O.out.free 0; have z1 := O.out.free 1; have z2 := O.out.free 2; have z3 := O.out.free 3; have z4 := O.out.free 4; have z5 := O.out.free 5)
  (try simp only [Exit.inBlock, Exit.then])
  refine bodyPost_ret (v := pairV 0 0 0 0 0 0 c) (by simp [results, Tryd.results22, go_sem, pairV, d0, d1, d2, d3, d4, d5]) rfl ⟨rfl, below_set6 T1.out (Nat.le_refl _) _ _ _ _ _ _⟩
set_option maxRecDepth 100000 in
set_option maxHeartbeats 1000000 in
theorem rproduct_fine (k : Nat) (q0 q1 q2 q3 q4 : Int) {W : World} {v : Value} (hw : ∀ w1 : World, Below W.heap.size W w1 → Calls Tryd.prog 24 #[.int .i64 k, v] w1 fun e w' => e = .returned (.int .i64 0) ∧ Below w1.heap.size w1 w')
    (ha : ∀ w1 : World, Below W.heap.size W w1 → Calls Tryd.prog 51 #[.int .i64 k, v] w1 fun e w' => e = .returned (.agg #[.int .i64 k, .int .i64 q0, .int .i64 q1, .int .i64 q2, .int .i64 q3, .int .i64 q4]) ∧ Below w1.heap.size w1 w') :
    Calls Tryd.prog 22 #[.int .i64 k, v] W fun e w' => e = .returned (pairV k q0 q1 q2 q3 q4 0) ∧ Below W.heap.size W w' := by
  have HW := Lib.hid hw
  have HA := Lib.hid ha
  clear hw ha
  have T0 := Lib.hid (below_alloc W (.cells #[.int .i64 0, .int .i64 0, .int .i64 0, .int .i64 0, .int .i64 0, .int .i64 0] 24))
  have RO := Lib.hid (own_new W [.int .i64 0, .int .i64 0, .int .i64 0, .int .i64 0, .int .i64 0, .int .i64 0] 24)
  go_enter Tryd.func22, Tryd.ntmps22
  go_wp2_with first
    | (go_at_call 24; refine (HW.out _ T0.out).mono ?_; rintro e w1 ⟨rfl, hb1⟩; have T1 := Lib.hid (T0.out.trans (bel_le hb1 T0.out.size)); have O1 := Lib.hid (RO.out.below hb1 RO.out.lt); clear hb1)
    | (go_at_call 51; refine (HA.out _ T1.out).mono ?_; rintro e w2 ⟨rfl, hb2⟩; have T2 := Lib.hid (T1.out.trans (bel_le hb2 T1.out.size)); have O := Lib.hid (O1.out.below hb2 O1.out.lt); clear hb2; have d0 := O.out.cell (j := 0) (v := .int .i64 0) rfl; have d1 := O.out.cell (j := 1) (v := .int .i64 0) rfl; have d2 := O.out.cell (j := 2) (v := .int .i64 0) rfl; have d3 := O.out.cell (j := 3) (v := .int .i64 0) rfl; have d4 := O.out.cell (j := 4) (v := .int .i64 0) rfl; have d5 := O.out.cell (j := 5) (v := .int .i64 0) rfl; have z0 := O.out.free 0; have z1 := O.out.free 1; have z2 := O.out.free 2; have z3 := O.out.free 3; have z4 := O.out.free 4; have z5 := O.out.free 5)
  (try simp only [Exit.inBlock, Exit.then])
  refine bodyPost_ret (v := pairV k q0 q1 q2 q3 q4 0) (by simp [results, Tryd.results22, go_sem, pairV, d0, d1, d2, d3, d4, d5]) rfl ⟨rfl, below_set6 T2.out (Nat.le_refl _) _ _ _ _ _ _⟩
/-- round.Product at any word. -/
theorem product_any (n : Int) {W : World} {v : Value} {l : List Rd} (h : WordAt W v l) : Calls Tryd.prog 21 #[.int .i64 n, v] W fun e w' => e = .returned (prodR n l) ∧ Below W.heap.size W w' := by
  have hw := fun (w1 : World) (hb : Below W.heap.size W w1) => word_any n (h.below hb)
  unfold prodR
  by_cases hc : wordR n l = 0
  · obtain ⟨k, g, rfl, h1, h5, _, _⟩ := word_zero hc
    rw [if_neg (by simpa using hc)]
    rw [hc] at hw
    obtain ⟨a, cap, b, off, rfl, ha, hb, hcell, _⟩ := h
    exact product_fine k b off cap a l ha hb hcell (word0 h1 h5 hc) hw
  · rw [if_pos hc]
    exact product_fault n _ hc hw
/-- The reference's Product at any word: the same. -/
theorem rproduct_any (n : Int) {W : World} {v : Value} {l : List Rd} (h : WordAt W v l) : Calls Tryd.prog 22 #[.int .i64 n, v] W fun e w' => e = .returned (prodR n l) ∧ Below W.heap.size W w' := by
  have hw := fun (w1 : World) (hb : Below W.heap.size W w1) => rword_any n (h.below hb)
  unfold prodR
  by_cases hc : wordR n l = 0
  · obtain ⟨k, g, rfl, h1, h5, _, _⟩ := word_zero hc
    rw [if_neg (by simpa using hc)]
    rw [hc] at hw
    refine rproduct_fine k _ _ _ _ _ hw fun w1 hb1 => ?_
    obtain ⟨a, cap, b, off, rfl, ha, hb, hcell, _⟩ := h.below hb1
    exact all_fine k b off cap a l ha hb hcell (word0 h1 h5 hc)
  · rw [if_pos hc]
    exact rproduct_fault n _ hc hw
end Go.Proofs.YtlineonmpbdkgaaDoor.Word
