/-
  Elements numbered by pairs of keys.
-/
import Derived.Test.YtlacohjecehpiaaEvPaNumber
import Derived.WideKeyPair
namespace Go.Proofs.Ytlacohjecehpiaa.Part
open Go Go.RowKit Go.Part Go.Law Go.Maps

theorem arr39 : WideMaps.ArrKey Try.prog 39 3 2 := ⟨Try.underlying39, by kernel_rfl, by kernel_rfl, by kernel_rfl⟩
theorem types_pos : decide (0 < Try.prog.types.size) = true := by kernel_rfl
theorem types_some : ∃ m, Try.prog.types.size = m + 1 := by
  have h := of_decide_eq_true types_pos
  generalize Try.prog.types.size = s at *
  exact ⟨s - 1, by omega⟩
theorem laidOut : laidOutB Try.prog = true := by kernel_rfl
theorem row39 : (39 : TypeId) < Try.prog.types.size := of_decide_eq_true (by kernel_rfl)
theorem keyT39 : Try.prog.keyTypeAt 2 39 = true := by kernel_rfl
theorem law39 : Keyed Try.prog 39 := Keyed.of_law (deep_law_laid laidOut (m := 2) (by omega) row39 keyT39 (by rw [Try.underlying39]))
theorem key39 {a b : Int} (wa : (Lit.int .i64 a).wf = true) (wb : (Lit.int .i64 b).wf = true) : keyOf Try.prog 39 (.agg #[.int .i64 a, .int .i64 b]) = some (.string (keyBytes [.int .i64 a, .int .i64 b])) :=
  WideMaps.keyOf_pair arr39 Try.underlying3 types_some wa wb


set_option maxRecDepth 100000 in
set_option maxHeartbeats 1000000 in
theorem number74 (n : Nat) (hn : n ≤ 65536) (z y : Nat → Int) (g : Nat → Lit) (hz : ∀ i, i < n → keyOf Try.prog 39 (.agg #[.int .i64 (z i), .int .i64 (y i)]) = some (g i)) (p q : Addr) (J : World → Prop) (B0 : Nat) (w : World) (hB : B0 ≤ w.heap.size) (hF : Firm w.heap.size J) (hJ : J w)
    (hf : ∀ i : Nat, i < n → ∀ w1, w.heap.size ≤ w1.heap.size → J w1 → Calls Try.prog 74 #[.int .i64 i, .pointer (some p), .pointer (some q)] w1 fun e w2 => e = .returned (.agg #[.int .i64 (z i), .int .i64 (y i)]) ∧ J w2 ∧ Below B0 w1 w2 ∧ Stay w.heap.size w1 w2) :
    Calls Try.prog 73 #[.int .i64 n, .func (.func 74) #[] #[.pointer (some p), .pointer (some q)]] w (NumPost (labs g n) B0 J w) := by
  have HF := Lib.hid hf
  have HK := Lib.hid (show ∀ i, i < n → WideAt.IsKeyLit (g i) from fun i hi => law39.key (hz i hi))
  have HZ := Lib.hid hz
  have HFI := Lib.hid hF
  have HJ0 := Lib.hid (hF w ((w.alloc (.map #[] 0)).alloc (.cells (madeCells #[.int .i64 0] n) 3)) (fun b hb => by rw [Below.heap_alloc _ _ _ (by simp; omega), Below.heap_alloc _ _ _ hb]) hJ)
  have HM0 := Lib.hid ((World.ownsMap_made (H := Unit) w Try.prog 39 (plainElem Try.prog 3)).alloc (.cells (madeCells #[.int .i64 0] n) 3))
  have HO0 := Lib.hid (Own.made (w.alloc (.map #[] 0)) 3 (.int .i64 0) n)
  rw [size_alloc, replicate_ints] at HO0
  have HB0 := Lib.hid (((Below.refl B0 w).alloc hB (.map #[] 0)).alloc (by simp; omega) (.cells (madeCells #[.int .i64 0] n) 3))
  clear hf hz hF hJ
  have hmk := make_ints n (by omega)
  have hmm := @run_makeMap Try.prog
  go_enter Try.func73, Try.ntmps73
  go_wp2
  go_loopw [16] (fun i wr => ∃ k : Nat, k ≤ n ∧ i = .int .i64 k ∧ w.heap.size + 2 ≤ wr.heap.size ∧ Below B0 w wr ∧ J wr ∧ wr.ownsMap Try.prog 39 (plainElem Try.prog 3) w.heap.size k (dat g k) ∧ Own wr (w.heap.size + 1) 3 ((cp (labs g n) k).map (Value.int .i64))) (fun i _ => n - (intOf i).toNat)
  case atStart => exact ⟨0, Nat.zero_le _, rfl, by simp, HB0.out, HJ0.out, HM0.out, by rw [cp_zero, labs_length]; exact HO0.out⟩
  case round =>
    obtain ⟨k, hk, rfl, hsz, hbl, hj, hmap, hown⟩ := hrel
    by_cases hlt : k < n
    · have hcl : cnt g k ≤ k := cnt_le g k
      have HE := Lib.hid (cp_succ (labs g n) k (by rw [labs_length]; exact hlt))
      have HG := Lib.hid (labs_getD g hlt)
      have HC := Lib.hid (HF.out k hlt wr (by omega) hj)
      have HKEY := Lib.hid (HZ.out k hlt)
      have HL := Lib.hid (show (cp (labs g n) k).length = n by rw [cp_length _ _ (by rw [labs_length]; omega), labs_length])
      have HOW := Lib.hid hown
      have HBL := Lib.hid hbl
      have HM := Lib.hid hmap
      clear hown hbl hmap hj
      cases hq : fnd g (g k) k with
      | some q =>
        have HQ := Lib.hid hq
        have hql : cnt g q ≤ k := Nat.le_trans (cnt_le g q) (Nat.le_of_lt (fnd_some hq).1)
        have HD := Lib.hid (dat_old hq)
        have HLAB := Lib.hid (lab_old hq)
        clear hq
        go_wp2_with (go_at_call 74; refine (HC.out).mono ?_; rintro e w1 ⟨rfl, hj1, hb1, hs1⟩; have hs0 := Nat.le_trans hsz hb1.size; have hs2 := (show w.heap.size + 2 ≤ (w1.alloc (.cells #[.int .i64 (z k), .int .i64 (y k)] 39)).heap.size by rw [size_alloc]; omega); have HJ1 := Lib.hid (HFI.out _ (w1.alloc (.cells #[.int .i64 (z k), .int .i64 (y k)] 39)) (fun b hb => Below.heap_alloc _ _ _ (by omega)) hj1); have HB1 := Lib.hid ((HBL.out.trans hb1).alloc (by omega) (.cells #[.int .i64 (z k), .int .i64 (y k)] 39)); have HM1 := Lib.hid ((hs1.map HM.out (Nat.le_refl _)).alloc (.cells #[.int .i64 (z k), .int .i64 (y k)] 39)); have HO1 := Lib.hid ((hs1.own HOW.out (Nat.le_succ _)).alloc (.cells #[.int .i64 (z k), .int .i64 (y k)] 39)); have hlook := look_some (t := 106) law39 Try.underlying106 HM1.out HK.out hk HKEY.out HQ.out; have hcell := HO1.out.at k (by rw [HL.out]; exact hlt); rw [Nat.zero_add] at hcell; have hfree := HO1.out.free k; clear hj1 hb1 hs1)
        go_roundw
        case rel => exact ⟨k + 1, by omega, by go_num, by simp [World.setCell]; omega, HB1.out.setCell (by show B0 ≤ w.heap.size + 1; omega) _, HFI.out _ _ (fun b hb => Below.heap_setCell _ _ _ _ (by show b ≠ w.heap.size + 1; omega)) HJ1.out, (by rw [HD.out]; exact (HM1.out.setCell (by show w.heap.size ≠ w.heap.size + 1; omega) _).mono (Nat.le_succ _)), by rw [HE.out, HG.out, HLAB.out, List.map_set]; exact HO1.out.set k _⟩
        case measure => simp [intOf]; omega
      | none =>
        have HQ := Lib.hid hq
        have HD := Lib.hid (dat_new hq)
        have HLAB := Lib.hid (lab_new hq)
        have HSI := Lib.hid (dat_size HK.out k hk)
        clear hq
        go_wp2_with first
          | (at_mapUpdate; refine wpList_mapUpdate_own _ rfl _ _ _ 106 rfl 39 3 law39 Try.underlying106 (plainElem Try.prog 3) w.heap.size k (dat g k) rfl HM1.out (by unfold maxLen; omega) _ _ (g k) rfl rfl HKEY.out (.lit (.int .i64 (cnt g k))) [] (plainElem_int Try.underlying3 (small_wf _ (by omega))) ?_; intro w3 hown3 hgrow3; have HM3 := Lib.hid hown3; have HB3 := Lib.hid (HB1.out.grown hgrow3 (by omega) (fun j hj => by cases hj; exact hB)); have HJ3 := Lib.hid (HFI.out _ _ (fun b hb => hgrow3.block b (by omega) (fun e => by have := Option.some.inj e; omega)) HJ1.out); have HO3 := Lib.hid (Own.block' HO1.out (hgrow3.block _ HO1.out.lt (fun e => by have := Option.some.inj e; omega))); have hs3 := Nat.le_trans hs2 hgrow3.size; have hcell := HO3.out.at k (by rw [HL.out]; exact hlt); rw [Nat.zero_add] at hcell; have hfree := HO3.out.free k; clear hown3 hgrow3)
          | (go_at_call 74; refine (HC.out).mono ?_; rintro e w1 ⟨rfl, hj1, hb1, hs1⟩; have hs0 := Nat.le_trans hsz hb1.size; have hs2 := (show w.heap.size + 2 ≤ (w1.alloc (.cells #[.int .i64 (z k), .int .i64 (y k)] 39)).heap.size by rw [size_alloc]; omega); have HJ1 := Lib.hid (HFI.out _ (w1.alloc (.cells #[.int .i64 (z k), .int .i64 (y k)] 39)) (fun b hb => Below.heap_alloc _ _ _ (by omega)) hj1); have HB1 := Lib.hid ((HBL.out.trans hb1).alloc (by omega) (.cells #[.int .i64 (z k), .int .i64 (y k)] 39)); have HM1 := Lib.hid ((hs1.map HM.out (Nat.le_refl _)).alloc (.cells #[.int .i64 (z k), .int .i64 (y k)] 39)); have HO1 := Lib.hid ((hs1.own HOW.out (Nat.le_succ _)).alloc (.cells #[.int .i64 (z k), .int .i64 (y k)] 39)); have hlook := look_none (t := 106) law39 Try.underlying106 HM1.out HK.out hk HKEY.out HQ.out; have hlen := HM1.out.len Try.underlying106 3; rw [HSI.out] at hlen; clear hj1 hb1 hs1)
        go_roundw
        case rel => exact ⟨k + 1, by omega, by go_num, by simp [World.setCell]; omega, HB3.out.setCell (by show B0 ≤ w.heap.size + 1; omega) _, HFI.out _ _ (fun b hb => Below.heap_setCell _ _ _ _ (by show b ≠ w.heap.size + 1; omega)) HJ3.out, (by rw [HD.out]; exact (HM3.out.setCell (by show w.heap.size ≠ w.heap.size + 1; omega) _)), by rw [HE.out, HG.out, HLAB.out, List.map_set]; exact HO3.out.set k _⟩
        case measure => simp [intOf]; omega
    · have hk' : k = n := by omega
      have HOW := Lib.hid hown
      have HBL := Lib.hid hbl
      have HJ := Lib.hid hj
      clear hown hbl hmap hj
      go_wp2
      go_ret
      subst hk'
      have hall : cp (labs g k) k = labs g k := by have := cp_all (labs g k); rwa [labs_length] at this
      exact ⟨_, rfl, HBL.out, HJ.out, own_ints (by rw [← hall]; exact HOW.out) (labs_length _ _) (by omega)⟩

end Go.Proofs.Ytlacohjecehpiaa.Part
