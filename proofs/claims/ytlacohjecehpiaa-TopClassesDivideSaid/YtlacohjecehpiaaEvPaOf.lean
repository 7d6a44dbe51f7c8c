/-
  Partitions of keys, and of pairs of keys: Of, meet.
-/
import Derived.Test.YtlacohjecehpiaaEvPaNumber
import Derived.StillTailTactics
import Derived.WideKeyPair
namespace Go.Proofs.Ytlacohjecehpiaa.Part
open Go Go.RowKit Go.Part Go.Law Go.Maps

theorem key51 (i len b off cap bx : Nat) (x : Int) (w : World) (hi : i < len) (hp : w.cell? ⟨bx, 0, none⟩ = some (.slice (some ⟨b, off, none⟩) len cap)) (hx : w.cell? ⟨b, off + i, none⟩ = some (.int .i64 x)) :
    Calls Try.prog 51 #[.int .i64 i, .pointer (some ⟨bx, 0, none⟩)] w fun e w' => e = .returned (.int .i64 x) ∧ w = w' := by
  go_enter Try.func51, Try.ntmps51
  go_wp2
  go_ret
  exact ⟨rfl, rfl⟩
set_option maxRecDepth 100000 in
set_option maxHeartbeats 1000000 in
theorem key74 (i len b off cap bx lem c pff cbp bz : Nat) (x y : Int) (w : World) (hi : i < len) (hj : i < lem) (hp : w.cell? ⟨bx, 0, none⟩ = some (.slice (some ⟨b, off, none⟩) len cap)) (hx : w.cell? ⟨b, off + i, none⟩ = some (.int .i64 x))
    (hq : w.cell? ⟨bz, 0, none⟩ = some (.slice (some ⟨c, pff, none⟩) lem cbp)) (hy : w.cell? ⟨c, pff + i, none⟩ = some (.int .i64 y)) :
    Calls Try.prog 74 #[.int .i64 i, .pointer (some ⟨bx, 0, none⟩), .pointer (some ⟨bz, 0, none⟩)] w fun e w' => e = .returned (.agg #[.int .i64 x, .int .i64 y]) ∧ Below w.heap.size w w' := by
  have h1 := cell_lt hp
  have h2 := cell_lt hq
  have h3 := cell_lt hx
  have h4 := cell_lt hy
  go_enter Try.func74, Try.ntmps74
  go_wp2
  refine wp_region_still_tail 9 (by kernel_rfl) (by kernel_rfl) ?_
  change wpStill _ _ (World.drew _) _ _ _
  simp only [List.take_succ_cons, List.take_zero, List.drop_succ_cons, List.drop_zero]
  repeat still_step
  refine wpStill_nil ?_
  change wpList _ _ _ _ _ (World.drew _)
  go_wp2
  refine bodyPost_ret (v := .agg #[.int .i64 x, .int .i64 y]) (by simp [results, Try.results74, go_sem]) rfl ⟨rfl, ((Below.refl _ _).alloc (Nat.le_refl _) _).drew⟩
end Go.Proofs.Ytlacohjecehpiaa.Part
namespace Go.Proofs.Ytlacohjecehpiaa.Part
open Go Go.RowKit Go.Part Go.Law Go.Maps

theorem arr39 : WideMaps.ArrKey Try.prog 39 3 2 := ⟨Try.underlying39, by kernel_rfl, by kernel_rfl, by kernel_rfl⟩
theorem types_pos : decide (0 < Try.prog.types.size) = true := by kernel_rfl
theorem types_some : ∃ m, Try.prog.types.size = m + 1 := by
  have h := of_decide_eq_true types_pos
  generalize Try.prog.types.size = s at *
  exact ⟨s - 1, by omega⟩
theorem laidOut : laidOutB Try.prog = true := by kernel_rfl
theorem row39 : (39 : TypeId) < Try.prog.types.size := of_decide_eq_true (by kernel_rfl)
theorem keyT39 : Try.prog.keyTypeAt 2 39 = true := by kernel_rfl
theorem law39 : Keyed Try.prog 39 := Keyed.of_law (deep_law_laid laidOut (m := 2) (by omega) row39 keyT39 (by rw [Try.underlying39]))
theorem key39 {a b : Int} (wa : (Lit.int .i64 a).wf = true) (wb : (Lit.int .i64 b).wf = true) : keyOf Try.prog 39 (.agg #[.int .i64 a, .int .i64 b]) = some (.string (keyBytes [.int .i64 a, .int .i64 b])) :=
  WideMaps.keyOf_pair arr39 Try.underlying3 types_some wa wb


set_option maxRecDepth 100000 in
set_option maxHeartbeats 1000000 in
theorem number74 (n : Nat) (hn : n ≤ 65536) (z y : Nat → Int) (g : Nat → Lit) (hz : ∀ i, i < n → keyOf Try.prog 39 (.agg #[.int .i64 (z i), .int .i64 (y i)]) = some (g i)) (p q : Addr) (J : World → Prop) (B0 : Nat) (w : World) (hB : B0 ≤ w.heap.size) (hF : Firm w.heap.size J) (hJ : J w)
    (hf : ∀ i : Nat, i < n → ∀ w1, w.heap.size ≤ w1.heap.size → J w1 → Calls Try.prog 74 #[.int .i64 i, .pointer (some p), .pointer (some q)] w1 fun e w2 => e = .returned (.agg #[.int .i64 (z i), .int .i64 (y i)]) ∧ J w2 ∧ Below B0 w1 w2 ∧ Stay w.heap.size w1 w2) :
    Calls Try.prog 73 #[.int .i64 n, .func (.func 74) #[] #[.pointer (some p), .pointer (some q)]] w (NumPost (labs g n) B0 J w) := by
  have HF := Lib.hid hf
  have HK := Lib.hid (show ∀ i, i < n → WideAt.IsKeyLit (g i) from fun i hi => law39.key (hz i hi))
  have HZ := Lib.hid hz
  have HFI := Lib.hid hF
  have HJ0 := Lib.hid (hF w ((w.alloc (.map #[] 0)).alloc (.cells (madeCells #[.int .i64 0] n) 3)) (fun b hb => by rw [Below.heap_alloc _ _ _ (by simp; omega), Below.heap_alloc _ _ _ hb]) hJ)
  have HM0 := Lib.hid ((World.ownsMap_made (H := Unit) w Try.prog 39 (plainElem Try.prog 3)).alloc (.cells (madeCells #[.int .i64 0] n) 3))
  have HO0 := Lib.hid (Own.made (w.alloc (.map #[] 0)) 3 (.int .i64 0) n)
  rw [size_alloc, replicate_ints] at HO0
  have HB0 := Lib.hid (((Below.refl B0 w).alloc hB (.map #[] 0)).alloc (by simp; omega) (.cells (madeCells #[.int .i64 0] n) 3))
  clear hf hz hF hJ
  have hmk := make_ints n (by omega)
  have hmm := @run_makeMap Try.prog
  go_enter Try.func73, Try.ntmps73
  go_wp2
  go_loopw [16] (fun i wr => ∃ k : Nat, k ≤ n ∧ i = .int .i64 k ∧ w.heap.size + 2 ≤ wr.heap.size ∧ Below B0 w wr ∧ J wr ∧ wr.ownsMap Try.prog 39 (plainElem Try.prog 3) w.heap.size k (dat g k) ∧ Own wr (w.heap.size + 1) 3 ((cp (labs g n) k).map (Value.int .i64))) (fun i _ => n - (intOf i).toNat)
  case atStart => exact ⟨0, Nat.zero_le _, rfl, by simp, HB0.out, HJ0.out, HM0.out, by rw [cp_zero, labs_length]; exact HO0.out⟩
  case round =>
    obtain ⟨k, hk, rfl, hsz, hbl, hj, hmap, hown⟩ := hrel
    by_cases hlt : k < n
    · have hcl : cnt g k ≤ k := cnt_le g k
      have HE := Lib.hid (cp_succ (labs g n) k (by rw [labs_length]; exact hlt))
      have HG := Lib.hid (labs_getD g hlt)
      have HC := Lib.hid (HF.out k hlt wr (by omega) hj)
      have HKEY := Lib.hid (HZ.out k hlt)
      have HL := Lib.hid (show (cp (labs g n) k).length = n by rw [cp_length _ _ (by rw [labs_length]; omega), labs_length])
      have HOW := Lib.hid hown
      have HBL := Lib.hid hbl
      have HM := Lib.hid hmap
      clear hown hbl hmap hj
      cases hq : fnd g (g k) k with
      | some q =>
        have HQ := Lib.hid hq
        have hql : cnt g q ≤ k := Nat.le_trans (cnt_le g q) (Nat.le_of_lt (fnd_some hq).1)
        have HD := Lib.hid (dat_old hq)
        have HLAB := Lib.hid (lab_old hq)
        clear hq
        go_wp2_with (go_at_call 74; refine (HC.out).mono ?_; rintro e w1 ⟨rfl, hj1, hb1, hs1⟩; have hs0 := Nat.le_trans hsz hb1.size; have hs2 := (show w.heap.size + 2 ≤ (w1.alloc (.cells #[.int .i64 (z k), .int .i64 (y k)] 39)).heap.size by rw [size_alloc]; omega); have HJ1 := Lib.hid (HFI.out _ (w1.alloc (.cells #[.int .i64 (z k), .int .i64 (y k)] 39)) (fun b hb => Below.heap_alloc _ _ _ (by omega)) hj1); have HB1 := Lib.hid ((HBL.out.trans hb1).alloc (by omega) (.cells #[.int .i64 (z k), .int .i64 (y k)] 39)); have HM1 := Lib.hid ((hs1.map HM.out (Nat.le_refl _)).alloc (.cells #[.int .i64 (z k), .int .i64 (y k)] 39)); have HO1 := Lib.hid ((hs1.own HOW.out (Nat.le_succ _)).alloc (.cells #[.int .i64 (z k), .int .i64 (y k)] 39)); have hlook := look_some (t := 106) law39 Try.underlying106 HM1.out HK.out hk HKEY.out HQ.out; have hcell := HO1.out.at k (by rw [HL.out]; exact hlt); rw [Nat.zero_add] at hcell; have hfree := HO1.out.free k; clear hj1 hb1 hs1)
        go_roundw
        case rel => exact ⟨k + 1, by omega, by go_num, by simp [World.setCell]; omega, HB1.out.setCell (by show B0 ≤ w.heap.size + 1; omega) _, HFI.out _ _ (fun b hb => Below.heap_setCell _ _ _ _ (by show b ≠ w.heap.size + 1; omega)) HJ1.out, (by rw [HD.out]; exact (HM1.out.setCell (by show w.heap.size ≠ w.heap.size + 1; omega) _).mono (Nat.le_succ _)), by rw [HE.out, HG.out, HLAB.out, List.map_set]; exact HO1.out.set k _⟩
        case measure => simp [intOf]; omega
      | none =>
        have HQ := Lib.hid hq
        have HD := Lib.hid (dat_new hq)
        have HLAB := Lib.hid (lab_new hq)
        have HSI := Lib.hid (dat_size HK.out k hk)
        clear hq
        go_wp2_with first
          | (at_mapUpdate; refine wpList_mapUpdate_own _ rfl _ _ _ 106 rfl 39 3 law39 Try.underlying106 (plainElem Try.prog 3) w.heap.size k (dat g k) rfl HM1.out (by unfold maxLen; omega) _ _ (g k) rfl rfl HKEY.out (.lit (.int .i64 (cnt g k))) [] (plainElem_int Try.underlying3 (small_wf _ (by omega))) ?_; intro w3 hown3 hgrow3; have HM3 := Lib.hid hown3; have HB3 := Lib.hid (HB1.out.grown hgrow3 (by omega) (fun j hj => by cases hj; exact hB)); have HJ3 := Lib.hid (HFI.out _ _ (fun b hb => hgrow3.block b (by omega) (fun e => by have := Option.some.inj e; omega)) HJ1.out); have HO3 := Lib.hid (Own.block' HO1.out (hgrow3.block _ HO1.out.lt (fun e => by have := Option.some.inj e; omega))); have hs3 := Nat.le_trans hs2 hgrow3.size; have hcell := HO3.out.at k (by rw [HL.out]; exact hlt); rw [Nat.zero_add] at hcell; have hfree := HO3.out.free k; clear hown3 hgrow3)
          | (go_at_call 74; refine (HC.out).mono ?_; rintro e w1 ⟨rfl, hj1, hb1, hs1⟩; have hs0 := Nat.le_trans hsz hb1.size; have hs2 := (show w.heap.size + 2 ≤ (w1.alloc (.cells #[.int .i64 (z k), .int .i64 (y k)] 39)).heap.size by rw [size_alloc]; omega); have HJ1 := Lib.hid (HFI.out _ (w1.alloc (.cells #[.int .i64 (z k), .int .i64 (y k)] 39)) (fun b hb => Below.heap_alloc _ _ _ (by omega)) hj1); have HB1 := Lib.hid ((HBL.out.trans hb1).alloc (by omega) (.cells #[.int .i64 (z k), .int .i64 (y k)] 39)); have HM1 := Lib.hid ((hs1.map HM.out (Nat.le_refl _)).alloc (.cells #[.int .i64 (z k), .int .i64 (y k)] 39)); have HO1 := Lib.hid ((hs1.own HOW.out (Nat.le_succ _)).alloc (.cells #[.int .i64 (z k), .int .i64 (y k)] 39)); have hlook := look_none (t := 106) law39 Try.underlying106 HM1.out HK.out hk HKEY.out HQ.out; have hlen := HM1.out.len Try.underlying106 3; rw [HSI.out] at hlen; clear hj1 hb1 hs1)
        go_roundw
        case rel => exact ⟨k + 1, by omega, by go_num, by simp [World.setCell]; omega, HB3.out.setCell (by show B0 ≤ w.heap.size + 1; omega) _, HFI.out _ _ (fun b hb => Below.heap_setCell _ _ _ _ (by show b ≠ w.heap.size + 1; omega)) HJ3.out, (by rw [HD.out]; exact (HM3.out.setCell (by show w.heap.size ≠ w.heap.size + 1; omega) _)), by rw [HE.out, HG.out, HLAB.out, List.map_set]; exact HO3.out.set k _⟩
        case measure => simp [intOf]; omega
    · have hk' : k = n := by omega
      have HOW := Lib.hid hown
      have HBL := Lib.hid hbl
      have HJ := Lib.hid hj
      clear hown hbl hmap hj
      go_wp2
      go_ret
      subst hk'
      have hall : cp (labs g k) k = labs g k := by have := cp_all (labs g k); rwa [labs_length] at this
      exact ⟨_, rfl, HBL.out, HJ.out, own_ints (by rw [← hall]; exact HOW.out) (labs_length _ _) (by omega)⟩

end Go.Proofs.Ytlacohjecehpiaa.Part
namespace Go.Proofs.Ytlacohjecehpiaa.Part
open Go Go.RowKit Go.Part Go.Law Go.Maps

/-- A list of its own. -/
def ListPost (zs : List Int) (W : World) (e : Ending) (w' : World) : Prop := ∃ v, e = .returned v ∧ Below W.heap.size W w' ∧ IntsAt w' .i64 v zs
/-- A list of its own, with a number. -/
def PairPost (zs : List Int) (c : Int) (W : World) (e : Ending) (w' : World) : Prop := ∃ v, e = .returned (.tuple #[v, .int .i64 c]) ∧ Below W.heap.size W w' ∧ IntsAt w' .i64 v zs
theorem ints_nil (w : World) : IntsAt w .i64 (.slice none 0 0) [] := ⟨none, 0, rfl, Nat.le_refl _, by simp [maxLen], .inl rfl⟩
theorem ints_below {w w' : World} {v : Value} {zs : List Int} (h : IntsAt w .i64 v zs) (hb : Below w.heap.size w w') : IntsAt w' .i64 v zs := by
  obtain ⟨a, cap, rfl, h1, h2, h3⟩ := h
  refine ⟨a, cap, rfl, h1, h2, h3.imp id ?_⟩
  rintro ⟨b, off, rfl, hlt, hc⟩
  exact ⟨b, off, rfl, Nat.lt_of_lt_of_le hlt hb.size, fun j hj => by rw [hb.cell hlt]; exact hc j hj⟩
/-- All numbers are of the machine's kind. -/
def Fit (zs : List Int) : Prop := ∀ x ∈ zs, (Lit.int .i64 x).wf = true
theorem Fit.getD {zs : List Int} (h : Fit zs) (i : Nat) : (Lit.int .i64 (zs.getD i 0)).wf = true := by
  by_cases hi : i < zs.length
  · rw [show zs.getD i 0 = zs[i] by simp [List.getD, List.getElem?_eq_getElem hi]]; exact h _ (List.getElem_mem hi)
  · rw [List.getD_eq_getElem?_getD, List.getElem?_eq_none (by omega)]; decide
theorem labs_fit {α : Type} [DecidableEq α] (f : Nat → α) (n : Nat) (hn : n ≤ 65538) : Fit (labs f n) := by
  intro x hx
  simp only [labs, List.mem_map, List.mem_range] at hx
  obtain ⟨i, hi, rfl⟩ := hx
  exact small_wf _ (by have := lab_lt f hi; have := cnt_le f n; omega)
/-- A box with a slice. -/
def BoxAt (w : World) (bx b off n cap : Nat) (zs : List Int) : Prop := w.cell? ⟨bx, 0, none⟩ = some (.slice (some ⟨b, off, none⟩) n cap) ∧ ∀ j, j < zs.length → w.cell? ⟨b, off + j, none⟩ = some (.int .i64 (zs.getD j 0))
theorem cell_same {w1 w2 : World} {a : Addr} (h : w2.heap[a.block]? = w1.heap[a.block]?) : w2.cell? a = w1.cell? a := by simp only [World.cell?, h]
theorem BoxAt.firm {bx b off n cap N : Nat} {zs : List Int} (hx : bx < N) (hb : b < N) : Firm N (fun w => BoxAt w bx b off n cap zs) := by
  intro w1 w2 h hw
  exact ⟨by rw [cell_same (h bx hx)]; exact hw.1, fun j hj => by rw [cell_same (h b hb)]; exact hw.2 j hj⟩
theorem bel_le {B : Nat} {w w' : World} (h : Below w.heap.size w w') (hB : B ≤ w.heap.size) : Below B w w' := h.mono hB
def ofCode (zs : List Int) : Int := if 65536 < zs.length then 5 else 0
def ofList (zs : List Int) : List Int := if 65536 < zs.length then [] else labs (fn zs) zs.length
def glit (zs : List Int) : Nat → Lit := fun i => .int .i64 (zs.getD i 0)
theorem glit_eqv (zs : List Int) (n : Nat) : Eqv n (glit zs) (fn zs) := by
  intro i j _ _
  simp [glit, fn]
theorem glit_key {zs : List Int} (h : Fit zs) (i : Nat) : keyOf Try.prog 3 (.int .i64 (fn zs i)) = some (glit zs i) := keyOf_int_mk Try.underlying3 (h.getD i)
theorem of_long (a : Option Addr) (len cap : Nat) (hl : 65536 < len) (w : World) : Calls Try.prog 21 #[.slice a len cap] w (PairPost [] 5 w) := by
  go_enter Try.func21, Try.ntmps21
  go_wp2
  go_ret2
  exact ⟨_, rfl, (Below.refl _ _).alloc (Nat.le_refl _) _, ints_nil _⟩
theorem of_nil (a : Option Addr) (cap : Nat) (w : World) : Calls Try.prog 21 #[.slice a 0 cap] w (PairPost [] 0 w) := by
  have HN := Lib.hid (fun w1 : World => number51 0 (by omega) (fn []) (glit []) (fun i hi => by omega) ⟨w.heap.size, 0, none⟩ (fun _ => True) w.heap.size (w.alloc (.cells #[.slice a 0 cap] 22)) (by simp) (fun _ _ _ _ => trivial) trivial (fun i hi => by omega))
  go_enter Try.func21, Try.ntmps21
  go_wp2_with (go_at_call 50; refine (HN.out w).mono ?_; rintro e w1 ⟨v, rfl, hb, _, hi⟩; have HB := Lib.hid hb; have HI := Lib.hid hi; clear hb hi)
  go_ret2
  exact ⟨v, rfl, ((Below.refl _ _).alloc (Nat.le_refl _) _).trans HB.out, HI.out⟩
set_option maxHeartbeats 800000 in
theorem of_some (b off len cap : Nat) (zs : List Int) (hz : zs.length = len) (hl : ¬ 65536 < len) (hf : Fit zs) (w : World) (hb : b < w.heap.size) (hc : ∀ j, j < zs.length → w.cell? ⟨b, off + j, none⟩ = some (.int .i64 (zs.getD j 0))) :
    Calls Try.prog 21 #[.slice (some ⟨b, off, none⟩) len cap] w (PairPost (labs (fn zs) len) 0 w) := by
  have HN := Lib.hid (number51 len (by omega) (fn zs) (glit zs) (fun i hi => glit_key hf i) ⟨w.heap.size, 0, none⟩ (fun w1 => BoxAt w1 w.heap.size b off len cap zs) w.heap.size (w.alloc (.cells #[.slice (some ⟨b, off, none⟩) len cap] 22)) (by simp)
    (BoxAt.firm (by simp) (by simp; omega)) ⟨by rw [World.cell?_alloc_at _ _ _ _ rfl]; rfl, fun j hj => by rw [World.cell?_alloc_past _ _ _ hb]; exact hc j hj⟩
    (fun i hi w1 hw1 hJ => (key51 i len b off cap w.heap.size _ w1 hi hJ.1 (hJ.2 i (by omega))).mono fun e w2 h => ⟨h.1, h.2 ▸ hJ, h.2 ▸ Below.refl _ _, h.2 ▸ Stay.refl _ _⟩))
  rw [labs_eqv (glit_eqv zs len)] at HN
  clear hf hz hc hb
  go_enter Try.func21, Try.ntmps21
  go_wp2_with (go_at_call 50; refine (HN.out).mono ?_; rintro e w1 ⟨v, rfl, hb, _, hi⟩; have HB := Lib.hid hb; have HI := Lib.hid hi; clear hb hi)
  go_ret2
  exact ⟨v, rfl, ((Below.refl _ _).alloc (Nat.le_refl _) _).trans HB.out, HI.out⟩
theorem of_any {w : World} {v : Value} {zs : List Int} (h : IntsAt w .i64 v zs) (hf : Fit zs) : Calls Try.prog 21 #[v] w (PairPost (ofList zs) (ofCode zs) w) := by
  obtain ⟨a, cap, rfl, h1, h2, h3⟩ := h
  unfold ofList ofCode
  by_cases hl : 65536 < zs.length
  · rw [if_pos hl, if_pos hl]; exact of_long _ _ _ hl w
  · rw [if_neg hl, if_neg hl]
    rcases h3 with rfl | ⟨b, off, rfl, hb, hc⟩
    · exact of_nil _ _ w
    · exact of_some b off _ cap zs rfl hl hf w hb hc

/-! Pairs. -/
def prs (zs ys : List Int) : Nat → Int × Int := fun i => (zs.getD i 0, ys.getD i 0)
def plit (zs ys : List Int) : Nat → Lit := fun i => .string (keyBytes [.int .i64 (zs.getD i 0), .int .i64 (ys.getD i 0)])
theorem plit_key {zs ys : List Int} (h : Fit zs) (h' : Fit ys) (i : Nat) : keyOf Try.prog 39 (.agg #[.int .i64 (fn zs i), .int .i64 (fn ys i)]) = some (plit zs ys i) := key39 (h.getD i) (h'.getD i)
theorem plit_eqv {zs ys : List Int} (h : Fit zs) (h' : Fit ys) (n : Nat) : Eqv n (plit zs ys) (prs zs ys) := by
  intro i j _ _
  constructor
  · intro e
    have h1 := plit_key h h' i
    have h2 := plit_key h h' j
    rw [← e] at h2
    have := law39.inj h1 h2
    simp only [Value.agg.injEq, Array.mk.injEq, List.cons.injEq, Value.int.injEq, true_and, and_true] at this
    exact Prod.ext this.1 this.2
  · intro e
    have e1 : zs.getD i 0 = zs.getD j 0 := congrArg Prod.fst e
    have e2 : ys.getD i 0 = ys.getD j 0 := congrArg Prod.snd e
    simp only [plit, e1, e2]
/-- The labels of pairs. -/
def cut (zs ys : List Int) : List Int := labs (prs zs ys) zs.length
theorem meet_nil (a a' : Option Addr) (cap cap' : Nat) (w : World) : Calls Try.prog 54 #[.slice a 0 cap, .slice a' 0 cap'] w (ListPost [] w) := by
  have HN := Lib.hid (number74 0 (by omega) (fn []) (fn []) (glit []) (fun i hi => by omega) ⟨w.heap.size, 0, none⟩ ⟨w.heap.size + 1, 0, none⟩ (fun _ => True) w.heap.size ((w.alloc (.cells #[.slice a 0 cap] 22)).alloc (.cells #[.slice a' 0 cap'] 22)) (by simp; omega) (fun _ _ _ _ => trivial) trivial (fun i hi => by omega))
  go_enter Try.func54, Try.ntmps54
  go_wp2_with (go_at_call 73; refine (HN.out).mono ?_; rintro e w1 ⟨v, rfl, hb, _, hi⟩; have HB := Lib.hid hb; have HI := Lib.hid hi; clear hb hi)
  go_ret
  exact ⟨v, rfl, (((Below.refl _ _).alloc (Nat.le_refl _) _).alloc (by simp) _).trans HB.out, HI.out⟩
set_option maxHeartbeats 800000 in
theorem meet_some (b off cap c pff cbp len : Nat) (zs ys : List Int) (hz : zs.length = len) (hy : ys.length = len) (hl : ¬ 65536 < len) (hf : Fit zs) (hg : Fit ys) (w : World) (hb : b < w.heap.size) (hc : ∀ j, j < zs.length → w.cell? ⟨b, off + j, none⟩ = some (.int .i64 (zs.getD j 0)))
    (hb' : c < w.heap.size) (hc' : ∀ j, j < ys.length → w.cell? ⟨c, pff + j, none⟩ = some (.int .i64 (ys.getD j 0))) :
    Calls Try.prog 54 #[.slice (some ⟨b, off, none⟩) len cap, .slice (some ⟨c, pff, none⟩) len cbp] w (ListPost (labs (prs zs ys) len) w) := by
  have HN := Lib.hid (number74 len (by omega) (fn zs) (fn ys) (plit zs ys) (fun i hi => plit_key hf hg i) ⟨w.heap.size, 0, none⟩ ⟨w.heap.size + 1, 0, none⟩ (fun w1 => BoxAt w1 w.heap.size b off len cap zs ∧ BoxAt w1 (w.heap.size + 1) c pff len cbp ys) w.heap.size ((w.alloc (.cells #[.slice (some ⟨b, off, none⟩) len cap] 22)).alloc (.cells #[.slice (some ⟨c, pff, none⟩) len cbp] 22)) (by simp; omega)
    (fun w1 w2 h hw => ⟨BoxAt.firm (N := w.heap.size + 2) (by omega) (by omega) w1 w2 (by simpa using h) hw.1, BoxAt.firm (N := w.heap.size + 2) (by omega) (by omega) w1 w2 (by simpa using h) hw.2⟩)
    ⟨⟨by rw [World.cell?_alloc_past _ _ _ (by simp), World.cell?_alloc_at _ _ _ _ rfl]; rfl, fun j hj => by rw [World.cell?_alloc_past _ _ _ (by simp; omega), World.cell?_alloc_past _ _ _ hb]; exact hc j hj⟩,
     ⟨by rw [World.cell?_alloc_at _ _ _ _ (by simp)]; rfl, fun j hj => by rw [World.cell?_alloc_past _ _ _ (by simp; omega), World.cell?_alloc_past _ _ _ hb']; exact hc' j hj⟩⟩
    (fun i hi w1 hw1 hJ => (key74 i len b off cap w.heap.size len c pff cbp (w.heap.size + 1) _ _ w1 hi hi hJ.1.1 (hJ.1.2 i (by omega)) hJ.2.1 (hJ.2.2 i (by omega))).mono fun e w2 h => ⟨h.1,
      ⟨BoxAt.firm (N := w1.heap.size) (cell_lt hJ.1.1) (cell_lt (hJ.1.2 i (by omega))) w1 w2 (fun b hb => h.2.block b hb) hJ.1, BoxAt.firm (N := w1.heap.size) (cell_lt hJ.2.1) (cell_lt (hJ.2.2 i (by omega))) w1 w2 (fun b hb => h.2.block b hb) hJ.2⟩,
      bel_le h.2 (by simp at hw1; omega), stay_below h.2⟩))
  rw [labs_eqv (plit_eqv hf hg len)] at HN
  clear hf hg hz hy hc hb hc' hb'
  go_enter Try.func54, Try.ntmps54
  go_wp2_with (go_at_call 73; refine (HN.out).mono ?_; rintro e w1 ⟨v, rfl, hb, _, hi⟩; have HB := Lib.hid hb; have HI := Lib.hid hi; clear hb hi)
  go_ret
  exact ⟨v, rfl, (((Below.refl _ _).alloc (Nat.le_refl _) _).alloc (by simp) _).trans HB.out, HI.out⟩
theorem meet_any {w : World} {v u : Value} {zs ys : List Int} (h : IntsAt w .i64 v zs) (h' : IntsAt w .i64 u ys) (hl : zs.length = ys.length) (hs : ¬ 65536 < zs.length) (hf : Fit zs) (hg : Fit ys) : Calls Try.prog 54 #[v, u] w (ListPost (cut zs ys) w) := by
  obtain ⟨a, cap, rfl, h1, h2, h3⟩ := h
  obtain ⟨a', cap', rfl, h1', h2', h3'⟩ := h'
  rcases h3 with rfl | ⟨b, off, rfl, hb, hc⟩
  · rw [← hl]
    exact meet_nil _ _ _ _ w
  · rcases h3' with rfl | ⟨c, pff, rfl, hb', hc'⟩
    · have : zs = [] := List.length_eq_zero_iff.1 hl
      subst this
      exact meet_nil _ _ _ _ w
    · rw [← hl]
      exact meet_some b off cap c pff cap' _ zs ys rfl hl.symm hs hf hg w hb hc hb' hc'
end Go.Proofs.Ytlacohjecehpiaa.Part
