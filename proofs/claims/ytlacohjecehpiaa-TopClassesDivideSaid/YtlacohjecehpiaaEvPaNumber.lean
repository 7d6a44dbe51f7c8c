/-
  Elements numbered by their keys: the program's number, over any key function.
-/
import Derived.Test.YtlacohjecehpiaaEvPaMath
import Derived.Maps.Views
import Derived.Maps.OwnSet
import Derived.WalkKit
import Derived.DeepKeys4
import Derived.Test.YtlacohjecehpiaaEvOwn
import Derived.Test.YtlacohjecehpiaaEvPaCheck
import Derived.OwnWalk
set_option linter.unusedSectionVars false
namespace Go.Part
open Go Go.RowKit Go.Maps

noncomputable instance litEq : DecidableEq Lit := fun a b => Classical.propDecidable (a = b)
/-- The map behind k keys. -/
noncomputable def dat (g : Nat → Lit) : Nat → DataW Unit
  | 0 => .map []
  | k + 1 => if fnd g (g k) k = none then (dat g k).put (g k) (.lit (.int .i64 (cnt g k))) else dat g k
variable {g : Nat → Lit} {n : Nat}
theorem dat_new {k : Nat} (h : fnd g (g k) k = none) : dat g (k + 1) = (dat g k).put (g k) (.lit (.int .i64 (cnt g k))) := by rw [dat, if_pos h]
theorem dat_old {k j : Nat} (h : fnd g (g k) k = some j) : dat g (k + 1) = dat g k := by rw [dat, if_neg (by rw [h]; simp)]
theorem dat_tidy (hk : ∀ i, i < n → WideAt.IsKeyLit (g i)) : ∀ k, k ≤ n → Tidy (dat g k)
  | 0, _ => tidy_empty
  | k + 1, h => by
    have ih := dat_tidy hk k (by omega)
    cases e : fnd g (g k) k with
    | none => rw [dat_new e]; exact ih.put (hk k (by omega)) _
    | some j => rw [dat_old e]; exact ih
theorem dat_look (hk : ∀ i, i < n → WideAt.IsKeyLit (g i)) (x : Lit) : ∀ k, k ≤ n →
    (∀ j, fnd g x k = some j → has (dat g k) x = true ∧ ∀ z, (dat g k).atKey x z = .lit (.int .i64 (cnt g j))) ∧ (fnd g x k = none → has (dat g k) x = false)
  | 0, _ => ⟨fun j h => by simp [fnd] at h, fun _ => rfl⟩
  | k + 1, h => by
    obtain ⟨ih1, ih2⟩ := dat_look hk x k (by omega)
    have ht := (dat_tidy hk k (by omega)).isMap
    cases e : fnd g (g k) k with
    | none =>
      rw [dat_new e]
      by_cases ex : x = g k
      · subst ex
        refine ⟨fun j hj => ?_, fun hn => ?_⟩
        · have : fnd g (g k) (k + 1) = some k := fnd_at (by omega) rfl e
          rw [this] at hj
          cases hj
          exact ⟨has_put_same ht (hk k (by omega)) _, fun z => atKey_put_same ht (hk k (by omega)) _ z⟩
        · exact absurd rfl (fnd_none.1 hn k (by omega))
      · have hs : fnd g x (k + 1) = fnd g x k := by
          show (match fnd g x k with | some q => some q | none => if g k = x then some k else none) = _
          cases fnd g x k with
          | none => simp [Ne.symm ex]
          | some q => rfl
        rw [hs]
        refine ⟨fun j hj => ?_, fun hn => ?_⟩
        · obtain ⟨a, b⟩ := ih1 j hj
          exact ⟨by rw [has_put_other ex]; exact a, fun z => by rw [atKey_put_other ex]; exact b z⟩
        · rw [has_put_other ex]; exact ih2 hn
    | some q =>
      rw [dat_old e]
      refine ⟨fun j hj => ?_, fun hn => ih2 (fnd_none.2 fun i hi => fnd_none.1 hn i (by omega))⟩
      cases h0 : fnd g x k with
      | some j' =>
        have := fnd_mono h0 (show k ≤ k + 1 by omega)
        rw [this] at hj
        cases hj
        exact ih1 j h0
      | none =>
        exfalso
        obtain ⟨h1, h2, h3⟩ := fnd_some hj
        have : j = k := by
          rcases Nat.lt_or_ge j k with hlt | hge
          · exact absurd h2 (fnd_none.1 h0 j hlt)
          · omega
        subst this
        obtain ⟨q1, q2, q3⟩ := fnd_some e
        exact fnd_none.1 h0 q q1 (by rw [q2, h2])
theorem dat_size (hk : ∀ i, i < n → WideAt.IsKeyLit (g i)) : ∀ k, k ≤ n → size (dat g k) = cnt g k
  | 0, _ => rfl
  | k + 1, h => by
    have ih := dat_size hk k (by omega)
    have ht := dat_tidy hk k (by omega)
    cases e : fnd g (g k) k with
    | none => rw [dat_new e, cnt_fresh e, size_put ht, (dat_look hk (g k) k (by omega)).2 e]; simp [ih]
    | some j => rw [dat_old e, cnt_old e, ih]

/-! Memory: what stays. -/
/-- The blocks from N on stay. -/
def Stay (N : Nat) (w w' : World) : Prop := ∀ b, N ≤ b → b < w.heap.size → w'.heap[b]? = w.heap[b]?
theorem Stay.refl (N : Nat) (w : World) : Stay N w w := fun _ _ _ => rfl
theorem stay_below {N : Nat} {w w' : World} (h : Below w.heap.size w w') : Stay N w w' := fun b _ hb => h.block b hb
theorem Stay.own {N : Nat} {w w' : World} (h : Stay N w w') {B : Nat} {t : TypeId} {cs : List Value} (ho : Law.Own w B t cs) (hB : N ≤ B) : Law.Own w' B t cs := by
  have hlt := ho.lt
  unfold Law.Own at ho ⊢
  rw [h B hB hlt]; exact ho
theorem Stay.map {N : Nat} {w w' : World} (h : Stay N w w') {P : Program} {k : TypeId} {R : Value → Option (DataW Unit × List MemPlace)} {b n : Nat} {D : DataW Unit} (ho : w.ownsMap P k R b n D) (hB : N ≤ b) : w'.ownsMap P k R b n D := by
  have hlt := ho.lt
  obtain ⟨es, clock, hb, r⟩ := ho
  exact ⟨es, clock, by rw [h b hB hlt]; exact hb, r⟩
/-- What a fact on the world needs: the blocks below N. -/
def Firm (N : Nat) (J : World → Prop) : Prop := ∀ w1 w2 : World, (∀ b, b < N → w2.heap[b]? = w1.heap[b]?) → J w1 → J w2

/-- The first k labels, zeros behind. -/
def cp (vs : List Int) (k : Nat) : List Int := vs.take k ++ List.replicate (vs.length - k) 0
theorem cp_zero (vs : List Int) : cp vs 0 = List.replicate vs.length 0 := by simp [cp]
theorem cp_length (vs : List Int) (k : Nat) (h : k ≤ vs.length) : (cp vs k).length = vs.length := by simp [cp]; omega
theorem cp_all (vs : List Int) : cp vs vs.length = vs := by simp [cp]
theorem take_snoc {l : List Int} {k : Nat} (h : k < l.length) : l.take (k + 1) = l.take k ++ [l.getD k 0] := by
  rw [List.take_succ_eq_append_getElem h]; simp [List.getD, List.getElem?_eq_getElem h]
theorem cp_succ (vs : List Int) (k : Nat) (h : k < vs.length) : cp vs (k + 1) = (cp vs k).set k (vs.getD k 0) := by
  unfold cp
  rw [take_snoc h, List.set_append_right _ _ (by rw [List.length_take]; omega)]
  rw [List.length_take, Nat.min_eq_left (by omega), Nat.sub_self, List.append_assoc]
  congr 1
  rw [show vs.length - k = (vs.length - (k + 1)) + 1 from by omega, List.replicate_succ]
  rfl
end Go.Part
namespace Go.Proofs.Ytlacohjecehpiaa.Part
open Go Go.RowKit Go.Part Go.Law Go.Maps

theorem info3 : (Try.prog.info? 3).map (fun i => (i.zero, i.size, i.bytes)) = some (some (.int .i64 0), 1, 8) := by kernel_rfl
theorem make_ints (n : Nat) (hn : n ≤ 65538) (W : World) : (Instr.makeSlice 22 (.int .i64 (n : Int)) (.int .i64 (n : Int))).run Try.prog W = .ok (.slice (some ⟨W.heap.size, 0, none⟩) n n) (W.alloc (.cells (madeCells #[.int .i64 0] n) 3)) := by
  obtain ⟨i0, hi, hz0, hz1, hz2⟩ := info_parts info3
  have := run_make (P := Try.prog) W 22 3 i0 (.int .i64 0) Try.underlying22 hi hz0 .i64 .i64 (n : Int) (n : Int) (by omega) (by omega) (by rw [hz2]; omega) (by omega)
  rw [this, hz1]
  simp [Value.cells]
theorem own_ints {w : World} {B n : Nat} {zs : List Int} (h : Own w B 3 (zs.map (Value.int .i64))) (hn : zs.length = n) (h5 : n ≤ 65538) : IntsAt w .i64 (.slice (some ⟨B, 0, none⟩) n n) zs := by
  subst hn
  exact ⟨_, _, rfl, Nat.le_refl _, by unfold maxLen; omega, .inr ⟨B, 0, rfl, h.lt, h.at⟩⟩
theorem replicate_ints (n : Nat) : List.replicate n (Value.int .i64 0) = (List.replicate n (0 : Int)).map (Value.int .i64) := by simp
theorem law3 : Keyed Try.prog 3 := int_keyed Try.underlying3
theorem zero3 (w : World) : (zeroValue 3).run Try.prog w = .ok (.int .i64 0) w := by kernel_rfl
/-- A list of numbers of the call's own; what is below B0, and J, stay. -/
def NumPost (zs : List Int) (B0 : Nat) (J : World → Prop) (W : World) (e : Ending) (w' : World) : Prop := ∃ v, e = .returned v ∧ Below B0 W w' ∧ J w' ∧ IntsAt w' .i64 v zs
theorem small_wf (c : Nat) (hc : c ≤ 65538) : (Lit.int .i64 (c : Int)).wf = true := by
  have h1 : IntKind.i64.min ≤ (c : Int) := by show (-9223372036854775808 : Int) ≤ c; omega
  have h2 : (c : Int) ≤ IntKind.i64.max := by show (c : Int) ≤ 9223372036854775807; omega
  simp only [Lit.wf, Bool.and_eq_true, decide_eq_true_eq]
  exact ⟨h1, h2⟩
theorem size_alloc (w : World) (o : Obj) : (w.alloc o).heap.size = w.heap.size + 1 := by simp
section
variable {k : TypeId} {w : World} {M n : Nat} {g : Nat → Lit} {i : Nat}
theorem look_some {t : TypeId} (K : Keyed Try.prog k) (ht : Try.prog.underlying t = some (.map k 3)) (h : w.ownsMap Try.prog k (plainElem Try.prog 3) M i (dat g i)) (hk : ∀ i, i < n → WideAt.IsKeyLit (g i)) (hi : i ≤ n) {key : Value} {x : Lit} (hkey : keyOf Try.prog k key = some x) {j : Nat} (hj : fnd g x i = some j) :
    (Instr.lookup t (.map (some M)) key true).run Try.prog w = .ok (.tuple #[.int .i64 (cnt g j), .bool true]) w := by
  obtain ⟨v, ps, hrun, hv⟩ := h.look_ok K ht (zero3 w) (plainElem_int Try.underlying3 (by decide)) hkey
  obtain ⟨a, b⟩ := (dat_look hk x i hi).1 j hj
  rw [a] at hrun
  rw [b] at hv
  obtain ⟨c, rfl, hc, _⟩ := plainElem_int_inv Try.underlying3 hv
  simp only [Prod.mk.injEq, DataW.lit.injEq, Lit.int.injEq, true_and] at hc
  rw [hrun, hc.1]
theorem look_none {t : TypeId} (K : Keyed Try.prog k) (ht : Try.prog.underlying t = some (.map k 3)) (h : w.ownsMap Try.prog k (plainElem Try.prog 3) M i (dat g i)) (hk : ∀ i, i < n → WideAt.IsKeyLit (g i)) (hi : i ≤ n) {key : Value} {x : Lit} (hkey : keyOf Try.prog k key = some x) (hj : fnd g x i = none) :
    (Instr.lookup t (.map (some M)) key true).run Try.prog w = .ok (.tuple #[.int .i64 0, .bool false]) w := by
  obtain ⟨v, ps, hrun, hv⟩ := h.look_ok K ht (zero3 w) (plainElem_int Try.underlying3 (by decide)) hkey
  have a := (dat_look hk x i hi).2 hj
  rw [a] at hrun
  rw [atKey_of_not_has a] at hv
  obtain ⟨c, rfl, hc, _⟩ := plainElem_int_inv Try.underlying3 hv
  simp only [Prod.mk.injEq, DataW.lit.injEq, Lit.int.injEq, true_and] at hc
  rw [hrun, ← hc.1]
end

theorem Own.block' {w w' : World} {B : Nat} {t : TypeId} {cs : List Value} (h : Own w B t cs) (e : w'.heap[B]? = w.heap[B]?) : Own w' B t cs := by
  unfold Own at h ⊢
  rw [e]; exact h

set_option maxRecDepth 100000 in
set_option maxHeartbeats 1000000 in
theorem number51 (n : Nat) (hn : n ≤ 65536) (z : Nat → Int) (g : Nat → Lit) (hz : ∀ i, i < n → keyOf Try.prog 3 (.int .i64 (z i)) = some (g i)) (p : Addr) (J : World → Prop) (B0 : Nat) (w : World) (hB : B0 ≤ w.heap.size) (hF : Firm w.heap.size J) (hJ : J w)
    (hf : ∀ i : Nat, i < n → ∀ w1, w.heap.size ≤ w1.heap.size → J w1 → Calls Try.prog 51 #[.int .i64 i, .pointer (some p)] w1 fun e w2 => e = .returned (.int .i64 (z i)) ∧ J w2 ∧ Below B0 w1 w2 ∧ Stay w.heap.size w1 w2) :
    Calls Try.prog 50 #[.int .i64 n, .func (.func 51) #[] #[.pointer (some p)]] w (NumPost (labs g n) B0 J w) := by
  have HF := Lib.hid hf
  have HK := Lib.hid (show ∀ i, i < n → WideAt.IsKeyLit (g i) from fun i hi => law3.key (hz i hi))
  have HZ := Lib.hid hz
  have HFI := Lib.hid hF
  have HJ0 := Lib.hid (hF w ((w.alloc (.map #[] 0)).alloc (.cells (madeCells #[.int .i64 0] n) 3)) (fun b hb => by rw [Below.heap_alloc _ _ _ (by simp; omega), Below.heap_alloc _ _ _ hb]) hJ)
  have HM0 := Lib.hid ((World.ownsMap_made (H := Unit) w Try.prog 3 (plainElem Try.prog 3)).alloc (.cells (madeCells #[.int .i64 0] n) 3))
  have HO0 := Lib.hid (Own.made (w.alloc (.map #[] 0)) 3 (.int .i64 0) n)
  rw [size_alloc, replicate_ints] at HO0
  have HB0 := Lib.hid (((Below.refl B0 w).alloc hB (.map #[] 0)).alloc (by simp; omega) (.cells (madeCells #[.int .i64 0] n) 3))
  clear hf hz hF hJ
  have hmk := make_ints n (by omega)
  have hmm := @run_makeMap Try.prog
  go_enter Try.func50, Try.ntmps50
  go_wp2
  go_loopw [16] (fun i wr => ∃ k : Nat, k ≤ n ∧ i = .int .i64 k ∧ w.heap.size + 2 ≤ wr.heap.size ∧ Below B0 w wr ∧ J wr ∧ wr.ownsMap Try.prog 3 (plainElem Try.prog 3) w.heap.size k (dat g k) ∧ Own wr (w.heap.size + 1) 3 ((cp (labs g n) k).map (Value.int .i64))) (fun i _ => n - (intOf i).toNat)
  case atStart => exact ⟨0, Nat.zero_le _, rfl, by simp, HB0.out, HJ0.out, HM0.out, by rw [cp_zero, labs_length]; exact HO0.out⟩
  case round =>
    obtain ⟨k, hk, rfl, hsz, hbl, hj, hmap, hown⟩ := hrel
    by_cases hlt : k < n
    · have hcl : cnt g k ≤ k := cnt_le g k
      have HE := Lib.hid (cp_succ (labs g n) k (by rw [labs_length]; exact hlt))
      have HG := Lib.hid (labs_getD g hlt)
      have HC := Lib.hid (HF.out k hlt wr (by omega) hj)
      have HKEY := Lib.hid (HZ.out k hlt)
      have HL := Lib.hid (show (cp (labs g n) k).length = n by rw [cp_length _ _ (by rw [labs_length]; omega), labs_length])
      have HOW := Lib.hid hown
      have HBL := Lib.hid hbl
      have HM := Lib.hid hmap
      clear hown hbl hmap hj
      cases hq : fnd g (g k) k with
      | some q =>
        have HQ := Lib.hid hq
        have hql : cnt g q ≤ k := Nat.le_trans (cnt_le g q) (Nat.le_of_lt (fnd_some hq).1)
        have HD := Lib.hid (dat_old hq)
        have HLAB := Lib.hid (lab_old hq)
        clear hq
        go_wp2_with (go_at_call 51; refine (HC.out).mono ?_; rintro e w1 ⟨rfl, hj1, hb1, hs1⟩; have hs0 := Nat.le_trans hsz hb1.size; have hs2 := (Nat.le_trans hsz hb1.size); have HJ1 := Lib.hid hj1; have HB1 := Lib.hid ((HBL.out.trans hb1)); have HM1 := Lib.hid ((hs1.map HM.out (Nat.le_refl _))); have HO1 := Lib.hid ((hs1.own HOW.out (Nat.le_succ _))); have hlook := look_some (t := 87) law3 Try.underlying87 HM1.out HK.out hk HKEY.out HQ.out; have hcell := HO1.out.at k (by rw [HL.out]; exact hlt); rw [Nat.zero_add] at hcell; have hfree := HO1.out.free k; clear hj1 hb1 hs1)
        go_roundw
        case rel => exact ⟨k + 1, by omega, by go_num, by simp [World.setCell]; omega, HB1.out.setCell (by show B0 ≤ w.heap.size + 1; omega) _, HFI.out _ _ (fun b hb => Below.heap_setCell _ _ _ _ (by show b ≠ w.heap.size + 1; omega)) HJ1.out, (by rw [HD.out]; exact (HM1.out.setCell (by show w.heap.size ≠ w.heap.size + 1; omega) _).mono (Nat.le_succ _)), by rw [HE.out, HG.out, HLAB.out, List.map_set]; exact HO1.out.set k _⟩
        case measure => simp [intOf]; omega
      | none =>
        have HQ := Lib.hid hq
        have HD := Lib.hid (dat_new hq)
        have HLAB := Lib.hid (lab_new hq)
        have HSI := Lib.hid (dat_size HK.out k hk)
        clear hq
        go_wp2_with first
          | (at_mapUpdate; refine wpList_mapUpdate_own _ rfl _ _ _ 87 rfl 3 3 law3 Try.underlying87 (plainElem Try.prog 3) w.heap.size k (dat g k) rfl HM1.out (by unfold maxLen; omega) _ _ (g k) rfl rfl HKEY.out (.lit (.int .i64 (cnt g k))) [] (plainElem_int Try.underlying3 (small_wf _ (by omega))) ?_; intro w3 hown3 hgrow3; have HM3 := Lib.hid hown3; have HB3 := Lib.hid (HB1.out.grown hgrow3 (by omega) (fun j hj => by cases hj; exact hB)); have HJ3 := Lib.hid (HFI.out _ _ (fun b hb => hgrow3.block b (by omega) (fun e => by have := Option.some.inj e; omega)) HJ1.out); have HO3 := Lib.hid (Own.block' HO1.out (hgrow3.block _ HO1.out.lt (fun e => by have := Option.some.inj e; omega))); have hs3 := Nat.le_trans hs2 hgrow3.size; have hcell := HO3.out.at k (by rw [HL.out]; exact hlt); rw [Nat.zero_add] at hcell; have hfree := HO3.out.free k; clear hown3 hgrow3)
          | (go_at_call 51; refine (HC.out).mono ?_; rintro e w1 ⟨rfl, hj1, hb1, hs1⟩; have hs0 := Nat.le_trans hsz hb1.size; have hs2 := (Nat.le_trans hsz hb1.size); have HJ1 := Lib.hid hj1; have HB1 := Lib.hid ((HBL.out.trans hb1)); have HM1 := Lib.hid ((hs1.map HM.out (Nat.le_refl _))); have HO1 := Lib.hid ((hs1.own HOW.out (Nat.le_succ _))); have hlook := look_none (t := 87) law3 Try.underlying87 HM1.out HK.out hk HKEY.out HQ.out; have hlen := HM1.out.len Try.underlying87 3; rw [HSI.out] at hlen; clear hj1 hb1 hs1)
        go_roundw
        case rel => exact ⟨k + 1, by omega, by go_num, by simp [World.setCell]; omega, HB3.out.setCell (by show B0 ≤ w.heap.size + 1; omega) _, HFI.out _ _ (fun b hb => Below.heap_setCell _ _ _ _ (by show b ≠ w.heap.size + 1; omega)) HJ3.out, (by rw [HD.out]; exact (HM3.out.setCell (by show w.heap.size ≠ w.heap.size + 1; omega) _)), by rw [HE.out, HG.out, HLAB.out, List.map_set]; exact HO3.out.set k _⟩
        case measure => simp [intOf]; omega
    · have hk' : k = n := by omega
      have HOW := Lib.hid hown
      have HBL := Lib.hid hbl
      have HJ := Lib.hid hj
      clear hown hbl hmap hj
      go_wp2
      go_ret
      subst hk'
      have hall : cp (labs g k) k = labs g k := by have := cp_all (labs g k); rwa [labs_length] at this
      exact ⟨_, rfl, HBL.out, HJ.out, own_ints (by rw [← hall]; exact HOW.out) (labs_length _ _) (by omega)⟩


set_option maxRecDepth 100000 in
set_option maxHeartbeats 1000000 in
theorem number58 (n : Nat) (hn : n ≤ 65536) (z : Nat → Int) (g : Nat → Lit) (hz : ∀ i, i < n → keyOf Try.prog 3 (.int .i64 (z i)) = some (g i)) (p : Addr) (J : World → Prop) (B0 : Nat) (w : World) (hB : B0 ≤ w.heap.size) (hF : Firm w.heap.size J) (hJ : J w)
    (hf : ∀ i : Nat, i < n → ∀ w1, w.heap.size ≤ w1.heap.size → J w1 → Calls Try.prog 58 #[.int .i64 i, .pointer (some p)] w1 fun e w2 => e = .returned (.int .i64 (z i)) ∧ J w2 ∧ Below B0 w1 w2 ∧ Stay w.heap.size w1 w2) :
    Calls Try.prog 50 #[.int .i64 n, .func (.func 58) #[] #[.pointer (some p)]] w (NumPost (labs g n) B0 J w) := by
  have HF := Lib.hid hf
  have HK := Lib.hid (show ∀ i, i < n → WideAt.IsKeyLit (g i) from fun i hi => law3.key (hz i hi))
  have HZ := Lib.hid hz
  have HFI := Lib.hid hF
  have HJ0 := Lib.hid (hF w ((w.alloc (.map #[] 0)).alloc (.cells (madeCells #[.int .i64 0] n) 3)) (fun b hb => by rw [Below.heap_alloc _ _ _ (by simp; omega), Below.heap_alloc _ _ _ hb]) hJ)
  have HM0 := Lib.hid ((World.ownsMap_made (H := Unit) w Try.prog 3 (plainElem Try.prog 3)).alloc (.cells (madeCells #[.int .i64 0] n) 3))
  have HO0 := Lib.hid (Own.made (w.alloc (.map #[] 0)) 3 (.int .i64 0) n)
  rw [size_alloc, replicate_ints] at HO0
  have HB0 := Lib.hid (((Below.refl B0 w).alloc hB (.map #[] 0)).alloc (by simp; omega) (.cells (madeCells #[.int .i64 0] n) 3))
  clear hf hz hF hJ
  have hmk := make_ints n (by omega)
  have hmm := @run_makeMap Try.prog
  go_enter Try.func50, Try.ntmps50
  go_wp2
  go_loopw [16] (fun i wr => ∃ k : Nat, k ≤ n ∧ i = .int .i64 k ∧ w.heap.size + 2 ≤ wr.heap.size ∧ Below B0 w wr ∧ J wr ∧ wr.ownsMap Try.prog 3 (plainElem Try.prog 3) w.heap.size k (dat g k) ∧ Own wr (w.heap.size + 1) 3 ((cp (labs g n) k).map (Value.int .i64))) (fun i _ => n - (intOf i).toNat)
  case atStart => exact ⟨0, Nat.zero_le _, rfl, by simp, HB0.out, HJ0.out, HM0.out, by rw [cp_zero, labs_length]; exact HO0.out⟩
  case round =>
    obtain ⟨k, hk, rfl, hsz, hbl, hj, hmap, hown⟩ := hrel
    by_cases hlt : k < n
    · have hcl : cnt g k ≤ k := cnt_le g k
      have HE := Lib.hid (cp_succ (labs g n) k (by rw [labs_length]; exact hlt))
      have HG := Lib.hid (labs_getD g hlt)
      have HC := Lib.hid (HF.out k hlt wr (by omega) hj)
      have HKEY := Lib.hid (HZ.out k hlt)
      have HL := Lib.hid (show (cp (labs g n) k).length = n by rw [cp_length _ _ (by rw [labs_length]; omega), labs_length])
      have HOW := Lib.hid hown
      have HBL := Lib.hid hbl
      have HM := Lib.hid hmap
      clear hown hbl hmap hj
      cases hq : fnd g (g k) k with
      | some q =>
        have HQ := Lib.hid hq
        have hql : cnt g q ≤ k := Nat.le_trans (cnt_le g q) (Nat.le_of_lt (fnd_some hq).1)
        have HD := Lib.hid (dat_old hq)
        have HLAB := Lib.hid (lab_old hq)
        clear hq
        go_wp2_with (go_at_call 58; refine (HC.out).mono ?_; rintro e w1 ⟨rfl, hj1, hb1, hs1⟩; have hs0 := Nat.le_trans hsz hb1.size; have hs2 := (Nat.le_trans hsz hb1.size); have HJ1 := Lib.hid hj1; have HB1 := Lib.hid ((HBL.out.trans hb1)); have HM1 := Lib.hid ((hs1.map HM.out (Nat.le_refl _))); have HO1 := Lib.hid ((hs1.own HOW.out (Nat.le_succ _))); have hlook := look_some (t := 87) law3 Try.underlying87 HM1.out HK.out hk HKEY.out HQ.out; have hcell := HO1.out.at k (by rw [HL.out]; exact hlt); rw [Nat.zero_add] at hcell; have hfree := HO1.out.free k; clear hj1 hb1 hs1)
        go_roundw
        case rel => exact ⟨k + 1, by omega, by go_num, by simp [World.setCell]; omega, HB1.out.setCell (by show B0 ≤ w.heap.size + 1; omega) _, HFI.out _ _ (fun b hb => Below.heap_setCell _ _ _ _ (by show b ≠ w.heap.size + 1; omega)) HJ1.out, (by rw [HD.out]; exact (HM1.out.setCell (by show w.heap.size ≠ w.heap.size + 1; omega) _).mono (Nat.le_succ _)), by rw [HE.out, HG.out, HLAB.out, List.map_set]; exact HO1.out.set k _⟩
        case measure => simp [intOf]; omega
      | none =>
        have HQ := Lib.hid hq
        have HD := Lib.hid (dat_new hq)
        have HLAB := Lib.hid (lab_new hq)
        have HSI := Lib.hid (dat_size HK.out k hk)
        clear hq
        go_wp2_with first
          | (at_mapUpdate; refine wpList_mapUpdate_own _ rfl _ _ _ 87 rfl 3 3 law3 Try.underlying87 (plainElem Try.prog 3) w.heap.size k (dat g k) rfl HM1.out (by unfold maxLen; omega) _ _ (g k) rfl rfl HKEY.out (.lit (.int .i64 (cnt g k))) [] (plainElem_int Try.underlying3 (small_wf _ (by omega))) ?_; intro w3 hown3 hgrow3; have HM3 := Lib.hid hown3; have HB3 := Lib.hid (HB1.out.grown hgrow3 (by omega) (fun j hj => by cases hj; exact hB)); have HJ3 := Lib.hid (HFI.out _ _ (fun b hb => hgrow3.block b (by omega) (fun e => by have := Option.some.inj e; omega)) HJ1.out); have HO3 := Lib.hid (Own.block' HO1.out (hgrow3.block _ HO1.out.lt (fun e => by have := Option.some.inj e; omega))); have hs3 := Nat.le_trans hs2 hgrow3.size; have hcell := HO3.out.at k (by rw [HL.out]; exact hlt); rw [Nat.zero_add] at hcell; have hfree := HO3.out.free k; clear hown3 hgrow3)
          | (go_at_call 58; refine (HC.out).mono ?_; rintro e w1 ⟨rfl, hj1, hb1, hs1⟩; have hs0 := Nat.le_trans hsz hb1.size; have hs2 := (Nat.le_trans hsz hb1.size); have HJ1 := Lib.hid hj1; have HB1 := Lib.hid ((HBL.out.trans hb1)); have HM1 := Lib.hid ((hs1.map HM.out (Nat.le_refl _))); have HO1 := Lib.hid ((hs1.own HOW.out (Nat.le_succ _))); have hlook := look_none (t := 87) law3 Try.underlying87 HM1.out HK.out hk HKEY.out HQ.out; have hlen := HM1.out.len Try.underlying87 3; rw [HSI.out] at hlen; clear hj1 hb1 hs1)
        go_roundw
        case rel => exact ⟨k + 1, by omega, by go_num, by simp [World.setCell]; omega, HB3.out.setCell (by show B0 ≤ w.heap.size + 1; omega) _, HFI.out _ _ (fun b hb => Below.heap_setCell _ _ _ _ (by show b ≠ w.heap.size + 1; omega)) HJ3.out, (by rw [HD.out]; exact (HM3.out.setCell (by show w.heap.size ≠ w.heap.size + 1; omega) _)), by rw [HE.out, HG.out, HLAB.out, List.map_set]; exact HO3.out.set k _⟩
        case measure => simp [intOf]; omega
    · have hk' : k = n := by omega
      have HOW := Lib.hid hown
      have HBL := Lib.hid hbl
      have HJ := Lib.hid hj
      clear hown hbl hmap hj
      go_wp2
      go_ret
      subst hk'
      have hall : cp (labs g k) k = labs g k := by have := cp_all (labs g k); rwa [labs_length] at this
      exact ⟨_, rfl, HBL.out, HJ.out, own_ints (by rw [← hall]; exact HOW.out) (labs_length _ _) (by omega)⟩

end Go.Proofs.Ytlacohjecehpiaa.Part
