/-
  Finer partitions, and the calls of joins.
-/
import Derived.Test.YtlacohjecehpiaaEvPaJoin
namespace Go.Proofs.Ytlacohjecehpiaa.Part
open Go Go.RowKit Go.Part Go.Law Go.Maps

def natOf : Option Value → Nat
  | some (.int _ n) => n.toNat
  | _ => 0
def oneOf : Value → Nat
  | .bool true => 1
  | _ => 0
/-- The sum of a block's numbers. -/
def tot (w : World) (O n : Nat) : Nat := ((List.range n).map fun i => natOf (w.cell? ⟨O, i, none⟩)).sum
theorem list_range (l : List Nat) : (List.range l.length).map (fun i => pf l i) = l := by
  apply List.ext_getElem?; intro i
  by_cases h : i < l.length
  · simp [h, pf, List.getD_eq_getElem?_getD]
  · rw [List.getElem?_eq_none (by simp; omega), List.getElem?_eq_none (by omega)]
theorem tot_own {w : World} {O n : Nat} {os : List Nat} (h : Own w O 3 (vals os)) (hn : os.length = n) : tot w O n = os.sum := by
  subst hn
  have : (List.range os.length).map (fun i => natOf (w.cell? ⟨O, i, none⟩)) = (List.range os.length).map (fun i => pf os i) := by
    apply List.map_congr_left
    intro i hi
    rw [h.cell (vals_get (List.mem_range.1 hi))]
    simp [natOf]
  rw [tot, this, list_range]
/-- Numbers of elements, each connected with the one that it numbers. -/
def Num (n : Nat) (a b : Nat → Int) (os : List Nat) : Prop := ∀ i, i < n → pf os i < n ∧ Conn n a b (pf os i) i
/-- Pairs before i have one number if a list puts them together. -/
def Shut (a b : Nat → Int) (os : List Nat) (i : Nat) : Prop := ∀ i' k, i' < i → k < i' → (a i' = a k ∨ b i' = b k) → pf os i' = pf os k
def ShutAt (a b : Nat → Int) (os : List Nat) (i k : Nat) : Prop := ∀ k', k' < k → (a i = a k' ∨ b i = b k') → pf os i = pf os k'
theorem shut_next {a b : Nat → Int} {os : List Nat} {i : Nat} (h : Shut a b os i) (h' : ShutAt a b os i i) : Shut a b os (i + 1) := by
  intro i' k hi hk he
  by_cases e : i' = i
  · subst e; exact h' k hk he
  · exact h i' k (by omega) hk he
theorem shut_join {n : Nat} {a b : Nat → Int} {os : List Nat} (h : Num n a b os) (hs : Shut a b os n) : IsJoin n a b (pf os) := by
  have key : ∀ (f : Nat → Int), (∀ i k, f i = f k → a i = a k ∨ b i = b k) → ∀ i j, i < n → j < n → f i = f j → pf os i = pf os j := by
    intro f hf i j hi hj e
    rcases Nat.lt_trichotomy i j with h1 | h1 | h1
    · exact (hs j i hj h1 (hf j i e.symm)).symm
    · rw [h1]
    · exact hs i j hi h1 (hf i j e)
  intro i j hi hj
  constructor
  · intro e
    have h1 := (h i hi).2
    have h2 := (h j hj).2
    rw [e] at h1
    exact h1.symm.trans h2
  · exact Conn.same (key a fun i k e => .inl e) (key b fun i k e => .inr e)
theorem set_sum {l : List Nat} : ∀ {i v : Nat}, i < l.length → (l.set i v).sum + pf l i = l.sum + v := by
  induction l with
  | nil => intro i v h; simp at h
  | cons x r ih =>
    intro i v h
    cases i with
    | zero => simp [pf]; omega
    | succ i =>
      have := ih (i := i) (v := v) (by simpa using h)
      have e : pf (x :: r) (i + 1) = pf r i := by
        have hi : i < r.length := by simpa using h
        simp [pf, List.getD_eq_getElem?_getD, hi]
      rw [e]
      simp only [List.set_cons_succ, List.sum_cons]
      omega
/-- Both numbers become the lesser one. -/
theorem least_step {n : Nat} {a b : Nat → Int} {os : List Nat} {i k lo x y : Nat} (h : Num n a b os) (hlen : os.length = n) (hi : i < n) (hki : k < i) (hx : pf os i = x) (hy : pf os k = y) (hne : x ≠ y) (hlo : lo = Nat.min x y) (hc : Conn n a b i k) :
    Num n a b ((os.set i lo).set k lo) ∧ ((os.set i lo).set k lo).sum < os.sum ∧ ((os.set i lo).set k lo).length = n := by
  have e1 : pf ((os.set i lo).set k lo) = upd (upd (pf os) i lo) k lo := by rw [pf_set (by simp; omega), pf_set (by omega)]
  have hlo' : lo = x ∨ lo = y := by subst hlo; simp only [Nat.min_def]; split <;> simp
  have hnum : ∀ j, (j = i ∨ j = k) → lo < n ∧ Conn n a b lo j := by
    have h1 := h i hi
    have h2 := h k (by omega)
    rw [hx] at h1
    rw [hy] at h2
    intro j hj
    rcases hlo' with e | e <;> rcases hj with rfl | rfl <;> rw [e]
    · exact h1
    · exact ⟨h1.1, h1.2.trans hc⟩
    · exact ⟨h2.1, h2.2.trans hc.symm⟩
    · exact h2
  refine ⟨fun j hj => ?_, ?_, by simp [hlen]⟩
  · rw [e1]
    unfold upd
    by_cases ek : j = k
    · rw [if_pos ek]; exact hnum j (.inr ek)
    · rw [if_neg ek]
      by_cases ei : j = i
      · rw [if_pos ei]; exact hnum j (.inl ei)
      · rw [if_neg ei]; exact h j hj
  · have s1 := set_sum (l := os) (i := i) (v := lo) (by omega)
    have s2 := set_sum (l := os.set i lo) (i := k) (v := lo) (by simp; omega)
    have e2 : pf (os.set i lo) k = y := by rw [pf_set (by omega)]; unfold upd; rw [if_neg (by omega), hy]
    rw [hx] at s1
    rw [e2] at s2
    have : lo ≤ x ∧ lo ≤ y := by subst hlo; exact ⟨Nat.min_le_left _ _, Nat.min_le_right _ _⟩
    omega
/-- The state: the numbers in the call's own block. -/
structure GS (w0 : World) (O n : Nat) (w : World) (os : List Nat) : Prop where
  len : os.length = n
  own : Own w O 3 (vals os)
  bel : Below w0.heap.size w0 w
theorem GS.drewN {w0 w : World} {O n : Nat} {os : List Nat} (h : GS w0 O n w os) (m : Nat) : GS w0 O n (w.drewN m) os := ⟨h.len, h.own.drewN m, below_drewN h.bel m⟩
theorem GS.two {w0 w : World} {O n : Nat} {os : List Nat} (h : GS w0 O n w os) (hO : w0.heap.size ≤ O) (i k lo : Nat) : GS w0 O n ((w.setCell ⟨O, i, none⟩ (.int .i64 (lo : Int))).setCell ⟨O, k, none⟩ (.int .i64 (lo : Int))) ((os.set i lo).set k lo) :=
  ⟨by simp [h.len], by rw [← vals_set, ← vals_set]; exact (h.own.set i _).set k _, (h.bel.setCell hO _).setCell hO _⟩
theorem GS.cell {w0 w : World} {O n : Nat} {os : List Nat} (h : GS w0 O n w os) {i : Nat} (hi : i < n) : w.cell? ⟨O, i, none⟩ = some (.int .i64 (pf os i : Int)) := h.own.cell (vals_get (by rw [h.len]; exact hi))
theorem vals_ids (n : Nat) : vals (List.range n) = (ids n).map (Value.int .i64) := (ids_vals n).symm
theorem num_range (n : Nat) (a b : Nat → Int) : Num n a b (List.range n) := fun i hi => by rw [range_pf]; exact ⟨hi, .refl i⟩
theorem vals_map (os : List Nat) : vals os = (os.map fun (x : Nat) => (x : Int)).map (Value.int .i64) := by simp [vals, List.map_map]
theorem pf_fn {os : List Nat} {n : Nat} (hn : os.length = n) : Eqv n (fn (os.map fun (x : Nat) => (x : Int))) (pf os) := by
  intro i j hi hj
  have e : ∀ k, k < n → fn (os.map fun (x : Nat) => (x : Int)) k = (pf os k : Int) := by
    intro k hk
    simp [fn, pf, List.getD_eq_getElem?_getD, hn ▸ hk]
  rw [e i hi, e j hj]; omega

set_option maxRecDepth 100000 in
set_option maxHeartbeats 4000000 in
theorem glue_ok {w : World} {x x' : Option Addr} {n cap cap' : Nat} {a b : List Int} (hla : a.length = n) (hlb : b.length = n) (h : IntsAt w .i64 (.slice x n cap) a) (h' : IntsAt w .i64 (.slice x' n cap') b) (hn : n ≤ 65536) :
    Calls Try.prog 59 #[.slice x n cap, .slice x' n cap'] w (ListPost (glue n a b) w) := by
  have HI := Lib.hid h
  have HI' := Lib.hid h'
  have HLA := Lib.hid hla
  have HLB := Lib.hid hlb
  clear h h' hla hlb
  have HM := Lib.hid (Own.made w 3 (.int .i64 0) n)
  rw [replicate_ints] at HM
  have hmk := make_ints n (by omega)
  go_enter Try.func59, Try.ntmps59
  go_wp2
  go_loopw [6] (fun i wr => ∃ k : Nat, k ≤ n ∧ i = .int .i64 k ∧ Below w.heap.size w wr ∧ Own wr w.heap.size 3 ((cp (ids n) k).map (Value.int .i64))) (fun i _ => n - (intOf i).toNat)
  case atStart => exact ⟨0, Nat.zero_le _, rfl, (Below.refl _ _).alloc (Nat.le_refl _) _, by rw [cp_zero, ids_length]; exact HM.out⟩
  case round =>
    obtain ⟨k, hk, rfl, hbl, hown⟩ := hrel
    by_cases hlt : k < n
    · have HE := Lib.hid (cp_succ (ids n) k (by rw [ids_length]; exact hlt))
      have HG := Lib.hid (ids_getD hlt)
      have HL := Lib.hid (show (cp (ids n) k).length = n by rw [cp_length _ _ (by rw [ids_length]; omega), ids_length])
      have hcell := hown.at k (by rw [HL.out]; exact hlt)
      rw [Nat.zero_add] at hcell
      have hfr := hown.free k
      have HOW := Lib.hid hown
      have HBL := Lib.hid hbl
      clear hown hbl
      go_wp2
      go_roundw
      case rel => exact ⟨k + 1, by omega, by go_num, HBL.out.setCell (Nat.le_refl _) _, by rw [HE.out, HG.out, List.map_set]; exact HOW.out.set k _⟩
      case measure => simp [intOf]; omega
    · have hk' : k = n := by omega
      have hown2 := hown
      rw [hk', show cp (ids n) n = ids n from (by have := cp_all (ids n); rwa [ids_length] at this), ids_vals] at hown2
      have HG0 : Hid (GS w w.heap.size n wr (List.range n)) := Lib.hid ⟨by simp, hown2, hbl⟩
      clear hown hown2 hbl hk' hmk HM
      go_wp2
      go_loopw [7] (fun c wr => ∃ (d : Bool) (os : List Nat), c = .bool d ∧ GS w w.heap.size n wr os ∧ Num n (fn a) (fn b) os ∧ (d = true ∨ Shut (fn a) (fn b) os n)) (fun c wr => tot wr w.heap.size n + oneOf c)
      case atStart => exact ⟨true, List.range n, rfl, HG0.out, num_range _ _ _, .inl rfl⟩
      case round =>
        obtain ⟨d, os, rfl, hgs, hnum, hsh⟩ := hrel
        have HGS := Lib.hid hgs
        have HNUM := Lib.hid hnum
        have HSH := Lib.hid hsh
        clear hgs hnum hsh HG0
        cases d with
        | false =>
          have HJ := Lib.hid (shut_join HNUM.out (HSH.out.resolve_left (by simp)))
          have HIO : Hid (IntsAt wr .i64 (.slice (some ⟨w.heap.size, 0, none⟩) n n) (os.map fun (x : Nat) => (x : Int))) := Lib.hid (own_ints (by rw [← vals_map]; exact HGS.out.own) (by simp [HGS.out.len]) (by omega))
          have HLAB := Lib.hid (labels_any HIO.out (by simp [HGS.out.len]; omega))
          have hle : (os.map fun (x : Nat) => (x : Int)).length = n := by simp [HGS.out.len]
          rw [hle, labs_eqv (pf_fn HGS.out.len), glue_of HJ.out] at HLAB
          clear hle
          go_wp2_with (go_at_call 52; ((with_reducible refine (HLAB.out).mono ?_); rintro e w1 ⟨v1, rfl, hb1, hi1⟩; have HB1 := Lib.hid hb1; have HI1 := Lib.hid hi1; clear hb1 hi1))
          go_ret
          exact ⟨_, rfl, HGS.out.bel.trans (bel_le HB1.out HGS.out.bel.size), HI1.out⟩
        | true =>
          have HT0 := Lib.hid (tot_own HGS.out.own HGS.out.len)
          go_wp2
          go_loopw [7, 8] (fun c i wr => ∃ (j : Nat) (d : Bool) (qs : List Nat), j ≤ n ∧ i = .int .i64 j ∧ c = .bool d ∧ GS w w.heap.size n wr qs ∧ Num n (fn a) (fn b) qs ∧ ((d = true ∧ qs.sum < os.sum) ∨ (d = false ∧ qs.sum = os.sum ∧ Shut (fn a) (fn b) qs j))) (fun _ i _ => n - (intOf i).toNat)
          case atStart => exact ⟨0, false, os, Nat.zero_le _, rfl, rfl, HGS.out, HNUM.out, .inr ⟨rfl, rfl, fun i' k h => absurd h (by omega)⟩⟩
          case round =>
            obtain ⟨i, d, qs, hi, rfl, rfl, hgs, hnum, hst⟩ := hrel
            have HGS := Lib.hid hgs
            have HNUM := Lib.hid hnum
            have HST := Lib.hid hst
            clear hgs hnum hst
            by_cases hin : i < n
            · go_wp2
              go_loopw [7, 9] (fun c kk wr => ∃ (k : Nat) (d : Bool) (qs : List Nat), k ≤ i ∧ kk = .int .i64 k ∧ c = .bool d ∧ GS w w.heap.size n wr qs ∧ Num n (fn a) (fn b) qs ∧ ((d = true ∧ qs.sum < os.sum) ∨ (d = false ∧ qs.sum = os.sum ∧ Shut (fn a) (fn b) qs i ∧ ShutAt (fn a) (fn b) qs i k))) (fun _ kk _ => i - (intOf kk).toNat)
              case atStart => exact ⟨0, d, qs, Nat.zero_le _, rfl, rfl, HGS.out, HNUM.out, HST.out.imp id (fun ⟨h1, h2, h3⟩ => ⟨h1, h2, h3, fun k' hk' => absurd hk' (by omega)⟩)⟩
              case round =>
                obtain ⟨k, d, qs, hk, rfl, rfl, hgs, hnum, hst⟩ := hrel
                have HGS := Lib.hid hgs
                have HNUM := Lib.hid hnum
                have HST := Lib.hid hst
                clear hgs hnum hst
                by_cases hki : k < i
                · obtain ⟨p1, hp1, hx1, hc1⟩ := ints_index HI.out (j := i) (by have := HLA.out; omega)
                  obtain ⟨p2, hp2, hx2, hc2⟩ := ints_index HI.out (j := k) (by have := HLA.out; omega)
                  obtain ⟨p3, hp3, hx3, hc3⟩ := ints_index HI'.out (j := i) (by have := HLB.out; omega)
                  obtain ⟨p4, hp4, hx4, hc4⟩ := ints_index HI'.out (j := k) (by have := HLB.out; omega)
                  have hd1 := (HGS.out.bel.cell hp1).trans hc1
                  have hd2 := (HGS.out.bel.cell hp2).trans hc2
                  have hd3 := (HGS.out.bel.cell hp3).trans hc3
                  have hd4 := (HGS.out.bel.cell hp4).trans hc4
                  have ho1 := HGS.out.cell hin
                  have ho2 := HGS.out.cell (i := k) (by omega)
                  have hf1 := HGS.out.own.free i
                  have hf2 := HGS.out.own.free k
                  have HF1 : Hid (fn a i = a.getD i 0) := Lib.hid rfl
                  have HF2 : Hid (fn a k = a.getD k 0) := Lib.hid rfl
                  have HF3 : Hid (fn b i = b.getD i 0) := Lib.hid rfl
                  have HF4 : Hid (fn b k = b.getD k 0) := Lib.hid rfl
                  have HO1 : Hid (pf qs i = pf qs i) := Lib.hid rfl
                  have HO2 : Hid (pf qs k = pf qs k) := Lib.hid rfl
                  clear hc1 hc2 hc3 hc4
                  generalize a.getD i 0 = x1 at *
                  generalize a.getD k 0 = x2 at *
                  generalize b.getD i 0 = x3 at *
                  generalize b.getD k 0 = x4 at *
                  obtain ⟨o1, ho⟩ : ∃ o, pf qs i = o := ⟨_, rfl⟩
                  obtain ⟨o2, ho'⟩ : ∃ o, pf qs k = o := ⟨_, rfl⟩
                  rw [ho] at ho1
                  rw [ho'] at ho2
                  have HO1 := Lib.hid ho
                  have HO2 := Lib.hid ho'
                  clear ho ho'
                  have hkn : k < n := by omega
                  by_cases hA : x1 = x2
                  · subst hA
                    have hd5 : ((x1 : Int) == x1) = true := by simp
                    by_cases hoo : o1 = o2
                    · subst hoo
                      have hd6 : ((o1 : Int) != o1) = false := by simp
                      have HST2 : Hid ((d = true ∧ qs.sum < os.sum) ∨ (d = false ∧ qs.sum = os.sum ∧ Shut (fn a) (fn b) qs i ∧ ShutAt (fn a) (fn b) qs i (k + 1))) := Lib.hid (HST.out.imp id (fun ⟨h1, h2, h3, h4⟩ => ⟨h1, h2, h3, below_succ h4 (fun he => HO1.out.trans HO2.out.symm)⟩))
                      go_wp2
                      go_quiet (fail)
                      go_wp2
                      go_roundw
                      case rel => exact ⟨k + 1, d, qs, by omega, by go_num, rfl, HGS.out.drewN _, HNUM.out, HST2.out⟩
                      case measure => simp [intOf]; omega
                    · skip
                      have hd6 : ((o1 : Int) != (o2 : Int)) = true := by simpa using (fun e => hoo (by exact_mod_cast e))
                      rcases Nat.lt_or_ge o1 o2 with hlo | hlo
                      · have hmin : o1 = Nat.min o1 o2 := by simp only [Nat.min_def]; split <;> omega
                        obtain ⟨n1, n2, n3⟩ := least_step (a := fn a) (b := fn b) HNUM.out HGS.out.len (show i < n by omega) hki HO1.out HO2.out hoo hmin (.left (by omega) (by omega) (HF1.out.trans HF2.out.symm))
                        have HN1 := Lib.hid n1
                        have HN2 := Lib.hid n2
                        clear n1 n2 n3 hmin hoo
                        have HSUM : Hid (((qs.set i o1).set k o1).sum < os.sum) := Lib.hid (by have := HN2.out; rcases HST.out with ⟨_, h⟩ | ⟨_, h, _⟩ <;> omega)
                        go_wp2
                        go_quiet (fail)
                        go_wp2
                        refine wp_region_still_tail 8 (by kernel_rfl) (by kernel_rfl) ?_
                        change wpStill _ _ (World.drew _) _ _ _
                        simp only [List.take_succ_cons, List.take_zero, List.drop_succ_cons, List.drop_zero]
                        repeat still_step
                        refine wpStill_nil ?_
                        change wpList _ _ _ _ _ (World.drew _)
                        have HG2 := Lib.hid (GS.two (HGS.out.drewN (nq + 1)) (Nat.le_refl _) i k o1)
                        go_wp2
                        go_roundw
                        case rel => exact ⟨k + 1, true, (qs.set i o1).set k o1, by omega, by go_num, rfl, HG2.out, HN1.out, .inl ⟨rfl, HSUM.out⟩⟩
                        case measure => simp [intOf]; omega
                      · have hmin : o2 = Nat.min o1 o2 := by simp only [Nat.min_def]; split <;> omega
                        have hlo2 : o2 < o1 := by omega
                        obtain ⟨n1, n2, n3⟩ := least_step (a := fn a) (b := fn b) HNUM.out HGS.out.len (show i < n by omega) hki HO1.out HO2.out hoo hmin (.left (by omega) (by omega) (HF1.out.trans HF2.out.symm))
                        have HN1 := Lib.hid n1
                        have HN2 := Lib.hid n2
                        clear n1 n2 n3 hmin hoo
                        have HSUM : Hid (((qs.set i o2).set k o2).sum < os.sum) := Lib.hid (by have := HN2.out; rcases HST.out with ⟨_, h⟩ | ⟨_, h, _⟩ <;> omega)
                        go_wp2
                        go_quiet (fail)
                        go_wp2
                        refine wp_region_still_tail 8 (by kernel_rfl) (by kernel_rfl) ?_
                        change wpStill _ _ (World.drew _) _ _ _
                        simp only [List.take_succ_cons, List.take_zero, List.drop_succ_cons, List.drop_zero]
                        repeat still_step
                        refine wpStill_nil ?_
                        change wpList _ _ _ _ _ (World.drew _)
                        have HG2 := Lib.hid (GS.two (HGS.out.drewN (nq + 1)) (Nat.le_refl _) i k o2)
                        go_wp2
                        go_roundw
                        case rel => exact ⟨k + 1, true, (qs.set i o2).set k o2, by omega, by go_num, rfl, HG2.out, HN1.out, .inl ⟨rfl, HSUM.out⟩⟩
                        case measure => simp [intOf]; omega
                  · have hd5 : ((x1 : Int) == x2) = false := by simpa using hA
                    have HNA := Lib.hid hA
                    clear hA
                    by_cases hB : x3 = x4
                    · subst hB
                      have hd7 : ((x3 : Int) == x3) = true := by simp
                      by_cases hoo : o1 = o2
                      · subst hoo
                        have hd6 : ((o1 : Int) != o1) = false := by simp
                        have HST2 : Hid ((d = true ∧ qs.sum < os.sum) ∨ (d = false ∧ qs.sum = os.sum ∧ Shut (fn a) (fn b) qs i ∧ ShutAt (fn a) (fn b) qs i (k + 1))) := Lib.hid (HST.out.imp id (fun ⟨h1, h2, h3, h4⟩ => ⟨h1, h2, h3, below_succ h4 (fun he => HO1.out.trans HO2.out.symm)⟩))
                        go_wp2
                        go_quiet (fail)
                        go_wp2
                        go_roundw
                        case rel => exact ⟨k + 1, d, qs, by omega, by go_num, rfl, HGS.out.drewN _, HNUM.out, HST2.out⟩
                        case measure => simp [intOf]; omega
                      · skip
                        have hd6 : ((o1 : Int) != (o2 : Int)) = true := by simpa using (fun e => hoo (by exact_mod_cast e))
                        rcases Nat.lt_or_ge o1 o2 with hlo | hlo
                        · have hmin : o1 = Nat.min o1 o2 := by simp only [Nat.min_def]; split <;> omega
                          obtain ⟨n1, n2, n3⟩ := least_step (a := fn a) (b := fn b) HNUM.out HGS.out.len (show i < n by omega) hki HO1.out HO2.out hoo hmin (.right (by omega) (by omega) (HF3.out.trans HF4.out.symm))
                          have HN1 := Lib.hid n1
                          have HN2 := Lib.hid n2
                          clear n1 n2 n3 hmin hoo
                          have HSUM : Hid (((qs.set i o1).set k o1).sum < os.sum) := Lib.hid (by have := HN2.out; rcases HST.out with ⟨_, h⟩ | ⟨_, h, _⟩ <;> omega)
                          go_wp2
                          go_quiet (fail)
                          go_wp2
                          refine wp_region_still_tail 8 (by kernel_rfl) (by kernel_rfl) ?_
                          change wpStill _ _ (World.drew _) _ _ _
                          simp only [List.take_succ_cons, List.take_zero, List.drop_succ_cons, List.drop_zero]
                          repeat still_step
                          refine wpStill_nil ?_
                          change wpList _ _ _ _ _ (World.drew _)
                          have HG2 := Lib.hid (GS.two (HGS.out.drewN (nq + 1)) (Nat.le_refl _) i k o1)
                          go_wp2
                          go_roundw
                          case rel => exact ⟨k + 1, true, (qs.set i o1).set k o1, by omega, by go_num, rfl, HG2.out, HN1.out, .inl ⟨rfl, HSUM.out⟩⟩
                          case measure => simp [intOf]; omega
                        · have hmin : o2 = Nat.min o1 o2 := by simp only [Nat.min_def]; split <;> omega
                          have hlo2 : o2 < o1 := by omega
                          obtain ⟨n1, n2, n3⟩ := least_step (a := fn a) (b := fn b) HNUM.out HGS.out.len (show i < n by omega) hki HO1.out HO2.out hoo hmin (.right (by omega) (by omega) (HF3.out.trans HF4.out.symm))
                          have HN1 := Lib.hid n1
                          have HN2 := Lib.hid n2
                          clear n1 n2 n3 hmin hoo
                          have HSUM : Hid (((qs.set i o2).set k o2).sum < os.sum) := Lib.hid (by have := HN2.out; rcases HST.out with ⟨_, h⟩ | ⟨_, h, _⟩ <;> omega)
                          go_wp2
                          go_quiet (fail)
                          go_wp2
                          refine wp_region_still_tail 8 (by kernel_rfl) (by kernel_rfl) ?_
                          change wpStill _ _ (World.drew _) _ _ _
                          simp only [List.take_succ_cons, List.take_zero, List.drop_succ_cons, List.drop_zero]
                          repeat still_step
                          refine wpStill_nil ?_
                          change wpList _ _ _ _ _ (World.drew _)
                          have HG2 := Lib.hid (GS.two (HGS.out.drewN (nq + 1)) (Nat.le_refl _) i k o2)
                          go_wp2
                          go_roundw
                          case rel => exact ⟨k + 1, true, (qs.set i o2).set k o2, by omega, by go_num, rfl, HG2.out, HN1.out, .inl ⟨rfl, HSUM.out⟩⟩
                          case measure => simp [intOf]; omega
                    · have hd7 : ((x3 : Int) == x4) = false := by simpa using hB
                      have HNB := Lib.hid hB
                      clear hB
                      have HST2 : Hid ((d = true ∧ qs.sum < os.sum) ∨ (d = false ∧ qs.sum = os.sum ∧ Shut (fn a) (fn b) qs i ∧ ShutAt (fn a) (fn b) qs i (k + 1))) := Lib.hid (HST.out.imp id (fun ⟨h1, h2, h3, h4⟩ => ⟨h1, h2, h3, below_succ h4 (fun he => (he.elim (fun h => absurd (by rw [← HF1.out, ← HF2.out]; exact h) HNA.out) (fun h => absurd (by rw [← HF3.out, ← HF4.out]; exact h) HNB.out)))⟩))
                      go_wp2
                      go_quiet (fail)
                      go_wp2
                      go_roundw
                      case rel => exact ⟨k + 1, d, qs, by omega, by go_num, rfl, HGS.out.drewN _, HNUM.out, HST2.out⟩
                      case measure => simp [intOf]; omega
                · have hki' : k = i := by omega
                  have HST2 : Hid ((d = true ∧ qs.sum < os.sum) ∨ (d = false ∧ qs.sum = os.sum ∧ Shut (fn a) (fn b) qs (i + 1))) := Lib.hid (HST.out.imp id (fun ⟨h1, h2, h3, h4⟩ => ⟨h1, h2, shut_next h3 (by rw [hki'] at h4; exact h4)⟩))
                  clear hki'
                  go_wp2
                  go_roundw
                  case rel => exact ⟨i + 1, d, qs, by omega, by go_num, rfl, HGS.out, HNUM.out, HST2.out⟩
                  case measure => simp [intOf]; omega
            · have hin' : i = n := by omega
              have HST2 : Hid (d = true ∨ Shut (fn a) (fn b) qs n) := Lib.hid (HST.out.imp (fun h => h.1) (fun ⟨h1, h2, h3⟩ => by rw [hin'] at h3; exact h3))
              have HME : Hid (tot wr w.heap.size n + oneOf (.bool d) < os.sum + 1) := Lib.hid (by
                rw [tot_own HGS.out.own HGS.out.len]
                rcases HST.out with ⟨h1, h2⟩ | ⟨h1, h2, h3⟩
                · rw [h1]; simp only [oneOf]; omega
                · rw [h1]; simp only [oneOf]; omega)
              clear hin'
              go_wp2
              go_roundw
              case rel => exact ⟨d, qs, rfl, HGS.out, HNUM.out, HST2.out⟩
              case measure => rw [HT0.out]; exact HME.out

end Go.Proofs.Ytlacohjecehpiaa.Part
namespace Go.Proofs.Ytlacohjecehpiaa.Part
open Go Go.RowKit Go.Part Go.Law Go.Maps

theorem cut_iff {a b : List Int} (ha : wf a) : cut a b = a ↔ ∀ i k, i < a.length → k < i → a.getD i 0 = a.getD k 0 → b.getD i 0 = b.getD k 0 := by
  constructor
  · intro h i k hi hk e
    have h2 : labs (prs a b) a.length = labs (fn a) a.length := by rw [show labs (fn a) a.length = a from ha]; exact h
    have := ((eqv_labs h2) i k hi (by omega)).2 e
    exact congrArg Prod.snd this
  · intro h
    have h2 : Eqv a.length (prs a b) (fn a) := by
      intro i j hi hj
      constructor
      · intro e; exact congrArg Prod.fst e
      · intro e
        refine Prod.ext e ?_
        rcases Nat.lt_trichotomy i j with h1 | h1 | h1
        · exact (h j i hj h1 e.symm).symm
        · rw [h1]
        · exact h i j hi h1 e
    unfold cut
    rw [labs_eqv h2]; exact ha
set_option maxRecDepth 100000 in
set_option maxHeartbeats 2000000 in
theorem under_ok {w : World} {x x' : Option Addr} {n cap cap' : Nat} {a b : List Int} (hla : a.length = n) (hlb : b.length = n) (h : IntsAt w .i64 (.slice x n cap) a) (h' : IntsAt w .i64 (.slice x' n cap') b) (hn : n ≤ 65536) (ha : wf a) :
    Calls Try.prog 56 #[.slice x n cap, .slice x' n cap'] w (Quiet (.bool (decide (cut a b = a))) w) := by
  have HI := Lib.hid h
  have HI' := Lib.hid h'
  have HLA := Lib.hid hla
  have HLB := Lib.hid hlb
  have HCI := Lib.hid (cut_iff (b := b) ha)
  clear h h' hla hlb ha
  go_enter Try.func56, Try.ntmps56
  go_wp2
  go_loopw [5] (fun i wr => ∃ j m : Nat, j ≤ n ∧ i = .int .i64 j ∧ wr = w.drewN m ∧ ∀ i k, i < j → k < i → a.getD i 0 = a.getD k 0 → b.getD i 0 = b.getD k 0) (fun i _ => n - (intOf i).toNat)
  case atStart => exact ⟨0, 0, Nat.zero_le _, rfl, rfl, fun i k h => absurd h (by omega)⟩
  case round =>
    obtain ⟨i, m, hi, rfl, rfl, hs⟩ := hrel
    have HS := Lib.hid hs
    clear hs
    by_cases hin : i < n
    · go_wp2
      go_loopw [6] (fun kk wr => ∃ k m : Nat, k ≤ i ∧ kk = .int .i64 k ∧ wr = w.drewN m ∧ ∀ k', k' < k → a.getD i 0 = a.getD k' 0 → b.getD i 0 = b.getD k' 0) (fun kk _ => i - (intOf kk).toNat)
      case atStart => exact ⟨0, m, Nat.zero_le _, rfl, rfl, fun k h => absurd h (by omega)⟩
      case round =>
        obtain ⟨k, m, hk, rfl, rfl, hs⟩ := hrel
        have HT := Lib.hid hs
        clear hs
        by_cases hki : k < i
        · obtain ⟨p1, hp1, hx1, hd1⟩ := ints_index HI.out (j := i) (by have := HLA.out; omega)
          obtain ⟨p2, hp2, hx2, hd2⟩ := ints_index HI.out (j := k) (by have := HLA.out; omega)
          obtain ⟨p3, hp3, hx3, hd3⟩ := ints_index HI'.out (j := i) (by have := HLB.out; omega)
          obtain ⟨p4, hp4, hx4, hd4⟩ := ints_index HI'.out (j := k) (by have := HLB.out; omega)
          have HF1 : Hid ((a.getD i 0 = a.getD k 0 → b.getD i 0 = b.getD k 0) → ∀ k', k' < k + 1 → a.getD i 0 = a.getD k' 0 → b.getD i 0 = b.getD k' 0) := Lib.hid (fun h => below_succ HT.out h)
          have HF2 : Hid (a.getD i 0 = a.getD k 0 → ¬ b.getD i 0 = b.getD k 0 → ¬ cut a b = a) := Lib.hid (fun e ne hc => ne (HCI.out.1 hc i k (by have := HLA.out; omega) hki e))
          generalize a.getD i 0 = x1 at *
          generalize a.getD k 0 = x2 at *
          generalize b.getD i 0 = x3 at *
          generalize b.getD k 0 = x4 at *
          by_cases hA : x1 = x2
          · by_cases hB : x3 = x4
            · have hd5 : ((x1 : Int) == x2) = true := by simpa using hA
              have hd6 : ((x3 : Int) != x4) = false := by simpa using hB
              have HN := Lib.hid (HF1.out fun _ => hB)
              clear hA hB
              go_wp2
              go_quiet (fail)
              go_wp2
              exact ⟨⟨k + 1, m + nq, by omega, by go_num, rfl, HN.out⟩, by simp [intOf]; omega⟩
            · have hd5 : ((x1 : Int) == x2) = true := by simpa using hA
              have hd6 : ((x3 : Int) != x4) = true := by simpa using hB
              have HN := Lib.hid (HF2.out hA hB)
              clear hA hB
              go_wp2
              go_quiet (fail)
              go_wp2
              go_ret
              exact ⟨m + nq, ret_bool (by simpa using HN.out), by rw [World.drewN_drewN]⟩
          · have hd5 : ((x1 : Int) == x2) = false := by simpa using hA
            have HN := Lib.hid (HF1.out fun e => absurd e hA)
            clear hA
            go_wp2
            go_quiet (fail)
            go_wp2
            exact ⟨⟨k + 1, m + nq, by omega, by go_num, rfl, HN.out⟩, by simp [intOf]; omega⟩
        · have hki' : k = i := by omega
          have HN : Hid (∀ j k, j < i + 1 → k < j → a.getD j 0 = a.getD k 0 → b.getD j 0 = b.getD k 0) := Lib.hid (fun j k' hj hk' e => by
            by_cases ej : j = i
            · subst ej; exact HT.out k' (by omega) e
            · exact HS.out j k' (by omega) hk' e)
          clear hki'
          go_wp2
          exact ⟨⟨i + 1, m, by omega, by go_num, rfl, HN.out⟩, by simp [intOf]; omega⟩
    · have HN : Hid (cut a b = a) := Lib.hid (HCI.out.2 (by have := HLA.out; intro i' k h1 h2 h3; exact HS.out i' k (by omega) h2 h3))
      go_wp2
      go_ret
      exact ⟨m, ret_bool (by simpa using HN.out), rfl⟩
def finB (a b : List Int) : Bool := if both a b = 0 then decide (cut a b = a) else false
theorem finer_any {w : World} {v u : Value} {a b : List Int} (h : IntsAt w .i64 v a) (h' : IntsAt w .i64 u b) : Calls Try.prog 26 #[v, u] w (BoolPost (finB a b) (both a b) w) := by
  have HB := Lib.hid (both_any h h')
  have HH := Lib.hid h
  unfold finB
  by_cases c : both a b = 0
  · rw [if_pos c]
    obtain ⟨c1, c2, c3⟩ := both_inv c
    have HC := Lib.hid (meet_any h h' c3 (code_ok c1).1 (wf_fit (code_ok c1).2 (code_ok c1).1) (wf_fit (code_ok c2).2 (code_ok c2).1))
    rw [c] at HB ⊢
    clear c c1 c2 c3 h h'
    go_enter Try.func26, Try.ntmps26
    go_wp2_with (first | (go_at_call 53; ((with_reducible refine (HB.out).mono ?_); rintro e w' ⟨rfl, rfl⟩)) | (go_at_call 54; ((with_reducible refine (HC.out).mono ?_); rintro e w1 ⟨v1, rfl, hb, hi⟩; have HB1 := Lib.hid hb; have HE := Lib.hid (equal_any hi (ints_below HH.out hb)); clear hb hi)) | (go_at_call 36; ((with_reducible refine (HE.out).mono ?_); rintro e w2 ⟨m, rfl, rfl⟩)))
    go_ret2
    exact ⟨rfl, below_drewN HB1.out m⟩
  · rw [if_neg c]
    have e1 := ne_true c
    generalize both a b = k at *
    clear c h h'
    go_enter Try.func26, Try.ntmps26
    go_wp2_with (go_at_call 53; ((with_reducible refine (HB.out).mono ?_); rintro e w' ⟨rfl, rfl⟩))
    go_ret2
    exact ⟨rfl, Below.refl _ _⟩
theorem under_any {w : World} {v u : Value} {a b : List Int} (h : IntsAt w .i64 v a) (h' : IntsAt w .i64 u b) (hl : a.length = b.length) (hs : ¬ 65536 < a.length) (ha : wf a) : Calls Try.prog 56 #[v, u] w (Quiet (.bool (decide (cut a b = a))) w) := by
  have HI := h
  have HI' := h'
  obtain ⟨x, cap, rfl, h1, h2, h3⟩ := h
  obtain ⟨x', cap', rfl, h1', h2', h3'⟩ := h'
  rw [← hl] at HI' ⊢
  exact under_ok rfl hl.symm HI HI' (by omega) ha
theorem rfiner_any {w : World} {v u : Value} {a b : List Int} (h : IntsAt w .i64 v a) (h' : IntsAt w .i64 u b) : Calls Try.prog 27 #[v, u] w (BoolPost (finB a b) (both a b) w) := by
  have HB := Lib.hid (rboth_any h h')
  unfold finB
  by_cases c : both a b = 0
  · rw [if_pos c]
    obtain ⟨c1, c2, c3⟩ := both_inv c
    have HC := Lib.hid (under_any h h' c3 (code_ok c1).1 (code_ok c1).2)
    rw [c] at HB ⊢
    clear c c1 c2 c3 h h'
    go_enter Try.func27, Try.ntmps27
    go_wp2_with (first | (go_at_call 55; ((with_reducible refine (HB.out).mono ?_); rintro e w' ⟨rfl, rfl⟩)) | (go_at_call 56; ((with_reducible refine (HC.out).mono ?_); rintro e w1 ⟨m, rfl, rfl⟩)))
    go_ret2
    exact ⟨rfl, below_drewN (Below.refl _ _) m⟩
  · rw [if_neg c]
    have e1 := ne_true c
    generalize both a b = k at *
    clear c h h'
    go_enter Try.func27, Try.ntmps27
    go_wp2_with (go_at_call 55; ((with_reducible refine (HB.out).mono ?_); rintro e w' ⟨rfl, rfl⟩))
    go_ret2
    exact ⟨rfl, Below.refl _ _⟩
noncomputable def joinList (a b : List Int) : List Int := if both a b = 0 then glue a.length a b else []
theorem join_any {w : World} {v u : Value} {a b : List Int} (h : IntsAt w .i64 v a) (h' : IntsAt w .i64 u b) : Calls Try.prog 30 #[v, u] w (PairPost (joinList a b) (both a b) w) := by
  have HB := Lib.hid (both_any h h')
  unfold joinList
  by_cases c : both a b = 0
  · rw [if_pos c]
    obtain ⟨c1, c2, c3⟩ := both_inv c
    rw [c] at HB ⊢
    have HI := h
    have HI' := h'
    obtain ⟨x, cap, rfl, h1, h2, h3⟩ := h
    obtain ⟨x', cap', rfl, h1', h2', h3'⟩ := h'
    rw [← c3] at HI' HB ⊢
    exact join_ok rfl c3.symm HI HI' (by have := (code_ok c1).1; omega) (code_ok c1).2 (code_ok c2).2 HB
  · rw [if_neg c]
    have e1 := ne_true c
    generalize both a b = k at *
    clear c h h'
    go_enter Try.func30, Try.ntmps30
    go_wp2_with (go_at_call 53; ((with_reducible refine (HB.out).mono ?_); rintro e w' ⟨rfl, rfl⟩))
    go_ret2
    exact ⟨_, rfl, Below.refl _ _, ints_nil _⟩
theorem glue_any {w : World} {v u : Value} {a b : List Int} (h : IntsAt w .i64 v a) (h' : IntsAt w .i64 u b) (hl : a.length = b.length) (hs : ¬ 65536 < a.length) : Calls Try.prog 59 #[v, u] w (ListPost (glue a.length a b) w) := by
  have HI := h
  have HI' := h'
  obtain ⟨x, cap, rfl, h1, h2, h3⟩ := h
  obtain ⟨x', cap', rfl, h1', h2', h3'⟩ := h'
  rw [← hl] at HI' ⊢
  exact glue_ok rfl hl.symm HI HI' (by omega)
theorem rjoin_any {w : World} {v u : Value} {a b : List Int} (h : IntsAt w .i64 v a) (h' : IntsAt w .i64 u b) : Calls Try.prog 31 #[v, u] w (PairPost (joinList a b) (both a b) w) := by
  have HB := Lib.hid (rboth_any h h')
  unfold joinList
  by_cases c : both a b = 0
  · rw [if_pos c]
    obtain ⟨c1, c2, c3⟩ := both_inv c
    have HC := Lib.hid (glue_any h h' c3 (code_ok c1).1)
    rw [c] at HB ⊢
    clear c c1 c2 c3 h h'
    go_enter Try.func31, Try.ntmps31
    go_wp2_with (first | (go_at_call 55; ((with_reducible refine (HB.out).mono ?_); rintro e w' ⟨rfl, rfl⟩)) | (go_at_call 59; ((with_reducible refine (HC.out).mono ?_); rintro e w1 ⟨v1, rfl, hb, hi⟩; have HB1 := Lib.hid hb; have HI := Lib.hid hi; clear hb hi)))
    go_ret2
    exact ⟨_, rfl, HB1.out, HI.out⟩
  · rw [if_neg c]
    have e1 := ne_true c
    generalize both a b = k at *
    clear c h h'
    go_enter Try.func31, Try.ntmps31
    go_wp2_with (go_at_call 55; ((with_reducible refine (HB.out).mono ?_); rintro e w' ⟨rfl, rfl⟩))
    go_ret2
    exact ⟨_, rfl, Below.refl _ _, ints_nil _⟩
end Go.Proofs.Ytlacohjecehpiaa.Part
