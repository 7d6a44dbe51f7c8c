/-
  Products of graphs: the reference's.
-/
import Derived.Test.YtlineonmpbdkgaaDoorEvRoGCompose
import Derived.Test.YtlineonmpbdkgaaDoorEvGRel
import Derived.RegionTactic
namespace Go.Proofs.YtlineonmpbdkgaaDoor.Graph
open Go Go.RowKit Go.Graph Go.Law
open Go.Proofs.YtlineonmpbdkgaaDoor.Col

theorem made_nat (g : Nat → Int) (h : Nat → Nat) (n : Nat) (hg : ∀ i, i < n → i < 5 → g i = (h i : Int)) (h0 : ∀ i, n ≤ i → h i = 0) :
    made g n = [(h 0 : Int), (h 1 : Int), (h 2 : Int), (h 3 : Int), (h 4 : Int)] := by
  have e : made g n = (List.range 5).map fun i => (h i : Int) := by
    unfold made
    apply List.map_congr_left
    intro i hi
    rw [List.mem_range] at hi
    split
    · rename_i hlt; exact hg i hlt hi
    · rename_i hlt; rw [h0 i (by omega)]; rfl
  rw [e]; rfl
theorem or_nat (x y : Nat) (hx : x < 32) (hy : y < 32) : bits BinOp.or IntKind.i64 (x : Int) (y : Int) = ((x ||| y : Nat) : Int) := i64_or_nat x y (by omega) (by omega)
theorem _root_.Go.Graph.WF.lt32 {n : Nat} {r : Nat → Nat} (h : WF n r) (i : Nat) : r i < 32 := by
  by_cases hi : i < n
  · exact Nat.lt_of_lt_of_le (h.low i hi) (pow_le32 h.top)
  · rw [h.out i (by omega)]; omega
theorem getD5 (f : Nat → Int) : ∀ i, i < 5 → [f 0, f 1, f 2, f 3, f 4].getD i 0 = f i
  | 0, _ => rfl
  | 1, _ => rfl
  | 2, _ => rfl
  | 3, _ => rfl
  | 4, _ => rfl
theorem getD5n (f : Nat → Nat) : ∀ i, i < 5 → [f 0, f 1, f 2, f 3, f 4].getD i 0 = f i
  | 0, _ => rfl
  | 1, _ => rfl
  | 2, _ => rfl
  | 3, _ => rfl
  | 4, _ => rfl
theorem prodTo_nat (a : Nat → Nat) (ha : ∀ i, a i < 32) (q : Nat) : ∀ k, k ≤ 5 → prodTo [(a 0 : Int), (a 1 : Int), (a 2 : Int), (a 3 : Int), (a 4 : Int)] q k = (uni a q k : Nat)
  | 0, _ => rfl
  | k + 1, hk => by
    have ih := prodTo_nat a ha q k (by omega)
    have hu : uni a q k < 32 := uni_lt (n := 5) (fun i _ => ha i) q k (by omega)
    unfold prodTo uni
    split
    · rw [ih, getD5 (fun i => (a i : Int)) k (by omega), or_nat _ _ hu (ha k)]
    · exact ih
theorem made_prod {n : Nat} {a b : Nat → Nat} (ha : WF n a) (hb : WF n b) : made (prodRow n (a 0) (a 1) (a 2) (a 3) (a 4) (b 0) (b 1) (b 2) (b 3) (b 4)) n = [((prod n a b 0 : Nat) : Int), ((prod n a b 1 : Nat) : Int), ((prod n a b 2 : Nat) : Int), ((prod n a b 3 : Nat) : Int), ((prod n a b 4 : Nat) : Int)] := by
  refine made_nat _ _ _ (fun i hi h5 => ?_) (ha.prod hb).out
  unfold prodRow
  rw [getD5n b i h5, prodTo_nat a ha.lt32 _ n ha.top]
  unfold prod
  rw [if_pos hi]
theorem made_join {n : Nat} {a b : Nat → Nat} (ha : WF n a) (hb : WF n b) : made (fun i => bits BinOp.or IntKind.i64 ([(a 0 : Int), (a 1 : Int), (a 2 : Int), (a 3 : Int), (a 4 : Int)].getD i 0) ([(b 0 : Int), (b 1 : Int), (b 2 : Int), (b 3 : Int), (b 4 : Int)].getD i 0)) n = [((join a b 0 : Nat) : Int), ((join a b 1 : Nat) : Int), ((join a b 2 : Nat) : Int), ((join a b 3 : Nat) : Int), ((join a b 4 : Nat) : Int)] := by
  refine made_nat _ _ _ (fun i hi h5 => ?_) (ha.join hb).out
  rw [getD5 (fun i => (a i : Int)) i h5, getD5 (fun i => (b i : Int)) i h5, or_nat _ _ (ha.lt32 i) (hb.lt32 i)]
  rfl

theorem wf_rows {n : Nat} {r : Nat → Nat} (h : WF n r) : rows n 0 [(r 0 : Int), (r 1 : Int), (r 2 : Int), (r 3 : Int), (r 4 : Int)] = 0 := by
  have step : ∀ (k : Nat) (xs : List Int), rows n (k + 1) xs = 0 → rows n k ((r k : Int) :: xs) = 0 := by
    intro k xs hx
    by_cases hk : k < n
    · rw [rows_more hk (h.low k hk) (by have := h.self k hk; rw [bit_div] at this; simpa using this)]; exact hx
    · rw [rows_zero (by omega) (by rw [h.out k (by omega)]; rfl)]; exact hx
  exact step 0 _ (step 1 _ (step 2 _ (step 3 _ (step 4 _ rfl))))
theorem check_wf {n : Nat} {r : Nat → Nat} (h : WF n r) (w : World) : Calls Tryd.prog 34 #[.agg #[.int .i64 n, .int .i64 (r 0), .int .i64 (r 1), .int .i64 (r 2), .int .i64 (r 3), .int .i64 (r 4)]] w fun e w' => e = .returned (.int .i64 0) ∧ Below w.heap.size w w' := by
  have := check_any n h.pos h.top (r 0) (r 1) (r 2) (r 3) (r 4) w
  rw [wf_rows h] at this
  exact this
theorem rcheck_wf {n : Nat} {r : Nat → Nat} (h : WF n r) (w : World) : Calls Tryd.prog 36 #[.agg #[.int .i64 n, .int .i64 (r 0), .int .i64 (r 1), .int .i64 (r 2), .int .i64 (r 3), .int .i64 (r 4)]] w fun e w' => e = .returned (.int .i64 0) ∧ Below w.heap.size w w' := by
  have := rcheck_any n h.pos h.top (r 0) (r 1) (r 2) (r 3) (r 4) w
  rw [wf_rows h] at this
  exact this
theorem both_wf {n : Nat} {a b : Nat → Nat} (ha : WF n a) (hb : WF n b) (w : World) : Calls Tryd.prog 56 #[.agg #[.int .i64 n, .int .i64 (a 0), .int .i64 (a 1), .int .i64 (a 2), .int .i64 (a 3), .int .i64 (a 4)], .agg #[.int .i64 n, .int .i64 (b 0), .int .i64 (b 1), .int .i64 (b 2), .int .i64 (b 3), .int .i64 (b 4)]] w fun e w' => e = .returned (.int .i64 0) ∧ Below w.heap.size w w' := by
  have := both60 n (a 0) (a 1) (a 2) (a 3) (a 4) n (b 0) (b 1) (b 2) (b 3) (b 4) 0 0 (check_wf ha) (check_wf hb) w
  simpa [bothV] using this
/-- Products of well-formed graphs. -/
theorem product_wf {n : Nat} {a b : Nat → Nat} (ha : WF n a) (hb : WF n b) (w : World) : Calls Tryd.prog 26 #[.agg #[.int .i64 n, .int .i64 (a 0), .int .i64 (a 1), .int .i64 (a 2), .int .i64 (a 3), .int .i64 (a 4)], .agg #[.int .i64 n, .int .i64 (b 0), .int .i64 (b 1), .int .i64 (b 2), .int .i64 (b 3), .int .i64 (b 4)]] w fun e w' => e = .returned (pairV n (prod n a b 0 : Nat) (prod n a b 1 : Nat) (prod n a b 2 : Nat) (prod n a b 3 : Nat) (prod n a b 4 : Nat) 0) ∧ Below w.heap.size w w' :=
  product_ok n ha.top _ _ _ _ _ _ _ _ _ _ (hb.lt32 0) (hb.lt32 1) (hb.lt32 2) (hb.lt32 3) (hb.lt32 4) _ _ _ _ _ (made_prod ha hb) (both_wf ha hb) w
theorem compose_wf {n : Nat} {a b : Nat → Nat} (ha : WF n a) (hb : WF n b) (w : World) : Calls Tryd.prog 57 #[.agg #[.int .i64 n, .int .i64 (a 0), .int .i64 (a 1), .int .i64 (a 2), .int .i64 (a 3), .int .i64 (a 4)], .agg #[.int .i64 n, .int .i64 (b 0), .int .i64 (b 1), .int .i64 (b 2), .int .i64 (b 3), .int .i64 (b 4)]] w fun e w' => e = .returned (.agg #[.int .i64 n, .int .i64 (prod n a b 0 : Nat), .int .i64 (prod n a b 1 : Nat), .int .i64 (prod n a b 2 : Nat), .int .i64 (prod n a b 3 : Nat), .int .i64 (prod n a b 4 : Nat)]) ∧ Below w.heap.size w w' :=
  compose_ok n ha.top _ _ _ _ _ _ _ _ _ _ (hb.lt32 0) (hb.lt32 1) (hb.lt32 2) (hb.lt32 3) (hb.lt32 4) _ _ _ _ _ (made_prod ha hb) w
end Go.Proofs.YtlineonmpbdkgaaDoor.Graph
namespace Go.Proofs.YtlineonmpbdkgaaDoor.Graph
open Go Go.RowKit Go.Graph Go.Law
open Go.Proofs.YtlineonmpbdkgaaDoor.Col

theorem row_bel {w w' : World} {A B : Nat} {n r0 r1 r2 r3 r4 : Int} (h : Row6 w A n r0 r1 r2 r3 r4) (hb : Below B w w') (hl : A < B) : Row6 w' A n r0 r1 r2 r3 r4 :=
  ⟨(hb.cell hl).trans h.1, (hb.cell hl).trans h.2.1, (hb.cell hl).trans h.2.2.1, (hb.cell hl).trans h.2.2.2.1, (hb.cell hl).trans h.2.2.2.2.1, (hb.cell hl).trans h.2.2.2.2.2⟩
theorem row_wf {w : World} {A : Nat} {n : Int} {r : Nat → Nat} (h : Row6 w A n (r 0) (r 1) (r 2) (r 3) (r 4)) (i : Nat) (hi : i < 5) : w.cell? ⟨A, 1 + i, none⟩ = some (.int .i64 (r i)) := by
  have := row_at6 h i hi
  rw [getD5 (fun i => (r i : Int)) i hi] at this
  exact this
/-- Row p replaced. -/
theorem rowp_cell (n : Int) (g : Nat → Int) (p : Nat) (x : Int) (h : p < 5) : (Value.int .i64 n :: ((made g p).set p x).map (Value.int .i64))[1 + p]? = some (.int .i64 x) := by
  rw [Nat.add_comm, List.getElem?_cons_succ, List.getElem?_map, List.getElem?_set_self (by rw [made_length]; exact h)]; rfl
theorem rowp_set (n : Int) (g : Nat → Int) (p : Nat) (x y : Int) : (Value.int .i64 n :: ((made g p).set p x).map (Value.int .i64)).set (1 + p) (.int .i64 y) = Value.int .i64 n :: ((made g p).set p y).map (Value.int .i64) := by
  rw [Nat.add_comm, List.set_cons_succ, ← List.map_set, List.set_set]
theorem made_set0 (g : Nat → Int) (p : Nat) (h : p < 5) : (made g p).set p 0 = made g p := by
  apply List.ext_getElem?
  intro i
  by_cases hi : i = p
  · subst hi
    rw [List.getElem?_set_self (by rw [made_length]; exact h), made_get g i i h, if_neg (by omega)]
  · rw [List.getElem?_set_ne (by omega)]
set_option maxRecDepth 100000 in
set_option maxHeartbeats 2000000 in
theorem rproduct_wf {n : Nat} {a b : Nat → Nat} (ha : WF n a) (hb : WF n b) (w : World) : Calls Tryd.prog 75 #[.agg #[.int .i64 n, .int .i64 (a 0), .int .i64 (a 1), .int .i64 (a 2), .int .i64 (a 3), .int .i64 (a 4)], .agg #[.int .i64 n, .int .i64 (b 0), .int .i64 (b 1), .int .i64 (b 2), .int .i64 (b 3), .int .i64 (b 4)]] w fun e w' => e = .returned (.agg #[.int .i64 n, .int .i64 (prod n a b 0 : Nat), .int .i64 (prod n a b 1 : Nat), .int .i64 (prod n a b 2 : Nat), .int .i64 (prod n a b 3 : Nat), .int .i64 (prod n a b 4 : Nat)]) ∧ Below w.heap.size w w' := by
  have h5 := ha.top
  have HM := Lib.hid (made_nat (fun i => ((uni a (b i) n : Nat) : Int)) (prod n a b) n (fun i hi _ => by unfold prod; rw [if_pos hi]) (ha.prod hb).out)
  generalize hp0 : prod n a b 0 = p0 at *
  generalize hp1 : prod n a b 1 = p1 at *
  generalize hp2 : prod n a b 2 = p2 at *
  generalize hp3 : prod n a b 3 = p3 at *
  generalize hp4 : prod n a b 4 = p4 at *
  clear hp0 hp1 hp2 hp3 hp4
  have LA := Lib.hid ha.lt32
  have LB := Lib.hid hb.lt32
  clear ha hb
  have T0 := Lib.hid ((((below_alloc w (.cells #[.int .i64 n, .int .i64 (a 0), .int .i64 (a 1), .int .i64 (a 2), .int .i64 (a 3), .int .i64 (a 4)] 24)).alloc (by rw [size_alloc]; omega) (.cells #[.int .i64 n, .int .i64 (b 0), .int .i64 (b 1), .int .i64 (b 2), .int .i64 (b 3), .int .i64 (b 4)] 24)).alloc (by rw [size_alloc, size_alloc]; omega) (.cells #[.int .i64 0, .int .i64 0, .int .i64 0, .int .i64 0, .int .i64 0, .int .i64 0] 24)).alloc (by rw [size_alloc, size_alloc, size_alloc]; omega) (.cells #[.int .i64 n, .int .i64 0, .int .i64 0, .int .i64 0, .int .i64 0, .int .i64 0] 24))
  have RA := Lib.hid (row_alloc (row_alloc (row_alloc (row_new w n (a 0) (a 1) (a 2) (a 3) (a 4)) (.cells #[.int .i64 n, .int .i64 (b 0), .int .i64 (b 1), .int .i64 (b 2), .int .i64 (b 3), .int .i64 (b 4)] 24)) (.cells #[.int .i64 0, .int .i64 0, .int .i64 0, .int .i64 0, .int .i64 0, .int .i64 0] 24)) (.cells #[.int .i64 n, .int .i64 0, .int .i64 0, .int .i64 0, .int .i64 0, .int .i64 0] 24))
  have RB := Lib.hid (row_alloc (row_alloc (row_new (w.alloc (.cells #[.int .i64 n, .int .i64 (a 0), .int .i64 (a 1), .int .i64 (a 2), .int .i64 (a 3), .int .i64 (a 4)] 24)) n (b 0) (b 1) (b 2) (b 3) (b 4)) (.cells #[.int .i64 0, .int .i64 0, .int .i64 0, .int .i64 0, .int .i64 0, .int .i64 0] 24)) (.cells #[.int .i64 n, .int .i64 0, .int .i64 0, .int .i64 0, .int .i64 0, .int .i64 0] 24))
  rw [size_alloc] at RB
  have RO := Lib.hid ((own_new ((w.alloc (.cells #[.int .i64 n, .int .i64 (a 0), .int .i64 (a 1), .int .i64 (a 2), .int .i64 (a 3), .int .i64 (a 4)] 24)).alloc (.cells #[.int .i64 n, .int .i64 (b 0), .int .i64 (b 1), .int .i64 (b 2), .int .i64 (b 3), .int .i64 (b 4)] 24)) [.int .i64 0, .int .i64 0, .int .i64 0, .int .i64 0, .int .i64 0, .int .i64 0] 24).alloc (.cells #[.int .i64 n, .int .i64 0, .int .i64 0, .int .i64 0, .int .i64 0, .int .i64 0] 24))
  rw [size_alloc, size_alloc] at RO
  have RG := Lib.hid (own_new (((w.alloc (.cells #[.int .i64 n, .int .i64 (a 0), .int .i64 (a 1), .int .i64 (a 2), .int .i64 (a 3), .int .i64 (a 4)] 24)).alloc (.cells #[.int .i64 n, .int .i64 (b 0), .int .i64 (b 1), .int .i64 (b 2), .int .i64 (b 3), .int .i64 (b 4)] 24)).alloc (.cells #[.int .i64 0, .int .i64 0, .int .i64 0, .int .i64 0, .int .i64 0, .int .i64 0] 24)) [.int .i64 n, .int .i64 0, .int .i64 0, .int .i64 0, .int .i64 0, .int .i64 0] 24)
  rw [size_alloc, size_alloc, size_alloc] at RG
  go_enter Tryd.func75, Tryd.ntmps75
  go_wp2
  generalize World.alloc (World.alloc (World.alloc (World.alloc w _) _) _) _ = W4 at *
  have hn0 := RA.out.1
  go_loopw [6] (fun i wr => ∃ p : Nat, p ≤ n ∧ i = .int .i64 p ∧ Below (w.heap.size + 1 + 1 + 1) W4 wr ∧ Own wr (w.heap.size + 1 + 1 + 1) 24 (.int .i64 n :: (made (fun i => ((uni a (b i) n : Nat) : Int)) p).map (Value.int .i64))) (fun i _ => n - (intOf i).toNat)
  case atStart => exact ⟨0, Nat.zero_le _, rfl, Below.refl _ _, RG.out⟩
  case round =>
    obtain ⟨p, hp, rfl, hbl, hown⟩ := hrel
    have HBL := Lib.hid hbl
    have HOWN := Lib.hid hown
    clear hbl hown
    have hna := (row_bel RA.out HBL.out (by omega)).1
    clear hn0
    by_cases hlt : p < n
    · go_wp2
      go_loopw [7] (fun j wr => ∃ m : Nat, m ≤ n ∧ j = .int .i64 m ∧ Below (w.heap.size + 1 + 1 + 1) W4 wr ∧ Own wr (w.heap.size + 1 + 1 + 1) 24 (.int .i64 n :: ((made (fun i => ((uni a (b i) n : Nat) : Int)) p).set p ((uni a (b p) m : Nat) : Int)).map (Value.int .i64))) (fun j _ => n - (intOf j).toNat)
      case atStart => exact ⟨0, Nat.zero_le _, rfl, HBL.out, by have := made_set0 (fun i => ((uni a (b i) n : Nat) : Int)) p (by omega); show Own _ _ _ (_ :: ((made _ p).set p 0).map _); rw [this]; exact HOWN.out⟩
      case round =>
        obtain ⟨m, hm, rfl, hbl, hown⟩ := hrel
        have HBL := Lib.hid hbl
        have HOWN := Lib.hid hown
        clear hbl hown hna
        have hna := (row_bel RA.out HBL.out (by omega)).1
        by_cases hlt2 : m < n
        · have hca := row_wf (row_bel RA.out HBL.out (by omega)) m (by omega)
          have hcb := row_wf (row_bel RB.out HBL.out (by omega)) p (by omega)
          have hcg := HOWN.out.cell (rowp_cell n (fun i => ((uni a (b i) n : Nat) : Int)) p ((uni a (b p) m : Nat) : Int) (by omega))
          have hfr := HOWN.out.free (1 + p)
          have hq := LB.out p
          have hy := LA.out m
          have hx : uni a (b p) m < 32 := uni_lt (n := 5) (fun i _ => LA.out i) (b p) m (by omega)
          have HU := Lib.hid (show uni a (b p) (m + 1) = if b p / 2 ^ m % 2 = 1 then uni a (b p) m ||| a m else uni a (b p) m from rfl)
          generalize uni a (b p) m = x at *
          by_cases hbit : b p / 2 ^ m % 2 = 1
          · have HX := Lib.hid (show (b p / 2 ^ m % 2 == 1) = true by simp [hbit])
            have HBIT := Lib.hid hbit
            have HOR := Lib.hid (or_nat x (a m) hx hy)
            clear hbit
            go_wp2_with (go_at_call 62; refine (has_any (b p) m hq (by omega) _).mono ?_; rintro e w' ⟨rfl, rfl⟩; rw [HX.out])
            go_region
            go_wp2
            exact ⟨⟨m + 1, by omega, by go_num, (HBL.out.setCell (Nat.le_refl _) _).drew, by rw [HU.out, if_pos HBIT.out, ← HOR.out, ← rowp_set n _ p (x : Int)]; exact (HOWN.out.set (1 + p) _).drew⟩, by simp [intOf]; omega⟩
          · have HX := Lib.hid (show (b p / 2 ^ m % 2 == 1) = false by simp [hbit])
            have HBIT := Lib.hid hbit
            clear hbit
            go_wp2_with (go_at_call 62; refine (has_any (b p) m hq (by omega) _).mono ?_; rintro e w' ⟨rfl, rfl⟩; rw [HX.out])
            exact ⟨⟨m + 1, by omega, by go_num, HBL.out, by rw [HU.out, if_neg HBIT.out]; exact HOWN.out⟩, by simp [intOf]; omega⟩
        · have hk' : m = n := by omega
          subst hk'
          have HS := Lib.hid (made_set (fun i => ((uni a (b i) m : Nat) : Int)) p (by omega))
          go_wp2
          exact ⟨⟨p + 1, by omega, by go_num, HBL.out, by rw [← HS.out]; exact HOWN.out⟩, by simp [intOf]; omega⟩
    · have hk' : p = n := by omega
      subst hk'
      rw [HM.out] at HOWN
      have c0 := HOWN.out.cell (j := 0) (v := .int .i64 p) rfl
      have c1 := HOWN.out.cell (j := 1) (v := .int .i64 p0) rfl
      have c2 := HOWN.out.cell (j := 2) (v := .int .i64 p1) rfl
      have c3 := HOWN.out.cell (j := 3) (v := .int .i64 p2) rfl
      have c4 := HOWN.out.cell (j := 4) (v := .int .i64 p3) rfl
      have c5 := HOWN.out.cell (j := 5) (v := .int .i64 p4) rfl
      have HRES := Lib.hid (RO.out.below HBL.out (by omega))
      have d0 := HRES.out.cell (j := 0) (v := .int .i64 0) rfl
      have d1 := HRES.out.cell (j := 1) (v := .int .i64 0) rfl
      have d2 := HRES.out.cell (j := 2) (v := .int .i64 0) rfl
      have d3 := HRES.out.cell (j := 3) (v := .int .i64 0) rfl
      have d4 := HRES.out.cell (j := 4) (v := .int .i64 0) rfl
      have d5 := HRES.out.cell (j := 5) (v := .int .i64 0) rfl
      have z0 := HRES.out.free 0
      have z1 := HRES.out.free 1
      have z2 := HRES.out.free 2
      have z3 := HRES.out.free 3
      have z4 := HRES.out.free 4
      have z5 := HRES.out.free 5
      go_wp2
      (try simp only [Exit.inBlock, Exit.then])
      refine bodyPost_ret (v := .agg #[.int .i64 p, .int .i64 p0, .int .i64 p1, .int .i64 p2, .int .i64 p3, .int .i64 p4]) (by simp [results, Tryd.results75, go_sem, d0, d1, d2, d3, d4, d5]) rfl ⟨rfl, (((((((T0.out.trans (bel_lg HBL.out (by omega))).setCell (by show w.heap.size ≤ w.heap.size + 1 + 1; omega) _).setCell (by show w.heap.size ≤ w.heap.size + 1 + 1; omega) _).setCell (by show w.heap.size ≤ w.heap.size + 1 + 1; omega) _).setCell (by show w.heap.size ≤ w.heap.size + 1 + 1; omega) _).setCell (by show w.heap.size ≤ w.heap.size + 1 + 1; omega) _).setCell (by show w.heap.size ≤ w.heap.size + 1 + 1; omega) _)⟩
end Go.Proofs.YtlineonmpbdkgaaDoor.Graph
