/-
  Graphs with renamed processes: the reference.
-/
import Derived.Test.YtlineonmpbdkgaaDoorEvGRel
import Derived.Test.YtlineonmpbdkgaaDoorEvRoGRoots
import Derived.Test.YtlineonmpbdkgaaDoorEvRoPermActs
namespace Go.Graph

def upd (f : Nat → Nat) (i v : Nat) : Nat → Nat := fun j => if j = i then v else f j
theorem upd_same (f : Nat → Nat) (i v : Nat) : upd f i v i = v := by simp [upd]
theorem upd_far {f : Nat → Nat} {i v j : Nat} (h : j ≠ i) : upd f i v j = f j := by simp [upd, h]
/-- The rows after the first q bits of row p. -/
def accIn (r π : Nat → Nat) (p : Nat) (f : Nat → Nat) : Nat → Nat → Nat
  | 0 => f
  | q + 1 => if r p / 2 ^ q % 2 = 1 then upd (accIn r π p f q) (π p) (accIn r π p f q (π p) ||| 2 ^ π q) else accIn r π p f q
/-- The rows after the first p rows. -/
def accTo (n : Nat) (r π : Nat → Nat) : Nat → Nat → Nat
  | 0 => fun _ => 0
  | p + 1 => accIn r π p (accTo n r π p) n
/-- The renamed graph. -/
def ren (n : Nat) (r π : Nat → Nat) : Nat → Nat := accTo n r π n
theorem accIn_lt {n : Nat} {r π : Nat → Nat} (hπ : ∀ i, i < n → π i < n) {p : Nat} (hp : p < n) {f : Nat → Nat} (hf : ∀ i, f i < 2 ^ n) (h0 : ∀ i, n ≤ i → f i = 0) : ∀ q, q ≤ n → (∀ i, accIn r π p f q i < 2 ^ n) ∧ ∀ i, n ≤ i → accIn r π p f q i = 0
  | 0, _ => ⟨hf, h0⟩
  | q + 1, hq => by
    obtain ⟨h1, h2⟩ := accIn_lt (r := r) hπ hp hf h0 q (by omega)
    unfold accIn
    split
    · refine ⟨fun i => ?_, fun i hi => ?_⟩
      · by_cases e : i = π p
        · subst e; rw [upd_same]; exact Nat.or_lt_two_pow (h1 _) (Nat.pow_lt_pow_right (by omega) (hπ q (by omega)))
        · rw [upd_far e]; exact h1 i
      · have := hπ p hp
        rw [upd_far (by omega)]; exact h2 i hi
    · exact ⟨h1, h2⟩
theorem accTo_lt {n : Nat} {r π : Nat → Nat} (hπ : ∀ i, i < n → π i < n) : ∀ p, p ≤ n → (∀ i, accTo n r π p i < 2 ^ n) ∧ ∀ i, n ≤ i → accTo n r π p i = 0
  | 0, _ => ⟨fun _ => Nat.pow_pos (by omega), fun _ _ => rfl⟩
  | p + 1, hp => by
    obtain ⟨h1, h2⟩ := accTo_lt (r := r) hπ p (by omega)
    exact accIn_lt hπ (by omega) h1 h2 n (Nat.le_refl _)
theorem accIn_bit (r π : Nat → Nat) (p : Nat) (f : Nat → Nat) (i j : Nat) : ∀ q, (accIn r π p f q i).testBit j = true ↔ (f i).testBit j = true ∨ ∃ k, k < q ∧ (r p).testBit k = true ∧ i = π p ∧ j = π k
  | 0 => by simp [accIn]
  | q + 1 => by
    have ih := accIn_bit r π p f i j q
    unfold accIn
    by_cases h : r p / 2 ^ q % 2 = 1
    · have hk : (r p).testBit q = true := by rw [bit_div]; simpa using h
      rw [if_pos h]
      by_cases e : i = π p
      · subst e
        rw [upd_same, Nat.testBit_or, Bool.or_eq_true, ih, Nat.testBit_two_pow]
        constructor
        · rintro ((h1 | ⟨k, hk1, hk2, hk3, hk4⟩) | h1)
          · exact .inl h1
          · exact .inr ⟨k, by omega, hk2, hk3, hk4⟩
          · exact .inr ⟨q, by omega, hk, rfl, by simpa using (of_decide_eq_true h1).symm⟩
        · rintro (h1 | ⟨k, hk1, hk2, hk3, hk4⟩)
          · exact .inl (.inl h1)
          · by_cases ek : k = q
            · subst ek; exact .inr (by simpa using hk4.symm)
            · exact .inl (.inr ⟨k, by omega, hk2, hk3, hk4⟩)
      · rw [upd_far e, ih]
        constructor
        · rintro (h1 | ⟨k, hk1, hk2, hk3, hk4⟩)
          · exact .inl h1
          · exact absurd hk3 e
        · rintro (h1 | ⟨k, hk1, hk2, hk3, hk4⟩)
          · exact .inl h1
          · exact absurd hk3 e
    · have hk : ¬ (r p).testBit q = true := by rw [bit_div]; simpa using h
      rw [if_neg h, ih]
      constructor
      · rintro (h1 | ⟨k, hk1, hk2, hk3, hk4⟩)
        · exact .inl h1
        · exact .inr ⟨k, by omega, hk2, hk3, hk4⟩
      · rintro (h1 | ⟨k, hk1, hk2, hk3, hk4⟩)
        · exact .inl h1
        · by_cases ek : k = q
          · subst ek; exact absurd hk2 hk
          · exact .inr ⟨k, by omega, hk2, hk3, hk4⟩
theorem accTo_bit (n : Nat) (r π : Nat → Nat) (i j : Nat) : ∀ p, (accTo n r π p i).testBit j = true ↔ ∃ x, x < p ∧ ∃ k, k < n ∧ (r x).testBit k = true ∧ i = π x ∧ j = π k
  | 0 => by simp [accTo]
  | p + 1 => by
    have ih := accTo_bit n r π i j p
    show (accIn r π p (accTo n r π p) n i).testBit j = true ↔ _
    rw [accIn_bit, ih]
    constructor
    · rintro (⟨x, hx, h⟩ | h)
      · exact ⟨x, by omega, h⟩
      · exact ⟨p, by omega, h⟩
    · rintro ⟨x, hx, h⟩
      by_cases e : x = p
      · subst e; exact .inr h
      · exact .inl ⟨x, by omega, h⟩
theorem ren_bit (n : Nat) (r π : Nat → Nat) (i j : Nat) : (ren n r π i).testBit j = true ↔ ∃ x, x < n ∧ ∃ k, k < n ∧ (r x).testBit k = true ∧ i = π x ∧ j = π k := accTo_bit n r π i j n
/-- Five rows. -/
def rowsL (f : Nat → Nat) : List Int := (List.range 5).map fun i => (f i : Int)
theorem rowsL_get (f : Nat → Nat) (i : Nat) (h : i < 5) : (rowsL f)[i]? = some (f i : Int) := by simp [rowsL, h]
theorem rowsL_set (f : Nat → Nat) (i v : Nat) : (rowsL f).set i (v : Int) = rowsL (upd f i v) := by
  apply List.ext_getElem?
  intro j
  by_cases hj : j < 5
  · rw [rowsL_get _ j hj]
    by_cases e : j = i
    · subst e; rw [List.getElem?_set_self (by simp [rowsL]; exact hj), upd_same]
    · rw [List.getElem?_set_ne (by omega), rowsL_get _ j hj, upd_far e]
  · rw [List.getElem?_eq_none (by simp [rowsL]; omega), List.getElem?_eq_none (by simp [rowsL]; omega)]
end Go.Graph
namespace Go.Proofs.YtlineonmpbdkgaaDoor.Graph
open Go Go.RowKit Go.Graph Go.Law
open Go.Proofs.YtlineonmpbdkgaaDoor.Col

open Go.Proofs.YtlineonmpbdkgaaDoor.Perm (Quiet check_ints rcheck_ints)
theorem rowsL_cell (n : Int) (f : Nat → Nat) (i : Nat) (h : i < 5) : (Value.int .i64 n :: (rowsL f).map (Value.int .i64))[1 + i]? = some (.int .i64 (f i)) := by
  rw [Nat.add_comm, List.getElem?_cons_succ, List.getElem?_map, rowsL_get f i h]; rfl
theorem rowsL_put (n : Int) (f : Nat → Nat) (i v : Nat) : (Value.int .i64 n :: (rowsL f).map (Value.int .i64)).set (1 + i) (.int .i64 (v : Int)) = Value.int .i64 n :: (rowsL (upd f i v)).map (Value.int .i64) := by
  rw [Nat.add_comm, List.set_cons_succ, ← List.map_set, rowsL_set]
theorem rowsL_five (f : Nat → Nat) : rowsL f = [(f 0 : Int), (f 1 : Int), (f 2 : Int), (f 3 : Int), (f 4 : Int)] := rfl
/-- What a permutation of processes does. -/
def idx (zs : List Int) (i : Nat) : Nat := (zs.getD i 0).toNat
theorem idx_lt {zs : List Int} (h : Go.Perm.check zs = 0) (i : Nat) (hi : i < zs.length) : idx zs i < zs.length ∧ zs.getD i 0 = (idx zs i : Nat) := by
  obtain ⟨_, _, h3, _⟩ := Go.Perm.check_ok h
  have := h3 _ (Go.Perm.getD_mem hi)
  unfold idx
  omega
theorem acc_lt32 {n : Nat} {r π : Nat → Nat} (hπ : ∀ i, i < n → π i < n) (h5 : n ≤ 5) (p : Nat) (hp : p < n) (m : Nat) (hm : m ≤ n) (i : Nat) : accIn r π p (accTo n r π p) m i < 32 :=
  Nat.lt_of_lt_of_le ((accIn_lt (r := r) hπ hp (accTo_lt hπ p (by omega)).1 (accTo_lt hπ p (by omega)).2 m hm).1 i) (pow_le32 h5)
theorem or_pow (y q : Nat) (hy : y < 32) (hq : q < 5) : bits BinOp.or IntKind.i64 (y : Int) (wrap64 (2 ^ q)) = ((y ||| 2 ^ q : Nat) : Int) := by
  rw [wrap_pow q hq, or_nat _ _ hy (Nat.lt_of_lt_of_le (Nat.pow_lt_pow_right (by omega) hq) (by decide))]
set_option maxRecDepth 100000 in
set_option maxHeartbeats 4000000 in
theorem renamed_wf {n : Nat} {a : Nat → Nat} (ha : WF n a) (b off cap : Nat) (zs : List Int) (hz : zs.length = n) (hok : Go.Perm.check zs = 0) (hcap : n ≤ cap) (w : World) (hb : b < w.heap.size) (hc : At w b off zs) :
    Calls Tryd.prog 69 #[.agg #[.int .i64 n, .int .i64 (a 0), .int .i64 (a 1), .int .i64 (a 2), .int .i64 (a 3), .int .i64 (a 4)], .slice (some ⟨b, off, none⟩) n cap] w fun e w' => e = .returned (.agg #[.int .i64 n, .int .i64 (ren n a (idx zs) 0 : Nat), .int .i64 (ren n a (idx zs) 1 : Nat), .int .i64 (ren n a (idx zs) 2 : Nat), .int .i64 (ren n a (idx zs) 3 : Nat), .int .i64 (ren n a (idx zs) 4 : Nat)]) ∧ Below w.heap.size w w' := by
  unfold ren
  have h5 := ha.top
  have hpre := ha.pos
  have LA := Lib.hid ha.lt32
  have HL := Lib.hid hz
  have HI := Lib.hid (fun i (hi : i < n) => (by have := idx_lt hok i (by omega); rw [hz] at this; exact this : idx zs i < n ∧ zs.getD i 0 = (idx zs i : Nat)))
  have hlow : ∀ i, i < n → idx zs i < n := fun i hi => (HI.out i hi).1
  have HACC := Lib.hid (acc_lt32 (r := a) hlow h5)
  clear hlow
  have HZ1 := Lib.hid (((hc.below (below_alloc w (.cells #[.int .i64 n, .int .i64 (a 0), .int .i64 (a 1), .int .i64 (a 2), .int .i64 (a 3), .int .i64 (a 4)] 24)) hb).below ((Below.refl _ _).alloc (Nat.le_refl _) (.cells #[.int .i64 0, .int .i64 0, .int .i64 0, .int .i64 0, .int .i64 0, .int .i64 0] 24)) (by rw [size_alloc]; omega)).below ((Below.refl _ _).alloc (Nat.le_refl _) (.cells #[.int .i64 n, .int .i64 0, .int .i64 0, .int .i64 0, .int .i64 0, .int .i64 0] 24)) (by rw [size_alloc, size_alloc]; omega))
  clear ha hc
  have T1 := Lib.hid (((below_alloc w (.cells #[.int .i64 n, .int .i64 (a 0), .int .i64 (a 1), .int .i64 (a 2), .int .i64 (a 3), .int .i64 (a 4)] 24)).alloc (by rw [size_alloc]; omega) (.cells #[.int .i64 0, .int .i64 0, .int .i64 0, .int .i64 0, .int .i64 0, .int .i64 0] 24)).alloc (by rw [size_alloc, size_alloc]; omega) (.cells #[.int .i64 n, .int .i64 0, .int .i64 0, .int .i64 0, .int .i64 0, .int .i64 0] 24))
  have RA1 := Lib.hid (row_alloc (row_alloc (row_new w n (a 0) (a 1) (a 2) (a 3) (a 4)) (.cells #[.int .i64 0, .int .i64 0, .int .i64 0, .int .i64 0, .int .i64 0, .int .i64 0] 24)) (.cells #[.int .i64 n, .int .i64 0, .int .i64 0, .int .i64 0, .int .i64 0, .int .i64 0] 24))
  have RO1 := Lib.hid ((own_new (w.alloc (.cells #[.int .i64 n, .int .i64 (a 0), .int .i64 (a 1), .int .i64 (a 2), .int .i64 (a 3), .int .i64 (a 4)] 24)) [.int .i64 0, .int .i64 0, .int .i64 0, .int .i64 0, .int .i64 0, .int .i64 0] 24).alloc (.cells #[.int .i64 n, .int .i64 0, .int .i64 0, .int .i64 0, .int .i64 0, .int .i64 0] 24))
  have RG := Lib.hid (own_new ((w.alloc (.cells #[.int .i64 n, .int .i64 (a 0), .int .i64 (a 1), .int .i64 (a 2), .int .i64 (a 3), .int .i64 (a 4)] 24)).alloc (.cells #[.int .i64 0, .int .i64 0, .int .i64 0, .int .i64 0, .int .i64 0, .int .i64 0] 24)) [.int .i64 n, .int .i64 0, .int .i64 0, .int .i64 0, .int .i64 0, .int .i64 0] 24)
  rw [size_alloc] at RO1
  rw [size_alloc, size_alloc] at RG
  go_enter Tryd.func69, Tryd.ntmps69
  go_wp2
  have hn0 := RA1.out.1
  generalize World.alloc (World.alloc (World.alloc w _) _) _ = W4 at *
  have g0 : w.heap.size < w.heap.size + 1 + 1 := by omega
  have g1 : w.heap.size + 1 < w.heap.size + 1 + 1 := by omega
  have g2 : b < w.heap.size + 1 + 1 := by omega
  have g3 : w.heap.size ≤ w.heap.size + 1 + 1 := by omega
  generalize hG : w.heap.size + 1 + 1 = G at *
  clear hG
  go_loopw [6] (fun i wr => ∃ p : Nat, p ≤ n ∧ i = .int .i64 p ∧ Below G W4 wr ∧ Own wr G 24 (.int .i64 n :: (rowsL (accTo n a (idx zs) p)).map (Value.int .i64))) (fun i _ => n - (intOf i).toNat)
  case atStart => exact ⟨0, Nat.zero_le _, rfl, Below.refl _ _, RG.out⟩
  case round =>
    obtain ⟨p, hp, rfl, hbl, hown⟩ := hrel
    have HBL := Lib.hid hbl
    have HOWN := Lib.hid hown
    clear hbl hown hn0
    have hna := (row_bel RA1.out HBL.out (by omega)).1
    by_cases hlt : p < n
    · obtain ⟨hpp, hpv⟩ := HI.out p hlt
      have HPV := Lib.hid hpv
      clear hpv
      go_wp2
      go_loopw [7] (fun j wr => ∃ m : Nat, m ≤ n ∧ j = .int .i64 m ∧ Below G W4 wr ∧ Own wr G 24 (.int .i64 n :: (rowsL (accIn a (idx zs) p (accTo n a (idx zs) p) m)).map (Value.int .i64))) (fun j _ => n - (intOf j).toNat)
      case atStart => exact ⟨0, Nat.zero_le _, rfl, HBL.out, HOWN.out⟩
      case round =>
        obtain ⟨m, hm, rfl, hbl, hown⟩ := hrel
        have HBL := Lib.hid hbl
        have HOWN := Lib.hid hown
        clear hbl hown hna
        have hna := (row_bel RA1.out HBL.out (by omega)).1
        by_cases hlt2 : m < n
        · obtain ⟨hmm, hmv⟩ := HI.out m hlt2
          have HMV := Lib.hid hmv
          clear hmv
          have hcp : wr.cell? ⟨b, off + p, none⟩ = some (.int .i64 (idx zs p : Nat)) := by rw [← HPV.out]; exact (HZ1.out.below HBL.out (by omega)) p (by have := HL.out; omega)
          have hcq : wr.cell? ⟨b, off + m, none⟩ = some (.int .i64 (idx zs m : Nat)) := by rw [← HMV.out]; exact (HZ1.out.below HBL.out (by omega)) m (by have := HL.out; omega)
          have hcg := HOWN.out.cell (rowsL_cell n (accIn a (idx zs) p (accTo n a (idx zs) p) m) (idx zs p) (by omega))
          have hfr := HOWN.out.free (1 + idx zs p)
          have hx := (HACC.out p hlt m hm) (idx zs p)
          have hca := row_wf (row_bel RA1.out HBL.out (by omega)) p (by omega)
          have hl := LA.out p
          have HU := Lib.hid (show accIn a (idx zs) p (accTo n a (idx zs) p) (m + 1) = if a p / 2 ^ m % 2 = 1 then upd (accIn a (idx zs) p (accTo n a (idx zs) p) m) (idx zs p) (accIn a (idx zs) p (accTo n a (idx zs) p) m (idx zs p) ||| 2 ^ idx zs m) else accIn a (idx zs) p (accTo n a (idx zs) p) m from rfl)
          have HOR := Lib.hid (or_pow _ (idx zs m) hx (by omega))
          have HP := Lib.hid (fun v => rowsL_put n (accIn a (idx zs) p (accTo n a (idx zs) p) m) (idx zs p) v)
          generalize accIn a (idx zs) p (accTo n a (idx zs) p) m (idx zs p) = x at *
          have i0 : (0 : Int) ≤ (idx zs p : Nat) := Int.natCast_nonneg _
          have i1 : ((idx zs p : Nat) : Int) < 5 := by omega
          have i2 : (0 : Int) ≤ (idx zs m : Nat) := Int.natCast_nonneg _
          have i3 : ((idx zs m : Nat) : Int) < 5 := by omega
          have i4 : (p : Int) < n := by omega
          have i5 : (m : Int) < n := by omega
          generalize idx zs p = ip at *
          generalize idx zs m = iq at *
          by_cases hbit : a p / 2 ^ m % 2 = 1
          · have HBIT := Lib.hid hbit
            have HX := Lib.hid (show (a p / 2 ^ m % 2 == 1) = true by simp [hbit])
            clear hbit
            go_wp2_with (go_at_call 62; refine (has_any (a p) m hl (by omega) _).mono ?_; rintro e w' ⟨rfl, rfl⟩; rw [HX.out])
            go_region
            go_wp2
            exact ⟨⟨m + 1, by omega, by go_num, (HBL.out.setCell (Nat.le_refl _) _).drew, by rw [HU.out, if_pos HBIT.out, ← HP.out, ← HOR.out]; exact (HOWN.out.set (1 + ip) _).drew⟩, by simp [intOf]; omega⟩
          · have HBIT := Lib.hid hbit
            have HX := Lib.hid (show (a p / 2 ^ m % 2 == 1) = false by simp [hbit])
            clear hbit
            go_wp2_with (go_at_call 62; refine (has_any (a p) m hl (by omega) _).mono ?_; rintro e w' ⟨rfl, rfl⟩; rw [HX.out])
            exact ⟨⟨m + 1, by omega, by go_num, HBL.out, by rw [HU.out, if_neg HBIT.out]; exact HOWN.out⟩, by simp [intOf]; omega⟩
        · have hk' : m = n := by omega
          subst hk'
          go_wp2
          exact ⟨⟨p + 1, by omega, by go_num, HBL.out, HOWN.out⟩, by simp [intOf]; omega⟩
    · have hk' : p = n := by omega
      subst hk'
      rw [rowsL_five] at HOWN
      have c0 := HOWN.out.cell (j := 0) (v := .int .i64 p) rfl
      have c1 := HOWN.out.cell (j := 1) (v := .int .i64 (accTo p a (idx zs) p 0 : Nat)) rfl
      have c2 := HOWN.out.cell (j := 2) (v := .int .i64 (accTo p a (idx zs) p 1 : Nat)) rfl
      have c3 := HOWN.out.cell (j := 3) (v := .int .i64 (accTo p a (idx zs) p 2 : Nat)) rfl
      have c4 := HOWN.out.cell (j := 4) (v := .int .i64 (accTo p a (idx zs) p 3 : Nat)) rfl
      have c5 := HOWN.out.cell (j := 5) (v := .int .i64 (accTo p a (idx zs) p 4 : Nat)) rfl
      have HRES := Lib.hid (RO1.out.below HBL.out (by omega))
      have d0 := HRES.out.cell (j := 0) (v := .int .i64 0) rfl
      have d1 := HRES.out.cell (j := 1) (v := .int .i64 0) rfl
      have d2 := HRES.out.cell (j := 2) (v := .int .i64 0) rfl
      have d3 := HRES.out.cell (j := 3) (v := .int .i64 0) rfl
      have d4 := HRES.out.cell (j := 4) (v := .int .i64 0) rfl
      have d5 := HRES.out.cell (j := 5) (v := .int .i64 0) rfl
      have z0 := HRES.out.free 0
      have z1 := HRES.out.free 1
      have z2 := HRES.out.free 2
      have z3 := HRES.out.free 3
      have z4 := HRES.out.free 4
      have z5 := HRES.out.free 5
      go_wp2
      (try simp only [Exit.inBlock, Exit.then])
      refine bodyPost_ret (v := .agg #[.int .i64 p, .int .i64 (accTo p a (idx zs) p 0 : Nat), .int .i64 (accTo p a (idx zs) p 1 : Nat), .int .i64 (accTo p a (idx zs) p 2 : Nat), .int .i64 (accTo p a (idx zs) p 3 : Nat), .int .i64 (accTo p a (idx zs) p 4 : Nat)]) (by simp [results, Tryd.results69, go_sem, d0, d1, d2, d3, d4, d5]) rfl ⟨rfl, below_set6 (T1.out.trans (bel_lg HBL.out g3)) (by show w.heap.size ≤ w.heap.size + 1; omega) _ _ _ _ _ _⟩
end Go.Proofs.YtlineonmpbdkgaaDoor.Graph
