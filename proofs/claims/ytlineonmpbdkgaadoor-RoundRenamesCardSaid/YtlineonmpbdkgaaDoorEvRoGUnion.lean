/-
  Unions of graphs: the program's.
-/
import Derived.Test.YtlineonmpbdkgaaDoorEvRoChecks
import Derived.Test.YtlineonmpbdkgaaDoorEvRoSeat
import Derived.Test.YtlineonmpbdkgaaDoorEvRoPermRef
import Derived.Deep.RegionHeld3
import Derived.Deep.RegionWith
namespace Go.Proofs.YtlineonmpbdkgaaDoor.Graph
open Go Go.RowKit Go.Graph Go.Law
open Go.Proofs.YtlineonmpbdkgaaDoor.Col

def pairV (n r0 r1 r2 r3 r4 e : Int) : Value := .tuple #[.agg #[.int .i64 n, .int .i64 r0, .int .i64 r1, .int .i64 r2, .int .i64 r3, .int .i64 r4], .int .i64 e]
end Go.Proofs.YtlineonmpbdkgaaDoor.Graph
namespace Go.Proofs.YtlineonmpbdkgaaDoor.Graph
open Go Go.RowKit Go.Graph Go.Law
open Go.Proofs.YtlineonmpbdkgaaDoor.Col

theorem checks (n r0 r1 r2 r3 r4 : Int) : ∃ c : Int, (∀ w : World, Calls Tryd.prog 34 #[.agg #[.int .i64 n, .int .i64 r0, .int .i64 r1, .int .i64 r2, .int .i64 r3, .int .i64 r4]] w fun e w' => e = .returned (.int .i64 c) ∧ Below w.heap.size w w') ∧ (∀ w : World, Calls Tryd.prog 36 #[.agg #[.int .i64 n, .int .i64 r0, .int .i64 r1, .int .i64 r2, .int .i64 r3, .int .i64 r4]] w fun e w' => e = .returned (.int .i64 c) ∧ Below w.heap.size w w') := by
  by_cases h : n < 1 ∨ 5 < n
  · exact ⟨2, check_bad n h r0 r1 r2 r3 r4, rcheck_bad n h r0 r1 r2 r3 r4⟩
  · obtain ⟨k, rfl⟩ := Int.eq_ofNat_of_zero_le (show 0 ≤ n by omega)
    exact ⟨_, check_any k (by omega) (by omega) r0 r1 r2 r3 r4, rcheck_any k (by omega) (by omega) r0 r1 r2 r3 r4⟩
/-- A graph that lies in block B. -/
@[reducible] def Row6 (w : World) (B : Nat) (n r0 r1 r2 r3 r4 : Int) : Prop := (w.cell? ⟨B, 0, none⟩ = some (.int .i64 n) ∧ w.cell? ⟨B, 1, none⟩ = some (.int .i64 r0) ∧ w.cell? ⟨B, 2, none⟩ = some (.int .i64 r1) ∧ w.cell? ⟨B, 3, none⟩ = some (.int .i64 r2) ∧ w.cell? ⟨B, 4, none⟩ = some (.int .i64 r3) ∧ w.cell? ⟨B, 5, none⟩ = some (.int .i64 r4))
theorem row_new (w : World) (n r0 r1 r2 r3 r4 : Int) : Row6 (w.alloc (.cells #[.int .i64 n, .int .i64 r0, .int .i64 r1, .int .i64 r2, .int .i64 r3, .int .i64 r4] 24)) w.heap.size n r0 r1 r2 r3 r4 := by
  refine ⟨?_, ?_, ?_, ?_, ?_, ?_⟩ <;> (rw [World.cell?_alloc_at _ _ _ _ rfl]; rfl)
theorem row_below {w w' : World} {B : Nat} {n r0 r1 r2 r3 r4 : Int} (h : Row6 w B n r0 r1 r2 r3 r4) (hb : Below w.heap.size w w') : Row6 w' B n r0 r1 r2 r3 r4 :=
  have hl : B < w.heap.size := cell_lt h.1
  ⟨(hb.cell hl).trans h.1, (hb.cell hl).trans h.2.1, (hb.cell hl).trans h.2.2.1, (hb.cell hl).trans h.2.2.2.1, (hb.cell hl).trans h.2.2.2.2.1, (hb.cell hl).trans h.2.2.2.2.2⟩
theorem row_alloc {w : World} {B : Nat} {n r0 r1 r2 r3 r4 : Int} (h : Row6 w B n r0 r1 r2 r3 r4) (o : Obj) : Row6 (w.alloc o) B n r0 r1 r2 r3 r4 := row_below h ((Below.refl _ _).alloc (Nat.le_refl _) o)
theorem eq_self (x0 x1 x2 x3 x4 : Int) (w : World) : (Op.equalIn 9999 22 (.agg #[.int .i64 x0, .int .i64 x1, .int .i64 x2, .int .i64 x3, .int .i64 x4]) (.agg #[.int .i64 x0, .int .i64 x1, .int .i64 x2, .int .i64 x3, .int .i64 x4])).run Tryd.prog w = .ok true w := by
  have := arr_eq x0 x1 x2 x3 x4 x0 x1 x2 x3 x4 w
  simpa using this
theorem bel_lg {B B' : Nat} {w w' : World} (h : Below B w w') (hb : B' ≤ B) : Below B' w w' := ⟨h.os, h.tape, h.output, h.size, fun k hk => h.block k (by omega)⟩
theorem keepSix {w w' : World} {A B X Y U V : Nat} {n r0 r1 r2 r3 r4 m s0 s1 s2 s3 s4 x x0 x1 x2 x3 x4 u u0 u1 u2 u3 u4 : Int} (h : Row6 w A n r0 r1 r2 r3 r4 ∧ Row6 w B m s0 s1 s2 s3 s4 ∧ Row6 w X x x0 x1 x2 x3 x4 ∧ Row6 w Y x x0 x1 x2 x3 x4 ∧ Row6 w U u u0 u1 u2 u3 u4 ∧ Row6 w V u u0 u1 u2 u3 u4) (hb : Below w.heap.size w w') : Row6 w' A n r0 r1 r2 r3 r4 ∧ Row6 w' B m s0 s1 s2 s3 s4 ∧ Row6 w' X x x0 x1 x2 x3 x4 ∧ Row6 w' Y x x0 x1 x2 x3 x4 ∧ Row6 w' U u u0 u1 u2 u3 u4 ∧ Row6 w' V u u0 u1 u2 u3 u4 :=
  ⟨row_below h.1 hb, row_below h.2.1 hb, row_below h.2.2.1 hb, row_below h.2.2.2.1 hb, row_below h.2.2.2.2.1 hb, row_below h.2.2.2.2.2 hb⟩
end Go.Proofs.YtlineonmpbdkgaaDoor.Graph
namespace Go.Proofs.YtlineonmpbdkgaaDoor.Graph
open Go Go.RowKit Go.Graph Go.Law
open Go.Proofs.YtlineonmpbdkgaaDoor.Col

/-- Five rows, of which the first k are made. -/
def made (g : Nat → Int) (k : Nat) : List Int := (List.range 5).map fun i => if i < k then g i else 0
theorem made_length (g : Nat → Int) (k : Nat) : (made g k).length = 5 := by simp [made]
theorem made_get (g : Nat → Int) (k i : Nat) (h : i < 5) : (made g k)[i]? = some (if i < k then g i else 0) := by simp [made, h]
theorem made_zero (g : Nat → Int) : made g 0 = [0, 0, 0, 0, 0] := rfl
theorem made_set (g : Nat → Int) (k : Nat) (_h : k < 5) : (made g k).set k (g k) = made g (k + 1) := by
  apply List.ext_getElem?
  intro i
  by_cases hi : i < 5
  · rw [made_get g (k + 1) i hi]
    by_cases hik : i = k
    · subst hik
      rw [List.getElem?_set_self (by rw [made_length]; exact hi), if_pos (by omega)]
    · rw [List.getElem?_set_ne (by omega), made_get g k i hi]
      by_cases h : i < k
      · rw [if_pos h, if_pos (by omega)]
      · rw [if_neg h, if_neg (by omega)]
  · rw [List.getElem?_eq_none (by rw [List.length_set, made_length]; omega), List.getElem?_eq_none (by rw [made_length]; omega)]
theorem row_cell (n : Int) (g : Nat → Int) (k : Nat) (h : k < 5) : (Value.int .i64 n :: (made g k).map (Value.int .i64))[1 + k]? = some (.int .i64 0) := by
  rw [Nat.add_comm, List.getElem?_cons_succ, List.getElem?_map, made_get g k k h, if_neg (by omega)]; rfl
theorem row_set (n : Int) (g : Nat → Int) (k : Nat) (h : k < 5) : (Value.int .i64 n :: (made g k).map (Value.int .i64)).set (1 + k) (.int .i64 (g k)) = Value.int .i64 n :: (made g (k + 1)).map (Value.int .i64) := by
  rw [Nat.add_comm, List.set_cons_succ, ← List.map_set, made_set g k h]
theorem own_new (w : World) (l : List Value) (t : TypeId) : Own (w.alloc (.cells ⟨l⟩ t)) w.heap.size t l := by
  unfold Own
  show (w.heap.push _)[w.heap.size]? = _
  simp
end Go.Proofs.YtlineonmpbdkgaaDoor.Graph
namespace Go.Proofs.YtlineonmpbdkgaaDoor.Graph
open Go Go.RowKit Go.Graph Go.Law
open Go.Proofs.YtlineonmpbdkgaaDoor.Col

set_option maxRecDepth 100000 in
set_option maxHeartbeats 1000000 in
theorem build83 (n : Nat) (h5 : n ≤ 5) (g : Nat → Int) (p q : Addr) (w : World)
    (hf : ∀ i : Nat, i < n → ∀ w', Below w.heap.size w w' → Calls Tryd.prog 77 #[.int .i64 i, .pointer (some p), .pointer (some q)] w' fun e w'' => e = .returned (.int .i64 (g i)) ∧ Below w'.heap.size w' w'') :
    Calls Tryd.prog 72 #[.int .i64 n, .func (.func 77) #[] #[.pointer (some p), .pointer (some q)]] w fun e w' => e = .returned (.agg ⟨(Value.int .i64 n) :: (made g n).map (Value.int .i64)⟩) ∧ Below w.heap.size w w' := by
  have HF := Lib.hid hf
  clear hf
  have HB := Lib.hid (below_alloc w)
  go_enter Tryd.func72, Tryd.ntmps72
  go_wp2
  have HR := Lib.hid ((own_new w [.int .i64 0, .int .i64 0, .int .i64 0, .int .i64 0, .int .i64 0, .int .i64 0] 24).alloc (.cells #[.int .i64 n, .int .i64 0, .int .i64 0, .int .i64 0, .int .i64 0, .int .i64 0] 24))
  have HG := Lib.hid (own_new (w.alloc (.cells #[.int .i64 0, .int .i64 0, .int .i64 0, .int .i64 0, .int .i64 0, .int .i64 0] 24)) [.int .i64 n, .int .i64 0, .int .i64 0, .int .i64 0, .int .i64 0, .int .i64 0] 24)
  rw [size_alloc] at HG
  have HW := Lib.hid ((HB.out (.cells #[.int .i64 0, .int .i64 0, .int .i64 0, .int .i64 0, .int .i64 0, .int .i64 0] 24)).alloc (by rw [size_alloc]; omega) (.cells #[.int .i64 n, .int .i64 0, .int .i64 0, .int .i64 0, .int .i64 0, .int .i64 0] 24))
  generalize World.alloc (World.alloc w _) _ = W2 at *
  go_loopw [10] (fun i wr => ∃ k : Nat, k ≤ n ∧ i = .int .i64 k ∧ Below w.heap.size w wr ∧ Own wr w.heap.size 24 [.int .i64 0, .int .i64 0, .int .i64 0, .int .i64 0, .int .i64 0, .int .i64 0] ∧ Own wr (w.heap.size + 1) 24 (.int .i64 n :: (made g k).map (Value.int .i64))) (fun i _ => n - (intOf i).toNat)
  case atStart => exact ⟨0, Nat.zero_le _, rfl, HW.out, HR.out, HG.out⟩
  case round =>
    obtain ⟨k, hk, rfl, hbl, hres, hrow⟩ := hrel
    have HBL := Lib.hid hbl
    have HRES := Lib.hid hres
    have HROW := Lib.hid hrow
    clear hbl hres hrow
    by_cases hlt : k < n
    · have hk5 : k < 5 := by omega
      have HC := Lib.hid (row_cell n g k hk5)
      have HS := Lib.hid (row_set n g k hk5)
      have HG2 := Lib.hid (HF.out k hlt)
      generalize g k = gk at *
      go_wp2_with (go_at_call 77; refine (HG2.out _ HBL.out).mono ?_; rintro e w3 ⟨rfl, hb3⟩; have HO := Lib.hid (HROW.out.below hb3 HROW.out.lt); have hcell := HO.out.cell HC.out; have hfr := HO.out.free (1 + k); have HR3 := Lib.hid (HRES.out.below hb3 HRES.out.lt); have HB3 := Lib.hid (HBL.out.trans (bel_lg hb3 HBL.out.size)); clear hb3)
      exact ⟨⟨k + 1, by omega, by go_num, HB3.out.setCell (Nat.le_succ _) _, HR3.out.set_far (Nat.succ_ne_self _) _, by rw [← HS.out]; exact HO.out.set (1 + k) _⟩, by simp [intOf]; omega⟩
    · have hk' : k = n := by omega
      subst hk'
      obtain ⟨a0, a1, a2, a3, a4, hm⟩ : ∃ a0 a1 a2 a3 a4, made g k = [a0, a1, a2, a3, a4] := ⟨_, _, _, _, _, rfl⟩
      have HM := Lib.hid hm
      rw [hm] at HROW
      clear hm
      have c0 := HROW.out.cell (j := 0) (v := .int .i64 k) rfl
      have c1 := HROW.out.cell (j := 1) (v := .int .i64 a0) rfl
      have c2 := HROW.out.cell (j := 2) (v := .int .i64 a1) rfl
      have c3 := HROW.out.cell (j := 3) (v := .int .i64 a2) rfl
      have c4 := HROW.out.cell (j := 4) (v := .int .i64 a3) rfl
      have c5 := HROW.out.cell (j := 5) (v := .int .i64 a4) rfl
      have d0 := HRES.out.cell (j := 0) (v := .int .i64 0) rfl
      have d1 := HRES.out.cell (j := 1) (v := .int .i64 0) rfl
      have d2 := HRES.out.cell (j := 2) (v := .int .i64 0) rfl
      have d3 := HRES.out.cell (j := 3) (v := .int .i64 0) rfl
      have d4 := HRES.out.cell (j := 4) (v := .int .i64 0) rfl
      have d5 := HRES.out.cell (j := 5) (v := .int .i64 0) rfl
      have z0 := HRES.out.free 0
      have z1 := HRES.out.free 1
      have z2 := HRES.out.free 2
      have z3 := HRES.out.free 3
      have z4 := HRES.out.free 4
      have z5 := HRES.out.free 5
      go_wp2
      (try simp only [Exit.inBlock, Exit.then])
      refine bodyPost_ret (v := .agg #[.int .i64 k, .int .i64 a0, .int .i64 a1, .int .i64 a2, .int .i64 a3, .int .i64 a4]) (by simp [results, Tryd.results72, go_sem, d0, d1, d2, d3, d4, d5]) rfl ⟨by rw [HM.out]; rfl, ((((((HBL.out.setCell (Nat.le_refl _) _).setCell (Nat.le_refl _) _).setCell (Nat.le_refl _) _).setCell (Nat.le_refl _) _).setCell (Nat.le_refl _) _).setCell (Nat.le_refl _) _)⟩
theorem build83' (n : Nat) (h5 : n ≤ 5) (g : Nat → Int) (a0 a1 a2 a3 a4 : Int) (hm : made g n = [a0, a1, a2, a3, a4]) (p q : Addr) (w : World)
    (hf : ∀ i : Nat, i < n → ∀ w', Below w.heap.size w w' → Calls Tryd.prog 77 #[.int .i64 i, .pointer (some p), .pointer (some q)] w' fun e w'' => e = .returned (.int .i64 (g i)) ∧ Below w'.heap.size w' w'') :
    Calls Tryd.prog 72 #[.int .i64 n, .func (.func 77) #[] #[.pointer (some p), .pointer (some q)]] w fun e w' => e = .returned (.agg #[.int .i64 n, .int .i64 a0, .int .i64 a1, .int .i64 a2, .int .i64 a3, .int .i64 a4]) ∧ Below w.heap.size w w' := by
  have := build83 n h5 g p q w hf
  rw [hm] at this
  exact this
end Go.Proofs.YtlineonmpbdkgaaDoor.Graph
namespace Go.Proofs.YtlineonmpbdkgaaDoor.Graph
open Go Go.RowKit Go.Graph Go.Law
open Go.Proofs.YtlineonmpbdkgaaDoor.Col

/-- The error of two graphs, whose own errors are ca and cb. -/
def bothV (ca cb n m : Int) : Int := if ca = 0 then if cb = 0 then if n = m then 0 else 22 else cb else ca
set_option maxRecDepth 100000 in
set_option maxHeartbeats 1000000 in
theorem both60 (n r0 r1 r2 r3 r4 m s0 s1 s2 s3 s4 ca cb : Int) (ha : ∀ w : World, Calls Tryd.prog 34 #[.agg #[.int .i64 n, .int .i64 r0, .int .i64 r1, .int .i64 r2, .int .i64 r3, .int .i64 r4]] w fun e w' => e = .returned (.int .i64 ca) ∧ Below w.heap.size w w')
    (hb : ∀ w : World, Calls Tryd.prog 34 #[.agg #[.int .i64 m, .int .i64 s0, .int .i64 s1, .int .i64 s2, .int .i64 s3, .int .i64 s4]] w fun e w' => e = .returned (.int .i64 cb) ∧ Below w.heap.size w w') (w : World) :
    Calls Tryd.prog 56 #[.agg #[.int .i64 n, .int .i64 r0, .int .i64 r1, .int .i64 r2, .int .i64 r3, .int .i64 r4], .agg #[.int .i64 m, .int .i64 s0, .int .i64 s1, .int .i64 s2, .int .i64 s3, .int .i64 s4]] w fun e w' => e = .returned (.int .i64 (bothV ca cb n m)) ∧ Below w.heap.size w w' := by
  have HA := Lib.hid ha
  have HB := Lib.hid hb
  clear ha hb
  have T0 := Lib.hid ((below_alloc w (.cells #[.int .i64 n, .int .i64 r0, .int .i64 r1, .int .i64 r2, .int .i64 r3, .int .i64 r4] 24)).alloc (by rw [size_alloc]; omega) (.cells #[.int .i64 m, .int .i64 s0, .int .i64 s1, .int .i64 s2, .int .i64 s3, .int .i64 s4] 24))
  have RA := Lib.hid (row_alloc (row_new w n r0 r1 r2 r3 r4) (.cells #[.int .i64 m, .int .i64 s0, .int .i64 s1, .int .i64 s2, .int .i64 s3, .int .i64 s4] 24))
  have RB := Lib.hid (row_new (w.alloc (.cells #[.int .i64 n, .int .i64 r0, .int .i64 r1, .int .i64 r2, .int .i64 r3, .int .i64 r4] 24)) m s0 s1 s2 s3 s4)
  rw [size_alloc] at RB
  unfold bothV
  by_cases h1 : ca = 0
  · rw [if_pos h1]
    have e1 : (ca != 0) = false := by simpa using h1
    clear h1
    by_cases h2 : cb = 0
    · rw [if_pos h2]
      have e2 : (cb != 0) = false := by simpa using h2
      clear h2
      by_cases h3 : n = m
      · rw [if_pos h3]
        have e3 : (n != m) = false := by simpa using h3
        clear h3
        go_enter Tryd.func56, Tryd.ntmps56
        go_wp2_with first
          | (go_at_call_of 34 m; refine (HB.out _).mono ?_; rintro e w2 ⟨rfl, hb2⟩; have t2 := Lib.hid (t1.out.trans (bel_lg hb2 t1.out.size)); obtain ⟨p0, p1, p2, p3, p4, p5⟩ := row_below RA1.out hb2; obtain ⟨o0, o1, o2, o3, o4, o5⟩ := row_below RB1.out hb2; clear hb2)
          | (go_at_call_of 34 n; refine (HA.out _).mono ?_; rintro e w1 ⟨rfl, hb1⟩; have t1 := Lib.hid (T0.out.trans (bel_lg hb1 T0.out.size)); have RA1 := Lib.hid (row_below RA.out hb1); have RB1 := Lib.hid (row_below RB.out hb1); obtain ⟨q0, q1, q2, q3, q4, q5⟩ := RB1.out; clear hb1)
        go_ret
        exact ⟨rfl, t2.out⟩
      · rw [if_neg h3]
        have e3 : (n != m) = true := by simpa using h3
        clear h3
        go_enter Tryd.func56, Tryd.ntmps56
        go_wp2_with first
          | (go_at_call_of 34 m; refine (HB.out _).mono ?_; rintro e w2 ⟨rfl, hb2⟩; have t2 := Lib.hid (t1.out.trans (bel_lg hb2 t1.out.size)); obtain ⟨p0, p1, p2, p3, p4, p5⟩ := row_below RA1.out hb2; obtain ⟨o0, o1, o2, o3, o4, o5⟩ := row_below RB1.out hb2; clear hb2)
          | (go_at_call_of 34 n; refine (HA.out _).mono ?_; rintro e w1 ⟨rfl, hb1⟩; have t1 := Lib.hid (T0.out.trans (bel_lg hb1 T0.out.size)); have RA1 := Lib.hid (row_below RA.out hb1); have RB1 := Lib.hid (row_below RB.out hb1); obtain ⟨q0, q1, q2, q3, q4, q5⟩ := RB1.out; clear hb1)
        go_ret
        exact ⟨rfl, t2.out⟩
    · rw [if_neg h2]
      have e2 : (cb != 0) = true := by simpa using h2
      clear h2
      go_enter Tryd.func56, Tryd.ntmps56
      go_wp2_with first
        | (go_at_call_of 34 m; refine (HB.out _).mono ?_; rintro e w2 ⟨rfl, hb2⟩; have t2 := Lib.hid (t1.out.trans (bel_lg hb2 t1.out.size)); clear hb2)
        | (go_at_call_of 34 n; refine (HA.out _).mono ?_; rintro e w1 ⟨rfl, hb1⟩; have t1 := Lib.hid (T0.out.trans (bel_lg hb1 T0.out.size)); have RB1 := Lib.hid (row_below RB.out hb1); obtain ⟨q0, q1, q2, q3, q4, q5⟩ := RB1.out; clear hb1)
      go_ret
      exact ⟨rfl, t2.out⟩
  · rw [if_neg h1]
    have e1 : (ca != 0) = true := by simpa using h1
    clear h1
    go_enter Tryd.func56, Tryd.ntmps56
    go_wp2_with (go_at_call_of 34 n; refine (HA.out _).mono ?_; rintro e w1 ⟨rfl, hb1⟩; have t1 := Lib.hid (T0.out.trans (bel_lg hb1 T0.out.size)); clear hb1)
    go_ret
    exact ⟨rfl, t1.out⟩
end Go.Proofs.YtlineonmpbdkgaaDoor.Graph
namespace Go.Proofs.YtlineonmpbdkgaaDoor.Graph
open Go Go.RowKit Go.Graph Go.Law
open Go.Proofs.YtlineonmpbdkgaaDoor.Col

theorem checks' (n r0 r1 r2 r3 r4 : Int) : ∃ c : Int, (c = 0 → 1 ≤ n ∧ n ≤ 5) ∧ (∀ w : World, Calls Tryd.prog 34 #[.agg #[.int .i64 n, .int .i64 r0, .int .i64 r1, .int .i64 r2, .int .i64 r3, .int .i64 r4]] w fun e w' => e = .returned (.int .i64 c) ∧ Below w.heap.size w w') ∧ (∀ w : World, Calls Tryd.prog 36 #[.agg #[.int .i64 n, .int .i64 r0, .int .i64 r1, .int .i64 r2, .int .i64 r3, .int .i64 r4]] w fun e w' => e = .returned (.int .i64 c) ∧ Below w.heap.size w w') ∧ (1 ≤ n → n ≤ 5 → c = rows n.toNat 0 [r0, r1, r2, r3, r4]) := by
  by_cases h : n < 1 ∨ 5 < n
  · exact ⟨2, fun e => by omega, check_bad n h r0 r1 r2 r3 r4, rcheck_bad n h r0 r1 r2 r3 r4, fun h1 h2 => by omega⟩
  · obtain ⟨k, rfl⟩ := Int.eq_ofNat_of_zero_le (show 0 ≤ n by omega)
    exact ⟨_, fun _ => by omega, check_any k (by omega) (by omega) r0 r1 r2 r3 r4, rcheck_any k (by omega) (by omega) r0 r1 r2 r3 r4, fun _ _ => by rw [Int.toNat_natCast]⟩
theorem row_at6 {w : World} {B : Nat} {n r0 r1 r2 r3 r4 : Int} (h : Row6 w B n r0 r1 r2 r3 r4) : ∀ p : Nat, p < 5 → w.cell? ⟨B, 1 + p, none⟩ = some (.int .i64 ([r0, r1, r2, r3, r4].getD p 0))
  | 0, _ => h.2.1
  | 1, _ => h.2.2.1
  | 2, _ => h.2.2.2.1
  | 3, _ => h.2.2.2.2.1
  | 4, _ => h.2.2.2.2.2
end Go.Proofs.YtlineonmpbdkgaaDoor.Graph
