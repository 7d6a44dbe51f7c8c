/-
  The inverse of a permutation: the program's; renamed graphs by any list.
-/
import Derived.Test.YtgkgdobmiejdhaaEvTGAny
import Derived.Test.YtgkgdobmiejdhaaEvGRenPlain
import Derived.Test.YtgkgdobmiejdhaaEvTGPermRef
import Derived.Test.YtgkgdobmiejdhaaEvTGRoots
import Derived.Test.YtgkgdobmiejdhaaEvGInvPlain
import Derived.Laws.MakeOwn
namespace Go.Proofs.Ytgkgdobmiejdhaa.Graph
open Go Go.RowKit Go.Graph Go.Law
open Go.Proofs.Ytgkgdobmiejdhaa.Col

open Go.Proofs.Ytgkgdobmiejdhaa.Perm (Quiet check_ints rcheck_ints)
theorem rowsL_cell (n : Int) (f : Nat → Nat) (i : Nat) (h : i < 5) : (Value.int .i64 n :: (rowsL f).map (Value.int .i64))[1 + i]? = some (.int .i64 (f i)) := by
  rw [Nat.add_comm, List.getElem?_cons_succ, List.getElem?_map, rowsL_get f i h]; rfl
theorem rowsL_put (n : Int) (f : Nat → Nat) (i v : Nat) : (Value.int .i64 n :: (rowsL f).map (Value.int .i64)).set (1 + i) (.int .i64 (v : Int)) = Value.int .i64 n :: (rowsL (upd f i v)).map (Value.int .i64) := by
  rw [Nat.add_comm, List.set_cons_succ, ← List.map_set, rowsL_set]
theorem rowsL_five (f : Nat → Nat) : rowsL f = [(f 0 : Int), (f 1 : Int), (f 2 : Int), (f 3 : Int), (f 4 : Int)] := rfl
/-- What a permutation of processes does. -/
def idx (zs : List Int) (i : Nat) : Nat := (zs.getD i 0).toNat
theorem idx_lt {zs : List Int} (h : Go.Perm.check zs = 0) (i : Nat) (hi : i < zs.length) : idx zs i < zs.length ∧ zs.getD i 0 = (idx zs i : Nat) := by
  obtain ⟨_, _, h3, _⟩ := Go.Perm.check_ok h
  have := h3 _ (Go.Perm.getD_mem hi)
  unfold idx
  omega
theorem acc_lt32 {n : Nat} {r π : Nat → Nat} (hπ : ∀ i, i < n → π i < n) (h5 : n ≤ 5) (p : Nat) (hp : p < n) (m : Nat) (hm : m ≤ n) (i : Nat) : accIn r π p (accTo n r π p) m i < 32 :=
  Nat.lt_of_lt_of_le ((accIn_lt (r := r) hπ hp (accTo_lt hπ p (by omega)).1 (accTo_lt hπ p (by omega)).2 m hm).1 i) (pow_le32 h5)
theorem or_pow (y q : Nat) (hy : y < 32) (hq : q < 5) : bits BinOp.or IntKind.i64 (y : Int) (wrap64 (2 ^ q)) = ((y ||| 2 ^ q : Nat) : Int) := by
  rw [wrap_pow q hq, or_nat _ _ hy (Nat.lt_of_lt_of_le (Nat.pow_lt_pow_right (by omega) hq) (by decide))]
end Go.Proofs.Ytgkgdobmiejdhaa.Graph
namespace Go.Proofs.Ytgkgdobmiejdhaa.Graph
open Go Go.RowKit Go.Graph Go.Law
open Go.Proofs.Ytgkgdobmiejdhaa.Col

open Go.Proofs.Ytgkgdobmiejdhaa.Perm (Quiet check_ints rcheck_ints)
set_option maxRecDepth 100000 in
set_option maxHeartbeats 4000000 in
theorem permute_wf {n : Nat} {a : Nat → Nat} (ha : WF n a) (b off cap : Nat) (zs : List Int) (hz : zs.length = n) (hok : Go.Perm.check zs = 0) (hcap : n ≤ cap) (w : World) (hb : b < w.heap.size) (hc : At w b off zs)
    (hck : ∀ w : World, At w b off zs → Calls Try.prog 29 #[.slice (some ⟨b, off, none⟩) n cap] w fun e w' => e = .returned (.int .i64 0) ∧ w = w') :
    Calls Try.prog 12 #[.agg #[.int .i64 n, .int .i64 (a 0), .int .i64 (a 1), .int .i64 (a 2), .int .i64 (a 3), .int .i64 (a 4)], .slice (some ⟨b, off, none⟩) n cap] w fun e w' => e = .returned (pairV n (ren n a (idx zs) 0 : Nat) (ren n a (idx zs) 1 : Nat) (ren n a (idx zs) 2 : Nat) (ren n a (idx zs) 3 : Nat) (ren n a (idx zs) 4 : Nat) 0) ∧ Below w.heap.size w w' := by
  unfold ren
  have h5 := ha.top
  have hpre := ha.pos
  have LA := Lib.hid ha.lt32
  have HL := Lib.hid hz
  have HI := Lib.hid (fun i (hi : i < n) => (by have := idx_lt hok i (by omega); rw [hz] at this; exact this : idx zs i < n ∧ zs.getD i 0 = (idx zs i : Nat)))
  have hlow : ∀ i, i < n → idx zs i < n := fun i hi => (HI.out i hi).1
  have HACC := Lib.hid (acc_lt32 (r := a) hlow h5)
  clear hlow
  have HZ := Lib.hid ((hc.below (below_alloc w (.cells #[.int .i64 n, .int .i64 (a 0), .int .i64 (a 1), .int .i64 (a 2), .int .i64 (a 3), .int .i64 (a 4)] 24)) hb).below ((Below.refl _ _).alloc (Nat.le_refl _) (.cells #[.int .i64 0, .int .i64 0, .int .i64 0, .int .i64 0, .int .i64 0, .int .i64 0] 24)) (by rw [size_alloc]; omega))
  have HB := Lib.hid (check_wf ha)
  have HC := Lib.hid hck
  clear ha hc hck
  have T0 := Lib.hid ((below_alloc w (.cells #[.int .i64 n, .int .i64 (a 0), .int .i64 (a 1), .int .i64 (a 2), .int .i64 (a 3), .int .i64 (a 4)] 24)).alloc (by rw [size_alloc]; omega) (.cells #[.int .i64 0, .int .i64 0, .int .i64 0, .int .i64 0, .int .i64 0, .int .i64 0] 24))
  have RA := Lib.hid (row_alloc (row_new w n (a 0) (a 1) (a 2) (a 3) (a 4)) (.cells #[.int .i64 0, .int .i64 0, .int .i64 0, .int .i64 0, .int .i64 0, .int .i64 0] 24))
  have RO := Lib.hid (own_new (w.alloc (.cells #[.int .i64 n, .int .i64 (a 0), .int .i64 (a 1), .int .i64 (a 2), .int .i64 (a 3), .int .i64 (a 4)] 24)) [.int .i64 0, .int .i64 0, .int .i64 0, .int .i64 0, .int .i64 0, .int .i64 0] 24)
  rw [size_alloc] at RO
  have hsl := arr_slice w.heap.size 1 n h5
  go_enter Try.func12, Try.ntmps12
  go_wp2_with first
    | (go_at_call 29; refine (HC.out _ HZa.out).mono ?_; rintro e w2 ⟨rfl, rfl⟩)
    | (go_at_call 28; refine (HB.out _).mono ?_; rintro e w1 ⟨rfl, hb1⟩; have t1 := Lib.hid (T0.out.trans (bel_le hb1 T0.out.size)); have s1 : w.heap.size + 1 < w1.heap.size := (by have := hb1.size; rw [size_alloc, size_alloc] at this; omega); have HZa := Lib.hid (HZ.out.below hb1 (by rw [size_alloc, size_alloc]; omega)); have RA1 := Lib.hid (row_alloc (row_below RA.out hb1) (.cells #[.int .i64 n, .int .i64 0, .int .i64 0, .int .i64 0, .int .i64 0, .int .i64 0] 24)); have RO1 := Lib.hid ((RO.out.below hb1 RO.out.lt).alloc (.cells #[.int .i64 n, .int .i64 0, .int .i64 0, .int .i64 0, .int .i64 0, .int .i64 0] 24)); have hn1 := (row_below RA.out hb1).1; have hn2 := RA1.out.1; have RG := Lib.hid (own_new w1 [.int .i64 n, .int .i64 0, .int .i64 0, .int .i64 0, .int .i64 0, .int .i64 0] 24); clear hb1)
  have HZ1 := Lib.hid (HZa.out.below ((Below.refl _ _).alloc (Nat.le_refl _) (.cells #[.int .i64 n, .int .i64 0, .int .i64 0, .int .i64 0, .int .i64 0, .int .i64 0] 24)) (by omega))
  have T1 := Lib.hid (t1.out.alloc t1.out.size (.cells #[.int .i64 n, .int .i64 0, .int .i64 0, .int .i64 0, .int .i64 0, .int .i64 0] 24))
  have g0 : w.heap.size < w1.heap.size := by omega
  have g2 : b < w1.heap.size := by omega
  have g3 : w.heap.size ≤ w1.heap.size := by omega
  clear t1 hn1 hn2 HZa
  have hn0 := RA1.out.1
  generalize World.alloc w1 _ = W4 at *
  generalize hG : w1.heap.size = G at *
  clear hG
  go_loopw [38] (fun i wr => ∃ p : Nat, p ≤ n ∧ i = .int .i64 p ∧ Below G W4 wr ∧ Own wr G 24 (.int .i64 n :: (rowsL (accTo n a (idx zs) p)).map (Value.int .i64))) (fun i _ => n - (intOf i).toNat)
  case atStart => exact ⟨0, Nat.zero_le _, rfl, Below.refl _ _, RG.out⟩
  case round =>
    obtain ⟨p, hp, rfl, hbl, hown⟩ := hrel
    have HBL := Lib.hid hbl
    have HOWN := Lib.hid hown
    clear hbl hown hn0
    have hna := (row_bel RA1.out HBL.out (by omega)).1
    by_cases hlt : p < n
    · obtain ⟨hpp, hpv⟩ := HI.out p hlt
      have HPV := Lib.hid hpv
      clear hpv
      have hca0 := row_wf (row_bel RA1.out HBL.out (by omega)) p (by omega)
      go_wp2
      go_loopw [45] (fun j wr => ∃ m : Nat, m ≤ n ∧ j = .int .i64 m ∧ Below G W4 wr ∧ Own wr G 24 (.int .i64 n :: (rowsL (accIn a (idx zs) p (accTo n a (idx zs) p) m)).map (Value.int .i64))) (fun j _ => n - (intOf j).toNat)
      case atStart => exact ⟨0, Nat.zero_le _, rfl, HBL.out, HOWN.out⟩
      case round =>
        obtain ⟨m, hm, rfl, hbl, hown⟩ := hrel
        have HBL := Lib.hid hbl
        have HOWN := Lib.hid hown
        clear hbl hown hna
        have hna := (row_bel RA1.out HBL.out (by omega)).1
        by_cases hlt2 : m < n
        · obtain ⟨hmm, hmv⟩ := HI.out m hlt2
          have HMV := Lib.hid hmv
          clear hmv
          have hcp : wr.cell? ⟨b, off + p, none⟩ = some (.int .i64 (idx zs p : Nat)) := by rw [← HPV.out]; exact (HZ1.out.below HBL.out (by omega)) p (by have := HL.out; omega)
          have hcq : wr.cell? ⟨b, off + m, none⟩ = some (.int .i64 (idx zs m : Nat)) := by rw [← HMV.out]; exact (HZ1.out.below HBL.out (by omega)) m (by have := HL.out; omega)
          have hcg := HOWN.out.cell (rowsL_cell n (accIn a (idx zs) p (accTo n a (idx zs) p) m) (idx zs p) (by omega))
          have hfr := HOWN.out.free (1 + idx zs p)
          have hx := (HACC.out p hlt m hm) (idx zs p)
          have hca := row_wf (row_bel RA1.out HBL.out (by omega)) p (by omega)
          have hl := LA.out p
          have HU := Lib.hid (show accIn a (idx zs) p (accTo n a (idx zs) p) (m + 1) = if a p / 2 ^ m % 2 = 1 then upd (accIn a (idx zs) p (accTo n a (idx zs) p) m) (idx zs p) (accIn a (idx zs) p (accTo n a (idx zs) p) m (idx zs p) ||| 2 ^ idx zs m) else accIn a (idx zs) p (accTo n a (idx zs) p) m from rfl)
          have HOR := Lib.hid (or_pow _ (idx zs m) hx (by omega))
          have HP := Lib.hid (fun v => rowsL_put n (accIn a (idx zs) p (accTo n a (idx zs) p) m) (idx zs p) v)
          generalize accIn a (idx zs) p (accTo n a (idx zs) p) m (idx zs p) = x at *
          have i0 : (0 : Int) ≤ (idx zs p : Nat) := Int.natCast_nonneg _
          have i1 : ((idx zs p : Nat) : Int) < 5 := by omega
          have i2 : (0 : Int) ≤ (idx zs m : Nat) := Int.natCast_nonneg _
          have i3 : ((idx zs m : Nat) : Int) < 5 := by omega
          have i4 : (p : Int) < n := by omega
          have i5 : (m : Int) < n := by omega
          generalize idx zs p = ip at *
          generalize idx zs m = iq at *
          by_cases hbit : a p / 2 ^ m % 2 = 1
          · have HBIT := Lib.hid hbit
            have HX := bit_yes (a p) m hl (by omega) hbit
            clear hbit
            go_wp2
            go_region
            go_wp2
            exact ⟨⟨m + 1, by omega, by go_num, (HBL.out.setCell (Nat.le_refl _) _).drew, by rw [HU.out, if_pos HBIT.out, ← HP.out, ← HOR.out]; exact (HOWN.out.set (1 + ip) _).drew⟩, by simp [intOf]; omega⟩
          · have HBIT := Lib.hid hbit
            have HX := bit_no (a p) m hl (by omega) hbit
            clear hbit
            go_wp2
            exact ⟨⟨m + 1, by omega, by go_num, HBL.out, by rw [HU.out, if_neg HBIT.out]; exact HOWN.out⟩, by simp [intOf]; omega⟩
        · have hk' : m = n := by omega
          subst hk'
          go_wp2
          exact ⟨⟨p + 1, by omega, by go_num, HBL.out, HOWN.out⟩, by simp [intOf]; omega⟩
    · have hk' : p = n := by omega
      subst hk'
      rw [rowsL_five] at HOWN
      have c0 := HOWN.out.cell (j := 0) (v := .int .i64 p) rfl
      have c1 := HOWN.out.cell (j := 1) (v := .int .i64 (accTo p a (idx zs) p 0 : Nat)) rfl
      have c2 := HOWN.out.cell (j := 2) (v := .int .i64 (accTo p a (idx zs) p 1 : Nat)) rfl
      have c3 := HOWN.out.cell (j := 3) (v := .int .i64 (accTo p a (idx zs) p 2 : Nat)) rfl
      have c4 := HOWN.out.cell (j := 4) (v := .int .i64 (accTo p a (idx zs) p 3 : Nat)) rfl
      have c5 := HOWN.out.cell (j := 5) (v := .int .i64 (accTo p a (idx zs) p 4 : Nat)) rfl
      have HRES := Lib.hid (RO1.out.below HBL.out (by omega))
      have d0 := HRES.out.cell (j := 0) (v := .int .i64 0) rfl
      have d1 := HRES.out.cell (j := 1) (v := .int .i64 0) rfl
      have d2 := HRES.out.cell (j := 2) (v := .int .i64 0) rfl
      have d3 := HRES.out.cell (j := 3) (v := .int .i64 0) rfl
      have d4 := HRES.out.cell (j := 4) (v := .int .i64 0) rfl
      have d5 := HRES.out.cell (j := 5) (v := .int .i64 0) rfl
      have z0 := HRES.out.free 0
      have z1 := HRES.out.free 1
      have z2 := HRES.out.free 2
      have z3 := HRES.out.free 3
      have z4 := HRES.out.free 4
      have z5 := HRES.out.free 5
      go_wp2
      (try simp only [Exit.inBlock, Exit.then])
      refine bodyPost_ret (v := pairV p (accTo p a (idx zs) p 0 : Nat) (accTo p a (idx zs) p 1 : Nat) (accTo p a (idx zs) p 2 : Nat) (accTo p a (idx zs) p 3 : Nat) (accTo p a (idx zs) p 4 : Nat) 0) (by simp [results, Try.results12, go_sem, pairV, d0, d1, d2, d3, d4, d5]) rfl ⟨rfl, below_set6 (T1.out.trans (bel_le HBL.out g3)) (by show w.heap.size ≤ w.heap.size + 1; omega) _ _ _ _ _ _⟩
end Go.Proofs.Ytgkgdobmiejdhaa.Graph
namespace Go.Proofs.Ytgkgdobmiejdhaa.Graph
open Go Go.RowKit Go.Graph Go.Law
open Go.Proofs.Ytgkgdobmiejdhaa.Col

open Go.Proofs.Ytgkgdobmiejdhaa.Perm (Quiet check_ints rcheck_ints)
set_option maxRecDepth 100000 in
set_option maxHeartbeats 1000000 in
theorem perm27_first (n r0 r1 r2 r3 r4 c : Int) (v : Value) (hc : c ≠ 0) (hb : ∀ w : World, Calls Try.prog 28 #[.agg #[.int .i64 n, .int .i64 r0, .int .i64 r1, .int .i64 r2, .int .i64 r3, .int .i64 r4]] w fun e w' => e = .returned (.int .i64 c) ∧ Below w.heap.size w w') (w : World) :
    Calls Try.prog 12 #[.agg #[.int .i64 n, .int .i64 r0, .int .i64 r1, .int .i64 r2, .int .i64 r3, .int .i64 r4], v] w fun e w' => e = .returned (pairV 0 0 0 0 0 0 c) ∧ Below w.heap.size w w' := by
  have e1 : (c != 0) = true := by simpa using hc
  clear hc
  have HB := Lib.hid hb
  clear hb
  have T0 := Lib.hid ((below_alloc w (.cells #[.int .i64 n, .int .i64 r0, .int .i64 r1, .int .i64 r2, .int .i64 r3, .int .i64 r4] 24)).alloc (by rw [size_alloc]; omega) (.cells #[.int .i64 0, .int .i64 0, .int .i64 0, .int .i64 0, .int .i64 0, .int .i64 0] 24))
  have RA := Lib.hid (row_alloc (row_new w n r0 r1 r2 r3 r4) (.cells #[.int .i64 0, .int .i64 0, .int .i64 0, .int .i64 0, .int .i64 0, .int .i64 0] 24))
  have RO := Lib.hid (own_new (w.alloc (.cells #[.int .i64 n, .int .i64 r0, .int .i64 r1, .int .i64 r2, .int .i64 r3, .int .i64 r4] 24)) [.int .i64 0, .int .i64 0, .int .i64 0, .int .i64 0, .int .i64 0, .int .i64 0] 24)
  rw [size_alloc] at RO
  go_enter Try.func12, Try.ntmps12
  go_wp2_with (go_at_call 28; refine (HB.out _).mono ?_; rintro e w1 ⟨rfl, hb1⟩; have t1 := Lib.hid (T0.out.trans (bel_le hb1 T0.out.size)); have O := Lib.hid (RO.out.below hb1 RO.out.lt); clear hb1; have d0 := O.out.cell (j := 0) (v := .int .i64 0) rfl; have d1 := O.out.cell (j := 1) (v := .int .i64 0) rfl; have d2 := O.out.cell (j := 2) (v := .int .i64 0) rfl; have d3 := O.out.cell (j := 3) (v := .int .i64 0) rfl; have d4 := O.out.cell (j := 4) (v := .int .i64 0) rfl; have d5 := O.out.cell (j := 5) (v := .int .i64 0) rfl; have z0 := O.out.free 0; have z1 := O.out.free 1; have z2 := O.out.free 2; have z3 := O.out.free 3; have z4 := O.out.free 4; have z5 := O.out.free 5)
  (try simp only [Exit.inBlock, Exit.then])
  refine bodyPost_ret (v := pairV 0 0 0 0 0 0 c) (by simp [results, Try.results12, go_sem, pairV, d0, d1, d2, d3, d4, d5]) rfl ⟨rfl, below_set6 t1.out (by show w.heap.size ≤ w.heap.size + 1; omega) _ _ _ _ _ _⟩
set_option maxRecDepth 100000 in
set_option maxHeartbeats 1000000 in
theorem perm27_second {n : Nat} {a : Nat → Nat} (ha : WF n a) (c : Int) (v : Value) (zs : List Int) (hc : c ≠ 0) (hk : ∀ w : World, IntsAt w .i64 v zs → Calls Try.prog 29 #[v] w fun e w' => e = .returned (.int .i64 c) ∧ w = w') (w : World) (hi : IntsAt w .i64 v zs) :
    Calls Try.prog 12 #[.agg #[.int .i64 n, .int .i64 (a 0), .int .i64 (a 1), .int .i64 (a 2), .int .i64 (a 3), .int .i64 (a 4)], v] w fun e w' => e = .returned (pairV 0 0 0 0 0 0 c) ∧ Below w.heap.size w w' := by
  have e1 : (c != 0) = true := by simpa using hc
  clear hc
  have HB := Lib.hid (check_wf ha)
  have HK := Lib.hid hk
  clear hk ha
  have T0 := Lib.hid ((below_alloc w (.cells #[.int .i64 n, .int .i64 (a 0), .int .i64 (a 1), .int .i64 (a 2), .int .i64 (a 3), .int .i64 (a 4)] 24)).alloc (by rw [size_alloc]; omega) (.cells #[.int .i64 0, .int .i64 0, .int .i64 0, .int .i64 0, .int .i64 0, .int .i64 0] 24))
  have RA := Lib.hid (row_alloc (row_new w n (a 0) (a 1) (a 2) (a 3) (a 4)) (.cells #[.int .i64 0, .int .i64 0, .int .i64 0, .int .i64 0, .int .i64 0, .int .i64 0] 24))
  have RO := Lib.hid (own_new (w.alloc (.cells #[.int .i64 n, .int .i64 (a 0), .int .i64 (a 1), .int .i64 (a 2), .int .i64 (a 3), .int .i64 (a 4)] 24)) [.int .i64 0, .int .i64 0, .int .i64 0, .int .i64 0, .int .i64 0, .int .i64 0] 24)
  rw [size_alloc] at RO
  have HI := Lib.hid (hi.below T0.out)
  clear hi
  go_enter Try.func12, Try.ntmps12
  go_wp2_with first
    | (go_at_call 29; refine (HK.out _ HI1.out).mono ?_; rintro e w2 ⟨rfl, rfl⟩)
    | (go_at_call 28; refine (HB.out _).mono ?_; rintro e w1 ⟨rfl, hb1⟩; have t1 := Lib.hid (T0.out.trans (bel_le hb1 T0.out.size)); have O := Lib.hid (RO.out.below hb1 RO.out.lt); have HI1 := Lib.hid (HI.out.below hb1); clear hb1; have d0 := O.out.cell (j := 0) (v := .int .i64 0) rfl; have d1 := O.out.cell (j := 1) (v := .int .i64 0) rfl; have d2 := O.out.cell (j := 2) (v := .int .i64 0) rfl; have d3 := O.out.cell (j := 3) (v := .int .i64 0) rfl; have d4 := O.out.cell (j := 4) (v := .int .i64 0) rfl; have d5 := O.out.cell (j := 5) (v := .int .i64 0) rfl; have z0 := O.out.free 0; have z1 := O.out.free 1; have z2 := O.out.free 2; have z3 := O.out.free 3; have z4 := O.out.free 4; have z5 := O.out.free 5)
  (try simp only [Exit.inBlock, Exit.then])
  refine bodyPost_ret (v := pairV 0 0 0 0 0 0 c) (by simp [results, Try.results12, go_sem, pairV, d0, d1, d2, d3, d4, d5]) rfl ⟨rfl, below_set6 t1.out (by show w.heap.size ≤ w.heap.size + 1; omega) _ _ _ _ _ _⟩
set_option maxRecDepth 100000 in
set_option maxHeartbeats 1000000 in
theorem perm27_third {n : Nat} {a : Nat → Nat} (ha : WF n a) (p : Option Addr) (len cap : Nat) (zs : List Int) (hne : len ≠ n) (hk : ∀ w : World, IntsAt w .i64 (.slice p len cap) zs → Calls Try.prog 29 #[.slice p len cap] w fun e w' => e = .returned (.int .i64 0) ∧ w = w') (w : World) (hi : IntsAt w .i64 (.slice p len cap) zs) :
    Calls Try.prog 12 #[.agg #[.int .i64 n, .int .i64 (a 0), .int .i64 (a 1), .int .i64 (a 2), .int .i64 (a 3), .int .i64 (a 4)], .slice p len cap] w fun e w' => e = .returned (pairV 0 0 0 0 0 0 22) ∧ Below w.heap.size w w' := by
  have e1 : ((len : Int) != (n : Int)) = true := bne_iff_ne.2 (by omega)
  clear hne
  have HB := Lib.hid (check_wf ha)
  have HK := Lib.hid hk
  clear hk ha
  have T0 := Lib.hid ((below_alloc w (.cells #[.int .i64 n, .int .i64 (a 0), .int .i64 (a 1), .int .i64 (a 2), .int .i64 (a 3), .int .i64 (a 4)] 24)).alloc (by rw [size_alloc]; omega) (.cells #[.int .i64 0, .int .i64 0, .int .i64 0, .int .i64 0, .int .i64 0, .int .i64 0] 24))
  have RA := Lib.hid (row_alloc (row_new w n (a 0) (a 1) (a 2) (a 3) (a 4)) (.cells #[.int .i64 0, .int .i64 0, .int .i64 0, .int .i64 0, .int .i64 0, .int .i64 0] 24))
  have RO := Lib.hid (own_new (w.alloc (.cells #[.int .i64 n, .int .i64 (a 0), .int .i64 (a 1), .int .i64 (a 2), .int .i64 (a 3), .int .i64 (a 4)] 24)) [.int .i64 0, .int .i64 0, .int .i64 0, .int .i64 0, .int .i64 0, .int .i64 0] 24)
  rw [size_alloc] at RO
  have HI := Lib.hid (hi.below T0.out)
  clear hi
  go_enter Try.func12, Try.ntmps12
  go_wp2_with first
    | (go_at_call 29; refine (HK.out _ HI1.out).mono ?_; rintro e w2 ⟨rfl, rfl⟩)
    | (go_at_call 28; refine (HB.out _).mono ?_; rintro e w1 ⟨rfl, hb1⟩; have t1 := Lib.hid (T0.out.trans (bel_le hb1 T0.out.size)); have O := Lib.hid (RO.out.below hb1 RO.out.lt); have HI1 := Lib.hid (HI.out.below hb1); have hn1 := (row_below RA.out hb1).1; clear hb1; have d0 := O.out.cell (j := 0) (v := .int .i64 0) rfl; have d1 := O.out.cell (j := 1) (v := .int .i64 0) rfl; have d2 := O.out.cell (j := 2) (v := .int .i64 0) rfl; have d3 := O.out.cell (j := 3) (v := .int .i64 0) rfl; have d4 := O.out.cell (j := 4) (v := .int .i64 0) rfl; have d5 := O.out.cell (j := 5) (v := .int .i64 0) rfl; have z0 := O.out.free 0; have z1 := O.out.free 1; have z2 := O.out.free 2; have z3 := O.out.free 3; have z4 := O.out.free 4; have z5 := O.out.free 5)
  (try simp only [Exit.inBlock, Exit.then])
  refine bodyPost_ret (v := pairV 0 0 0 0 0 0 22) (by simp [results, Try.results12, go_sem, pairV, d0, d1, d2, d3, d4, d5]) rfl ⟨rfl, below_set6 t1.out (by show w.heap.size ≤ w.heap.size + 1; omega) _ _ _ _ _ _⟩
end Go.Proofs.Ytgkgdobmiejdhaa.Graph
namespace Go.Proofs.Ytgkgdobmiejdhaa.Perm
open Go Go.RowKit Go.Perm Go.Law
open Go.Proofs.Ytgkgdobmiejdhaa.Col (ret_int ret_bool ret_two)

theorem info3 : (Try.prog.info? 3).map (fun i => (i.zero, i.size, i.bytes)) = some (some (.int .i64 0), 1, 8) := by kernel_rfl
theorem make_ints (n : Nat) (hn : n ≤ 5) (W : World) : (Instr.makeSlice 33 (.int .i64 (n : Int)) (.int .i64 (n : Int))).run Try.prog W = .ok (.slice (some ⟨W.heap.size, 0, none⟩) n n) (W.alloc (.cells (madeCells #[.int .i64 0] n) 3)) := by
  obtain ⟨i0, hi, hz0, hz1, hz2⟩ := info_parts info3
  have := run_make (P := Try.prog) W 33 3 i0 (.int .i64 0) Try.underlying33 hi hz0 .i64 .i64 (n : Int) (n : Int) (by omega) (by omega) (by rw [hz2]; omega) (by omega)
  rw [this, hz1]
  simp [Value.cells]
theorem replicate_ints (n : Nat) : List.replicate n (Value.int .i64 0) = (List.replicate n (0 : Int)).map (Value.int .i64) := by simp

/-- A list of its own, with a number. -/
def VecPost (zs : List Int) (c : Int) (W : World) (e : Ending) (w' : World) : Prop := ∃ v, e = .returned (.tuple #[v, .int .i64 c]) ∧ Below W.heap.size W w' ∧ IntsAt w' .i64 v zs
theorem own_ints {w : World} {B n : Nat} {zs : List Int} (h : Own w B 3 (zs.map (Value.int .i64))) (hn : zs.length = n) (h5 : n ≤ 5) : IntsAt w .i64 (.slice (some ⟨B, 0, none⟩) n n) zs := by
  subst hn
  exact ⟨_, _, rfl, Nat.le_refl _, by unfold maxLen; omega, .inr ⟨B, 0, rfl, h.lt, h.at⟩⟩

set_option maxHeartbeats 800000 in
theorem inv_any (b off len cap : Nat) (zs : List Int) (hz : zs.length = len) (hok : check zs = 0) (hcap : len ≤ cap) (w : World) (hc : At w b off zs) :
    Calls Try.prog 13 #[.slice (some ⟨b, off, none⟩) len cap] w (VecPost (mv zs (ids len) len) 0 w) := by
  obtain ⟨h1, h5, hr, _⟩ := check_ok hok
  rw [hz] at h1 h5 hr
  have hb := hc.lt (by omega)
  have HR := Lib.hid hr
  have HC := Lib.hid hc
  have HO := Lib.hid hok
  have HZ := Lib.hid hz
  clear hr hc hok hz
  have HM := Lib.hid (Own.made w 3 (.int .i64 0) len)
  have hmk := make_ints len h5
  go_enter Try.func13, Try.ntmps13
  go_wp2_with (go_at_call 29; refine (check_any _ _ _ _ zs HZ.out (by omega) (by omega) hcap _ HC.out).mono ?_; rintro e w' ⟨rfl, rfl⟩; rw [HO.out])
  go_loopw [18] (fun i wr => ∃ k : Nat, k ≤ len ∧ i = .int .i64 k ∧ Below w.heap.size w wr ∧ Own wr w.heap.size 3 ((mv zs (ids len) k).map (Value.int .i64))) (fun i _ => len - (intOf i).toNat)
  case atStart => exact ⟨0, Nat.zero_le _, rfl, (Below.refl _ _).alloc (Nat.le_refl _) _, by rw [mv, ids_length, ← replicate_ints]; exact HM.out⟩
  case round =>
    obtain ⟨k, hk, rfl, hbl, hown⟩ := hrel
    have hz := HZ.out
    by_cases hlt : k < len
    · have hcell := (HC.out.below hbl hb) k (by omega)
      have hx := HR.out (zs.getD k 0) (getD_mem (by omega))
      have HE := Lib.hid (show mv zs (ids len) (k + 1) = (mv zs (ids len) k).set (zs.getD k 0).toNat (k : Int) by rw [mv, ids_getD hlt])
      have hl : (mv zs (ids len) k).length = len := by rw [mv_length, ids_length]
      generalize zs.getD k 0 = x at *
      obtain ⟨hx0, hx1⟩ := hx
      obtain ⟨q, rfl⟩ := Int.eq_ofNat_of_zero_le hx0
      have hoc : wr.cell? ⟨w.heap.size, q, none⟩ = some (.int .i64 ((mv zs (ids len) k).getD q 0)) := by have := hown.at q (by omega); simpa using this
      have hfr := hown.free q
      have HOW := Lib.hid hown
      have HBL := Lib.hid hbl
      clear hz hown hl hbl
      go_wp2
      go_roundw
      case rel => exact ⟨k + 1, by omega, by go_num, HBL.out.setCell (by simp) _, by rw [HE.out, List.map_set]; exact HOW.out.set q _⟩
      case measure => simp [intOf]; omega
    · have HOW := Lib.hid hown
      have HBL := Lib.hid hbl
      clear hz hown hbl
      go_wp2
      go_ret2
      have hk' : k = len := by omega
      subst hk'
      exact ⟨_, rfl, HBL.out, own_ints HOW.out (by rw [mv_length, ids_length]) h5⟩

theorem inv_ints {w : World} {v : Value} {zs : List Int} (hok : check zs = 0) (h : IntsAt w .i64 v zs) : Calls Try.prog 13 #[v] w (VecPost (mv zs (ids zs.length) zs.length) 0 w) := by
  obtain ⟨a, cap, rfl, h1, h2, h0⟩ := h
  rcases h0 with rfl | ⟨b, off, rfl, hlt, hc⟩
  · have := (check_ok hok).1; simp at this
  · exact inv_any b off _ cap zs rfl hok h1 w hc
end Go.Proofs.Ytgkgdobmiejdhaa.Perm
namespace Go.Proofs.Ytgkgdobmiejdhaa.Graph
open Go Go.RowKit Go.Graph Go.Law
open Go.Proofs.Ytgkgdobmiejdhaa.Col
open Go.Proofs.Ytgkgdobmiejdhaa.Perm (check_ints inv_ints)
theorem undo_of {zs : List Int} (h : Go.Perm.check zs = 0) : Undo zs.length (idx zs) (idx (Go.Perm.mv zs (Go.Perm.ids zs.length) zs.length)) where
  lt i hi := (idx_lt h i hi).1
  lt' i hi := ((Go.Perm.inverse h).2 i hi).2.2
  left i hi := ((Go.Perm.inverse h).2 i hi).1
  right i hi := ((Go.Perm.inverse h).2 i hi).2.1
theorem permute_ints {n : Nat} {a : Nat → Nat} (ha : WF n a) (zs : List Int) (hl : zs.length = n) (hck : Go.Perm.check zs = 0) (w : World) (v : Value) (hi : IntsAt w .i64 v zs) :
    Calls Try.prog 12 #[.agg #[.int .i64 n, .int .i64 (a 0), .int .i64 (a 1), .int .i64 (a 2), .int .i64 (a 3), .int .i64 (a 4)], v] w fun e w' => e = .returned (pairV n (ren n a (idx zs) 0 : Nat) (ren n a (idx zs) 1 : Nat) (ren n a (idx zs) 2 : Nat) (ren n a (idx zs) 3 : Nat) (ren n a (idx zs) 4 : Nat) 0) ∧ Below w.heap.size w w' := by
  obtain ⟨p, cap, rfl, h1, h2, h0⟩ := hi
  rcases h0 with rfl | ⟨b, off, rfl, hlt, hcell⟩
  · have := ha.pos; simp at hl; omega
  · rw [hl]
    exact permute_wf ha b off cap zs hl hck (by omega) w hlt hcell (fun w hw => by have := check_ints (w := w) (v := .slice (some ⟨b, off, none⟩) zs.length cap) (zs := zs) ⟨_, cap, rfl, h1, h2, .inr ⟨b, off, rfl, hw.lt (by have := ha.pos; omega), hw⟩⟩; rw [hck, hl] at this; exact this)
end Go.Proofs.Ytgkgdobmiejdhaa.Graph
