/-
  RoundJoins answers true.
-/
import Derived.Test.YtlineonmpbdkgaaDoorEvRoJoins
import Derived.Test.YtlineonmpbdkgaaDoorEvRoOpen
namespace Go.Proofs.YtlineonmpbdkgaaDoor.Word
open Go Go.RowKit Go.Graph Go.Law Go.Ev
open Go.Proofs.YtlineonmpbdkgaaDoor.Graph
open Go.Proofs.YtlineonmpbdkgaaDoor.Ev (tabs Len awake)
open Go.Proofs.YtlineonmpbdkgaaDoor.Col (ret_int ret_bool)

def WordTop (W : World) (v : Value) (l : List Rd) : Prop := ∃ a len cap b off, v = .slice a len cap ∧ WordIn W a len cap b off l
set_option maxRecDepth 100000 in
theorem open_in {H : Type} {enc : TypeId × Value → H} {W : World} {base : Nat} {b0 : Nat} {r : Reach} {v : Value} {d : DataW H} {ps : List MemPlace} (hval : Value.okWide Tryd.prog W r b0 39 v) (h : DataW.Trod enc Tryd.prog W base (fun _ => true) true 39 v d ps) : ∃ l : List Rd, WordTop W v l := by
  obtain ⟨a, len, cap, rows, rfl, hle, hmax, hl, hfit, hat⟩ := open_rows (P := Tryd.prog) Tryd.underlying39 5 (List.replicate 7 (.int .i64)) (by kernel_rfl) (by kernel_rfl) (by decide) hval h
  have hlen : (rows.map toRd).length = len := by rw [List.length_map, hl]
  by_cases h0 : 0 < len
  · obtain ⟨b, off, rfl, hb, hc⟩ := hat h0
    refine ⟨rows.map toRd, some ⟨b, off, none⟩, len, cap, b, off, rfl, hlen, fun _ => rfl, fun _ => hb, fun k hk i hi => ?_, hle, hmax⟩
    have hk' : k < rows.length := by omega
    have hr : rd (rows.map toRd) k = toRd rows[k] := by
      unfold rd
      rw [List.getD_eq_getElem?_getD, List.getElem?_map, List.getElem?_eq_getElem hk']
      rfl
    have hv := toRd_vs (hfit rows[k] (List.getElem_mem hk'))
    have := hc k hk i (by simpa using hi)
    rw [List.length_replicate] at this
    rw [this, hr, List.getD_eq_getElem?_getD, List.getElem?_eq_getElem hk', Option.getD_some]
    generalize toRd rows[k] = x at hv ⊢
    rw [hv, List.getD_eq_getElem?_getD, List.getElem?_eq_getElem (by simpa [Rd.vs] using hi)]
    rfl
  · exact ⟨rows.map toRd, a, len, cap, 0, 0, rfl, hlen, fun h => absurd h (by omega), fun h => absurd h (by omega), fun k hk => absurd hk (by omega), hle, hmax⟩
set_option maxHeartbeats 1000000 in
theorem good_any (n q : Int) (a : Option Addr) (len cap : Nat) (W : World) (hw : Calls Tryd.prog 23 #[.int .i64 n, .slice a len cap] W fun e w' => e = .returned (.int .i64 q) ∧ Below W.heap.size W w') :
    Calls Tryd.prog 25 #[.int .i64 n, .slice a len cap] W fun e w' => e = .returned (.bool (decide (len ≤ 12) && (q == 0))) ∧ Below W.heap.size W w' := by
  have HF := Lib.hid (rfew_any a len cap)
  have HW := Lib.hid hw
  clear hw
  by_cases h : len ≤ 12
  · rw [decide_eq_true h] at HF ⊢
    clear h
    have HR : Hid ((true && (q == 0)) = (q == 0)) := Lib.hid (Bool.true_and _)
    go_enter Tryd.func25, Tryd.ntmps25
    go_wp2_with first
      | (go_at_call 47; refine (HF.out _).mono ?_; rintro e w' ⟨rfl, rfl⟩)
      | (go_at_call 23; refine (HW.out).mono ?_; rintro e w1 ⟨rfl, hb1⟩; have HB := Lib.hid hb1; clear hb1)
    go_ret
    exact ⟨ret_bool HR.out.symm, HB.out⟩
  · rw [decide_eq_false h] at HF ⊢
    clear h
    go_enter Tryd.func25, Tryd.ntmps25
    go_wp2_with (go_at_call 47; refine (HF.out _).mono ?_; rintro e w' ⟨rfl, rfl⟩)
    go_ret
    exact ⟨rfl, Below.refl _ _⟩
theorem small_wrap {x : Nat} (h : x ≤ 1000) : IntKind.i64.wrap (x : Int) = (x : Int) ∧ wrap64 (x : Int) = (x : Int) := by
  constructor
  · rw [IntKind.wrap_i64]; omega
  · unfold wrap64; omega
theorem succ_wrap {x : Nat} (h : x ≤ 1000) : IntKind.i64.wrap ((x : Int) + 1) = (x : Int) + 1 ∧ wrap64 ((x : Int) + 1) = (x : Int) + 1 ∧ ((x : Int) + 1 == 0) = false ∧ ¬ ((x : Int) + 1 = 0) ∧ ¬ ((x : Int) + 1 = -1) := by
  refine ⟨?_, ?_, by simp; omega, by omega, by omega⟩
  · rw [IntKind.wrap_i64]; omega
  · unfold wrap64; omega
theorem rem_nat {x len K : Nat} (hK : x % (len + 1) = K) : (x : Int).tmod ((len : Int) + 1) = (K : Int) := by
  rw [← hK, Int.tmod_eq_emod_of_nonneg (by omega)]; push_cast; rfl
theorem part_le {x len K : Nat} (hK : x % (len + 1) = K) (hl : len ≤ 12) : K ≤ 1000 := by
  have := Nat.mod_lt x (show 0 < len + 1 by omega)
  omega
set_option maxRecDepth 100000 in
set_option maxHeartbeats 4000000 in
theorem joins_1 {w : World} (a a' : Option Addr) (len cap K x : Nat) (A D C : Nat → Nat) (E L F : Int) (hx : x < 256) (hl : len ≤ 12) (hK : x % (len + 1) = K)
    (hA : ∀ w1, Below w.heap.size w w1 → Calls Tryd.prog 13 #[] w1 fun e w' => e = .returned (.bool true) ∧ Below w1.heap.size w1 w')
    (h25 : ∀ w1, Below w.heap.size w w1 → Calls Tryd.prog 25 #[.int .i64 1, .slice a len cap] w1 fun e w' => e = .returned (.bool true) ∧ Below w1.heap.size w1 w')
    (hs1 : ∀ w1 : World, (Instr.sliceAt 39 (.slice a len cap) none (some (.int .i64 (K : Int))) none).run Tryd.prog w1 = .ok (.slice a K cap) w1)
    (hs2 : ∀ w1 : World, (Instr.sliceAt 39 (.slice a len cap) (some (.int .i64 (K : Int))) none none).run Tryd.prog w1 = .ok (.slice a' (len - K) (cap - K)) w1)
    (hp1 : ∀ w1, Below w.heap.size w w1 → Calls Tryd.prog 21 #[.int .i64 1, .slice a K cap] w1 fun e w' => e = .returned (.tuple #[.agg #[.int .i64 1, .int .i64 (A 0 : Nat), .int .i64 (A 1 : Nat), .int .i64 (A 2 : Nat), .int .i64 (A 3 : Nat), .int .i64 (A 4 : Nat)], .int .i64 0]) ∧ Below w1.heap.size w1 w')
    (hp2 : ∀ w1, Below w.heap.size w w1 → Calls Tryd.prog 21 #[.int .i64 1, .slice a' (len - K) (cap - K)] w1 fun e w' => e = .returned (.tuple #[.agg #[.int .i64 1, .int .i64 (D 0 : Nat), .int .i64 (D 1 : Nat), .int .i64 (D 2 : Nat), .int .i64 (D 3 : Nat), .int .i64 (D 4 : Nat)], .int .i64 0]) ∧ Below w1.heap.size w1 w')
    (hp3 : ∀ w1, Below w.heap.size w w1 → Calls Tryd.prog 21 #[.int .i64 1, .slice a len cap] w1 fun e w' => e = .returned (.tuple #[.agg #[.int .i64 1, .int .i64 (C 0 : Nat), .int .i64 (C 1 : Nat), .int .i64 (C 2 : Nat), .int .i64 (C 3 : Nat), .int .i64 (C 4 : Nat)], .int .i64 0]) ∧ Below w1.heap.size w1 w')
    (hp4 : ∀ w1, Below w.heap.size w w1 → Calls Tryd.prog 26 #[.agg #[.int .i64 1, .int .i64 (A 0 : Nat), .int .i64 (A 1 : Nat), .int .i64 (A 2 : Nat), .int .i64 (A 3 : Nat), .int .i64 (A 4 : Nat)], .agg #[.int .i64 1, .int .i64 (D 0 : Nat), .int .i64 (D 1 : Nat), .int .i64 (D 2 : Nat), .int .i64 (D 3 : Nat), .int .i64 (D 4 : Nat)]] w1 fun e w' => e = .returned (.tuple #[.agg #[.int .i64 1, .int .i64 (C 0 : Nat), .int .i64 (C 1 : Nat), .int .i64 (C 2 : Nat), .int .i64 (C 3 : Nat), .int .i64 (C 4 : Nat)], .int .i64 0]) ∧ Below w1.heap.size w1 w')
    (ho1 : ∀ w1, Below w.heap.size w w1 → Calls Tryd.prog 19 #[.int .i64 1, .slice a K cap] w1 fun e w' => e = .returned (.tuple #[.int .i64 E, .int .i64 0]) ∧ Below w1.heap.size w1 w')
    (ho2 : ∀ w1, Below w.heap.size w w1 → Calls Tryd.prog 19 #[.int .i64 1, .slice a len cap] w1 fun e w' => e = .returned (.tuple #[.int .i64 L, .int .i64 0]) ∧ Below w1.heap.size w1 w')
    (hf : ∀ w1, Below w.heap.size w w1 → Calls Tryd.prog 17 #[.int .i64 1, .slice a len cap] w1 fun e w' => e = .returned (.tuple #[.int .i64 F, .int .i64 0]) ∧ Below w1.heap.size w1 w')
    (b1 : bits .andNot .i64 L E = 0) (b2 : bits .and .i64 L F = 0) (b3 : bits .or .i64 L F = 1) :
    Calls Tryd.prog 7 #[.int .i64 1, .slice a len cap, .int .u8 (x : Int)] w fun e w' => e = .returned (.bool true) ∧ Below w.heap.size w w' := by
  have HA := Lib.hid hA
  have H25 := Lib.hid h25
  have HP1 := Lib.hid hp1
  have HP2 := Lib.hid hp2
  have HP3 := Lib.hid hp3
  have HP4 := Lib.hid hp4
  have HO1 := Lib.hid ho1
  have HO2 := Lib.hid ho2
  have HF := Lib.hid hf
  clear hA h25 hp1 hp2 hp3 hp4 ho1 ho2 hf
  obtain ⟨hx1, hx2⟩ := small_wrap (show x ≤ 1000 by omega)
  obtain ⟨hl1, hl2, hl3, hl4, hl5⟩ := succ_wrap (show len ≤ 1000 by omega)
  have hm := rem_nat hK
  obtain ⟨hk1, hk2⟩ := small_wrap (part_le hK hl)
  have he9 := arr_known (r0 := (C 0 : Nat)) (r1 := (C 1 : Nat)) (r2 := (C 2 : Nat)) (r3 := (C 3 : Nat)) (r4 := (C 4 : Nat)) (s0 := (C 0 : Nat)) (s1 := (C 1 : Nat)) (s2 := (C 2 : Nat)) (s3 := (C 3 : Nat)) (s4 := (C 4 : Nat)) (d := true) (by simp) 9997
  have he8 := arr_known (r0 := (C 0 : Nat)) (r1 := (C 1 : Nat)) (r2 := (C 2 : Nat)) (r3 := (C 3 : Nat)) (r4 := (C 4 : Nat)) (s0 := (C 0 : Nat)) (s1 := (C 1 : Nat)) (s2 := (C 2 : Nat)) (s3 := (C 3 : Nat)) (s4 := (C 4 : Nat)) (d := true) (by simp) 9996
  clear hK hx hl
  have T0 := Lib.hid (Below.refl w.heap.size w)
  go_enter Tryd.func7, Tryd.ntmps7
  go_wp2_with first
    | (go_at_call 25; with_reducible refine (H25.out _ T0.out).mono ?_; rintro e w1 ⟨rfl, hb⟩; have T1 := Lib.hid (T0.out.trans (bel_le hb T0.out.size)); clear hb)
    | (go_at_call 21; with_reducible refine (HP1.out _ T1.out).mono ?_; rintro e w2 ⟨rfl, hb⟩; have T2a := Lib.hid (T1.out.trans (bel_le hb T1.out.size)); have T2 := Lib.hid (T2a.out.alloc T2a.out.size (.cells #[.int .i64 1, .int .i64 (A 0 : Nat), .int .i64 (A 1 : Nat), .int .i64 (A 2 : Nat), .int .i64 (A 3 : Nat), .int .i64 (A 4 : Nat)] 24)); have RT2 := Lib.hid (row_new w2 1 (A 0 : Nat) (A 1 : Nat) (A 2 : Nat) (A 3 : Nat) (A 4 : Nat)); clear hb)
    | (go_at_call 21; with_reducible refine (HP2.out _ T2.out).mono ?_; rintro e w3 ⟨rfl, hb⟩; have T3a := Lib.hid (T2.out.trans (bel_le hb T2.out.size)); have T3 := Lib.hid (T3a.out.alloc T3a.out.size (.cells #[.int .i64 1, .int .i64 (D 0 : Nat), .int .i64 (D 1 : Nat), .int .i64 (D 2 : Nat), .int .i64 (D 3 : Nat), .int .i64 (D 4 : Nat)] 24)); have RT3 := Lib.hid (row_new w3 1 (D 0 : Nat) (D 1 : Nat) (D 2 : Nat) (D 3 : Nat) (D 4 : Nat)); have RA := Lib.hid (row_alloc (row_below RT2.out hb) (.cells #[.int .i64 1, .int .i64 (D 0 : Nat), .int .i64 (D 1 : Nat), .int .i64 (D 2 : Nat), .int .i64 (D 3 : Nat), .int .i64 (D 4 : Nat)] 24)); clear hb)
    | (go_at_call 21; with_reducible refine (HP3.out _ T3.out).mono ?_; rintro e w4 ⟨rfl, hb⟩; have T4a := Lib.hid (T3.out.trans (bel_le hb T3.out.size)); have T4 := Lib.hid (T4a.out.alloc T4a.out.size (.cells #[.int .i64 1, .int .i64 (C 0 : Nat), .int .i64 (C 1 : Nat), .int .i64 (C 2 : Nat), .int .i64 (C 3 : Nat), .int .i64 (C 4 : Nat)] 24)); have RT4 := Lib.hid (row_new w4 1 (C 0 : Nat) (C 1 : Nat) (C 2 : Nat) (C 3 : Nat) (C 4 : Nat)); have RB := Lib.hid (row_alloc (row_below RA.out hb) (.cells #[.int .i64 1, .int .i64 (C 0 : Nat), .int .i64 (C 1 : Nat), .int .i64 (C 2 : Nat), .int .i64 (C 3 : Nat), .int .i64 (C 4 : Nat)] 24)); have RC := Lib.hid (row_alloc (row_below RT3.out hb) (.cells #[.int .i64 1, .int .i64 (C 0 : Nat), .int .i64 (C 1 : Nat), .int .i64 (C 2 : Nat), .int .i64 (C 3 : Nat), .int .i64 (C 4 : Nat)] 24)); obtain ⟨p0, p1, p2, p3, p4, p5⟩ := RB.out; obtain ⟨q0, q1, q2, q3, q4, q5⟩ := RC.out; clear hb)
    | (go_at_call 26; with_reducible refine (HP4.out _ T4.out).mono ?_; rintro e w5 ⟨rfl, hb⟩; have T5a := Lib.hid (T4.out.trans (bel_le hb T4.out.size)); have T5 := Lib.hid (T5a.out.alloc T5a.out.size (.cells #[.int .i64 1, .int .i64 (C 0 : Nat), .int .i64 (C 1 : Nat), .int .i64 (C 2 : Nat), .int .i64 (C 3 : Nat), .int .i64 (C 4 : Nat)] 24)); have RT5 := Lib.hid (row_new w5 1 (C 0 : Nat) (C 1 : Nat) (C 2 : Nat) (C 3 : Nat) (C 4 : Nat)); have RD := Lib.hid (row_alloc (row_below RT4.out hb) (.cells #[.int .i64 1, .int .i64 (C 0 : Nat), .int .i64 (C 1 : Nat), .int .i64 (C 2 : Nat), .int .i64 (C 3 : Nat), .int .i64 (C 4 : Nat)] 24)); obtain ⟨u0, u1, u2, u3, u4, u5⟩ := RD.out; obtain ⟨v0, v1, v2, v3, v4, v5⟩ := RT5.out; clear hb)
    | (go_at_call 19; with_reducible refine (HO1.out _ T5.out).mono ?_; rintro e w6 ⟨rfl, hb⟩; have T6 := Lib.hid (T5.out.trans (bel_le hb T5.out.size)); clear hb)
    | (go_at_call 19; with_reducible refine (HO2.out _ T6.out).mono ?_; rintro e w7 ⟨rfl, hb⟩; have T7 := Lib.hid (T6.out.trans (bel_le hb T6.out.size)); clear hb)
    | (go_at_call 17; with_reducible refine (HF.out _ T7.out).mono ?_; rintro e w8 ⟨rfl, hb⟩; have T8 := Lib.hid (T7.out.trans (bel_le hb T7.out.size)); clear hb)
    | (go_at_call 13; with_reducible refine (HA.out _ T8.out).mono ?_; rintro e w9 ⟨rfl, hb⟩; have T9 := Lib.hid (T8.out.trans (bel_le hb T8.out.size)); clear hb)
  go_ret
  exact ⟨rfl, T9.out⟩
set_option maxRecDepth 100000 in
set_option maxHeartbeats 4000000 in
theorem joins_2 {w : World} (a a' : Option Addr) (len cap K x : Nat) (A D C : Nat → Nat) (E L F : Int) (hx : x < 256) (hl : len ≤ 12) (hK : x % (len + 1) = K)
    (hA : ∀ w1, Below w.heap.size w w1 → Calls Tryd.prog 13 #[] w1 fun e w' => e = .returned (.bool true) ∧ Below w1.heap.size w1 w')
    (h25 : ∀ w1, Below w.heap.size w w1 → Calls Tryd.prog 25 #[.int .i64 2, .slice a len cap] w1 fun e w' => e = .returned (.bool true) ∧ Below w1.heap.size w1 w')
    (hs1 : ∀ w1 : World, (Instr.sliceAt 39 (.slice a len cap) none (some (.int .i64 (K : Int))) none).run Tryd.prog w1 = .ok (.slice a K cap) w1)
    (hs2 : ∀ w1 : World, (Instr.sliceAt 39 (.slice a len cap) (some (.int .i64 (K : Int))) none none).run Tryd.prog w1 = .ok (.slice a' (len - K) (cap - K)) w1)
    (hp1 : ∀ w1, Below w.heap.size w w1 → Calls Tryd.prog 21 #[.int .i64 2, .slice a K cap] w1 fun e w' => e = .returned (.tuple #[.agg #[.int .i64 2, .int .i64 (A 0 : Nat), .int .i64 (A 1 : Nat), .int .i64 (A 2 : Nat), .int .i64 (A 3 : Nat), .int .i64 (A 4 : Nat)], .int .i64 0]) ∧ Below w1.heap.size w1 w')
    (hp2 : ∀ w1, Below w.heap.size w w1 → Calls Tryd.prog 21 #[.int .i64 2, .slice a' (len - K) (cap - K)] w1 fun e w' => e = .returned (.tuple #[.agg #[.int .i64 2, .int .i64 (D 0 : Nat), .int .i64 (D 1 : Nat), .int .i64 (D 2 : Nat), .int .i64 (D 3 : Nat), .int .i64 (D 4 : Nat)], .int .i64 0]) ∧ Below w1.heap.size w1 w')
    (hp3 : ∀ w1, Below w.heap.size w w1 → Calls Tryd.prog 21 #[.int .i64 2, .slice a len cap] w1 fun e w' => e = .returned (.tuple #[.agg #[.int .i64 2, .int .i64 (C 0 : Nat), .int .i64 (C 1 : Nat), .int .i64 (C 2 : Nat), .int .i64 (C 3 : Nat), .int .i64 (C 4 : Nat)], .int .i64 0]) ∧ Below w1.heap.size w1 w')
    (hp4 : ∀ w1, Below w.heap.size w w1 → Calls Tryd.prog 26 #[.agg #[.int .i64 2, .int .i64 (A 0 : Nat), .int .i64 (A 1 : Nat), .int .i64 (A 2 : Nat), .int .i64 (A 3 : Nat), .int .i64 (A 4 : Nat)], .agg #[.int .i64 2, .int .i64 (D 0 : Nat), .int .i64 (D 1 : Nat), .int .i64 (D 2 : Nat), .int .i64 (D 3 : Nat), .int .i64 (D 4 : Nat)]] w1 fun e w' => e = .returned (.tuple #[.agg #[.int .i64 2, .int .i64 (C 0 : Nat), .int .i64 (C 1 : Nat), .int .i64 (C 2 : Nat), .int .i64 (C 3 : Nat), .int .i64 (C 4 : Nat)], .int .i64 0]) ∧ Below w1.heap.size w1 w')
    (ho1 : ∀ w1, Below w.heap.size w w1 → Calls Tryd.prog 19 #[.int .i64 2, .slice a K cap] w1 fun e w' => e = .returned (.tuple #[.int .i64 E, .int .i64 0]) ∧ Below w1.heap.size w1 w')
    (ho2 : ∀ w1, Below w.heap.size w w1 → Calls Tryd.prog 19 #[.int .i64 2, .slice a len cap] w1 fun e w' => e = .returned (.tuple #[.int .i64 L, .int .i64 0]) ∧ Below w1.heap.size w1 w')
    (hf : ∀ w1, Below w.heap.size w w1 → Calls Tryd.prog 17 #[.int .i64 2, .slice a len cap] w1 fun e w' => e = .returned (.tuple #[.int .i64 F, .int .i64 0]) ∧ Below w1.heap.size w1 w')
    (b1 : bits .andNot .i64 L E = 0) (b2 : bits .and .i64 L F = 0) (b3 : bits .or .i64 L F = 3) :
    Calls Tryd.prog 7 #[.int .i64 2, .slice a len cap, .int .u8 (x : Int)] w fun e w' => e = .returned (.bool true) ∧ Below w.heap.size w w' := by
  have HA := Lib.hid hA
  have H25 := Lib.hid h25
  have HP1 := Lib.hid hp1
  have HP2 := Lib.hid hp2
  have HP3 := Lib.hid hp3
  have HP4 := Lib.hid hp4
  have HO1 := Lib.hid ho1
  have HO2 := Lib.hid ho2
  have HF := Lib.hid hf
  clear hA h25 hp1 hp2 hp3 hp4 ho1 ho2 hf
  obtain ⟨hx1, hx2⟩ := small_wrap (show x ≤ 1000 by omega)
  obtain ⟨hl1, hl2, hl3, hl4, hl5⟩ := succ_wrap (show len ≤ 1000 by omega)
  have hm := rem_nat hK
  obtain ⟨hk1, hk2⟩ := small_wrap (part_le hK hl)
  have he9 := arr_known (r0 := (C 0 : Nat)) (r1 := (C 1 : Nat)) (r2 := (C 2 : Nat)) (r3 := (C 3 : Nat)) (r4 := (C 4 : Nat)) (s0 := (C 0 : Nat)) (s1 := (C 1 : Nat)) (s2 := (C 2 : Nat)) (s3 := (C 3 : Nat)) (s4 := (C 4 : Nat)) (d := true) (by simp) 9997
  have he8 := arr_known (r0 := (C 0 : Nat)) (r1 := (C 1 : Nat)) (r2 := (C 2 : Nat)) (r3 := (C 3 : Nat)) (r4 := (C 4 : Nat)) (s0 := (C 0 : Nat)) (s1 := (C 1 : Nat)) (s2 := (C 2 : Nat)) (s3 := (C 3 : Nat)) (s4 := (C 4 : Nat)) (d := true) (by simp) 9996
  clear hK hx hl
  have T0 := Lib.hid (Below.refl w.heap.size w)
  go_enter Tryd.func7, Tryd.ntmps7
  go_wp2_with first
    | (go_at_call 25; with_reducible refine (H25.out _ T0.out).mono ?_; rintro e w1 ⟨rfl, hb⟩; have T1 := Lib.hid (T0.out.trans (bel_le hb T0.out.size)); clear hb)
    | (go_at_call 21; with_reducible refine (HP1.out _ T1.out).mono ?_; rintro e w2 ⟨rfl, hb⟩; have T2a := Lib.hid (T1.out.trans (bel_le hb T1.out.size)); have T2 := Lib.hid (T2a.out.alloc T2a.out.size (.cells #[.int .i64 2, .int .i64 (A 0 : Nat), .int .i64 (A 1 : Nat), .int .i64 (A 2 : Nat), .int .i64 (A 3 : Nat), .int .i64 (A 4 : Nat)] 24)); have RT2 := Lib.hid (row_new w2 2 (A 0 : Nat) (A 1 : Nat) (A 2 : Nat) (A 3 : Nat) (A 4 : Nat)); clear hb)
    | (go_at_call 21; with_reducible refine (HP2.out _ T2.out).mono ?_; rintro e w3 ⟨rfl, hb⟩; have T3a := Lib.hid (T2.out.trans (bel_le hb T2.out.size)); have T3 := Lib.hid (T3a.out.alloc T3a.out.size (.cells #[.int .i64 2, .int .i64 (D 0 : Nat), .int .i64 (D 1 : Nat), .int .i64 (D 2 : Nat), .int .i64 (D 3 : Nat), .int .i64 (D 4 : Nat)] 24)); have RT3 := Lib.hid (row_new w3 2 (D 0 : Nat) (D 1 : Nat) (D 2 : Nat) (D 3 : Nat) (D 4 : Nat)); have RA := Lib.hid (row_alloc (row_below RT2.out hb) (.cells #[.int .i64 2, .int .i64 (D 0 : Nat), .int .i64 (D 1 : Nat), .int .i64 (D 2 : Nat), .int .i64 (D 3 : Nat), .int .i64 (D 4 : Nat)] 24)); clear hb)
    | (go_at_call 21; with_reducible refine (HP3.out _ T3.out).mono ?_; rintro e w4 ⟨rfl, hb⟩; have T4a := Lib.hid (T3.out.trans (bel_le hb T3.out.size)); have T4 := Lib.hid (T4a.out.alloc T4a.out.size (.cells #[.int .i64 2, .int .i64 (C 0 : Nat), .int .i64 (C 1 : Nat), .int .i64 (C 2 : Nat), .int .i64 (C 3 : Nat), .int .i64 (C 4 : Nat)] 24)); have RT4 := Lib.hid (row_new w4 2 (C 0 : Nat) (C 1 : Nat) (C 2 : Nat) (C 3 : Nat) (C 4 : Nat)); have RB := Lib.hid (row_alloc (row_below RA.out hb) (.cells #[.int .i64 2, .int .i64 (C 0 : Nat), .int .i64 (C 1 : Nat), .int .i64 (C 2 : Nat), .int .i64 (C 3 : Nat), .int .i64 (C 4 : Nat)] 24)); have RC := Lib.hid (row_alloc (row_below RT3.out hb) (.cells #[.int .i64 2, .int .i64 (C 0 : Nat), .int .i64 (C 1 : Nat), .int .i64 (C 2 : Nat), .int .i64 (C 3 : Nat), .int .i64 (C 4 : Nat)] 24)); obtain ⟨p0, p1, p2, p3, p4, p5⟩ := RB.out; obtain ⟨q0, q1, q2, q3, q4, q5⟩ := RC.out; clear hb)
    | (go_at_call 26; with_reducible refine (HP4.out _ T4.out).mono ?_; rintro e w5 ⟨rfl, hb⟩; have T5a := Lib.hid (T4.out.trans (bel_le hb T4.out.size)); have T5 := Lib.hid (T5a.out.alloc T5a.out.size (.cells #[.int .i64 2, .int .i64 (C 0 : Nat), .int .i64 (C 1 : Nat), .int .i64 (C 2 : Nat), .int .i64 (C 3 : Nat), .int .i64 (C 4 : Nat)] 24)); have RT5 := Lib.hid (row_new w5 2 (C 0 : Nat) (C 1 : Nat) (C 2 : Nat) (C 3 : Nat) (C 4 : Nat)); have RD := Lib.hid (row_alloc (row_below RT4.out hb) (.cells #[.int .i64 2, .int .i64 (C 0 : Nat), .int .i64 (C 1 : Nat), .int .i64 (C 2 : Nat), .int .i64 (C 3 : Nat), .int .i64 (C 4 : Nat)] 24)); obtain ⟨u0, u1, u2, u3, u4, u5⟩ := RD.out; obtain ⟨v0, v1, v2, v3, v4, v5⟩ := RT5.out; clear hb)
    | (go_at_call 19; with_reducible refine (HO1.out _ T5.out).mono ?_; rintro e w6 ⟨rfl, hb⟩; have T6 := Lib.hid (T5.out.trans (bel_le hb T5.out.size)); clear hb)
    | (go_at_call 19; with_reducible refine (HO2.out _ T6.out).mono ?_; rintro e w7 ⟨rfl, hb⟩; have T7 := Lib.hid (T6.out.trans (bel_le hb T6.out.size)); clear hb)
    | (go_at_call 17; with_reducible refine (HF.out _ T7.out).mono ?_; rintro e w8 ⟨rfl, hb⟩; have T8 := Lib.hid (T7.out.trans (bel_le hb T7.out.size)); clear hb)
    | (go_at_call 13; with_reducible refine (HA.out _ T8.out).mono ?_; rintro e w9 ⟨rfl, hb⟩; have T9 := Lib.hid (T8.out.trans (bel_le hb T8.out.size)); clear hb)
  go_ret
  exact ⟨rfl, T9.out⟩
set_option maxRecDepth 100000 in
set_option maxHeartbeats 4000000 in
theorem joins_3 {w : World} (a a' : Option Addr) (len cap K x : Nat) (A D C : Nat → Nat) (E L F : Int) (hx : x < 256) (hl : len ≤ 12) (hK : x % (len + 1) = K)
    (hA : ∀ w1, Below w.heap.size w w1 → Calls Tryd.prog 13 #[] w1 fun e w' => e = .returned (.bool true) ∧ Below w1.heap.size w1 w')
    (h25 : ∀ w1, Below w.heap.size w w1 → Calls Tryd.prog 25 #[.int .i64 3, .slice a len cap] w1 fun e w' => e = .returned (.bool true) ∧ Below w1.heap.size w1 w')
    (hs1 : ∀ w1 : World, (Instr.sliceAt 39 (.slice a len cap) none (some (.int .i64 (K : Int))) none).run Tryd.prog w1 = .ok (.slice a K cap) w1)
    (hs2 : ∀ w1 : World, (Instr.sliceAt 39 (.slice a len cap) (some (.int .i64 (K : Int))) none none).run Tryd.prog w1 = .ok (.slice a' (len - K) (cap - K)) w1)
    (hp1 : ∀ w1, Below w.heap.size w w1 → Calls Tryd.prog 21 #[.int .i64 3, .slice a K cap] w1 fun e w' => e = .returned (.tuple #[.agg #[.int .i64 3, .int .i64 (A 0 : Nat), .int .i64 (A 1 : Nat), .int .i64 (A 2 : Nat), .int .i64 (A 3 : Nat), .int .i64 (A 4 : Nat)], .int .i64 0]) ∧ Below w1.heap.size w1 w')
    (hp2 : ∀ w1, Below w.heap.size w w1 → Calls Tryd.prog 21 #[.int .i64 3, .slice a' (len - K) (cap - K)] w1 fun e w' => e = .returned (.tuple #[.agg #[.int .i64 3, .int .i64 (D 0 : Nat), .int .i64 (D 1 : Nat), .int .i64 (D 2 : Nat), .int .i64 (D 3 : Nat), .int .i64 (D 4 : Nat)], .int .i64 0]) ∧ Below w1.heap.size w1 w')
    (hp3 : ∀ w1, Below w.heap.size w w1 → Calls Tryd.prog 21 #[.int .i64 3, .slice a len cap] w1 fun e w' => e = .returned (.tuple #[.agg #[.int .i64 3, .int .i64 (C 0 : Nat), .int .i64 (C 1 : Nat), .int .i64 (C 2 : Nat), .int .i64 (C 3 : Nat), .int .i64 (C 4 : Nat)], .int .i64 0]) ∧ Below w1.heap.size w1 w')
    (hp4 : ∀ w1, Below w.heap.size w w1 → Calls Tryd.prog 26 #[.agg #[.int .i64 3, .int .i64 (A 0 : Nat), .int .i64 (A 1 : Nat), .int .i64 (A 2 : Nat), .int .i64 (A 3 : Nat), .int .i64 (A 4 : Nat)], .agg #[.int .i64 3, .int .i64 (D 0 : Nat), .int .i64 (D 1 : Nat), .int .i64 (D 2 : Nat), .int .i64 (D 3 : Nat), .int .i64 (D 4 : Nat)]] w1 fun e w' => e = .returned (.tuple #[.agg #[.int .i64 3, .int .i64 (C 0 : Nat), .int .i64 (C 1 : Nat), .int .i64 (C 2 : Nat), .int .i64 (C 3 : Nat), .int .i64 (C 4 : Nat)], .int .i64 0]) ∧ Below w1.heap.size w1 w')
    (ho1 : ∀ w1, Below w.heap.size w w1 → Calls Tryd.prog 19 #[.int .i64 3, .slice a K cap] w1 fun e w' => e = .returned (.tuple #[.int .i64 E, .int .i64 0]) ∧ Below w1.heap.size w1 w')
    (ho2 : ∀ w1, Below w.heap.size w w1 → Calls Tryd.prog 19 #[.int .i64 3, .slice a len cap] w1 fun e w' => e = .returned (.tuple #[.int .i64 L, .int .i64 0]) ∧ Below w1.heap.size w1 w')
    (hf : ∀ w1, Below w.heap.size w w1 → Calls Tryd.prog 17 #[.int .i64 3, .slice a len cap] w1 fun e w' => e = .returned (.tuple #[.int .i64 F, .int .i64 0]) ∧ Below w1.heap.size w1 w')
    (b1 : bits .andNot .i64 L E = 0) (b2 : bits .and .i64 L F = 0) (b3 : bits .or .i64 L F = 7) :
    Calls Tryd.prog 7 #[.int .i64 3, .slice a len cap, .int .u8 (x : Int)] w fun e w' => e = .returned (.bool true) ∧ Below w.heap.size w w' := by
  have HA := Lib.hid hA
  have H25 := Lib.hid h25
  have HP1 := Lib.hid hp1
  have HP2 := Lib.hid hp2
  have HP3 := Lib.hid hp3
  have HP4 := Lib.hid hp4
  have HO1 := Lib.hid ho1
  have HO2 := Lib.hid ho2
  have HF := Lib.hid hf
  clear hA h25 hp1 hp2 hp3 hp4 ho1 ho2 hf
  obtain ⟨hx1, hx2⟩ := small_wrap (show x ≤ 1000 by omega)
  obtain ⟨hl1, hl2, hl3, hl4, hl5⟩ := succ_wrap (show len ≤ 1000 by omega)
  have hm := rem_nat hK
  obtain ⟨hk1, hk2⟩ := small_wrap (part_le hK hl)
  have he9 := arr_known (r0 := (C 0 : Nat)) (r1 := (C 1 : Nat)) (r2 := (C 2 : Nat)) (r3 := (C 3 : Nat)) (r4 := (C 4 : Nat)) (s0 := (C 0 : Nat)) (s1 := (C 1 : Nat)) (s2 := (C 2 : Nat)) (s3 := (C 3 : Nat)) (s4 := (C 4 : Nat)) (d := true) (by simp) 9997
  have he8 := arr_known (r0 := (C 0 : Nat)) (r1 := (C 1 : Nat)) (r2 := (C 2 : Nat)) (r3 := (C 3 : Nat)) (r4 := (C 4 : Nat)) (s0 := (C 0 : Nat)) (s1 := (C 1 : Nat)) (s2 := (C 2 : Nat)) (s3 := (C 3 : Nat)) (s4 := (C 4 : Nat)) (d := true) (by simp) 9996
  clear hK hx hl
  have T0 := Lib.hid (Below.refl w.heap.size w)
  go_enter Tryd.func7, Tryd.ntmps7
  go_wp2_with first
    | (go_at_call 25; with_reducible refine (H25.out _ T0.out).mono ?_; rintro e w1 ⟨rfl, hb⟩; have T1 := Lib.hid (T0.out.trans (bel_le hb T0.out.size)); clear hb)
    | (go_at_call 21; with_reducible refine (HP1.out _ T1.out).mono ?_; rintro e w2 ⟨rfl, hb⟩; have T2a := Lib.hid (T1.out.trans (bel_le hb T1.out.size)); have T2 := Lib.hid (T2a.out.alloc T2a.out.size (.cells #[.int .i64 3, .int .i64 (A 0 : Nat), .int .i64 (A 1 : Nat), .int .i64 (A 2 : Nat), .int .i64 (A 3 : Nat), .int .i64 (A 4 : Nat)] 24)); have RT2 := Lib.hid (row_new w2 3 (A 0 : Nat) (A 1 : Nat) (A 2 : Nat) (A 3 : Nat) (A 4 : Nat)); clear hb)
    | (go_at_call 21; with_reducible refine (HP2.out _ T2.out).mono ?_; rintro e w3 ⟨rfl, hb⟩; have T3a := Lib.hid (T2.out.trans (bel_le hb T2.out.size)); have T3 := Lib.hid (T3a.out.alloc T3a.out.size (.cells #[.int .i64 3, .int .i64 (D 0 : Nat), .int .i64 (D 1 : Nat), .int .i64 (D 2 : Nat), .int .i64 (D 3 : Nat), .int .i64 (D 4 : Nat)] 24)); have RT3 := Lib.hid (row_new w3 3 (D 0 : Nat) (D 1 : Nat) (D 2 : Nat) (D 3 : Nat) (D 4 : Nat)); have RA := Lib.hid (row_alloc (row_below RT2.out hb) (.cells #[.int .i64 3, .int .i64 (D 0 : Nat), .int .i64 (D 1 : Nat), .int .i64 (D 2 : Nat), .int .i64 (D 3 : Nat), .int .i64 (D 4 : Nat)] 24)); clear hb)
    | (go_at_call 21; with_reducible refine (HP3.out _ T3.out).mono ?_; rintro e w4 ⟨rfl, hb⟩; have T4a := Lib.hid (T3.out.trans (bel_le hb T3.out.size)); have T4 := Lib.hid (T4a.out.alloc T4a.out.size (.cells #[.int .i64 3, .int .i64 (C 0 : Nat), .int .i64 (C 1 : Nat), .int .i64 (C 2 : Nat), .int .i64 (C 3 : Nat), .int .i64 (C 4 : Nat)] 24)); have RT4 := Lib.hid (row_new w4 3 (C 0 : Nat) (C 1 : Nat) (C 2 : Nat) (C 3 : Nat) (C 4 : Nat)); have RB := Lib.hid (row_alloc (row_below RA.out hb) (.cells #[.int .i64 3, .int .i64 (C 0 : Nat), .int .i64 (C 1 : Nat), .int .i64 (C 2 : Nat), .int .i64 (C 3 : Nat), .int .i64 (C 4 : Nat)] 24)); have RC := Lib.hid (row_alloc (row_below RT3.out hb) (.cells #[.int .i64 3, .int .i64 (C 0 : Nat), .int .i64 (C 1 : Nat), .int .i64 (C 2 : Nat), .int .i64 (C 3 : Nat), .int .i64 (C 4 : Nat)] 24)); obtain ⟨p0, p1, p2, p3, p4, p5⟩ := RB.out; obtain ⟨q0, q1, q2, q3, q4, q5⟩ := RC.out; clear hb)
    | (go_at_call 26; with_reducible refine (HP4.out _ T4.out).mono ?_; rintro e w5 ⟨rfl, hb⟩; have T5a := Lib.hid (T4.out.trans (bel_le hb T4.out.size)); have T5 := Lib.hid (T5a.out.alloc T5a.out.size (.cells #[.int .i64 3, .int .i64 (C 0 : Nat), .int .i64 (C 1 : Nat), .int .i64 (C 2 : Nat), .int .i64 (C 3 : Nat), .int .i64 (C 4 : Nat)] 24)); have RT5 := Lib.hid (row_new w5 3 (C 0 : Nat) (C 1 : Nat) (C 2 : Nat) (C 3 : Nat) (C 4 : Nat)); have RD := Lib.hid (row_alloc (row_below RT4.out hb) (.cells #[.int .i64 3, .int .i64 (C 0 : Nat), .int .i64 (C 1 : Nat), .int .i64 (C 2 : Nat), .int .i64 (C 3 : Nat), .int .i64 (C 4 : Nat)] 24)); obtain ⟨u0, u1, u2, u3, u4, u5⟩ := RD.out; obtain ⟨v0, v1, v2, v3, v4, v5⟩ := RT5.out; clear hb)
    | (go_at_call 19; with_reducible refine (HO1.out _ T5.out).mono ?_; rintro e w6 ⟨rfl, hb⟩; have T6 := Lib.hid (T5.out.trans (bel_le hb T5.out.size)); clear hb)
    | (go_at_call 19; with_reducible refine (HO2.out _ T6.out).mono ?_; rintro e w7 ⟨rfl, hb⟩; have T7 := Lib.hid (T6.out.trans (bel_le hb T6.out.size)); clear hb)
    | (go_at_call 17; with_reducible refine (HF.out _ T7.out).mono ?_; rintro e w8 ⟨rfl, hb⟩; have T8 := Lib.hid (T7.out.trans (bel_le hb T7.out.size)); clear hb)
    | (go_at_call 13; with_reducible refine (HA.out _ T8.out).mono ?_; rintro e w9 ⟨rfl, hb⟩; have T9 := Lib.hid (T8.out.trans (bel_le hb T8.out.size)); clear hb)
  go_ret
  exact ⟨rfl, T9.out⟩
set_option maxRecDepth 100000 in
set_option maxHeartbeats 4000000 in
theorem joins_4 {w : World} (a a' : Option Addr) (len cap K x : Nat) (A D C : Nat → Nat) (E L F : Int) (hx : x < 256) (hl : len ≤ 12) (hK : x % (len + 1) = K)
    (hA : ∀ w1, Below w.heap.size w w1 → Calls Tryd.prog 13 #[] w1 fun e w' => e = .returned (.bool true) ∧ Below w1.heap.size w1 w')
    (h25 : ∀ w1, Below w.heap.size w w1 → Calls Tryd.prog 25 #[.int .i64 4, .slice a len cap] w1 fun e w' => e = .returned (.bool true) ∧ Below w1.heap.size w1 w')
    (hs1 : ∀ w1 : World, (Instr.sliceAt 39 (.slice a len cap) none (some (.int .i64 (K : Int))) none).run Tryd.prog w1 = .ok (.slice a K cap) w1)
    (hs2 : ∀ w1 : World, (Instr.sliceAt 39 (.slice a len cap) (some (.int .i64 (K : Int))) none none).run Tryd.prog w1 = .ok (.slice a' (len - K) (cap - K)) w1)
    (hp1 : ∀ w1, Below w.heap.size w w1 → Calls Tryd.prog 21 #[.int .i64 4, .slice a K cap] w1 fun e w' => e = .returned (.tuple #[.agg #[.int .i64 4, .int .i64 (A 0 : Nat), .int .i64 (A 1 : Nat), .int .i64 (A 2 : Nat), .int .i64 (A 3 : Nat), .int .i64 (A 4 : Nat)], .int .i64 0]) ∧ Below w1.heap.size w1 w')
    (hp2 : ∀ w1, Below w.heap.size w w1 → Calls Tryd.prog 21 #[.int .i64 4, .slice a' (len - K) (cap - K)] w1 fun e w' => e = .returned (.tuple #[.agg #[.int .i64 4, .int .i64 (D 0 : Nat), .int .i64 (D 1 : Nat), .int .i64 (D 2 : Nat), .int .i64 (D 3 : Nat), .int .i64 (D 4 : Nat)], .int .i64 0]) ∧ Below w1.heap.size w1 w')
    (hp3 : ∀ w1, Below w.heap.size w w1 → Calls Tryd.prog 21 #[.int .i64 4, .slice a len cap] w1 fun e w' => e = .returned (.tuple #[.agg #[.int .i64 4, .int .i64 (C 0 : Nat), .int .i64 (C 1 : Nat), .int .i64 (C 2 : Nat), .int .i64 (C 3 : Nat), .int .i64 (C 4 : Nat)], .int .i64 0]) ∧ Below w1.heap.size w1 w')
    (hp4 : ∀ w1, Below w.heap.size w w1 → Calls Tryd.prog 26 #[.agg #[.int .i64 4, .int .i64 (A 0 : Nat), .int .i64 (A 1 : Nat), .int .i64 (A 2 : Nat), .int .i64 (A 3 : Nat), .int .i64 (A 4 : Nat)], .agg #[.int .i64 4, .int .i64 (D 0 : Nat), .int .i64 (D 1 : Nat), .int .i64 (D 2 : Nat), .int .i64 (D 3 : Nat), .int .i64 (D 4 : Nat)]] w1 fun e w' => e = .returned (.tuple #[.agg #[.int .i64 4, .int .i64 (C 0 : Nat), .int .i64 (C 1 : Nat), .int .i64 (C 2 : Nat), .int .i64 (C 3 : Nat), .int .i64 (C 4 : Nat)], .int .i64 0]) ∧ Below w1.heap.size w1 w')
    (ho1 : ∀ w1, Below w.heap.size w w1 → Calls Tryd.prog 19 #[.int .i64 4, .slice a K cap] w1 fun e w' => e = .returned (.tuple #[.int .i64 E, .int .i64 0]) ∧ Below w1.heap.size w1 w')
    (ho2 : ∀ w1, Below w.heap.size w w1 → Calls Tryd.prog 19 #[.int .i64 4, .slice a len cap] w1 fun e w' => e = .returned (.tuple #[.int .i64 L, .int .i64 0]) ∧ Below w1.heap.size w1 w')
    (hf : ∀ w1, Below w.heap.size w w1 → Calls Tryd.prog 17 #[.int .i64 4, .slice a len cap] w1 fun e w' => e = .returned (.tuple #[.int .i64 F, .int .i64 0]) ∧ Below w1.heap.size w1 w')
    (b1 : bits .andNot .i64 L E = 0) (b2 : bits .and .i64 L F = 0) (b3 : bits .or .i64 L F = 15) :
    Calls Tryd.prog 7 #[.int .i64 4, .slice a len cap, .int .u8 (x : Int)] w fun e w' => e = .returned (.bool true) ∧ Below w.heap.size w w' := by
  have HA := Lib.hid hA
  have H25 := Lib.hid h25
  have HP1 := Lib.hid hp1
  have HP2 := Lib.hid hp2
  have HP3 := Lib.hid hp3
  have HP4 := Lib.hid hp4
  have HO1 := Lib.hid ho1
  have HO2 := Lib.hid ho2
  have HF := Lib.hid hf
  clear hA h25 hp1 hp2 hp3 hp4 ho1 ho2 hf
  obtain ⟨hx1, hx2⟩ := small_wrap (show x ≤ 1000 by omega)
  obtain ⟨hl1, hl2, hl3, hl4, hl5⟩ := succ_wrap (show len ≤ 1000 by omega)
  have hm := rem_nat hK
  obtain ⟨hk1, hk2⟩ := small_wrap (part_le hK hl)
  have he9 := arr_known (r0 := (C 0 : Nat)) (r1 := (C 1 : Nat)) (r2 := (C 2 : Nat)) (r3 := (C 3 : Nat)) (r4 := (C 4 : Nat)) (s0 := (C 0 : Nat)) (s1 := (C 1 : Nat)) (s2 := (C 2 : Nat)) (s3 := (C 3 : Nat)) (s4 := (C 4 : Nat)) (d := true) (by simp) 9997
  have he8 := arr_known (r0 := (C 0 : Nat)) (r1 := (C 1 : Nat)) (r2 := (C 2 : Nat)) (r3 := (C 3 : Nat)) (r4 := (C 4 : Nat)) (s0 := (C 0 : Nat)) (s1 := (C 1 : Nat)) (s2 := (C 2 : Nat)) (s3 := (C 3 : Nat)) (s4 := (C 4 : Nat)) (d := true) (by simp) 9996
  clear hK hx hl
  have T0 := Lib.hid (Below.refl w.heap.size w)
  go_enter Tryd.func7, Tryd.ntmps7
  go_wp2_with first
    | (go_at_call 25; with_reducible refine (H25.out _ T0.out).mono ?_; rintro e w1 ⟨rfl, hb⟩; have T1 := Lib.hid (T0.out.trans (bel_le hb T0.out.size)); clear hb)
    | (go_at_call 21; with_reducible refine (HP1.out _ T1.out).mono ?_; rintro e w2 ⟨rfl, hb⟩; have T2a := Lib.hid (T1.out.trans (bel_le hb T1.out.size)); have T2 := Lib.hid (T2a.out.alloc T2a.out.size (.cells #[.int .i64 4, .int .i64 (A 0 : Nat), .int .i64 (A 1 : Nat), .int .i64 (A 2 : Nat), .int .i64 (A 3 : Nat), .int .i64 (A 4 : Nat)] 24)); have RT2 := Lib.hid (row_new w2 4 (A 0 : Nat) (A 1 : Nat) (A 2 : Nat) (A 3 : Nat) (A 4 : Nat)); clear hb)
    | (go_at_call 21; with_reducible refine (HP2.out _ T2.out).mono ?_; rintro e w3 ⟨rfl, hb⟩; have T3a := Lib.hid (T2.out.trans (bel_le hb T2.out.size)); have T3 := Lib.hid (T3a.out.alloc T3a.out.size (.cells #[.int .i64 4, .int .i64 (D 0 : Nat), .int .i64 (D 1 : Nat), .int .i64 (D 2 : Nat), .int .i64 (D 3 : Nat), .int .i64 (D 4 : Nat)] 24)); have RT3 := Lib.hid (row_new w3 4 (D 0 : Nat) (D 1 : Nat) (D 2 : Nat) (D 3 : Nat) (D 4 : Nat)); have RA := Lib.hid (row_alloc (row_below RT2.out hb) (.cells #[.int .i64 4, .int .i64 (D 0 : Nat), .int .i64 (D 1 : Nat), .int .i64 (D 2 : Nat), .int .i64 (D 3 : Nat), .int .i64 (D 4 : Nat)] 24)); clear hb)
    | (go_at_call 21; with_reducible refine (HP3.out _ T3.out).mono ?_; rintro e w4 ⟨rfl, hb⟩; have T4a := Lib.hid (T3.out.trans (bel_le hb T3.out.size)); have T4 := Lib.hid (T4a.out.alloc T4a.out.size (.cells #[.int .i64 4, .int .i64 (C 0 : Nat), .int .i64 (C 1 : Nat), .int .i64 (C 2 : Nat), .int .i64 (C 3 : Nat), .int .i64 (C 4 : Nat)] 24)); have RT4 := Lib.hid (row_new w4 4 (C 0 : Nat) (C 1 : Nat) (C 2 : Nat) (C 3 : Nat) (C 4 : Nat)); have RB := Lib.hid (row_alloc (row_below RA.out hb) (.cells #[.int .i64 4, .int .i64 (C 0 : Nat), .int .i64 (C 1 : Nat), .int .i64 (C 2 : Nat), .int .i64 (C 3 : Nat), .int .i64 (C 4 : Nat)] 24)); have RC := Lib.hid (row_alloc (row_below RT3.out hb) (.cells #[.int .i64 4, .int .i64 (C 0 : Nat), .int .i64 (C 1 : Nat), .int .i64 (C 2 : Nat), .int .i64 (C 3 : Nat), .int .i64 (C 4 : Nat)] 24)); obtain ⟨p0, p1, p2, p3, p4, p5⟩ := RB.out; obtain ⟨q0, q1, q2, q3, q4, q5⟩ := RC.out; clear hb)
    | (go_at_call 26; with_reducible refine (HP4.out _ T4.out).mono ?_; rintro e w5 ⟨rfl, hb⟩; have T5a := Lib.hid (T4.out.trans (bel_le hb T4.out.size)); have T5 := Lib.hid (T5a.out.alloc T5a.out.size (.cells #[.int .i64 4, .int .i64 (C 0 : Nat), .int .i64 (C 1 : Nat), .int .i64 (C 2 : Nat), .int .i64 (C 3 : Nat), .int .i64 (C 4 : Nat)] 24)); have RT5 := Lib.hid (row_new w5 4 (C 0 : Nat) (C 1 : Nat) (C 2 : Nat) (C 3 : Nat) (C 4 : Nat)); have RD := Lib.hid (row_alloc (row_below RT4.out hb) (.cells #[.int .i64 4, .int .i64 (C 0 : Nat), .int .i64 (C 1 : Nat), .int .i64 (C 2 : Nat), .int .i64 (C 3 : Nat), .int .i64 (C 4 : Nat)] 24)); obtain ⟨u0, u1, u2, u3, u4, u5⟩ := RD.out; obtain ⟨v0, v1, v2, v3, v4, v5⟩ := RT5.out; clear hb)
    | (go_at_call 19; with_reducible refine (HO1.out _ T5.out).mono ?_; rintro e w6 ⟨rfl, hb⟩; have T6 := Lib.hid (T5.out.trans (bel_le hb T5.out.size)); clear hb)
    | (go_at_call 19; with_reducible refine (HO2.out _ T6.out).mono ?_; rintro e w7 ⟨rfl, hb⟩; have T7 := Lib.hid (T6.out.trans (bel_le hb T6.out.size)); clear hb)
    | (go_at_call 17; with_reducible refine (HF.out _ T7.out).mono ?_; rintro e w8 ⟨rfl, hb⟩; have T8 := Lib.hid (T7.out.trans (bel_le hb T7.out.size)); clear hb)
    | (go_at_call 13; with_reducible refine (HA.out _ T8.out).mono ?_; rintro e w9 ⟨rfl, hb⟩; have T9 := Lib.hid (T8.out.trans (bel_le hb T8.out.size)); clear hb)
  go_ret
  exact ⟨rfl, T9.out⟩
set_option maxRecDepth 100000 in
set_option maxHeartbeats 4000000 in
theorem joins_5 {w : World} (a a' : Option Addr) (len cap K x : Nat) (A D C : Nat → Nat) (E L F : Int) (hx : x < 256) (hl : len ≤ 12) (hK : x % (len + 1) = K)
    (hA : ∀ w1, Below w.heap.size w w1 → Calls Tryd.prog 13 #[] w1 fun e w' => e = .returned (.bool true) ∧ Below w1.heap.size w1 w')
    (h25 : ∀ w1, Below w.heap.size w w1 → Calls Tryd.prog 25 #[.int .i64 5, .slice a len cap] w1 fun e w' => e = .returned (.bool true) ∧ Below w1.heap.size w1 w')
    (hs1 : ∀ w1 : World, (Instr.sliceAt 39 (.slice a len cap) none (some (.int .i64 (K : Int))) none).run Tryd.prog w1 = .ok (.slice a K cap) w1)
    (hs2 : ∀ w1 : World, (Instr.sliceAt 39 (.slice a len cap) (some (.int .i64 (K : Int))) none none).run Tryd.prog w1 = .ok (.slice a' (len - K) (cap - K)) w1)
    (hp1 : ∀ w1, Below w.heap.size w w1 → Calls Tryd.prog 21 #[.int .i64 5, .slice a K cap] w1 fun e w' => e = .returned (.tuple #[.agg #[.int .i64 5, .int .i64 (A 0 : Nat), .int .i64 (A 1 : Nat), .int .i64 (A 2 : Nat), .int .i64 (A 3 : Nat), .int .i64 (A 4 : Nat)], .int .i64 0]) ∧ Below w1.heap.size w1 w')
    (hp2 : ∀ w1, Below w.heap.size w w1 → Calls Tryd.prog 21 #[.int .i64 5, .slice a' (len - K) (cap - K)] w1 fun e w' => e = .returned (.tuple #[.agg #[.int .i64 5, .int .i64 (D 0 : Nat), .int .i64 (D 1 : Nat), .int .i64 (D 2 : Nat), .int .i64 (D 3 : Nat), .int .i64 (D 4 : Nat)], .int .i64 0]) ∧ Below w1.heap.size w1 w')
    (hp3 : ∀ w1, Below w.heap.size w w1 → Calls Tryd.prog 21 #[.int .i64 5, .slice a len cap] w1 fun e w' => e = .returned (.tuple #[.agg #[.int .i64 5, .int .i64 (C 0 : Nat), .int .i64 (C 1 : Nat), .int .i64 (C 2 : Nat), .int .i64 (C 3 : Nat), .int .i64 (C 4 : Nat)], .int .i64 0]) ∧ Below w1.heap.size w1 w')
    (hp4 : ∀ w1, Below w.heap.size w w1 → Calls Tryd.prog 26 #[.agg #[.int .i64 5, .int .i64 (A 0 : Nat), .int .i64 (A 1 : Nat), .int .i64 (A 2 : Nat), .int .i64 (A 3 : Nat), .int .i64 (A 4 : Nat)], .agg #[.int .i64 5, .int .i64 (D 0 : Nat), .int .i64 (D 1 : Nat), .int .i64 (D 2 : Nat), .int .i64 (D 3 : Nat), .int .i64 (D 4 : Nat)]] w1 fun e w' => e = .returned (.tuple #[.agg #[.int .i64 5, .int .i64 (C 0 : Nat), .int .i64 (C 1 : Nat), .int .i64 (C 2 : Nat), .int .i64 (C 3 : Nat), .int .i64 (C 4 : Nat)], .int .i64 0]) ∧ Below w1.heap.size w1 w')
    (ho1 : ∀ w1, Below w.heap.size w w1 → Calls Tryd.prog 19 #[.int .i64 5, .slice a K cap] w1 fun e w' => e = .returned (.tuple #[.int .i64 E, .int .i64 0]) ∧ Below w1.heap.size w1 w')
    (ho2 : ∀ w1, Below w.heap.size w w1 → Calls Tryd.prog 19 #[.int .i64 5, .slice a len cap] w1 fun e w' => e = .returned (.tuple #[.int .i64 L, .int .i64 0]) ∧ Below w1.heap.size w1 w')
    (hf : ∀ w1, Below w.heap.size w w1 → Calls Tryd.prog 17 #[.int .i64 5, .slice a len cap] w1 fun e w' => e = .returned (.tuple #[.int .i64 F, .int .i64 0]) ∧ Below w1.heap.size w1 w')
    (b1 : bits .andNot .i64 L E = 0) (b2 : bits .and .i64 L F = 0) (b3 : bits .or .i64 L F = 31) :
    Calls Tryd.prog 7 #[.int .i64 5, .slice a len cap, .int .u8 (x : Int)] w fun e w' => e = .returned (.bool true) ∧ Below w.heap.size w w' := by
  have HA := Lib.hid hA
  have H25 := Lib.hid h25
  have HP1 := Lib.hid hp1
  have HP2 := Lib.hid hp2
  have HP3 := Lib.hid hp3
  have HP4 := Lib.hid hp4
  have HO1 := Lib.hid ho1
  have HO2 := Lib.hid ho2
  have HF := Lib.hid hf
  clear hA h25 hp1 hp2 hp3 hp4 ho1 ho2 hf
  obtain ⟨hx1, hx2⟩ := small_wrap (show x ≤ 1000 by omega)
  obtain ⟨hl1, hl2, hl3, hl4, hl5⟩ := succ_wrap (show len ≤ 1000 by omega)
  have hm := rem_nat hK
  obtain ⟨hk1, hk2⟩ := small_wrap (part_le hK hl)
  have he9 := arr_known (r0 := (C 0 : Nat)) (r1 := (C 1 : Nat)) (r2 := (C 2 : Nat)) (r3 := (C 3 : Nat)) (r4 := (C 4 : Nat)) (s0 := (C 0 : Nat)) (s1 := (C 1 : Nat)) (s2 := (C 2 : Nat)) (s3 := (C 3 : Nat)) (s4 := (C 4 : Nat)) (d := true) (by simp) 9997
  have he8 := arr_known (r0 := (C 0 : Nat)) (r1 := (C 1 : Nat)) (r2 := (C 2 : Nat)) (r3 := (C 3 : Nat)) (r4 := (C 4 : Nat)) (s0 := (C 0 : Nat)) (s1 := (C 1 : Nat)) (s2 := (C 2 : Nat)) (s3 := (C 3 : Nat)) (s4 := (C 4 : Nat)) (d := true) (by simp) 9996
  clear hK hx hl
  have T0 := Lib.hid (Below.refl w.heap.size w)
  go_enter Tryd.func7, Tryd.ntmps7
  go_wp2_with first
    | (go_at_call 25; with_reducible refine (H25.out _ T0.out).mono ?_; rintro e w1 ⟨rfl, hb⟩; have T1 := Lib.hid (T0.out.trans (bel_le hb T0.out.size)); clear hb)
    | (go_at_call 21; with_reducible refine (HP1.out _ T1.out).mono ?_; rintro e w2 ⟨rfl, hb⟩; have T2a := Lib.hid (T1.out.trans (bel_le hb T1.out.size)); have T2 := Lib.hid (T2a.out.alloc T2a.out.size (.cells #[.int .i64 5, .int .i64 (A 0 : Nat), .int .i64 (A 1 : Nat), .int .i64 (A 2 : Nat), .int .i64 (A 3 : Nat), .int .i64 (A 4 : Nat)] 24)); have RT2 := Lib.hid (row_new w2 5 (A 0 : Nat) (A 1 : Nat) (A 2 : Nat) (A 3 : Nat) (A 4 : Nat)); clear hb)
    | (go_at_call 21; with_reducible refine (HP2.out _ T2.out).mono ?_; rintro e w3 ⟨rfl, hb⟩; have T3a := Lib.hid (T2.out.trans (bel_le hb T2.out.size)); have T3 := Lib.hid (T3a.out.alloc T3a.out.size (.cells #[.int .i64 5, .int .i64 (D 0 : Nat), .int .i64 (D 1 : Nat), .int .i64 (D 2 : Nat), .int .i64 (D 3 : Nat), .int .i64 (D 4 : Nat)] 24)); have RT3 := Lib.hid (row_new w3 5 (D 0 : Nat) (D 1 : Nat) (D 2 : Nat) (D 3 : Nat) (D 4 : Nat)); have RA := Lib.hid (row_alloc (row_below RT2.out hb) (.cells #[.int .i64 5, .int .i64 (D 0 : Nat), .int .i64 (D 1 : Nat), .int .i64 (D 2 : Nat), .int .i64 (D 3 : Nat), .int .i64 (D 4 : Nat)] 24)); clear hb)
    | (go_at_call 21; with_reducible refine (HP3.out _ T3.out).mono ?_; rintro e w4 ⟨rfl, hb⟩; have T4a := Lib.hid (T3.out.trans (bel_le hb T3.out.size)); have T4 := Lib.hid (T4a.out.alloc T4a.out.size (.cells #[.int .i64 5, .int .i64 (C 0 : Nat), .int .i64 (C 1 : Nat), .int .i64 (C 2 : Nat), .int .i64 (C 3 : Nat), .int .i64 (C 4 : Nat)] 24)); have RT4 := Lib.hid (row_new w4 5 (C 0 : Nat) (C 1 : Nat) (C 2 : Nat) (C 3 : Nat) (C 4 : Nat)); have RB := Lib.hid (row_alloc (row_below RA.out hb) (.cells #[.int .i64 5, .int .i64 (C 0 : Nat), .int .i64 (C 1 : Nat), .int .i64 (C 2 : Nat), .int .i64 (C 3 : Nat), .int .i64 (C 4 : Nat)] 24)); have RC := Lib.hid (row_alloc (row_below RT3.out hb) (.cells #[.int .i64 5, .int .i64 (C 0 : Nat), .int .i64 (C 1 : Nat), .int .i64 (C 2 : Nat), .int .i64 (C 3 : Nat), .int .i64 (C 4 : Nat)] 24)); obtain ⟨p0, p1, p2, p3, p4, p5⟩ := RB.out; obtain ⟨q0, q1, q2, q3, q4, q5⟩ := RC.out; clear hb)
    | (go_at_call 26; with_reducible refine (HP4.out _ T4.out).mono ?_; rintro e w5 ⟨rfl, hb⟩; have T5a := Lib.hid (T4.out.trans (bel_le hb T4.out.size)); have T5 := Lib.hid (T5a.out.alloc T5a.out.size (.cells #[.int .i64 5, .int .i64 (C 0 : Nat), .int .i64 (C 1 : Nat), .int .i64 (C 2 : Nat), .int .i64 (C 3 : Nat), .int .i64 (C 4 : Nat)] 24)); have RT5 := Lib.hid (row_new w5 5 (C 0 : Nat) (C 1 : Nat) (C 2 : Nat) (C 3 : Nat) (C 4 : Nat)); have RD := Lib.hid (row_alloc (row_below RT4.out hb) (.cells #[.int .i64 5, .int .i64 (C 0 : Nat), .int .i64 (C 1 : Nat), .int .i64 (C 2 : Nat), .int .i64 (C 3 : Nat), .int .i64 (C 4 : Nat)] 24)); obtain ⟨u0, u1, u2, u3, u4, u5⟩ := RD.out; obtain ⟨v0, v1, v2, v3, v4, v5⟩ := RT5.out; clear hb)
    | (go_at_call 19; with_reducible refine (HO1.out _ T5.out).mono ?_; rintro e w6 ⟨rfl, hb⟩; have T6 := Lib.hid (T5.out.trans (bel_le hb T5.out.size)); clear hb)
    | (go_at_call 19; with_reducible refine (HO2.out _ T6.out).mono ?_; rintro e w7 ⟨rfl, hb⟩; have T7 := Lib.hid (T6.out.trans (bel_le hb T6.out.size)); clear hb)
    | (go_at_call 17; with_reducible refine (HF.out _ T7.out).mono ?_; rintro e w8 ⟨rfl, hb⟩; have T8 := Lib.hid (T7.out.trans (bel_le hb T7.out.size)); clear hb)
    | (go_at_call 13; with_reducible refine (HA.out _ T8.out).mono ?_; rintro e w9 ⟨rfl, hb⟩; have T9 := Lib.hid (T8.out.trans (bel_le hb T8.out.size)); clear hb)
  go_ret
  exact ⟨rfl, T9.out⟩
set_option maxRecDepth 100000 in
set_option maxHeartbeats 1000000 in
theorem joins_still {w : World} {e0 e1 : TypeId} (hH : Held w (tabs e0 e1)) (hM : Len w) (n : Int) (v y : Value) (h25 : Calls Tryd.prog 25 #[.int .i64 n, v] w fun e w' => e = .returned (.bool false) ∧ Below w.heap.size w w') :
    Calls Tryd.prog 7 #[.int .i64 n, v, y] w fun e w' => e = .returned (.bool true) ∧ Below w.heap.size w w' := by
  have HH := Lib.hid hH
  have HM := Lib.hid hM
  have H25 := Lib.hid h25
  clear hH hM h25
  go_enter Tryd.func7, Tryd.ntmps7
  go_wp2_with first
    | (go_at_call 25; refine (H25.out).mono ?_; rintro e w1 ⟨rfl, hb1⟩; have T1 := Lib.hid hb1; clear hb1)
    | (go_at_call 13; refine (still_true HH.out HM.out T1.out).mono ?_; rintro e w2 ⟨rfl, hb2⟩; have T2 := Lib.hid (T1.out.trans (bel_le hb2 T1.out.size)))
  go_ret
  exact ⟨rfl, T2.out⟩
theorem bool_and {p q : Bool} (h : (p && q) = true) : p = true ∧ q = true := by simpa using h
theorem roundJoins_walk {w : World} {e0 e1 : TypeId} (hH : Held w (tabs e0 e1)) (hM : Len w) (n : Int) {v : Value} {l : List Rd} (h : WordTop w v l) (x : Int) (hx : (Lit.int .u8 x).wf = true) :
    Calls Tryd.prog 7 #[.int .i64 n, v, .int .u8 x] w fun e w' => e = .returned (.bool true) ∧ Below w.heap.size w w' := by
  obtain ⟨a, len, cap, b, off, rfl, hi⟩ := h
  have hgood := fun (w1 : World) (hb : Below w.heap.size w w1) => good_any n (wordR n l) a len cap w1 (word_any n (hi.at.below hb))
  cases hg : decide (len ≤ 12) && (wordR n l == 0) with
  | false =>
    rw [hg] at hgood
    exact joins_still hH hM n _ _ (hgood w (Below.refl _ _))
  | true =>
    rw [hg] at hgood
    obtain ⟨h12, h0⟩ := bool_and hg
    have h12 : len ≤ 12 := of_decide_eq_true h12
    have h0 : wordR n l = 0 := by simpa using h0
    obtain ⟨k, g, rfl, h1, h5, _, _⟩ := word_zero h0
    have hxb : 0 ≤ x ∧ x ≤ 255 := bounds_u8 hx
    obtain ⟨m, rfl⟩ := Int.eq_ofNat_of_zero_le hxb.1
    have hm : m < 256 := by omega
    obtain ⟨K, hK⟩ : ∃ K, m % (len + 1) = K := ⟨_, rfl⟩
    have hKl : K ≤ len := by have := Nat.mod_lt m (show 0 < len + 1 by omega); omega
    have hlen := hi.size
    have ht0 := word_take h0 (K := K) (by omega)
    have hd0 := word_drop h0 (K := K) (by omega)
    have hwl := word0 h1 h5 h0
    have hcalm := fun (w1 : World) (hb : Below w.heap.size w w1) => still_true hH hM hb
    have lt : (l.take K).length = K := by rw [List.length_take]; omega
    have ld : (l.drop K).length = len - K := by rw [List.length_drop]; omega
    have hp1 := fun (w1 : World) (hb : Below w.heap.size w w1) => product_any k ((hi.take hKl).at.below hb)
    have hp2 := fun (w1 : World) (hb : Below w.heap.size w w1) => product_any k ((hi.drop hKl).at.below hb)
    have hp3 := fun (w1 : World) (hb : Below w.heap.size w w1) => product_any k (hi.at.below hb)
    have hp4 := fun (w1 : World) (_ : Below w.heap.size w w1) => product_wf (hwl.wf K (by omega)) ((word0 h1 h5 hd0).wf (len - K) (by omega)) w1
    rw [wprod_drop (hwl.wf K (by omega)) (len - K), show K + (len - K) = len by omega] at hp4
    unfold pairV at hp4
    simp only [prodR, ht0, hd0, h0, ne_eq, not_true_eq_false, if_false, lt, ld, hlen, Int.toNat_natCast, wprod_take (Nat.le_refl K), pairV] at hp1 hp2 hp3
    have ho1 := fun (w1 : World) (hb : Below w.heap.size w w1) => obliged_any k ((hi.take hKl).at.below hb)
    have ho2 := fun (w1 : World) (hb : Below w.heap.size w w1) => obliged_any k (hi.at.below hb)
    have hf := fun (w1 : World) (hb : Below w.heap.size w w1) => faulty_any k (hi.at.below hb) (word_any k (hi.at.below hb))
    simp only [obligedR, faultyR, ht0, h0, ne_eq, not_true_eq_false, if_false, lt, hlen, Int.toNat_natCast, before_take (Nat.le_refl K)] at ho1 ho2 hf
    obtain ⟨g1, eg1, l1⟩ := before_nat h0 K (by omega)
    obtain ⟨g2, eg2, l2⟩ := before_nat h0 len (by omega)
    have hgr := before_grows h5 h0 (K := K) (len - K) (by omega)
    rw [show K + (len - K) = len by omega, eg1, eg2] at hgr
    obtain ⟨b1, b2, b3⟩ := oblige_facts (show k < 6 by omega) l1 l2 hgr
    rw [eg1] at ho1
    rw [eg2] at ho2 hf
    have hs1 := slice_to a len cap K hKl hi.room
    have hs2 := slice_from a len cap K hKl
    rcases (by omega : k = 1 ∨ k = 2 ∨ k = 3 ∨ k = 4 ∨ k = 5) with rfl | rfl | rfl | rfl | rfl
    · exact joins_1 a _ len cap K m _ _ _ _ _ _ hm h12 hK hcalm hgood hs1 hs2 hp1 hp2 hp3 hp4 ho1 ho2 hf b1 b2 b3
    · exact joins_2 a _ len cap K m _ _ _ _ _ _ hm h12 hK hcalm hgood hs1 hs2 hp1 hp2 hp3 hp4 ho1 ho2 hf b1 b2 b3
    · exact joins_3 a _ len cap K m _ _ _ _ _ _ hm h12 hK hcalm hgood hs1 hs2 hp1 hp2 hp3 hp4 ho1 ho2 hf b1 b2 b3
    · exact joins_4 a _ len cap K m _ _ _ _ _ _ hm h12 hK hcalm hgood hs1 hs2 hp1 hp2 hp3 hp4 ho1 ho2 hf b1 b2 b3
    · exact joins_5 a _ len cap K m _ _ _ _ _ _ hm h12 hK hcalm hgood hs1 hs2 hp1 hp2 hp3 hp4 ho1 ho2 hf b1 b2 b3
end Go.Proofs.YtlineonmpbdkgaaDoor.Word
