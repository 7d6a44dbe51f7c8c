/-
  What is faulty at the end of a word: the program's and the reference's.
-/
import Derived.Test.YtlineonmpbdkgaaDoorEvRoWord
import Derived.Shelf.Abstract
namespace Go.Proofs.YtlineonmpbdkgaaDoor.Word
open Go Go.RowKit Go.Graph Go.Law
open Go.Proofs.YtlineonmpbdkgaaDoor.Graph

attribute [local go_sem] Oper.semAt_some

/-- A block that holds a round. -/
def BoxRd (W : World) (p : Nat) (x : Rd) : Prop := W.heap[p]? = some (.cells #[.int .i64 x.n, .int .i64 x.r0, .int .i64 x.r1, .int .i64 x.r2, .int .i64 x.r3, .int .i64 x.r4, .int .i64 x.f] 26 (0, 0))
theorem BoxRd.lt {W : World} {p : Nat} {x : Rd} (h : BoxRd W p x) : p < W.heap.size := (Array.getElem?_eq_some_iff.1 h).1
theorem BoxRd.below {A B : World} {p : Nat} {x : Rd} (h : BoxRd A p x) (hb : Below A.heap.size A B) : BoxRd B p x := (hb.block p h.lt).trans h
theorem BoxRd.cells {W : World} {p : Nat} {x : Rd} (h : BoxRd W p x) : W.cell? ⟨p, 0, none⟩ = some (.int .i64 x.n) ∧ W.cell? ⟨p, 1, none⟩ = some (.int .i64 x.r0) ∧ W.cell? ⟨p, 2, none⟩ = some (.int .i64 x.r1) ∧ W.cell? ⟨p, 3, none⟩ = some (.int .i64 x.r2) ∧ W.cell? ⟨p, 4, none⟩ = some (.int .i64 x.r3) ∧ W.cell? ⟨p, 5, none⟩ = some (.int .i64 x.r4) ∧ W.cell? ⟨p, 6, none⟩ = some (.int .i64 x.f) := by
  refine ⟨?_, ?_, ?_, ?_, ?_, ?_, ?_⟩ <;> simp [World.cell?, show W.heap[p]? = _ from h]
theorem boxed_below {A B : World} {k : Nat} {t : TypeId} {v : Value} (hb : Below A.heap.size A B) (h : Boxed A k t v) : Boxed B k t v := (hb.block k h.lt).trans h
theorem keeps_below {A B : World} {k : Nat} (hb : Below A.heap.size A B) : KeepsFrom k A B := ⟨hb.size, fun i _ _ hi _ => (hb.block i (Array.getElem?_eq_some_iff.1 hi).1).trans hi⟩

set_option maxRecDepth 100000 in
set_option maxHeartbeats 2000000 in
theorem word_scan (n : Nat) (h1 : 1 ≤ n) (h5 : n ≤ 5) (b off len cap : Nat) (a : Option Addr) (ha : 0 < len → a = some ⟨b, off, none⟩) (zs : List Rd) (hlen : len ≤ 1024) (w : World) (hc : RdAt w b off len zs) (hb : 0 < len → b < w.heap.size) :
    Calls Tryd.prog 23 #[.int .i64 n, .slice a len cap] w fun e w' => e = .returned (.int .i64 (scanP n (seqTo zs len))) ∧ Below w.heap.size w w' := by
  have HA := Lib.hid (all_ok n h1 h5)
  generalize ((2 ^ n - 1 : Nat) : Int) = q at HA
  have f52 : Fence.wide.fn 52 := trivial
  have f53 : Fence.wide.fn 53 := trivial
  have f9 : Fence.wide.fn 9 := trivial
  have hle : ¬ (1024 : Int) < len := by omega
  refine (callsIn_wide (n := 3)).1 (callsIn_of_wp_marks (F := Fence.wide) Tryd.func23 rfl trivial ?_ rfl)
  simp only [Tryd.ntmps23, List.size_toArray, List.length_cons, List.length_nil, Nat.reduceAdd, Nat.reduceSub, Array.replicate_succ, Array.replicate_zero, List.push_toArray, List.append_toArray, List.nil_append, List.cons_append]
  gi_wp2_with (first | (gi_at_call 52; refine (callsIn_wide.2 (HA.out _)).mono ?_; rintro e w' ⟨rfl, rfl⟩) | (gi_at_call 53; refine (callsIn_wide.2 (steps_call _ _ _ _)).mono ?_; rintro e w' ⟨rfl, rfl⟩))
  have bN := ((Boxed.new w 3 (.int .i64 n)).alloc (.cells #[.int .i64 0] 27)).alloc (.cells #[.slice a len cap] 39)
  have bR := (Boxed.new (w.alloc (.cells #[.int .i64 n] 3)) 27 (.int .i64 0)).alloc (.cells #[.slice a len cap] 39)
  have bL := Boxed.new ((w.alloc (.cells #[.int .i64 n] 3)).alloc (.cells #[.int .i64 0] 27)) 39 (.slice a len cap)
  simp only [World.size_alloc] at bR bL
  have hB0 : Below w.heap.size w (((w.alloc (.cells #[.int .i64 n] 3)).alloc (.cells #[.int .i64 0] 27)).alloc (.cells #[.slice a len cap] 39)) := (((Below.refl _ w).alloc (Nat.le_refl _) _).alloc (by simp) _).alloc (by simp; omega) _
  have hsz : (((w.alloc (.cells #[.int .i64 n] 3)).alloc (.cells #[.int .i64 0] 27)).alloc (.cells #[.slice a len cap] 39)).heap.size = w.heap.size + 3 := by simp
  obtain ⟨W0, hW0⟩ : ∃ W0, ((w.alloc (.cells #[.int .i64 n] 3)).alloc (.cells #[.int .i64 0] 27)).alloc (.cells #[.slice a len cap] 39) = W0 := ⟨_, rfl⟩
  rw [hW0] at bN bR bL hB0 hsz ⊢
  clear hW0
  refine wpIn_rangeFunc_ownH (F := Fence.wide) rfl (by omega) (gf := 76) (lb := #[.pointer (some ⟨w.heap.size + 1 + 1, 0, none⟩)]) rfl trivial (enters_of Tryd.func76 (by kernel_rfl) rfl)
    (steps_stops Fence.wide 2 trivial rfl (by omega) (w.heap.size + 1 + 1) b off len cap a ha zs hlen W0 bL.cell (fun k hk i hi => (hB0.cell (p := ⟨b, off + k * 7 + i, none⟩) (hb (by omega))).trans (hc k hk i hi)) (fun h => Nat.lt_of_lt_of_le (hb h) hB0.size) bL.lt)
    (fun h k => h.trans k) (fun W l o o' hl h hc hw => Kept.put (w := W0) W l o o' hl h hc hw) (Below.refl _ _) (fun _ => rfl)
    (fun pre W => ((scanP n pre = 0 ∧ Boxed W (w.heap.size + 1) 27 (.int .i64 0)) ∧ Boxed W w.heap.size 3 (.int .i64 n)) ∧ Below w.heap.size w W)
    (fun c pre W => ((c = .ret ∧ scanP n pre ≠ 0) ∧ Boxed W (w.heap.size + 1) 27 (.int .i64 (scanP n pre))) ∧ Below w.heap.size w W)
    (OwnFrom.and (OwnFrom.and (OwnFrom.and (ownFrom_pure _ _) (Own.from (boxed_own _ _ _) _)) (Own.from (boxed_own _ _ _) _)) (ownFrom_below (Nat.le_refl _) (by omega)))
    (fun c => OwnFrom.and (OwnFrom.and (ownFrom_pure _ _) (Own.from (boxed_own _ _ _) _)) (ownFrom_below (Nat.le_refl _) (by omega)))
    ⟨⟨⟨rfl, bR⟩, bN⟩, hB0⟩
    (fun x a' W => ∃ p, w.heap.size + 1 < p ∧ BoxRd W p x.2 ∧ a' = { tmps := #[.int .i64 n, .slice a len cap, .pointer (some ⟨w.heap.size, 0, none⟩), undef, .pointer (some ⟨w.heap.size + 1, 0, none⟩), .int .i64 q, .int .i64 0, .int .i64 x.1, .pointer (some ⟨p, 0, none⟩), undef, .tuple #[.int .i64 q, .int .i64 0], .int .i64 n, .tuple #[.int .i64 q, .int .i64 0], .int .i64 q, .int .i64 0, .int .i64 0, .bool false, undef, .slice a len cap, .int .i64 len, .bool false, .slice a len cap, .func (.func 76) #[] #[.pointer (some ⟨w.heap.size + 1 + 1, 0, none⟩)], .int .i64 x.1, x.2.v, undef, undef, undef, undef, undef, undef, undef, undef, undef, undef, undef, undef, undef, undef, undef], defers := [] })
    (fun x a' _ X Y row hs hg hr => by
      obtain ⟨p, e1, e2, e3⟩ := hs
      refine ⟨p, e1, (hg.block p e2.lt (fun e' => ?_)).trans e2, e3⟩
      obtain ⟨_, o, ho, hco⟩ := hr p e'.symm
      rw [show X.heap[p]? = _ from e2] at ho; cases ho; cases hco)
    ?assign ?body ?done ?stop
  case assign =>
    rintro l pre x W K ⟨⟨⟨hp, bR1⟩, bN1⟩, hB1⟩ hK
    simp only [Rd.v]
    gi_wp2
    exact hK _ _ ((KeepsOthers.alloc _ _).from _) (Kept.of_below ((Below.refl _ W).alloc (Nat.le_refl _) _)) ⟨⟨⟨hp, bR1.alloc _⟩, bN1.alloc _⟩, hB1.alloc hB1.size _⟩ ⟨W.heap.size, bR1.lt, World.alloc_heap_new W _, rfl⟩
  case body =>
    rintro l pre x a' W hl ⟨r, hr⟩ ⟨⟨⟨hp, bR1⟩, bN1⟩, hB1⟩ ⟨p, hpx, bX, rfl⟩ hlt
    have hbl := hB1.size
    clear ha hb hc bN bR bL hB0 hlt hl hr hlen HA f52 f53 hle
    have HE := Lib.hid (scanP_succ n pre x)
    rw [hp, if_neg (by simp)] at HE
    unfold err at HE
    obtain ⟨y, m, r0, r1, r2, r3, r4, g⟩ := x
    simp only at HE bX ⊢
    obtain ⟨c0, c1, c2, c3, c4, c5, c6⟩ := bX.cells
    simp only at c0 c1 c2 c3 c4 c5 c6
    simp only [Rd.v]
    have HC : Hid (∀ (k : Nat) (W1 : World), CallsIn (Fence.wide.inRound l) k Tryd.prog 9 #[.agg #[.int .i64 m, .int .i64 r0, .int .i64 r1, .int .i64 r2, .int .i64 r3, .int .i64 r4, .int .i64 g]] W1 fun e w' => e = .returned (.int .i64 (rcheck m [r0, r1, r2, r3, r4] g)) ∧ Below W1.heap.size W1 w') := Lib.hid fun k W1 => CallsIn.inRound l (callsIn_wide.2 (round_check m r0 r1 r2 r3 r4 g W1))
    by_cases hc0 : rcheck m [r0, r1, r2, r3, r4] g = 0
    · rw [if_neg (by simpa using hc0)] at HE
      rw [hc0] at HC
      clear hc0
      by_cases hn0 : m = (n : Int)
      · rw [if_neg (by simpa using hn0)] at HE
        subst hn0
        cases han : (bits .andNot .i64 y g != 0) with
        | true =>
          rw [han, if_pos rfl] at HE
          gi_wp2_with (gi_at_call 9; refine (HC.out _ _).mono ?_; rintro e w1 ⟨rfl, hb1⟩; have hbs := hb1.size; have bX2 := bX.below hb1; obtain ⟨e0, e1, e2, e3, e4, e5, e6⟩ := bX2.cells; simp only at e0 e1 e2 e3 e4 e5 e6; clear e1 e2 e3 e4 e5 c0 c1 c2 c3 c4 c5 c6; have bR2 := boxed_below hb1 bR1; have cR := bR2.cell; have fR := bR2.frozen; have bN2 := boxed_below hb1 bN1; have cN2 := bN2.cell; have HB := Lib.hid (hB1.trans (hb1.mono hB1.size)); have HK := Lib.hid (fun k => keeps_below (k := k) hb1); have HP := Lib.hid (Kept.of_below hb1); clear hb1)
          exact ⟨(HK.out _).trans ((KeepsOthers.setCell _ _ _).from _), ⟨⟨rfl, by rw [HE.out]; decide⟩, by rw [HE.out]; exact bR2.set _⟩, HB.out.setCell (p := ⟨w.heap.size + 1, 0, none⟩) (by simp) _⟩
        | false =>
          rw [han, if_neg (by simp)] at HE
          gi_wp2_with (gi_at_call 9; refine (HC.out _ _).mono ?_; rintro e w1 ⟨rfl, hb1⟩; have hbs := hb1.size; have bX2 := bX.below hb1; obtain ⟨e0, e1, e2, e3, e4, e5, e6⟩ := bX2.cells; simp only at e0 e1 e2 e3 e4 e5 e6; clear e1 e2 e3 e4 e5 c0 c1 c2 c3 c4 c5 c6; have bR2 := boxed_below hb1 bR1; have cR := bR2.cell; have fR := bR2.frozen; have bN2 := boxed_below hb1 bN1; have cN2 := bN2.cell; have HB := Lib.hid (hB1.trans (hb1.mono hB1.size)); have HK := Lib.hid (fun k => keeps_below (k := k) hb1); have HP := Lib.hid (Kept.of_below hb1); clear hb1)
          exact ⟨HK.out _, HP.out, ⟨⟨HE.out, bR2⟩, bN2⟩, HB.out⟩
      · rw [if_pos hn0] at HE
        have hnb : (m != (n : Int)) = true := by simpa using hn0
        gi_wp2_with (gi_at_call 9; refine (HC.out _ _).mono ?_; rintro e w1 ⟨rfl, hb1⟩; have hbs := hb1.size; have bX2 := bX.below hb1; obtain ⟨e0, e1, e2, e3, e4, e5, e6⟩ := bX2.cells; simp only at e0 e1 e2 e3 e4 e5 e6; clear e1 e2 e3 e4 e5 c0 c1 c2 c3 c4 c5 c6; have bR2 := boxed_below hb1 bR1; have cR := bR2.cell; have fR := bR2.frozen; have bN2 := boxed_below hb1 bN1; have cN2 := bN2.cell; have HB := Lib.hid (hB1.trans (hb1.mono hB1.size)); have HK := Lib.hid (fun k => keeps_below (k := k) hb1); have HP := Lib.hid (Kept.of_below hb1); clear hb1)
        exact ⟨(HK.out _).trans ((KeepsOthers.setCell _ _ _).from _), ⟨⟨rfl, by rw [HE.out]; decide⟩, by rw [HE.out]; exact bR2.set _⟩, HB.out.setCell (p := ⟨w.heap.size + 1, 0, none⟩) (by simp) _⟩
    · rw [if_pos hc0] at HE
      generalize rcheck m [r0, r1, r2, r3, r4] g = c at *
      have hcb : (c != 0) = true := by simpa using hc0
      gi_wp2_with (gi_at_call 9; refine (HC.out _ _).mono ?_; rintro e w1 ⟨rfl, hb1⟩; have hbs := hb1.size; have bX2 := bX.below hb1; obtain ⟨e0, e1, e2, e3, e4, e5, e6⟩ := bX2.cells; simp only at e0 e1 e2 e3 e4 e5 e6; clear e1 e2 e3 e4 e5 c0 c1 c2 c3 c4 c5 c6; have bR2 := boxed_below hb1 bR1; have cR := bR2.cell; have fR := bR2.frozen; have bN2 := boxed_below hb1 bN1; have cN2 := bN2.cell; have HB := Lib.hid (hB1.trans (hb1.mono hB1.size)); have HK := Lib.hid (fun k => keeps_below (k := k) hb1); have HP := Lib.hid (Kept.of_below hb1); clear hb1)
      exact ⟨(HK.out _).trans ((KeepsOthers.setCell _ _ _).from _), ⟨⟨rfl, by rw [HE.out]; exact hc0⟩, by rw [HE.out]; exact bR2.set _⟩, HB.out.setCell (p := ⟨w.heap.size + 1, 0, none⟩) (by simp) _⟩
  case done =>
    rintro D ys W hD rfl ⟨⟨⟨hp, bR1⟩, bN1⟩, hB1⟩ hK
    have cR := bR1.cell
    have fR := bR1.frozen
    gi_wp2
    have hK' := (KeepsOthers.setCell W ⟨w.heap.size + 1, 0, none⟩ (.int .i64 0)).same D _ hK rfl
    refine ⟨by simp, .inl ⟨_, _, rfl, run_takeDeferred hK', ?_⟩⟩
    have hc5 := cell_kept (bR1.set (.int .i64 0)).cell (grownBy_putObj' _ D (.deferred none)) (fun r e => by cases e; exact ⟨_, hK', rfl⟩)
    refine ⟨.int .i64 0, ?_, by rw [hp], (hB1.setCell (p := ⟨w.heap.size + 1, 0, none⟩) (by simp) _).trans (belowK_b (w := w) (Nat.le_refl _) _ D _ _ (by omega) hK' rfl rfl)⟩
    simp [results, Tryd.results23, go_sem, hc5]
  case stop =>
    rintro D c pre W hD ⟨k, hk, rfl⟩ ⟨⟨⟨rfl, hne⟩, bR1⟩, hB1⟩ hK
    gi_wp2
    refine ⟨by simp, .inl ⟨_, _, rfl, run_takeDeferred hK, ?_⟩⟩
    have hc5 := cell_kept bR1.cell (grownBy_putObj' _ D (.deferred none)) (fun r e => by cases e; exact ⟨_, hK, rfl⟩)
    refine ⟨.int .i64 (scanP n (seqTo zs k)), ?_, by rw [scan_le n zs hk hne], hB1.trans (belowK_b (w := w) (Nat.le_refl _) W D _ _ (by omega) hK rfl rfl)⟩
    simp [results, Tryd.results23, go_sem, hc5]
end Go.Proofs.YtlineonmpbdkgaaDoor.Word
namespace Go.Proofs.YtlineonmpbdkgaaDoor.Word
open Go Go.RowKit Go.Graph Go.Law
open Go.Proofs.YtlineonmpbdkgaaDoor.Graph
open Go.Proofs.YtlineonmpbdkgaaDoor.Col (has_any ret_int ret_bool)

theorem word_any (n : Int) {W : World} {v : Value} {l : List Rd} (h : WordAt W v l) : Calls Tryd.prog 23 #[.int .i64 n, v] W fun e w' => e = .returned (.int .i64 (wordR n l)) ∧ Below W.heap.size W w' := by
  unfold wordR
  by_cases hn : n < 1 ∨ 5 < n
  · rw [if_pos hn]; exact word_bad n hn v W
  · rw [if_neg hn]
    obtain ⟨k, rfl⟩ := Int.eq_ofNat_of_zero_le (show 0 ≤ n by omega)
    obtain ⟨a, cap, b, off, rfl, h1, h2, h3, h4⟩ := h
    by_cases hl : 1024 < l.length
    · rw [if_pos hl]; exact word_long k (by omega) (by omega) a l.length cap hl h4 W
    · rw [if_neg hl]; exact word_scan k (by omega) (by omega) b off l.length cap a h1 l (by omega) W h3 h2
theorem err_zero {n : Int} {x : Int × Rd} (h : err n x = 0) : rcheck x.2.n [x.2.r0, x.2.r1, x.2.r2, x.2.r3, x.2.r4] x.2.f = 0 ∧ x.2.n = n := by
  unfold err at h
  split at h
  · exact absurd h (by assumption)
  · split at h
    · exact absurd h (by decide)
    · rename_i h1 h2
      exact ⟨by simpa using h1, by simpa using h2⟩
theorem scan_zero {n : Int} {zs : List Rd} {k : Nat} (h : scanP n (seqTo zs (k + 1)) = 0) : scanP n (seqTo zs k) = 0 ∧ err n (before zs k, rd zs k) = 0 := by
  rw [seqTo_succ, scanP_succ] at h
  split at h
  · exact absurd h (by assumption)
  · rename_i h1
    exact ⟨by simpa using h1, h⟩
theorem rcheck_f {m : Int} {r : List Int} {g : Int} (h : rcheck m r g = 0) : ∃ q : Nat, g = q ∧ q < 32 := by
  unfold rcheck at h
  split at h
  · exact absurd h (by assumption)
  · rename_i h1
    obtain ⟨e1, e5⟩ := check_size (show check m r = 0 by simpa using h1)
    split at h
    · exact absurd h (by decide)
    · rename_i h2
      have hp : 2 ^ m.toNat ≤ 32 := Nat.le_trans (Nat.pow_le_pow_right (by omega) (show m.toNat ≤ 5 by omega)) (by decide)
      generalize 2 ^ m.toNat = q at hp h2
      exact ⟨g.toNat, by omega, by omega⟩
def insideTo (a b k : Nat) : Bool := (List.range k).all fun p => !(a / 2 ^ p % 2 == 1) || (b / 2 ^ p % 2 == 1)
theorem insideTo_succ (a b k : Nat) : insideTo a b (k + 1) = (insideTo a b k && (!(a / 2 ^ k % 2 == 1) || (b / 2 ^ k % 2 == 1))) := by simp [insideTo, List.range_succ]
theorem inside_le {a b k m : Nat} (hk : k ≤ m) (h : insideTo a b k = false) : insideTo a b m = false := by
  induction m with
  | zero => obtain rfl : k = 0 := by omega
            exact h
  | succ m ih =>
    by_cases e : k = m + 1
    · rw [← e]; exact h
    · rw [insideTo_succ, ih (by omega)]; rfl
theorem andNot_inside : ∀ a : Nat, a < 32 → ∀ b : Nat, b < 32 → (bits .andNot .i64 (a : Int) (b : Int) != 0) = !insideTo a b 5 := by decide +kernel
set_option maxHeartbeats 1000000 in
theorem inside_any (a b : Nat) (ha : a < 32) (hb : b < 32) (w : World) : Calls Tryd.prog 55 #[.int .i64 a, .int .i64 b] w fun e w' => e = .returned (.bool (insideTo a b 5)) ∧ w = w' := by
  go_enter Tryd.func55, Tryd.ntmps55
  go_wp2
  go_loop [5] (fun i => ∃ k : Nat, k ≤ 5 ∧ i = .int .i64 k ∧ insideTo a b k = true) (fun i => 5 - (intOf i).toNat)
  case atStart => exact ⟨0, by omega, rfl, rfl⟩
  case round =>
    obtain ⟨k, hk, rfl, hin⟩ := hrel
    have HIN := Lib.hid hin
    clear hin
    by_cases hlt : k < 5
    · have HS := Lib.hid (insideTo_succ a b k)
      rw [HIN.out] at HS
      cases h1 : (a / 2 ^ k % 2 == 1) with
      | false =>
        rw [h1] at HS
        have H1 := Lib.hid h1
        clear h1
        go_wp2_with (go_at_call 62; refine (has_any _ _ (by first | exact ha | exact hb) hlt _).mono ?_; rintro e w' ⟨rfl, rfl⟩; rw [H1.out])
        go_round
        case rel => exact ⟨k + 1, by omega, by go_num, HS.out⟩
        case measure => simp [intOf]; omega
      | true =>
        rw [h1] at HS
        have H1 := Lib.hid h1
        clear h1
        cases h2 : (b / 2 ^ k % 2 == 1) with
        | false =>
          rw [h2] at HS
          have H2 := Lib.hid h2
          clear h2
          have HF := Lib.hid (inside_le (show k + 1 ≤ 5 by omega) HS.out)
          go_wp2_with (go_at_call 62; refine (has_any _ _ (by first | exact ha | exact hb) hlt _).mono ?_; rintro e w' ⟨rfl, rfl⟩; first | rw [H1.out] | rw [H2.out])
          go_ret
          exact ⟨ret_bool HF.out.symm, rfl⟩
        | true =>
          rw [h2] at HS
          have H2 := Lib.hid h2
          clear h2
          go_wp2_with (go_at_call 62; refine (has_any _ _ (by first | exact ha | exact hb) hlt _).mono ?_; rintro e w' ⟨rfl, rfl⟩; first | rw [H1.out] | rw [H2.out])
          go_round
          case rel => exact ⟨k + 1, by omega, by go_num, HS.out⟩
          case measure => simp [intOf]; omega
    · obtain rfl : k = 5 := by omega
      go_wp2
      go_ret
      exact ⟨ret_bool HIN.out.symm, rfl⟩
end Go.Proofs.YtlineonmpbdkgaaDoor.Word
namespace Go.Proofs.YtlineonmpbdkgaaDoor.Word
open Go Go.RowKit Go.Graph Go.Law
open Go.Proofs.YtlineonmpbdkgaaDoor.Graph
open Go.Proofs.YtlineonmpbdkgaaDoor.Col (ret_int)

theorem ret_two {k k' : IntKind} {a a' b : Int} (h : a = a') : Ending.returned (.tuple #[.int k a, .int k' b]) = .returned (.tuple #[.int k a', .int k' b]) := by rw [h]
def faultyR (n : Int) (l : List Rd) : Int × Int := if wordR n l ≠ 0 then (0, wordR n l) else (before l l.length, 0)
set_option maxRecDepth 100000 in
theorem last_any {W : World} {v : Value} {l : List Rd} (h : WordAt W v l) : Calls Tryd.prog 48 #[v] W fun e w' => e = .returned (.int .i64 (before l l.length)) ∧ W = w' := by
  obtain ⟨a, cap, b, off, rfl, h1, h2, h3, h4⟩ := h
  have hmx : maxLen = 9223372036854775807 := rfl
  by_cases hl : l.length = 0
  · have HZ : Hid (before l l.length = 0) := Lib.hid (by rw [hl]; rfl)
    clear h1 h2 h3
    generalize l.length = len at *
    subst hl
    go_enter Tryd.func48, Tryd.ntmps48
    go_wp2
    go_ret
    exact ⟨ret_int HZ.out.symm, rfl⟩
  · obtain ⟨q, hq⟩ : ∃ q, l.length = q + 1 := ⟨l.length - 1, by omega⟩
    have hF : W.cell? ⟨b, off + q * 7 + 6, none⟩ = some (.int .i64 (before l l.length)) := by rw [hq]; exact h3 q (by omega) 6 (by omega)
    obtain rfl := h1 (by omega)
    clear h1 h2 h3
    generalize before l l.length = g at *
    generalize l.length = len at *
    have hw1 : IntKind.i64.wrap ((len : Int) - 1) = (q : Int) := by rw [show ((len : Int) - 1) = (q : Int) by omega, IntKind.wrap_i64]; omega
    have hw2 : wrap64 ((len : Int) - 1) = (q : Int) := by unfold wrap64; omega
    have hz : ((len : Int) == 0) = false := by simpa using hl
    go_enter Tryd.func48, Tryd.ntmps48
    go_wp2
    go_ret
    exact ⟨rfl, rfl⟩
set_option maxRecDepth 100000 in
set_option maxHeartbeats 1000000 in
theorem faulty_any (n : Int) {W : World} {v : Value} {l : List Rd} (h : WordAt W v l) (hword : Calls Tryd.prog 23 #[.int .i64 n, v] W fun e w' => e = .returned (.int .i64 (wordR n l)) ∧ Below W.heap.size W w') :
    Calls Tryd.prog 17 #[.int .i64 n, v] W fun e w' => e = .returned (.tuple #[.int .i64 (faultyR n l).1, .int .i64 (faultyR n l).2]) ∧ Below W.heap.size W w' := by
  have HW := Lib.hid hword
  clear hword
  unfold faultyR
  by_cases hc : wordR n l = 0
  · rw [if_neg (by simpa using hc)]
    rw [hc] at HW
    clear hc
    simp only
    obtain ⟨a, cap, b, off, rfl, h1, h2, h3, h4⟩ := h
    have hmx : maxLen = 9223372036854775807 := rfl
    by_cases hl : l.length = 0
    · have HZ : Hid (before l l.length = 0) := Lib.hid (by rw [hl]; rfl)
      clear h1 h2 h3
      generalize l.length = len at *
      subst hl
      go_enter Tryd.func17, Tryd.ntmps17
      go_wp2_with (go_at_call 23; refine (HW.out).mono ?_; rintro e w1 ⟨rfl, hb1⟩; have HB := Lib.hid hb1; clear hb1)
      go_ret2
      exact ⟨ret_two HZ.out.symm, HB.out⟩
    · obtain ⟨q, hq⟩ : ∃ q, l.length = q + 1 := ⟨l.length - 1, by omega⟩
      have hbb := h2 (by omega)
      have HF : Hid (∀ w1, Below W.heap.size W w1 → w1.cell? ⟨b, off + q * 7 + 6, none⟩ = some (.int .i64 (before l l.length))) := Lib.hid fun w1 hb => by rw [(hb.cell (p := ⟨b, off + q * 7 + 6, none⟩) hbb), hq]; exact h3 q (by omega) 6 (by omega)
      obtain rfl := h1 (by omega)
      clear h1 h2 h3 hbb
      generalize before l l.length = g at *
      generalize l.length = len at *
      have hw1 : IntKind.i64.wrap ((len : Int) - 1) = (q : Int) := by rw [show ((len : Int) - 1) = (q : Int) by omega, IntKind.wrap_i64]; omega
      have hw2 : wrap64 ((len : Int) - 1) = (q : Int) := by unfold wrap64; omega
      have hz : ((len : Int) == 0) = false := by simpa using hl
      have hqlt : (q : Int) < (len : Int) := by omega
      have hq0 : ¬ (q : Int) < 0 := by omega
      have hqn : q < len := by omega
      clear hq
      go_enter Tryd.func17, Tryd.ntmps17
      go_wp2_with (go_at_call 23; refine (HW.out).mono ?_; rintro e w1 ⟨rfl, hb1⟩; have HB := Lib.hid hb1; have d6 := HF.out _ hb1; clear hb1)
      go_ret2
      exact ⟨rfl, HB.out⟩
  · rw [if_pos hc]
    clear h
    generalize wordR n l = c at *
    have hcb : (c != 0) = true := by simpa using hc
    clear hc
    go_enter Tryd.func17, Tryd.ntmps17
    go_wp2_with (go_at_call 23; refine (HW.out).mono ?_; rintro e w1 ⟨rfl, hb1⟩; have HB := Lib.hid hb1; clear hb1)
    go_ret2
    exact ⟨rfl, HB.out⟩
set_option maxRecDepth 100000 in
set_option maxHeartbeats 1000000 in
theorem rfaulty_any (n : Int) {W : World} {v : Value} {l : List Rd} (h : WordAt W v l) (hword : Calls Tryd.prog 24 #[.int .i64 n, v] W fun e w' => e = .returned (.int .i64 (wordR n l)) ∧ Below W.heap.size W w') :
    Calls Tryd.prog 18 #[.int .i64 n, v] W fun e w' => e = .returned (.tuple #[.int .i64 (faultyR n l).1, .int .i64 (faultyR n l).2]) ∧ Below W.heap.size W w' := by
  have HW := Lib.hid hword
  have HL := Lib.hid (fun w1 hb => last_any (h.below (A := W) (B := w1) hb))
  clear hword
  unfold faultyR
  by_cases hc : wordR n l = 0
  · rw [if_neg (by simpa using hc)]
    rw [hc] at HW
    clear hc
    simp only
    obtain ⟨a, cap, b, off, rfl, h1, h2, h3, h4⟩ := h
    have hmx : maxLen = 9223372036854775807 := rfl
    by_cases hl : l.length = 0
    · have HZ : Hid (before l l.length = 0) := Lib.hid (by rw [hl]; rfl)
      clear h1 h2 h3
      generalize l.length = len at *
      subst hl
      go_enter Tryd.func18, Tryd.ntmps18
      go_wp2_with (first | (go_at_call 24; refine (HW.out).mono ?_; rintro e w1 ⟨rfl, hb1⟩; have HB := Lib.hid hb1; clear hb1) | (go_at_call 48; refine (HL.out _ HB.out).mono ?_; rintro e w2 ⟨rfl, rfl⟩))
      go_ret2
      exact ⟨ret_two HZ.out.symm, HB.out⟩
    · obtain ⟨q, hq⟩ : ∃ q, l.length = q + 1 := ⟨l.length - 1, by omega⟩
      have hbb := h2 (by omega)
      have HF : Hid (∀ w1, Below W.heap.size W w1 → w1.cell? ⟨b, off + q * 7 + 6, none⟩ = some (.int .i64 (before l l.length))) := Lib.hid fun w1 hb => by rw [(hb.cell (p := ⟨b, off + q * 7 + 6, none⟩) hbb), hq]; exact h3 q (by omega) 6 (by omega)
      obtain rfl := h1 (by omega)
      clear h1 h2 h3 hbb
      generalize before l l.length = g at *
      generalize l.length = len at *
      have hw1 : IntKind.i64.wrap ((len : Int) - 1) = (q : Int) := by rw [show ((len : Int) - 1) = (q : Int) by omega, IntKind.wrap_i64]; omega
      have hw2 : wrap64 ((len : Int) - 1) = (q : Int) := by unfold wrap64; omega
      have hz : ((len : Int) == 0) = false := by simpa using hl
      have hqlt : (q : Int) < (len : Int) := by omega
      have hq0 : ¬ (q : Int) < 0 := by omega
      have hqn : q < len := by omega
      clear hq
      go_enter Tryd.func18, Tryd.ntmps18
      go_wp2_with (first | (go_at_call 24; refine (HW.out).mono ?_; rintro e w1 ⟨rfl, hb1⟩; have HB := Lib.hid hb1; have d6 := HF.out _ hb1; clear hb1) | (go_at_call 48; refine (HL.out _ HB.out).mono ?_; rintro e w2 ⟨rfl, rfl⟩))
      go_ret2
      exact ⟨rfl, HB.out⟩
  · rw [if_pos hc]
    clear h
    generalize wordR n l = c at *
    have hcb : (c != 0) = true := by simpa using hc
    clear hc
    go_enter Tryd.func18, Tryd.ntmps18
    go_wp2_with (first | (go_at_call 24; refine (HW.out).mono ?_; rintro e w1 ⟨rfl, hb1⟩; have HB := Lib.hid hb1; clear hb1) | (go_at_call 48; refine (HL.out _ HB.out).mono ?_; rintro e w2 ⟨rfl, rfl⟩))
    go_ret2
    exact ⟨rfl, HB.out⟩
end Go.Proofs.YtlineonmpbdkgaaDoor.Word
