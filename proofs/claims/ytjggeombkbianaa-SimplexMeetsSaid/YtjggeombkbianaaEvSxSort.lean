/-
  slices.SortFunc by the order of vertices.
-/
import Derived.Test.YtjggeombkbianaaEvSxSortLay
import Derived.Test.YtjggeombkbianaaEvSxCompact
import Derived.Test.YtjggeombkbianaaEvSxOfMath
import Derived.Test.YtjggeombkbianaaEvSxIter
namespace Go.Proofs.Ytjggeombkbianaa.Sx
open Go Go.RowKit Go.Law Go.Sx

/-- The world has grown, and no more. -/
def Grew (W W' : World) : Prop := ∃ q os, W' = Sort.grow (W.drewN q) os
theorem Grew.refl (W : World) : Grew W W := ⟨0, #[], by rw [Sort.grow_empty]; rfl⟩
theorem Grew.alloc {W W' : World} (h : Grew W W') (o : Obj) : Grew W (W'.alloc o) := by
  obtain ⟨q, os, rfl⟩ := h
  exact ⟨q, os ++ #[o], by rw [Sort.alloc_eq_grow, Sort.grow_grow]⟩
theorem Grew.drew {W W' : World} (h : Grew W W') : Grew W W'.drew := by
  obtain ⟨q, os, rfl⟩ := h
  exact ⟨q + 1, os, rfl⟩
set_option maxRecDepth 100000 in
set_option maxHeartbeats 1000000 in
theorem vcmp_grew (a b : V) (w : World) : Calls Try.prog 52 #[.agg #[.int .i64 a.1, .int .i64 a.2], .agg #[.int .i64 b.1, .int .i64 b.2]] w fun e w' => e = .returned (.int .i64 (cmpV a b)) ∧ Grew w w' := by
  obtain ⟨x, y⟩ := a
  obtain ⟨u, v⟩ := b
  have HV : Hid (cmpV (x, y) (u, v) = if cmpI x u ≠ 0 then cmpI x u else cmpI y v) := Lib.hid rfl
  have H1 := Lib.hid (cmp_ok x u)
  have H2 := Lib.hid (cmp_ok y v)
  generalize cmpV (x, y) (u, v) = r at *
  generalize cmpI x u = p at *
  generalize cmpI y v = q at *
  have HO : Hid (∀ (B : Nat) (W : World), W.cell? ⟨B, 0, none⟩ = some (.int .i64 p) → W.cell? ⟨B, 1, none⟩ = some (.int .i64 q) → Calls Try.prog 75 #[.slice (some ⟨B, 0, none⟩) 2 2] W fun e w' => e = .returned (.int .i64 r) ∧ W = w') := Lib.hid fun B W c0 c1 => by
    rw [HV.out]; exact or_two B p q W c0 c1
  have T0 := Lib.hid (((Grew.refl w).alloc (.cells #[.int .i64 x, .int .i64 y] 56)).alloc (.cells #[.int .i64 u, .int .i64 v] 56))
  go_enter Try.func52, Try.ntmps52
  go_wp2
  obtain ⟨⟨c0, c1⟩, d0, d1⟩ := row2_two w x y u v
  generalize hW2 : World.alloc (World.alloc w _) _ = W2 at *
  refine wp_region_still_tail 10 (by kernel_rfl) (by kernel_rfl) ?_
  change wpStill _ _ W2.drew _ _ _
  simp only [List.take_succ_cons, List.take_zero, List.drop_succ_cons, List.drop_zero]
  still_step
  still_step
  still_step
  still_step
  still_call ((H1.out _).mono fun _ _ h => ⟨h.1, h.2.symm⟩)
  still_step
  still_step
  still_step
  still_step
  still_call ((H2.out _).mono fun _ _ h => ⟨h.1, h.2.symm⟩)
  refine wpStill_nil ?_
  change wpList _ _ _ _ _ W2.drew
  go_wp2_with (go_at_call 75; refine (HO.out _ _ (by show (World.alloc W2 _).cell? _ = _; rw [World.cell?_alloc_at _ _ _ _ rfl]; rfl) (by show (World.alloc W2 _).cell? _ = _; rw [World.cell?_alloc_at _ _ _ _ rfl]; rfl)).mono ?_; rintro e w' ⟨rfl, rfl⟩)
  go_ret
  exact ⟨rfl, (T0.out.alloc _).drew⟩
open Go.Shelf Go.Sort
theorem cmpLays52 (blk off size : Nat) (w : World) : CmpLays Try.prog 52 #[] encV 2 cmpV blk off size w :=
  fun _ _ _ _ x y => vcmp_grew x y _
theorem swoV : SWO (ltOf cmpV) where
  irrefl x := by simp [ltOf, cmpV_same]
  trans x y z h1 h2 := by
    simp only [ltOf, decide_eq_true_eq] at *
    have := cmpV_range x y
    have := cmpV_range y z
    have := cmpV_trans (a := x) (b := y) (c := z) (by omega) (by omega)
    omega
  ntrans x y z h1 h2 := by
    simp only [ltOf, decide_eq_false_iff_not] at *
    have r1 := cmpV_range x y
    have r2 := cmpV_range y z
    have a1 := cmpV_anti x y
    have a2 := cmpV_anti y z
    have a3 := cmpV_anti x z
    by_cases e1 : cmpV x y = 0
    · rw [cmpV_zero.1 e1]; exact h2
    · by_cases e2 : cmpV y z = 0
      · rw [← cmpV_zero.1 e2]; exact h1
      · have := cmpV_trans (a := z) (b := y) (c := x) (by omega) (by omega)
        omega
theorem below_sorted (w : World) (g q : Nat) (d : Array V) (os : Array Obj) (hg : g ≤ w.heap.size) : Below g w (sortWorldK encV 2 w g 0 q d os) := by
  refine (below_row w g 0 q d).trans ⟨rfl, rfl, rfl, by simp [sortWorldK], fun k hk => ?_⟩
  have hs : (putRowK encV 2 (Sort.ahead w q) g 0 d).heap.size = w.heap.size := by simp [putRowK, putRow, mapBlock, Sort.ahead]
  simp only [sortWorldK, grow]
  rw [Array.getElem?_append_left (by rw [hs]; omega)]
/-- The list, sorted. -/
def mrg (A : List V) : Array V := (A.mergeSort fun x y => !(ltOf cmpV) y x).toArray
theorem mrg_size (A : List V) : (mrg A).size = A.length := by simp [mrg]
theorem mrg_compact (A : List V) : Lib.compactUpTo (mrg A) (mrg A).size = ofTo A A.length := by
  obtain ⟨h1, h2⟩ := merge_sorted A (fun x y => !(ltOf cmpV) y x) (fun x y => by
    have := cmpV_anti x y
    simp only [ltOf, Bool.not_eq_true', decide_eq_false_iff_not]
    omega)
  exact of_sorted A (mrg A) h1 h2
theorem sort_in (g cap : Nat) (A : List V) (w : World) (hH : HoldsK encV 2 w g 0 A.toArray) (hg : g < w.heap.size) (hsz : A.length ≤ 4096) :
    Calls Try.prog 85 #[.slice (some ⟨g, 0, none⟩) A.length cap, .func (.func 52) #[] #[]] w fun e w' => e = .returned (.tuple #[]) ∧ HoldsK encV 2 w' g 0 (mrg A) ∧ Below g w w' := by
  have eg : ∀ args w, (callFunc 52 args).run Try.prog w = .ok (.enter 52 args) w := enters_of Try.func52 (by kernel_rfl) rfl
  have hcon := AnyQ.slices_SortFunc_total Try.sortV 2 Try.isAgg56 Try.sizeOf56 encV (fun _ => rfl) (fun x v hv => by simp [encV] at hv; rcases hv with rfl | rfl <;> rfl) cmpV swoV 52 #[] g 0 cap A.toArray w eg (cmpLays52 g 0 _ w) hH hg (by simp; omega) (fun x y h1 h2 => by
    simp only [ltOf, decide_eq_false_iff_not] at h1 h2
    have := cmpV_anti x y
    exact cmpV_zero.1 (by omega))
  change Calls Try.prog 85 _ _ _ at hcon
  simp only [List.size_toArray] at hcon
  refine hcon.mono ?_
  rintro e w' ⟨rfl, n, os, rfl⟩
  exact ⟨rfl, holdsK_sortWorldK_c encV 2 w g 0 A.toArray (mrg A) n os hH hg (by rw [mrg_size]; simp), below_sorted w g n (mrg A) os (Nat.le_of_lt hg)⟩
theorem hold_own {w : World} {base g cap : Nat} {A : List V} (h : w.ownsRow base 56 2 (.slice (some ⟨g, 0, none⟩) A.length cap) A.length (rowV A)) : HoldsK encV 2 w g 0 A.toArray := by
  intro t ht
  have ht' : t < A.length * 2 := by simpa using ht
  have h2 : t / 2 < A.length := by omega
  refine ⟨?_, by rw [Nat.zero_add]; exact h.frozenAt t⟩
  rw [Nat.zero_add, h.cellAt t ht', get_flatK _ _ _ t (by simpa using ht')]
  have hv : A.toArray[t / 2]! = vx A (t / 2) := by rw [vx_get h2]; simp [h2]
  rw [hv]
  obtain ⟨r0, r1⟩ := rowV_get A (t / 2) h2
  rcases Nat.mod_two_eq_zero_or_one t with e | e
  · rw [show t / 2 * 2 = t by omega] at r0
    rw [e, r0]; rfl
  · rw [show t / 2 * 2 + 1 = t by omega] at r1
    rw [e, r1]; rfl
/-- A list of the call's own, sorted. -/
def SortedPost (A : List V) (w : World) (e : Ending) (w' : World) : Prop := ∃ g cap, e = .returned (.slice (some ⟨g, 0, none⟩) A.length cap) ∧ w.heap.size ≤ g ∧ HoldsK encV 2 w' g 0 (mrg A) ∧ A.length ≤ cap ∧ cap ≤ maxLen ∧ g < w'.heap.size ∧ Below w.heap.size w w'
set_option maxRecDepth 100000 in
set_option maxHeartbeats 2000000 in
theorem collect_in (Bs b off len cap : Nat) (a : Option Addr) (ha : 0 < len → a = some ⟨b, off, none⟩) (A : List V) (hA : A.length = len) (hlen : len ≤ 4096) (w : World) (hBs : Bs < w.heap.size) (hb : 0 < len → b < w.heap.size)
    (hc : w.cell? ⟨Bs, 0, none⟩ = some (.slice a len cap)) (hI : VsAt w b off len A) :
    Calls Try.prog 84 #[.func (.func 86) #[] #[.pointer (some ⟨Bs, 0, none⟩)]] w (OwnPost A w) := by
  have H := Lib.hid ((callsIn_wide (n := 3)).1 (appendSeq_in Fence.wide 3 trivial trivial rfl (Nat.le_refl _) Bs b off len cap a ha A hA hlen w hBs hb hc hI))
  clear hI hc hb ha
  go_enter Try.func84, Try.ntmps84
  go_wp2_with fail
  refine (H.out).mono ?_
  rintro e w3 ⟨v, he, ho, hb⟩
  subst he
  go_wp2
  go_ret
  exact ⟨v, rfl, ho, hb⟩
/-- A list of the call's own, collected. -/
def ColPost (A : List V) (w : World) (e : Ending) (w' : World) : Prop := ∃ g cap, e = .returned (.slice (some ⟨g, 0, none⟩) A.length cap) ∧ w.heap.size ≤ g ∧ HoldsK encV 2 w' g 0 A.toArray ∧ A.length ≤ cap ∧ cap ≤ maxLen ∧ g < w'.heap.size ∧ Below w.heap.size w w'
theorem col_post {A : List V} (h0 : 0 < A.length) {w w' : World} {e : Ending} (h : OwnPost A w e w') : ColPost A w e w' := by
  obtain ⟨v, he, ho, hb⟩ := h
  rcases ho.2 with ⟨_, hz⟩ | ⟨g, cap', cur, hv, hg, hh, hn, hm, _⟩
  · omega
  subst hv
  have hgl : g < w'.heap.size := by
    by_cases hlt : g < w'.heap.size
    · exact hlt
    · rw [Array.getElem?_eq_none (by omega)] at hh; cases hh
  exact ⟨g, cap', he, hg, hold_own ho, hn, hm, hgl, hb⟩
set_option maxRecDepth 100000 in
set_option maxHeartbeats 2000000 in
theorem sorted71_walk (Q : Nat → Nat → World → Prop) (n : Nat) (A : List V) (hn : A.length = n) (w : World) (s : Value)
    (H : Calls Try.prog 84 #[s] w fun e w' => ∃ g cap, e = .returned (.slice (some ⟨g, 0, none⟩) n cap) ∧ Q g cap w')
    (HS : ∀ g cap w', Q g cap w' → Calls Try.prog 85 #[.slice (some ⟨g, 0, none⟩) n cap, .func (.func 52) #[] #[]] w' fun e w2 => e = .returned (.tuple #[]) ∧ SortedPost A w (.returned (.slice (some ⟨g, 0, none⟩) A.length cap)) w2) :
    Calls Try.prog 71 #[s, .func (.func 52) #[] #[]] w (SortedPost A w) := by
  have H := Lib.hid H
  have HS := Lib.hid HS
  go_enter Try.func71, Try.ntmps71
  go_wp2_with fail
  refine (H.out).mono ?_
  rintro e w3 ⟨g, cap, he, hq⟩
  subst he
  have HS3 := Lib.hid (HS.out g cap w3 hq)
  clear hq
  go_wp2_with fail
  refine (HS3.out).mono ?_
  rintro e w4 ⟨he, hp⟩
  subst he
  have HP := Lib.hid hp
  clear hp
  go_wp2
  go_ret
  have := HP.out
  rw [hn] at this
  exact this
theorem sorted71_in (Bs b off len cap : Nat) (a : Option Addr) (ha : 0 < len → a = some ⟨b, off, none⟩) (A : List V) (hA : A.length = len) (h0 : 0 < len) (hlen : len ≤ 4096) (w : World) (hBs : Bs < w.heap.size) (hb : 0 < len → b < w.heap.size)
    (hc : w.cell? ⟨Bs, 0, none⟩ = some (.slice a len cap)) (hI : VsAt w b off len A) :
    Calls Try.prog 71 #[.func (.func 86) #[] #[.pointer (some ⟨Bs, 0, none⟩)], .func (.func 52) #[] #[]] w (SortedPost A w) := by
  refine sorted71_walk (fun g cap w' => w.heap.size ≤ g ∧ HoldsK encV 2 w' g 0 A.toArray ∧ A.length ≤ cap ∧ cap ≤ maxLen ∧ g < w'.heap.size ∧ Below w.heap.size w w') len A hA w _ ?_ ?_
  · rw [← hA]
    exact (collect_in Bs b off len cap a ha A hA hlen w hBs hb hc hI).mono fun _ _ h => col_post (by omega) h
  · rintro g cap' w3 ⟨hg, hk, hn, hm, hgl, hb3⟩
    rw [← hA]
    refine (sort_in g cap' A w3 hk hgl (by omega)).mono ?_
    rintro e w4 ⟨he, hk4, hb4⟩
    exact ⟨he, g, cap', rfl, hg, hk4, hn, hm, Nat.lt_of_lt_of_le hgl hb4.size, hb3.trans (hb4.mono hg)⟩
end Go.Proofs.Ytjggeombkbianaa.Sx
