/-
  The classes of a partition: the program's.
-/
import Derived.Test.YtlacohjecehpiaaEvPaJoinMath
import Derived.Maps.AppendAt
namespace Go.Proofs.Ytlacohjecehpiaa.Part
open Go Go.RowKit Go.Part Go.Law Go.Maps

/-- The members of a class among the first m elements. -/
def cls (l : List Int) (k m : Nat) : List Int := ((List.range m).filter fun i => decide (l.getD i 0 = (k : Int))).map fun (i : Nat) => (i : Int)
theorem cls_hit {l : List Int} {k m : Nat} (h : l.getD m 0 = (k : Int)) : cls l k (m + 1) = cls l k m ++ [(m : Int)] := by
  unfold cls
  rw [List.range_succ, List.filter_append, List.map_append]
  congr 1
  simp only [List.filter_cons, h, decide_true, if_true, List.filter_nil, List.map_cons, List.map_nil]
theorem cls_miss {l : List Int} {k m : Nat} (h : l.getD m 0 ≠ (k : Int)) : cls l k (m + 1) = cls l k m := by
  unfold cls
  rw [List.range_succ, List.filter_append, List.map_append]
  simp only [List.filter_cons, h, decide_false, List.filter_nil, List.map_nil, List.append_nil, Bool.false_eq_true, if_false]
theorem cls_le (l : List Int) (k m : Nat) : (cls l k m).length ≤ m := by
  unfold cls
  rw [List.length_map]
  exact Nat.le_trans (List.length_filter_le _ _) (by simp)
/-- All classes. -/
def clsAll (l : List Int) : List (List Int) := (List.range (cN l)).map fun k => cls l k l.length
theorem clsAll_len (l : List Int) : (clsAll l).length = cN l := by simp [clsAll]
theorem clsAll_get {l : List Int} {k : Nat} (h : k < cN l) : (clsAll l).getD k [] = cls l k l.length := by
  simp [clsAll, List.getD_eq_getElem?_getD, h]
/-- A list of lists, as it can be read. -/
def LL (w : World) (v : Value) (L : List (List Int)) : Prop :=
  ∃ a cap, v = .slice a L.length cap ∧ L.length ≤ 65538 ∧ ∀ j : Nat, j < L.length → ∃ (p : Addr) (u : Value), p.block < w.heap.size ∧ (∀ W : World, (Instr.indexAt 25 v (.int .i64 (j : Int))).run Try.prog W = .ok (.pointer (some p)) W) ∧ w.cell? p = some u ∧ IntsAt w .i64 u (L.getD j [])
theorem LL.below {w w' : World} {v : Value} {L : List (List Int)} (h : LL w v L) (hb : Below w.heap.size w w') : LL w' v L := by
  obtain ⟨a, cap, e, hl, hj⟩ := h
  exact ⟨a, cap, e, hl, fun j h => by
    obtain ⟨p, u, h1, h2, h3, h4⟩ := hj j h
    exact ⟨p, u, Nat.lt_of_lt_of_le h1 hb.size, h2, by rw [hb.cell h1]; exact h3, ints_below h4 hb⟩⟩
theorem LL.drewN {w : World} {v : Value} {L : List (List Int)} (h : LL w v L) (m : Nat) : LL (w.drewN m) v L := h.below (below_drewN (Below.refl _ _) m)
theorem ll_nil (w : World) : LL w (.slice none 0 0) [] := ⟨none, 0, rfl, by simp, fun j h => by simp at h⟩
def ClassPost (L : List (List Int)) (c : Int) (W : World) (e : Ending) (w' : World) : Prop := ∃ v, e = .returned (.tuple #[v, .int .i64 c]) ∧ Below W.heap.size W w' ∧ LL w' v L
theorem elem25 : Try.prog.elem 25 = 22 := by kernel_rfl
theorem size22 (W : World) : (sizeOf 22).run Try.prog W = .ok 1 W := by kernel_rfl
theorem index_at25 (W : World) (g off k cap j : Nat) (hj : j < k) : (Instr.indexAt 25 (.slice (some ⟨g, off, none⟩) k cap) (.int .i64 (j : Int))).run Try.prog W = .ok (.pointer (some ⟨g, off + j, none⟩)) W := by
  rw [run_indexAt_slice (P := Try.prog) (w := W) 25 ⟨g, off, none⟩ k cap .i64 (j : Int) (by rw [elem25]; exact Try.underlying25), if_pos ⟨by omega, by omega⟩, elem25, size22]
  simp [Result.andThen, Go.WideShapes.add_plain]
theorem info22 : (Try.prog.info? 22).map (fun i => (i.zero, i.size, i.bytes)) = some (some (.slice none 0 0), 1, 24) := by kernel_rfl
theorem make_lists (n : Nat) (hn : n ≤ 65538) (W : World) : (Instr.makeSlice 25 (.int .i64 (n : Int)) (.int .i64 (n : Int))).run Try.prog W = .ok (.slice (some ⟨W.heap.size, 0, none⟩) n n) (W.alloc (.cells (madeCells #[.slice none 0 0] n) 22)) := by
  obtain ⟨i0, hi, hz0, hz1, hz2⟩ := info_parts info22
  have := run_make (P := Try.prog) W 25 22 i0 (.slice none 0 0) Try.underlying25 hi hz0 .i64 .i64 (n : Int) (n : Int) (by omega) (by omega) (by rw [hz2]; omega) (by omega)
  rw [this, hz1]
  simp [Value.cells]
theorem row_same {w w' : World} {base n : Nat} {v : Value} {xs : List Value} (h : w.ownsRow base 3 1 v n xs) (hs : ∀ g, v.ownBlock = some g → w'.heap[g]? = w.heap[g]?) : w'.ownsRow base 3 1 v n xs := by
  refine ⟨h.1, h.2.imp id ?_⟩
  rintro ⟨g, cap, cur, rfl, hg, hb, hr⟩
  exact ⟨g, cap, cur, rfl, hg, by rw [hs g rfl]; exact hb, hr⟩
theorem row_shape {w : World} {base n : Nat} {v : Value} {xs : List Value} (h : w.ownsRow base 3 1 v (n + 1) xs) : ∃ g cap, v = .slice (some ⟨g, 0, none⟩) (n + 1) cap := by
  rcases h.2 with ⟨_, h0⟩ | ⟨g, cap, _, h0, _⟩
  · omega
  · exact ⟨g, cap, h0⟩
/-- The state: a row for each class, each in a block of its own. -/
structure Cls (w0 : World) (C c : Nat) (L : Nat → List Int) (w : World) (us : List Value) : Prop where
  len : us.length = c
  own : Own w C 22 us
  row : ∀ k, k < c → w.ownsRow w0.heap.size 3 1 (us.getD k undef) (L k).length ((L k).map (Value.int .i64))
  off : ∀ k, k < c → (us.getD k undef).ownBlock ≠ some C
  apart : ∀ j k, j < c → k < c → j ≠ k → ∀ g, (us.getD j undef).ownBlock = some g → (us.getD k undef).ownBlock ≠ some g
  bel : Below w0.heap.size w0 w
  base : w0.heap.size ≤ C
theorem getD_set_self {us : List Value} {x : Nat} (v : Value) (h : x < us.length) : (us.set x v).getD x undef = v := by rw [List.getD_eq_getElem?_getD, List.getElem?_set_self h]; rfl
theorem getD_set_ne {us : List Value} {x k : Nat} (v : Value) (h : x ≠ k) : (us.set x v).getD k undef = us.getD k undef := by rw [List.getD_eq_getElem?_getD, List.getElem?_set_ne h, ← List.getD_eq_getElem?_getD]
theorem Cls.push {w0 w w1 : World} {C c : Nat} {L : Nat → List Int} {us : List Value} (h : Cls w0 C c L w us) {x : Nat} (hx : x < c) {i : Int} {o : Obj} {v' : Value} {n : Nat} {xs : List Value}
    (hown : w1.ownsRow w0.heap.size 3 1 v' n xs) (hn : n = (L x ++ [i]).length) (hxs : xs = (L x ++ [i]).map (Value.int .i64)) (hg : (w.alloc o).grownBy w1 (us.getD x undef).ownBlock)
    (hat : v'.ownBlock = (us.getD x undef).ownBlock ∨ v'.ownBlock = some (w.alloc o).heap.size) :
    Cls w0 C c (fun k => if k = x then L x ++ [i] else L k) (w1.setCell ⟨C, x, none⟩ v') (us.set x v') := by
  subst hn hxs
  have hC := h.own.lt
  have blk : ∀ k, k < c → ∀ g, (us.getD k undef).ownBlock = some g → g < w.heap.size := fun k hk g hg' => ((h.row k hk).lt g hg').2
  have hv' : ∀ g, v'.ownBlock = some g → g ≠ C := by
    intro g hg' e
    rcases hat with e' | e'
    · exact h.off x hx (by rw [← e', hg', e])
    · rw [hg'] at e'; have := Option.some.inj e'; rw [size_alloc] at this; omega
  have away : ∀ k, k < c → k ≠ x → ∀ g, v'.ownBlock = some g → (us.getD k undef).ownBlock ≠ some g := by
    intro k hk hkx g hg' e
    rcases hat with e' | e'
    · exact h.apart x k hx hk (Ne.symm hkx) g (by rw [← e', hg']) e
    · rw [hg'] at e'; have := Option.some.inj e'; rw [size_alloc] at this; have := blk k hk g e; omega
  refine ⟨by simp [h.len], ?_, fun k hk => ?_, fun k hk => ?_, fun j k hj hk hjk g hg' => ?_, ?_, h.base⟩
  · refine Own.set (Own.block' (h.own.alloc o) (hg.block C (by simp; omega) (fun e => h.off x hx e.symm))) x v'
  · by_cases e : k = x
    · subst e
      simp only [if_true]
      rw [getD_set_self _ (by rw [h.len]; exact hx)]
      exact row_same hown fun g hg' => Below.heap_setCell _ _ _ _ (hv' g hg')
    · simp only [if_neg e]
      rw [getD_set_ne _ (Ne.symm e)]
      refine row_same (row_same (h.row k hk) (w' := w1) fun g hg' => ?_) fun g hg' => Below.heap_setCell _ _ _ _ (fun e2 => h.off k hk (by rw [hg', e2]))
      rw [hg.block g (by have := blk k hk g hg'; simp; omega) (fun e2 => h.apart x k hx hk (Ne.symm e) g e2.symm hg'), Below.heap_alloc _ _ _ (blk k hk g hg')]
  · by_cases e : k = x
    · subst e
      rw [getD_set_self _ (by rw [h.len]; exact hx)]
      intro e2; exact hv' C e2 rfl
    · rw [getD_set_ne _ (Ne.symm e)]; exact h.off k hk
  · by_cases e1 : j = x
    · subst e1
      rw [getD_set_self _ (by rw [h.len]; exact hx)] at hg'
      rw [getD_set_ne _ hjk]
      exact away k hk (Ne.symm hjk) g hg'
    · rw [getD_set_ne _ (Ne.symm e1)] at hg'
      by_cases e2 : k = x
      · subst e2
        rw [getD_set_self _ (by rw [h.len]; exact hx)]
        intro e3
        exact away j hj e1 g e3 hg'
      · rw [getD_set_ne _ (Ne.symm e2)]; exact h.apart j k hj hk hjk g hg'
  · have hrow : ∀ k, (us.getD x undef).ownBlock = some k → w0.heap.size ≤ k := fun k hk => ((h.row x hx).lt k hk).1
    exact ((h.bel.alloc h.bel.size o).grown hg (by have := h.bel.size; simp; omega) hrow).setCell h.base _
theorem Cls.same {w0 w : World} {C c : Nat} {L L' : Nat → List Int} {us : List Value} (h : Cls w0 C c L w us) (e : ∀ k, k < c → L' k = L k) : Cls w0 C c L' w us :=
  ⟨h.len, h.own, fun k hk => by rw [e k hk]; exact h.row k hk, h.off, h.apart, h.bel, h.base⟩
theorem Cls.start (w : World) (C c : Nat) (w0 : World) (hw : Own w C 22 (List.replicate c (.slice none 0 0))) (hb : Below w0.heap.size w0 w) (h0 : w0.heap.size ≤ C) : Cls w0 C c (fun _ => []) w (List.replicate c (.slice none 0 0)) := by
  have e : ∀ k, k < c → (List.replicate c (Value.slice none 0 0)).getD k undef = .slice none 0 0 := fun k hk => by simp [List.getD_eq_getElem?_getD, hk]
  exact ⟨by simp, hw, fun k hk => by rw [e k hk]; exact ⟨rfl, .inl ⟨rfl, rfl⟩⟩, fun k hk => by rw [e k hk]; simp [Value.ownBlock], fun j k hj hk _ g hg => by rw [e j hj] at hg; simp [Value.ownBlock] at hg, hb, h0⟩
theorem Cls.ll {w0 w : World} {C c : Nat} {L : Nat → List Int} {us : List Value} (h : Cls w0 C c L w us) (hc : c ≤ 65538) {LS : List (List Int)} (hl : LS.length = c) (he : ∀ k, k < c → LS.getD k [] = L k) : LL w (.slice (some ⟨C, 0, none⟩) c c) LS := by
  subst hl
  refine ⟨_, _, rfl, hc, fun j hj => ⟨⟨C, 0 + j, none⟩, us.getD j undef, h.own.lt, fun W => index_at25 W C 0 _ _ j hj, ?_, ?_⟩⟩
  · rw [Nat.zero_add]
    refine h.own.cell ?_
    rw [List.getElem?_eq_getElem (by rw [h.len]; exact hj)]
    simp [List.getD_eq_getElem?_getD, h.len, hj]
  · rw [he j hj]; exact own_row rfl (h.row j hj)
set_option maxRecDepth 100000 in
set_option maxHeartbeats 2000000 in
theorem classes_ok {w : World} {x : Option Addr} {n cap : Nat} {l : List Int} (hll : l.length = n) (h : IntsAt w .i64 (.slice x n cap) l) (hn : n ≤ 65536) (hw : wf l)
    (HB : Hid (Calls Try.prog 18 #[.slice x n cap] w fun e w' => e = .returned (.int .i64 0) ∧ w = w')) : Calls Try.prog 14 #[.slice x n cap] w (ClassPost (clsAll l) 0 w) := by
  have HI := Lib.hid h
  have HL := Lib.hid hll
  have HW := Lib.hid hw
  have HC := Lib.hid (count_any h (by omega) hw)
  have hcn : cN l ≤ n := by have := cnt_le (fn l) l.length; unfold cN; omega
  have HM := Lib.hid (Own.made w 22 (.slice none 0 0) (cN l))
  have hmk := make_lists (cN l) (by omega)
  obtain ⟨i0, hi, hz0, hz1, hz2⟩ := info_parts info3
  clear h hll hw
  go_enter Try.func14, Try.ntmps14
  go_wp2_with (first | (go_at_call 18; ((with_reducible refine (HB.out).mono ?_); rintro e w' ⟨rfl, rfl⟩)) | (go_at_call 47; ((with_reducible refine (HC.out).mono ?_); rintro e w' ⟨rfl, rfl⟩)))
  have HS := Lib.hid (Cls.start _ _ (cN l) w HM.out ((Below.refl _ _).alloc (Nat.le_refl _) _) (Nat.le_refl _))
  clear hmk HM
  go_loopw [18] (fun i wr => ∃ (k : Nat) (us : List Value), k ≤ n ∧ i = .int .i64 k ∧ Cls w w.heap.size (cN l) (fun q => cls l q k) wr us) (fun i _ => n - (intOf i).toNat)
  case atStart => exact ⟨0, _, Nat.zero_le _, rfl, HS.out.same fun k _ => rfl⟩
  case round =>
    obtain ⟨k, us, hk, rfl, hc⟩ := hrel
    have HCL := Lib.hid hc
    clear hc
    by_cases hlt : k < n
    · obtain ⟨p, hp, hix, hpc⟩ := ints_index HI.out (j := k) (by have := HL.out; omega)
      obtain ⟨xv, hx, hxl⟩ := wf_nat HW.out (show k < l.length by have := HL.out; omega)
      have hpc2 : wr.cell? p = some (.int .i64 (xv : Int)) := by rw [HCL.out.bel.cell hp, hpc, hx]
      have hcell : wr.cell? ⟨w.heap.size, xv, none⟩ = some (us.getD xv undef) := HCL.out.own.cell (by rw [List.getElem?_eq_getElem (by rw [HCL.out.len]; exact hxl)]; simp [List.getD_eq_getElem?_getD, HCL.out.len, hxl])
      have HR := Lib.hid ((HCL.out.row xv hxl).alloc (.cells #[.int .i64 (k : Int)] 3))
      have hfr := HCL.out.own.free xv
      have hlen : (cls l xv k).length ≤ k := cls_le _ _ _
      have HX := Lib.hid hx
      have hws := HCL.out.bel.size
      have HPU : Hid (∀ (v' : Value) (w1 : World), w1.ownsRow w.heap.size 3 1 v' ((cls l xv k).length + 1) ((cls l xv k).map (Value.int .i64) ++ [.int .i64 (k : Int)]) → (wr.alloc (.cells #[.int .i64 (k : Int)] 3)).grownBy w1 (us.getD xv undef).ownBlock → (v'.ownBlock = (us.getD xv undef).ownBlock ∨ v'.ownBlock = some (wr.alloc (.cells #[.int .i64 (k : Int)] 3)).heap.size) →
          Cls w w.heap.size (cN l) (fun q => cls l q (k + 1)) (w1.setCell ⟨w.heap.size, xv, none⟩ v') (us.set xv v') ∧ w1.cell? ⟨w.heap.size, xv, none⟩ = some (us.getD xv undef) ∧ w1.frozen? ⟨w.heap.size, xv, none⟩ = false) := Lib.hid (fun v' w1 h1 h2 h3 => by
        refine ⟨(HCL.out.push (i := (k : Int)) hxl h1 (by simp) (by simp) h2 h3).same fun q hq => ?_, ?_⟩
        · by_cases e : q = xv
          · subst e; rw [if_pos rfl]; exact cls_hit HX.out
          · rw [if_neg e]; exact cls_miss (by rw [HX.out]; omega)
        · have hb := h2.block w.heap.size (by have := HCL.out.own.lt; simp; omega) (fun e => HCL.out.off xv hxl e.symm)
          have ho := Own.block' (HCL.out.own.alloc (.cells #[.int .i64 (k : Int)] 3)) hb
          exact ⟨ho.cell (by rw [List.getElem?_eq_getElem (by rw [HCL.out.len]; exact hxl)]; simp [List.getD_eq_getElem?_getD, HCL.out.len, hxl]), ho.free xv⟩)
      clear hpc hx
      generalize us.getD xv undef = u at *
      go_wp2_with (at_builtin; refine wpList_append_own_at _ rfl _ _ 22 rfl w.heap.size 3 i0 (.int .i64 0) 1 8 Try.underlying22 hi hz0 hz1 hz2 rfl (by decide) _ _ _ rfl HR.out ⟨wr.heap.size, 0, none⟩ 1 1 [.int .i64 (k : Int)] rfl rfl (cell_one_new _ _ _) (fun x hx => by simp at hx; subst hx; rfl) (by unfold maxLen; omega) (by omega) (by simp; omega) ?_; intro v' w1 hown' hgrow _ hat; obtain ⟨hq1, hq2, hq3⟩ := HPU.out v' w1 hown' hgrow hat; obtain ⟨g9, c9, rfl⟩ := row_shape hown'; have HQ := Lib.hid hq1; clear hown' hgrow hat hq1)
      go_roundw
      case rel => exact ⟨k + 1, us.set xv (.slice (some ⟨g9, 0, none⟩) ((cls l xv k).length + 1) c9), by omega, by go_num, HQ.out⟩
      case measure => simp [intOf]; omega
    · have hk' : k = n := by omega
      have HLL : Hid (LL wr (.slice (some ⟨w.heap.size, 0, none⟩) (cN l) (cN l)) (clsAll l)) := Lib.hid (HCL.out.ll (by omega) (clsAll_len l) (fun q hq => by rw [clsAll_get hq, hk', HL.out]))
      clear hk'
      go_wp2
      go_ret2
      exact ⟨_, rfl, HCL.out.bel, HLL.out⟩
end Go.Proofs.Ytlacohjecehpiaa.Part
