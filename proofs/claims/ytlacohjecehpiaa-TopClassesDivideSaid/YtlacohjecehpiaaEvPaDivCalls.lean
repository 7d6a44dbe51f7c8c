/-
  The calls of TopClassesDivide.
-/
import Derived.Shelf.Sort.Plain
import Derived.Ground.NamesProg
import Derived.Test.YtlacohjecehpiaaProg
import Derived.Test.YtlacohjecehpiaaEvPaCaseSets
import Derived.Sort.OwnSortedInts
import Derived.Lib.AppendZeros
import Derived.Test.YtlacohjecehpiaaEvPaDivMath
import Derived.Test.YtlacohjecehpiaaEvPaTopSeat
namespace Go.Proofs
open Go.Shelf
def Try.lays189_ren : Go.Shelf.Ren := ⟨fun | 189 => 42 | 125 => 69 | 257 => 68 | 128 => 89 | 129 => 90 | 294 => 81 | 295 => 82 | 296 => 83 | 297 => 84 | 298 => 85 | 299 => 86 | 216 => 61 | 300 => 87 | 301 => 88 | 328 => 93 | 329 => 94 | 330 => 95 | 331 => 96 | 332 => 97 | 215 => 75 | 343 => 99 | n => n, fun | 28 => 22 | 3 => 3 | 46 => 85 | 0 => 0 | 51 => 103 | 53 => 105 | 4 => 4 | 183 => 97 | 182 => 96 | 131 => 88 | 5 => 5 | 9 => 9 | 218 => 108 | 222 => 112 | 228 => 115 | 229 => 33 | n => n, fun | n => n⟩
theorem Try.lays189 : Go.Proofs.Lays.n189 Try.prog Try.lays189_ren := {
  mixed := by kernel_rfl
  f125 := Try.func69.trans (congrArg some (by kernel_rfl))
  f128 := Try.func89.trans (congrArg some (by kernel_rfl))
  f129 := Try.func90.trans (congrArg some (by kernel_rfl))
  f189 := Try.func42.trans (congrArg some (by kernel_rfl))
  f215 := Try.func75.trans (congrArg some (by kernel_rfl))
  f216 := Try.func61.trans (congrArg some (by kernel_rfl))
  f257 := Try.func68.trans (congrArg some (by kernel_rfl))
  f294 := Try.func81.trans (congrArg some (by kernel_rfl))
  f295 := Try.func82.trans (congrArg some (by kernel_rfl))
  f296 := Try.func83.trans (congrArg some (by kernel_rfl))
  f297 := Try.func84.trans (congrArg some (by kernel_rfl))
  f298 := Try.func85.trans (congrArg some (by kernel_rfl))
  f299 := Try.func86.trans (congrArg some (by kernel_rfl))
  f300 := Try.func87.trans (congrArg some (by kernel_rfl))
  f301 := Try.func88.trans (congrArg some (by kernel_rfl))
  f328 := Try.func93.trans (congrArg some (by kernel_rfl))
  f329 := Try.func94.trans (congrArg some (by kernel_rfl))
  f330 := Try.func95.trans (congrArg some (by kernel_rfl))
  f331 := Try.func96.trans (congrArg some (by kernel_rfl))
  f332 := Try.func97.trans (congrArg some (by kernel_rfl))
  f343 := Try.func99.trans (congrArg some (by kernel_rfl))
  t0 := Try.underlying0
  a0 := Try.isAgg0
  z0 := Try.sizeOf0
  v0 := Try.zeroValue0
  t3 := Try.underlying3
  a3 := Try.isAgg3
  z3 := Try.sizeOf3
  v3 := Try.zeroValue3
  t4 := Try.underlying4
  a4 := Try.isAgg4
  z4 := Try.sizeOf4
  v4 := Try.zeroValue4
  t5 := Try.underlying5
  a5 := Try.isAgg5
  z5 := Try.sizeOf5
  v5 := Try.zeroValue5
  t9 := Try.underlying9
  a9 := Try.isAgg9
  z9 := Try.sizeOf9
  v9 := Try.zeroValue9
  t28 := Try.underlying22
  a28 := Try.isAgg22
  z28 := Try.sizeOf22
  v28 := Try.zeroValue22
  t46 := Try.underlying85
  a46 := Try.isAgg85
  z46 := Try.sizeOf85
  v46 := Try.zeroValue85
  t51 := Try.underlying103
  a51 := Try.isAgg103
  z51 := Try.sizeOf103
  v51 := Try.zeroValue103
  t53 := Try.underlying105
  a53 := Try.isAgg105
  z53 := Try.sizeOf105
  v53 := Try.zeroValue105
  t131 := Try.underlying88
  a131 := Try.isAgg88
  z131 := Try.sizeOf88
  v131 := Try.zeroValue88
  t182 := Try.underlying96
  a182 := Try.isAgg96
  z182 := Try.sizeOf96
  v182 := Try.zeroValue96
  t183 := Try.underlying97
  a183 := Try.isAgg97
  z183 := Try.sizeOf97
  v183 := Try.zeroValue97
  t218 := Try.underlying108
  a218 := Try.isAgg108
  z218 := Try.sizeOf108
  v218 := Try.zeroValue108
  t222 := Try.underlying112
  a222 := Try.isAgg112
  z222 := Try.sizeOf112
  v222 := Try.zeroValue112
  t228 := Try.underlying115
  a228 := Try.isAgg115
  z228 := Try.sizeOf115
  v228 := Try.zeroValue115
  t229 := Try.underlying33
  a229 := Try.isAgg33
  z229 := Try.sizeOf33
  v229 := Try.zeroValue33 }
end Go.Proofs
namespace Go.Proofs.Ytlacohjecehpiaa.Part
open Go Go.RowKit Go.Law Go.Part Go.Col Go.Sort

/-- The list in ascending order. -/
def asc (zs : List Int) : List Int := zs.mergeSort fun x y => decide (x ≤ y)
theorem sort_own {w : World} {base n : Nat} {v : Value} {zs : List Int} (h0 : 0 < n) (hn : n ≤ 65536) (hz : zs.length = n) (h : w.ownsRow base 3 1 v n (zs.map (Value.int .i64))) :
    Calls Try.prog 42 #[v] w fun e w' => e = .returned (.tuple #[]) ∧ w.grownBy w' v.ownBlock ∧ w'.ownsRow base 3 1 v n ((asc zs).map (Value.int .i64)) := by
  subst hz
  rcases h.2 with ⟨rfl, hn'⟩ | ⟨g, cap, cur, rfl, hg, hb, hn', hcap, hcs, htake⟩
  · omega
  · have hlt : g < w.heap.size := (Array.getElem?_eq_some_iff.1 hb).1
    refine (Any.slices_Sort_int Try.lays189 g 0 cap zs w (holds_of_blockI hb (by simpa using htake)) hlt (by omega)).mono ?_
    rintro e w' ⟨rfl, k, os, rfl⟩
    exact ⟨rfl, grownBy_sortedI _, ownsRow_sortedI (by simp [asc, List.length_mergeSort]) hg hb hn' hcap hcs⟩

def GrowPost (W : World) (e : Ending) (w' : World) : Prop := ∃ g cap, e = .returned (.slice (some ⟨g, 0, none⟩) 0 cap) ∧ Below W.heap.size W w' ∧ w'.ownsRow W.heap.size 3 1 (.slice (some ⟨g, 0, none⟩) 0 cap) 0 []
set_option maxHeartbeats 2000000 in
set_option maxRecDepth 100000 in
theorem grow_nil (n : Nat) (h1 : 1 ≤ n) (h2 : n ≤ 100) (w : World) : Calls Try.prog 70 #[.slice none 0 0, .int .i64 n] w (GrowPost w) := by
  obtain ⟨i0, hi, hz0, hz1, hz2⟩ := info_parts info3
  have hrz := fun ty => Lib.run_append_nil_zeros (P := Try.prog) w 22 3 ty 3 i0 (.int .i64 0) .i64 .i64 Try.underlying22 Try.underlying3 hi hz0 n h1 (by rw [hz1]; decide) (by omega) (by rw [hz2]; omega)
  have hge := grownCap_ge w n 0 3
  have hle := grownCap_le_maxLen w n 0 3 (by unfold maxLen; omega)
  generalize grownCap w n 0 3 = G at *
  have h3 : ¬ ((n : Int) < 0) := by omega
  have h4 : wrap64 ((n : Int) - 0) = (n : Int) := by unfold wrap64; omega
  have h5 : (n : Int) > 0 := by omega
  have HR := Lib.hid hrz
  clear hrz hi hz0 hz1 hz2
  go_enter Try.func70, Try.ntmps70
  go_wp2_with (at_builtin; refine Lib.wpList_append_run _ rfl _ _ _ _ rfl _ _ rfl rfl _ _ (HR.out _) ?_)
  all_goals
    go_ret
    refine ⟨_, _, rfl, (Below.refl _ _).drew.alloc (Nat.le_refl _) _, ?_⟩
    have := World.ownsRow_made (base := w.heap.size) (e := 3) (size := 1) w.drew (Builtin.zeroCells (Value.int .i64 0).cells n ++ Builtin.zeroCells (Value.int .i64 0).cells (G - n)) G (Nat.le_refl _) hle (by simp [size_zeroCells, Value.cells]; omega)
    exact this
end Go.Proofs.Ytlacohjecehpiaa.Part
namespace Go.Proofs.Ytlacohjecehpiaa.Part
open Go Go.RowKit Go.Law Go.Part Go.Col

def cat (xs ys : List Int) : Nat → List Int
  | 0 => []
  | 1 => xs
  | _ => xs ++ ys
def catLen (n m : Nat) : Nat → Nat
  | 0 => 0
  | 1 => n
  | _ => n + m
theorem at_cells {w : World} {b off : Nat} {zs : List Int} (h : At w b off zs) : ∀ (j : Nat) (u : Value), (zs.map (Value.int .i64))[j]? = some u → w.cell? ((⟨b, off, none⟩ : Addr).add j) = some u := by
  intro j u hu
  rw [List.getElem?_map] at hu
  by_cases hj : j < zs.length
  · rw [List.getElem?_eq_getElem hj] at hu
    obtain rfl : Value.int .i64 zs[j] = u := by simpa using hu
    have := h j hj
    rw [Go.WideShapes.add_plain, this]
    simp [List.getD_eq_getElem?_getD, hj]
  · rw [List.getElem?_eq_none (by omega)] at hu; cases hu
theorem ints_one (zs : List Int) : ∀ u ∈ zs.map (Value.int .i64), u.oneCell' = true := by
  intro u hu
  obtain ⟨z, _, rfl⟩ := List.mem_map.1 hu
  rfl
set_option maxHeartbeats 4000000 in
set_option maxRecDepth 100000 in
theorem concat_ok {w : World} {B b1 off1 n cap1 b2 off2 m cap2 : Nat} {xs ys : List Int} (hn : xs.length = n) (hm : ys.length = m) (h1 : 0 < n) (h2 : n ≤ 40) (h3 : m ≤ 40)
    (c0 : w.cell? ⟨B, 0, none⟩ = some (.slice (some ⟨b1, off1, none⟩) n cap1)) (c1 : w.cell? ⟨B, 1, none⟩ = some (.slice (some ⟨b2, off2, none⟩) m cap2)) (hB : B < w.heap.size) (hb1 : b1 < w.heap.size) (hb2 : b2 < w.heap.size) (a1 : At w b1 off1 xs) (a2 : At w b2 off2 ys) :
    Calls Try.prog 43 #[.slice (some ⟨B, 0, none⟩) 2 2] w (ListPost (xs ++ ys) w) := by
  have HN := Lib.hid hn
  have HM := Lib.hid hm
  have A1 := Lib.hid a1
  have A2 := Lib.hid a2
  have C0 := Lib.hid c0
  have C1 := Lib.hid c1
  clear hn hm a1 a2
  obtain ⟨i0, hi, hz0, hz1, hz2⟩ := info_parts info3
  have hsum : ¬ ((n : Int) < 0) := by omega
  have hsum2 : wrap64 ((n : Int) + (m : Int)) = ((n + m : Nat) : Int) := by unfold wrap64; omega
  have hsum0 : wrap64 (0 + (n : Int)) = (n : Int) := by unfold wrap64; omega
  have hsum3 : ¬ (((n + m : Nat) : Int) < 0) := by omega
  go_enter Try.func43, Try.ntmps43
  go_wp2
  go_loop [3, 11] (fun s i => ∃ k : Nat, k ≤ 2 ∧ i = .int .i64 k ∧ s = .int .i64 (catLen n m k)) (fun _ i => 2 - (intOf i).toNat)
  case atStart => exact ⟨0, by omega, rfl, rfl⟩
  case round =>
    obtain ⟨k, hk, rfl, rfl⟩ := hrel
    rcases (by omega : k = 0 ∨ k = 1 ∨ k = 2) with rfl | rfl | rfl
    · simp only [catLen]
      go_wp2
      go_round
      case rel => exact ⟨1, by omega, rfl, rfl⟩
      case measure => simp [intOf]
    · simp only [catLen]
      go_wp2
      go_round
      case rel => exact ⟨2, by omega, rfl, rfl⟩
      case measure => simp [intOf]
    · simp only [catLen]
      go_wp2_with (go_at_call 70; refine (grow_nil (n + m) (by omega) (by omega) _).mono ?_; rintro e w1 ⟨g, cap, rfl, hb1, hr1⟩; have T1 := Lib.hid hb1; have R1 := Lib.hid hr1; clear hb1 hr1)
      have hsz := T1.out.size
      have R0 : Hid (w1.ownsRow w.heap.size 3 1 (.slice (some ⟨g, 0, none⟩) 0 cap) (cat xs ys 0).length ((cat xs ys 0).map (Value.int .i64))) := Lib.hid R1.out
      go_loopw [6, 27] (fun v i wr => ∃ k : Nat, k ≤ 2 ∧ i = .int .i64 k ∧ Below w.heap.size w wr ∧ wr.ownsRow w.heap.size 3 1 v (cat xs ys k).length ((cat xs ys k).map (Value.int .i64))) (fun _ i _ => 2 - (intOf i).toNat)
      case atStart => exact ⟨0, by omega, rfl, T1.out, R0.out⟩
      case round =>
        obtain ⟨k, hk, rfl, hbl, hown⟩ := hrel
        have HB := Lib.hid hbl
        have HO := Lib.hid hown
        have hszr := hbl.size
        have d0 := (hbl.cell (p := ⟨B, 0, none⟩) hB).trans C0.out
        have d1 := (hbl.cell (p := ⟨B, 1, none⟩) hB).trans C1.out
        have E1 := Lib.hid (A1.out.below hbl hb1)
        have E2 := Lib.hid (A2.out.below hbl hb2)
        clear hbl hown c0 c1
        rcases (by omega : k = 0 ∨ k = 1 ∨ k = 2) with rfl | rfl | rfl
        · have K1 : Hid (∀ (v' : Value) (w' : World), w'.ownsRow w.heap.size 3 1 v' ((cat xs ys 0).length + n) ((cat xs ys 0).map (Value.int .i64) ++ xs.map (Value.int .i64)) → w'.ownsRow w.heap.size 3 1 v' (cat xs ys 1).length ((cat xs ys 1).map (Value.int .i64))) := Lib.hid fun v' w' h => by
            simpa [cat, HN.out] using h
          go_wp2_with (at_builtin; refine wpList_append_own _ rfl _ _ 22 rfl w.heap.size 3 i0 (.int .i64 0) 1 8 Try.underlying22 hi hz0 hz1 hz2 rfl (by decide) _ _ _ rfl HO.out ⟨b1, off1, none⟩ n cap1 (xs.map (Value.int .i64)) rfl (by rw [List.length_map, HN.out]; omega) (at_cells E1.out) (ints_one xs) (by simp [cat, maxLen]; omega) (by simp [cat]; omega) (by omega) ?_; intro v' w' hown' hgrow _; have HO1 := Lib.hid (K1.out _ _ hown'); have HG1 := Lib.hid hgrow; clear hown' hgrow)
          go_roundw
          case rel => exact ⟨1, by omega, rfl, HB.out.grown HG1.out hszr (own_block HO.out), HO1.out⟩
          case measure => simp [intOf]
        · have K1 : Hid (∀ (v' : Value) (w' : World), w'.ownsRow w.heap.size 3 1 v' ((cat xs ys 1).length + m) ((cat xs ys 1).map (Value.int .i64) ++ ys.map (Value.int .i64)) → w'.ownsRow w.heap.size 3 1 v' (cat xs ys 2).length ((cat xs ys 2).map (Value.int .i64))) := Lib.hid fun v' w' h => by
            simpa [cat, HM.out] using h
          have hl1 : (cat xs ys 1).length = n := HN.out
          go_wp2_with (at_builtin; refine wpList_append_own _ rfl _ _ 22 rfl w.heap.size 3 i0 (.int .i64 0) 1 8 Try.underlying22 hi hz0 hz1 hz2 rfl (by decide) _ _ _ rfl HO.out ⟨b2, off2, none⟩ m cap2 (ys.map (Value.int .i64)) rfl (by rw [List.length_map, HM.out]; omega) (at_cells E2.out) (ints_one ys) (by rw [hl1]; unfold maxLen; omega) (by rw [hl1]; omega) (by omega) ?_; intro v' w' hown' hgrow _; have HO1 := Lib.hid (K1.out _ _ hown'); have HG1 := Lib.hid hgrow; clear hown' hgrow)
          go_roundw
          case rel => exact ⟨2, by omega, rfl, HB.out.grown HG1.out hszr (own_block HO.out), HO1.out⟩
          case measure => simp [intOf]
        · go_wp2
          go_ret
          exact ⟨_, rfl, HB.out, own_row rfl HO.out⟩
end Go.Proofs.Ytlacohjecehpiaa.Part
namespace Go.Proofs.Ytlacohjecehpiaa.Part
open Go Go.RowKit Go.Law Go.Part Go.Col

/-- A list of the call's own, with true. -/
def OwnPost (X : List Nat) (W : World) (e : Ending) (w' : World) : Prop := ∃ v b, e = .returned (.tuple #[v, .bool true]) ∧ Below W.heap.size W w' ∧ W.heap.size ≤ b ∧ w'.ownsRow b 3 1 v X.length ((ints X).map (Value.int .i64))
theorem case_ok {n : Nat} {l : List Int} (h1 : 1 ≤ n) (h5 : n ≤ 5) (hl : l.length = n) (hw : wf l) {w : World} {v : Value} (h : IntsAt w .i64 v l) : Calls Try.prog 40 #[.int .i64 n, v] w (OwnPost (masks n l) w) := by
  have hS := sets_of (show n < 6 by omega) hl hw
  have hc := classes_any h
  rw [clsList, code_of (by omega) hw, if_pos rfl] at hc
  have hf := hS.few
  refine (caseSets_ok h1 h5 (L := clsAll l) (by omega) hS.scan (Lib.hid hc)).mono ?_
  rintro e w' ⟨v', b, rfl, h1, h2, h3⟩
  refine ⟨v', b, rfl, h1, h2, ?_⟩
  rw [hS.sets, ← hS.len] at h3
  exact h3
theorem own_list {w : World} {b : Nat} {v : Value} {X : List Nat} (h : w.ownsRow b 3 1 v X.length ((ints X).map (Value.int .i64))) : IntsAt w .i64 v (ints X) := own_row (ints_len X) h
theorem own_kept {w w' : World} {b c n : Nat} {v u : Value} {xs : List Value} (h : w.ownsRow b 3 1 v n xs) (hg : w.grownBy w' u.ownBlock) (hu : ∀ g, u.ownBlock = some g → g < c) (hc : c ≤ b) : w'.ownsRow b 3 1 v n xs :=
  h.kept hg (by
    cases hv : v.ownBlock with
    | none => exact .inl rfl
    | some g =>
      refine .inr fun e => ?_
      have h1 := (h.lt g hv).1
      have h2 := hu g e.symm
      omega)
/-- What the loops need of the numbers. -/
structure Nums (n : Nat) (X Y M J : List Nat) : Prop where
  x : ∀ j, j < X.length → X.getD j 0 < 32
  y : ∀ j, j < Y.length → Y.getD j 0 < 32
  s : ∀ j, j < J.length → J.getD j 0 < 32
  lx : 0 < X.length ∧ X.length ≤ 5
  ly : 0 < Y.length ∧ Y.length ≤ 5
  lm : 0 < M.length ∧ M.length ≤ 5
  lj : J.length ≤ 5
  sum : X.sum = 2 ^ n - 1
  same : asc (ints (wantN X Y)) = asc (ints M)
  len : (wantN X Y).length = M.length
  ix : ∀ c ∈ X ++ Y, c < 32
  into : ∀ j, j < J.length → ∀ c ∈ X ++ Y, c &&& J.getD j 0 = 0 ∨ c &&& J.getD j 0 = c
theorem getD_in {X : List Nat} {j : Nat} (hj : j < X.length) : X.getD j 0 ∈ X := by
  rw [List.getD_eq_getElem?_getD, List.getElem?_eq_getElem hj]; exact List.getElem_mem hj
theorem mem_get {X : List Nat} {c : Nat} (h : c ∈ X) : ∃ j, j < X.length ∧ X.getD j 0 = c := by
  obtain ⟨j, hj, e⟩ := List.mem_iff_getElem.1 h
  exact ⟨j, hj, by rw [List.getD_eq_getElem?_getD, List.getElem?_eq_getElem hj]; exact e⟩
theorem nums_of {n : Nat} {a b : List Int} (h1 : 1 ≤ n) (h5 : n ≤ 5) (hla : a.length = n) (hlb : b.length = n) (ha : wf a) (hb : wf b) : Nums n (masks n a) (masks n b) (masks n (cut a b)) (masks n (glue n a b)) := by
  have SA := sets_of (show n < 6 by omega) hla ha
  have SB := sets_of (show n < 6 by omega) hlb hb
  have hlm : (cut a b).length = n := by rw [cut_len]; exact hla
  have SM := sets_of (show n < 6 by omega) hlm (cut_wf a b)
  have SJ := sets_of (show n < 6 by omega) (glue_len n a b) (glue_wf n a b)
  have hp := want_perm (show n < 6 by omega) hla ha hlb hb
  have fa := SA.few
  have fb := SB.few
  have fm := SM.few
  have fj := SJ.few
  have hx : ∀ c ∈ masks n a ++ masks n b, c < 32 := by
    intro c hc
    rcases List.mem_append.1 hc with h | h
    · obtain ⟨j, hj, rfl⟩ := mem_get h; exact SA.lt j hj
    · obtain ⟨j, hj, rfl⟩ := mem_get h; exact SB.lt j hj
  refine ⟨SA.lt, SB.lt, SJ.lt, ⟨pos_of h1 SA, by rw [SA.len]; omega⟩, ⟨pos_of h1 SB, by rw [SB.len]; omega⟩, ⟨pos_of h1 SM, by rw [SM.len]; omega⟩, by rw [SJ.len]; omega, SA.sum, asc_eq hp, hp.length_eq, hx, ?_⟩
  intro j hj c hc
  rcases List.mem_append.1 hc with h | h
  · exact in_of (show n < 6 by omega) hla ha (glue_len n a b) (glue_wf n a b) (fun p q hp hq e => (glue_conn n a b p q hp hq).2 (.left hp hq e)) _ (getD_in hj) c h
  · exact in_of (show n < 6 by omega) hlb hb (glue_len n a b) (glue_wf n a b) (fun p q hp hq e => (glue_conn n a b p q hp hq).2 (.right hp hq e)) _ (getD_in hj) c h
end Go.Proofs.Ytlacohjecehpiaa.Part
