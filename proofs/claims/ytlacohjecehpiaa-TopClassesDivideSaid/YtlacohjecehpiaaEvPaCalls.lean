/-
  Codes of pairs, comparisons of lists, and the calls above: Refine, Meet, Of, Finer.
-/
import Derived.Test.YtlacohjecehpiaaEvPaOf
namespace Go.Proofs.Ytlacohjecehpiaa.Part
open Go Go.RowKit Go.Part Go.Law Go.Maps

theorem own_row {w : World} {base : Nat} {v : Value} {zs : List Int} {n : Nat} (hz : zs.length = n) (h : w.ownsRow base 3 1 v n (zs.map (Value.int .i64))) : IntsAt w .i64 v zs := by
  subst hz
  rcases h.2 with ⟨rfl, hn⟩ | ⟨g, cap, cur, rfl, hg, hb, hn, hcap, hcs, htake⟩
  · have : zs = [] := List.length_eq_zero_iff.1 hn
    subst this
    exact ⟨none, 0, rfl, Nat.le_refl _, by simp [maxLen], .inl rfl⟩
  · refine ⟨_, _, rfl, hn, hcap, .inr ⟨g, 0, rfl, ?_, fun j hj => ?_⟩⟩
    · by_cases hlt : g < w.heap.size
      · exact hlt
      · rw [Array.getElem?_eq_none (by omega)] at hb; cases hb
    · have h1 : (cur.toList.take (zs.length * 1))[j]? = some (.int .i64 (zs.getD j 0)) := by
        rw [htake, List.getElem?_map, List.getElem?_eq_getElem hj]
        simp [List.getD, List.getElem?_eq_getElem hj]
      rw [List.getElem?_take, if_pos (by omega)] at h1
      simp only [World.cell?, hb]
      simpa using h1
theorem own_block {w : World} {base n size : Nat} {e : TypeId} {v : Value} {xs : List Value} (h : w.ownsRow base e size v n xs) : ∀ k, v.ownBlock = some k → base ≤ k := by
  intro k hk
  rcases h.2 with ⟨rfl, _⟩ | ⟨g, cap, cur, rfl, hg, _⟩
  · cases hk
  · cases hk; exact hg
theorem cell_one_new (w : World) (v : Value) (t : TypeId) : ∀ (j : Nat) (u : Value), [v][j]? = some u → (w.alloc (.cells #[v] t)).cell? ((⟨w.heap.size, 0, none⟩ : Addr).add j) = some u := by
  intro j u h
  match j, h with
  | 0, h =>
    obtain rfl : v = u := by simpa using h
    rw [show (⟨w.heap.size, 0, none⟩ : Addr).add 0 = ⟨w.heap.size, 0, none⟩ from rfl, World.cell?_alloc_at _ _ _ _ rfl]; rfl
  | j + 1, h => simp at h
/-- A list of the call's own, once it has a member, read. -/
theorem own_some {w : World} {base n : Nat} {v : Value} {zs : List Int} (hn : 0 < n) (hz : zs.length = n) (h : w.ownsRow base 3 1 v n (zs.map (Value.int .i64))) : ∃ g cap, v = .slice (some ⟨g, 0, none⟩) n cap ∧ base ≤ g ∧ ∀ j, j < n → w.cell? ⟨g, 0 + j, none⟩ = some (.int .i64 (zs.getD j 0)) := by
  subst hz
  rcases h.2 with ⟨rfl, hn'⟩ | ⟨g, cap, cur, rfl, hg, hb, hn', hcap, hcs, htake⟩
  · omega
  · refine ⟨_, _, rfl, hg, fun j hj => ?_⟩
    have h1 : (cur.toList.take (zs.length * 1))[j]? = some (.int .i64 (zs.getD j 0)) := by
      rw [htake, List.getElem?_map, List.getElem?_eq_getElem hj]
      simp [List.getD, List.getElem?_eq_getElem hj]
    rw [List.getElem?_take, if_pos (by omega)] at h1
    simp only [World.cell?, hb]
    simpa using h1
section
variable {α : Type} [DecidableEq α] {f : Nat → α}
/-- How far the search for a key has come. -/
def Sought (f : Nat → α) (k j : Nat) (l : Int) : Prop := (l = -1 ∧ fnd f (f k) j = none) ∨ ∃ q : Nat, fnd f (f k) k = some q ∧ l = (cnt f q : Int)
theorem sought_zero (k : Nat) : Sought f k 0 (-1) := .inl ⟨rfl, rfl⟩
theorem sought_miss {k j : Nat} (h : fnd f (f k) j = none) (hne : f j ≠ f k) : Sought f k (j + 1) (-1) := .inl ⟨rfl, by
  show (match fnd f (f k) j with | some q => some q | none => if f j = f k then some j else none) = none
  rw [h]; simp [hne]⟩
theorem sought_hit {k j : Nat} (hj : j < k) (h : fnd f (f k) j = none) (he : f j = f k) : fnd f (f k) k = some j ∧ lab f j = cnt f j :=
  ⟨fnd_at hj he h, lab_new (by rw [he]; exact h)⟩
end

theorem elem22 : Try.prog.elem 22 = 3 := by kernel_rfl
theorem size3 (W : World) : (sizeOf 3).run Try.prog W = .ok 1 W := by kernel_rfl
theorem index_at (W : World) (g off k cap j : Nat) (hj : j < k) : (Instr.indexAt 22 (.slice (some ⟨g, off, none⟩) k cap) (.int .i64 (j : Int))).run Try.prog W = .ok (.pointer (some ⟨g, off + j, none⟩)) W := by
  rw [run_indexAt_slice (P := Try.prog) (w := W) 22 ⟨g, off, none⟩ k cap .i64 (j : Int) (by rw [elem22]; exact Try.underlying22), if_pos ⟨by omega, by omega⟩, elem22, size3]
  simp [Result.andThen, Go.WideShapes.add_plain]
theorem own_index {w : World} {base n : Nat} {v : Value} {zs : List Int} (hz : zs.length = n) (h : w.ownsRow base 3 1 v n (zs.map (Value.int .i64))) (j : Nat) (hj : j < n) :
    ∃ p : Addr, (∀ W : World, (Instr.indexAt 22 v (.int .i64 (j : Int))).run Try.prog W = .ok (.pointer (some p)) W) ∧ w.cell? p = some (.int .i64 (zs.getD j 0)) := by
  obtain ⟨g, cap', rfl, _, hcl⟩ := own_some (by omega) hz h
  exact ⟨⟨g, 0 + j, none⟩, fun W => index_at W g 0 n cap' j hj, hcl j hj⟩

set_option maxRecDepth 100000 in
set_option maxHeartbeats 2000000 in
theorem labels_some (b off cap len : Nat) (zs : List Int) (hz : zs.length = len) (hl : ¬ 65536 < len) (w : World) (hb : b < w.heap.size) (hc : At w b off zs) :
    Calls Try.prog 52 #[.slice (some ⟨b, off, none⟩) len cap] w (ListPost (labs (fn zs) len) w) := by
  have HZ := Lib.hid hz
  have HC := Lib.hid hc
  clear hz hc
  obtain ⟨i0, hi, hz0, hz1, hz2⟩ := info_parts info3
  have HN : Hid (w.ownsRow w.heap.size 3 1 (.slice none 0 0) 0 ((labs (fn zs) 0).map (Value.int .i64))) := Lib.hid ⟨rfl, .inl ⟨rfl, rfl⟩⟩
  go_enter Try.func52, Try.ntmps52
  go_wp2
  go_loopw [3, 4, 5] (fun v nx i wr => ∃ k : Nat, k ≤ len ∧ i = .int .i64 k ∧ nx = .int .i64 (cnt (fn zs) k) ∧ Below w.heap.size w wr ∧ wr.ownsRow w.heap.size 3 1 v k ((labs (fn zs) k).map (Value.int .i64))) (fun _ _ i _ => len - (intOf i).toNat)
  case atStart => exact ⟨0, Nat.zero_le _, rfl, rfl, Below.refl _ _, HN.out⟩
  case round =>
    obtain ⟨k, hk, rfl, rfl, hbl, hown⟩ := hrel
    by_cases hlt : k < len
    · have HW := Lib.hid (fun (hp : 0 < k) => own_some hp (labs_length _ _) hown)
      have HOW := Lib.hid hown
      have HBL := Lib.hid hbl
      have HCC : Hid (At wr b off zs) := Lib.hid (HC.out.below hbl hb)
      have hck : cnt (fn zs) k ≤ k := cnt_le _ _
      clear hown hbl
      have HX := Lib.hid (own_index (labs_length _ _) HOW.out)
      go_wp2
      go_loopw [6, 7] (fun l i wx => ∃ (j m : Nat) (c : Int), j ≤ k ∧ i = .int .i64 j ∧ l = .int .i64 c ∧ wx = wr.drewN m ∧ Sought (fn zs) k j c) (fun _ i _ => k - (intOf i).toNat)
      case atStart => exact ⟨0, 0, -1, Nat.zero_le _, rfl, rfl, rfl, sought_zero k⟩
      case round =>
        obtain ⟨j, m, l, hj, rfl, rfl, rfl, hs⟩ := hrel
        rcases hs with ⟨rfl, hs⟩ | ⟨q, hq, rfl⟩
        · by_cases hjk : j < k
          · have hcell := HCC.out j (by have := HZ.out; omega)
            have hcell1 := HCC.out k (by have := HZ.out; omega)
            have hjl : j < len := by omega
            obtain ⟨p, hix, hpc⟩ := HX.out j hjk
            rw [labs_getD _ hjk] at hpc
            have HIX := Lib.hid hix
            have HPC := Lib.hid hpc
            have HS := Lib.hid hs
            clear hs hix hpc
            have HF1 : Hid ((fn zs) j = zs.getD j 0) := Lib.hid rfl
            have HF2 : Hid ((fn zs) k = zs.getD k 0) := Lib.hid rfl
            generalize zs.getD j 0 = x at *
            generalize zs.getD k 0 = y at *
            by_cases hxy : x = y
            · subst hxy
              have hd : ((x : Int) == x) = true := by simp
              go_wp2
              go_quiet (fail)
              obtain ⟨h1, h2⟩ := sought_hit (f := fn zs) hjk HS.out (by rw [HF1.out, HF2.out])
              have H1 := Lib.hid h1
              have H2 := Lib.hid h2
              have hix := HIX.out
              have hpc := HPC.out
              clear h1 h2
              go_wp2
              exact ⟨⟨j + 1, m + nq, (lab (fn zs) j : Int), by omega, by go_num, rfl, rfl, .inr ⟨j, H1.out, by rw [H2.out]⟩⟩, by simp [intOf]; omega⟩
            · have hd : ((x : Int) == y) = false := by simpa using hxy
              go_wp2
              go_quiet (fail)
              go_wp2
              exact ⟨⟨j + 1, m + nq, -1, by omega, by go_num, rfl, rfl, sought_miss HS.out (by rw [HF1.out, HF2.out]; exact hxy)⟩, by simp [intOf]; omega⟩
          · have hjk' : j = k := by omega
            subst hjk'
            have HLAB := Lib.hid (lab_new hs)
            have HCN := Lib.hid (cnt_fresh hs)
            clear hs
            go_wp2_with (at_builtin; refine wpList_append_own _ rfl _ _ 22 rfl w.heap.size 3 i0 (.int .i64 0) 1 8 Try.underlying22 hi hz0 hz1 hz2 rfl (by decide) _ _ _ rfl (World.ownsRow.alloc (show (wr.drewN m).ownsRow _ _ _ _ _ _ from HOW.out) _) ⟨(wr.drewN m).heap.size, 0, none⟩ 1 1 [.int .i64 (cnt (fn zs) j : Int)] rfl rfl (cell_one_new _ _ _) (fun x hx => by simp at hx; subst hx; rfl) (by unfold maxLen; omega) (by omega) (by have := HBL.out.size; simp; omega) ?_; intro v' w1 hown' hgrow _; have HO1 := Lib.hid hown'; have HG1 := Lib.hid hgrow; clear hown' hgrow)
            exact ⟨⟨j + 1, by omega, by go_num, by rw [HCN.out]; go_num, ((below_drewN HBL.out m).alloc HBL.out.size _).grown HG1.out (by have := HBL.out.size; simp; omega) (own_block HOW.out), by rw [labs_succ, HLAB.out, List.map_append]; exact HO1.out⟩, by simp [intOf]; omega⟩
        · have HLAB := Lib.hid (lab_old hq)
          have HCN := Lib.hid (cnt_old hq)
          clear hq
          by_cases hjk : j < k
          · skip
            go_wp2_with (at_builtin; refine wpList_append_own _ rfl _ _ 22 rfl w.heap.size 3 i0 (.int .i64 0) 1 8 Try.underlying22 hi hz0 hz1 hz2 rfl (by decide) _ _ _ rfl (World.ownsRow.alloc (show (wr.drewN m).ownsRow _ _ _ _ _ _ from HOW.out) _) ⟨(wr.drewN m).heap.size, 0, none⟩ 1 1 [.int .i64 (cnt (fn zs) q : Int)] rfl rfl (cell_one_new _ _ _) (fun x hx => by simp at hx; subst hx; rfl) (by unfold maxLen; omega) (by omega) (by have := HBL.out.size; simp; omega) ?_; intro v' w1 hown' hgrow _; have HO1 := Lib.hid hown'; have HG1 := Lib.hid hgrow; clear hown' hgrow)
            exact ⟨⟨k + 1, by omega, by go_num, by rw [HCN.out], ((below_drewN HBL.out m).alloc HBL.out.size _).grown HG1.out (by have := HBL.out.size; simp; omega) (own_block HOW.out), by rw [labs_succ, HLAB.out, List.map_append]; exact HO1.out⟩, by simp [intOf]; omega⟩
          · skip
            go_wp2_with (at_builtin; refine wpList_append_own _ rfl _ _ 22 rfl w.heap.size 3 i0 (.int .i64 0) 1 8 Try.underlying22 hi hz0 hz1 hz2 rfl (by decide) _ _ _ rfl (World.ownsRow.alloc (show (wr.drewN m).ownsRow _ _ _ _ _ _ from HOW.out) _) ⟨(wr.drewN m).heap.size, 0, none⟩ 1 1 [.int .i64 (cnt (fn zs) q : Int)] rfl rfl (cell_one_new _ _ _) (fun x hx => by simp at hx; subst hx; rfl) (by unfold maxLen; omega) (by omega) (by have := HBL.out.size; simp; omega) ?_; intro v' w1 hown' hgrow _; have HO1 := Lib.hid hown'; have HG1 := Lib.hid hgrow; clear hown' hgrow)
            exact ⟨⟨k + 1, by omega, by go_num, by rw [HCN.out], ((below_drewN HBL.out m).alloc HBL.out.size _).grown HG1.out (by have := HBL.out.size; simp; omega) (own_block HOW.out), by rw [labs_succ, HLAB.out, List.map_append]; exact HO1.out⟩, by simp [intOf]; omega⟩
    · have hk' : k = len := by omega
      subst hk'
      have HOW := Lib.hid hown
      have HBL := Lib.hid hbl
      clear hown hbl
      go_wp2
      go_ret
      exact ⟨_, rfl, HBL.out, own_row (labs_length _ _) HOW.out⟩


set_option maxRecDepth 100000 in
set_option maxHeartbeats 2000000 in
theorem cut_some (b off cap c pff cbp len : Nat) (zs ys : List Int) (hz : zs.length = len) (hy : ys.length = len) (hl : ¬ 65536 < len) (w : World) (hb : b < w.heap.size) (hc : At w b off zs) (hb2 : c < w.heap.size) (hc2 : At w c pff ys) :
    Calls Try.prog 57 #[.slice (some ⟨b, off, none⟩) len cap, .slice (some ⟨c, pff, none⟩) len cbp] w (ListPost (labs (prs zs ys) len) w) := by
  have HZ := Lib.hid hz
  have HC := Lib.hid hc
  clear hz hc
  have HY := Lib.hid hy
  have HD2 := Lib.hid hc2
  clear hy hc2
  obtain ⟨i0, hi, hz0, hz1, hz2⟩ := info_parts info3
  have HN : Hid (w.ownsRow w.heap.size 3 1 (.slice none 0 0) 0 ((labs (prs zs ys) 0).map (Value.int .i64))) := Lib.hid ⟨rfl, .inl ⟨rfl, rfl⟩⟩
  go_enter Try.func57, Try.ntmps57
  go_wp2
  go_loopw [5, 6, 7] (fun v nx i wr => ∃ k : Nat, k ≤ len ∧ i = .int .i64 k ∧ nx = .int .i64 (cnt (prs zs ys) k) ∧ Below w.heap.size w wr ∧ wr.ownsRow w.heap.size 3 1 v k ((labs (prs zs ys) k).map (Value.int .i64))) (fun _ _ i _ => len - (intOf i).toNat)
  case atStart => exact ⟨0, Nat.zero_le _, rfl, rfl, Below.refl _ _, HN.out⟩
  case round =>
    obtain ⟨k, hk, rfl, rfl, hbl, hown⟩ := hrel
    by_cases hlt : k < len
    · have HW := Lib.hid (fun (hp : 0 < k) => own_some hp (labs_length _ _) hown)
      have HOW := Lib.hid hown
      have HBL := Lib.hid hbl
      have HCC : Hid (At wr b off zs) := Lib.hid (HC.out.below hbl hb)
      have HD : Hid (At wr c pff ys) := Lib.hid (HD2.out.below hbl hb2)
      have hck : cnt (prs zs ys) k ≤ k := cnt_le _ _
      clear hown hbl
      have HX := Lib.hid (own_index (labs_length _ _) HOW.out)
      go_wp2
      go_loopw [8, 9] (fun l i wx => ∃ (j m : Nat) (c : Int), j ≤ k ∧ i = .int .i64 j ∧ l = .int .i64 c ∧ wx = wr.drewN m ∧ Sought (prs zs ys) k j c) (fun _ i _ => k - (intOf i).toNat)
      case atStart => exact ⟨0, 0, -1, Nat.zero_le _, rfl, rfl, rfl, sought_zero k⟩
      case round =>
        obtain ⟨j, m, l, hj, rfl, rfl, rfl, hs⟩ := hrel
        rcases hs with ⟨rfl, hs⟩ | ⟨q, hq, rfl⟩
        · by_cases hjk : j < k
          · have hcell := HCC.out j (by have := HZ.out; omega)
            have hcell1 := HCC.out k (by have := HZ.out; omega)
            have hcell2 := HD.out j (by have := HY.out; omega)
            have hcell3 := HD.out k (by have := HY.out; omega)
            have hjl : j < len := by omega
            obtain ⟨p, hix, hpc⟩ := HX.out j hjk
            rw [labs_getD _ hjk] at hpc
            have HIX := Lib.hid hix
            have HPC := Lib.hid hpc
            have HS := Lib.hid hs
            clear hs hix hpc
            have HF1 : Hid ((prs zs ys) j = (zs.getD j 0, ys.getD j 0)) := Lib.hid rfl
            have HF2 : Hid ((prs zs ys) k = (zs.getD k 0, ys.getD k 0)) := Lib.hid rfl
            generalize zs.getD j 0 = x at *
            generalize zs.getD k 0 = y at *
            generalize ys.getD j 0 = x2 at *
            generalize ys.getD k 0 = y2 at *
            by_cases hxy : x = y
            · subst hxy
              have hd : ((x : Int) == x) = true := by simp
              by_cases hxy2 : x2 = y2
              · subst hxy2
                have hd2 : ((x2 : Int) == x2) = true := by simp
                go_wp2
                go_quiet (fail)
                obtain ⟨h1, h2⟩ := sought_hit (f := prs zs ys) hjk HS.out (by rw [HF1.out, HF2.out])
                have H1 := Lib.hid h1
                have H2 := Lib.hid h2
                have hix := HIX.out
                have hpc := HPC.out
                clear h1 h2
                go_wp2
                exact ⟨⟨j + 1, m + nq, (lab (prs zs ys) j : Int), by omega, by go_num, rfl, rfl, .inr ⟨j, H1.out, by rw [H2.out]⟩⟩, by simp [intOf]; omega⟩
              · have hd2 : ((x2 : Int) == y2) = false := by simpa using hxy2
                go_wp2
                go_quiet (fail)
                go_wp2
                exact ⟨⟨j + 1, m + nq, -1, by omega, by go_num, rfl, rfl, sought_miss HS.out (by rw [HF1.out, HF2.out]; intro e; exact hxy2 (congrArg Prod.snd e))⟩, by simp [intOf]; omega⟩
            · have hd : ((x : Int) == y) = false := by simpa using hxy
              go_wp2
              go_quiet (fail)
              go_wp2
              exact ⟨⟨j + 1, m + nq, -1, by omega, by go_num, rfl, rfl, sought_miss HS.out (by rw [HF1.out, HF2.out]; intro e; exact hxy (congrArg Prod.fst e))⟩, by simp [intOf]; omega⟩
          · have hjk' : j = k := by omega
            subst hjk'
            have HLAB := Lib.hid (lab_new hs)
            have HCN := Lib.hid (cnt_fresh hs)
            clear hs
            go_wp2_with (at_builtin; refine wpList_append_own _ rfl _ _ 22 rfl w.heap.size 3 i0 (.int .i64 0) 1 8 Try.underlying22 hi hz0 hz1 hz2 rfl (by decide) _ _ _ rfl (World.ownsRow.alloc (show (wr.drewN m).ownsRow _ _ _ _ _ _ from HOW.out) _) ⟨(wr.drewN m).heap.size, 0, none⟩ 1 1 [.int .i64 (cnt (prs zs ys) j : Int)] rfl rfl (cell_one_new _ _ _) (fun x hx => by simp at hx; subst hx; rfl) (by unfold maxLen; omega) (by omega) (by have := HBL.out.size; simp; omega) ?_; intro v' w1 hown' hgrow _; have HO1 := Lib.hid hown'; have HG1 := Lib.hid hgrow; clear hown' hgrow)
            exact ⟨⟨j + 1, by omega, by go_num, by rw [HCN.out]; go_num, ((below_drewN HBL.out m).alloc HBL.out.size _).grown HG1.out (by have := HBL.out.size; simp; omega) (own_block HOW.out), by rw [labs_succ, HLAB.out, List.map_append]; exact HO1.out⟩, by simp [intOf]; omega⟩
        · have HLAB := Lib.hid (lab_old hq)
          have HCN := Lib.hid (cnt_old hq)
          clear hq
          by_cases hjk : j < k
          · skip
            go_wp2_with (at_builtin; refine wpList_append_own _ rfl _ _ 22 rfl w.heap.size 3 i0 (.int .i64 0) 1 8 Try.underlying22 hi hz0 hz1 hz2 rfl (by decide) _ _ _ rfl (World.ownsRow.alloc (show (wr.drewN m).ownsRow _ _ _ _ _ _ from HOW.out) _) ⟨(wr.drewN m).heap.size, 0, none⟩ 1 1 [.int .i64 (cnt (prs zs ys) q : Int)] rfl rfl (cell_one_new _ _ _) (fun x hx => by simp at hx; subst hx; rfl) (by unfold maxLen; omega) (by omega) (by have := HBL.out.size; simp; omega) ?_; intro v' w1 hown' hgrow _; have HO1 := Lib.hid hown'; have HG1 := Lib.hid hgrow; clear hown' hgrow)
            exact ⟨⟨k + 1, by omega, by go_num, by rw [HCN.out], ((below_drewN HBL.out m).alloc HBL.out.size _).grown HG1.out (by have := HBL.out.size; simp; omega) (own_block HOW.out), by rw [labs_succ, HLAB.out, List.map_append]; exact HO1.out⟩, by simp [intOf]; omega⟩
          · skip
            go_wp2_with (at_builtin; refine wpList_append_own _ rfl _ _ 22 rfl w.heap.size 3 i0 (.int .i64 0) 1 8 Try.underlying22 hi hz0 hz1 hz2 rfl (by decide) _ _ _ rfl (World.ownsRow.alloc (show (wr.drewN m).ownsRow _ _ _ _ _ _ from HOW.out) _) ⟨(wr.drewN m).heap.size, 0, none⟩ 1 1 [.int .i64 (cnt (prs zs ys) q : Int)] rfl rfl (cell_one_new _ _ _) (fun x hx => by simp at hx; subst hx; rfl) (by unfold maxLen; omega) (by omega) (by have := HBL.out.size; simp; omega) ?_; intro v' w1 hown' hgrow _; have HO1 := Lib.hid hown'; have HG1 := Lib.hid hgrow; clear hown' hgrow)
            exact ⟨⟨k + 1, by omega, by go_num, by rw [HCN.out], ((below_drewN HBL.out m).alloc HBL.out.size _).grown HG1.out (by have := HBL.out.size; simp; omega) (own_block HOW.out), by rw [labs_succ, HLAB.out, List.map_append]; exact HO1.out⟩, by simp [intOf]; omega⟩
    · have hk' : k = len := by omega
      subst hk'
      have HOW := Lib.hid hown
      have HBL := Lib.hid hbl
      clear hown hbl
      go_wp2
      go_ret
      exact ⟨_, rfl, HBL.out, own_row (labs_length _ _) HOW.out⟩

end Go.Proofs.Ytlacohjecehpiaa.Part
namespace Go.Proofs.Ytlacohjecehpiaa.Part
open Go Go.RowKit Go.Part Go.Law Go.Maps

theorem labels_any {w : World} {v : Value} {zs : List Int} (h : IntsAt w .i64 v zs) (hs : ¬ 65536 < zs.length) : Calls Try.prog 52 #[v] w (ListPost (labs (fn zs) zs.length) w) := by
  obtain ⟨a, cap, rfl, h1, h2, h3⟩ := h
  rcases h3 with rfl | ⟨b, off, rfl, hb, hc⟩
  · go_enter Try.func52, Try.ntmps52
    go_wp2
    refine wp_loop_rounds 1 ?_
    rw [rounds_succ]
    go_wp2
    go_ret
    exact ⟨_, rfl, Below.refl _ _, ints_nil _⟩
  · exact labels_some b off cap _ zs rfl hs w hb hc
theorem rcut_any {w : World} {v u : Value} {zs ys : List Int} (h : IntsAt w .i64 v zs) (h' : IntsAt w .i64 u ys) (hl : zs.length = ys.length) (hs : ¬ 65536 < zs.length) : Calls Try.prog 57 #[v, u] w (ListPost (cut zs ys) w) := by
  obtain ⟨a, cap, rfl, h1, h2, h3⟩ := h
  obtain ⟨a', cap', rfl, h1', h2', h3'⟩ := h'
  have nil : ∀ (a a' : Option Addr) (n cap cap' : Nat), Calls Try.prog 57 #[.slice a 0 cap, .slice a' n cap'] w (ListPost [] w) := by
    intro a a' n cap cap'
    go_enter Try.func57, Try.ntmps57
    go_wp2
    refine wp_loop_rounds 1 ?_
    rw [rounds_succ]
    go_wp2
    go_ret
    exact ⟨_, rfl, Below.refl _ _, ints_nil _⟩
  rcases h3 with rfl | ⟨b, off, rfl, hb, hc⟩
  · exact nil _ _ _ _ _
  · rcases h3' with rfl | ⟨c, pff, rfl, hb', hc'⟩
    · have : zs = [] := List.length_eq_zero_iff.1 hl
      subst this
      exact nil _ _ _ _ _
    · rw [← hl]
      exact cut_some b off cap c pff cap' _ zs ys rfl hl.symm hs w hb hc hb' hc'

/-! Codes of two lists. -/
def both (a b : List Int) : Int := if code a ≠ 0 then code a else if code b ≠ 0 then code b else if a.length ≠ b.length then 15 else 0
theorem both_left {a b : List Int} (h : code a ≠ 0) : both a b = code a := if_pos h
theorem both_right {a b : List Int} (h : code a = 0) (h' : code b ≠ 0) : both a b = code b := by rw [both, if_neg (by simpa using h), if_pos h']
theorem both_shape {a b : List Int} (h : code a = 0) (h' : code b = 0) (h2 : a.length ≠ b.length) : both a b = 15 := by rw [both, if_neg (by simpa using h), if_neg (by simpa using h'), if_pos h2]
theorem both_ok {a b : List Int} (h : code a = 0) (h' : code b = 0) (h2 : a.length = b.length) : both a b = 0 := by rw [both, if_neg (by simpa using h), if_neg (by simpa using h'), if_neg (by simpa using h2)]
theorem code_ok {a : List Int} (h : code a = 0) : ¬ 65536 < a.length ∧ wf a := by
  unfold code at h
  by_cases hl : 65536 < a.length
  · rw [if_pos hl] at h; cases h
  · rw [if_neg hl] at h; exact ⟨hl, chk_iff.1 h⟩
theorem code_of {a : List Int} (hl : ¬ 65536 < a.length) (h : wf a) : code a = 0 := by rw [code, if_neg hl]; exact chk_iff.2 h
theorem both_inv {a b : List Int} (h : both a b = 0) : code a = 0 ∧ code b = 0 ∧ a.length = b.length := by
  by_cases h1 : code a = 0
  · by_cases h2 : code b = 0
    · by_cases h3 : a.length = b.length
      · exact ⟨h1, h2, h3⟩
      · rw [both_shape h1 h2 h3] at h; cases h
    · rw [both_right h1 h2] at h; exact absurd h h2
  · rw [both_left h1] at h; exact absurd h h1
theorem ne_true {c : Int} (h : c ≠ 0) : (c != 0) = true := by simpa using h
theorem wf_fit {a : List Int} (h : wf a) (hl : ¬ 65536 < a.length) : Fit a := by
  have := labs_fit (fn a) a.length (by omega)
  rwa [h] at this
/-- What only reads. -/
def Quiet (r : Value) (W : World) (e : Ending) (w' : World) : Prop := ∃ m, e = .returned r ∧ w' = W.drewN m
def BoolPost (b : Bool) (c : Int) (W : World) (e : Ending) (w' : World) : Prop := e = .returned (.tuple #[.bool b, .int .i64 c]) ∧ Below W.heap.size W w'


theorem both_any {w : World} {v u : Value} {a b : List Int} (h : IntsAt w .i64 v a) (h' : IntsAt w .i64 u b) : Calls Try.prog 53 #[v, u] w fun e w' => e = .returned (.int .i64 (both a b)) ∧ w = w' := by
  have HA := Lib.hid (check_any h)
  have HB := Lib.hid (check_any h')
  obtain ⟨x, cap, rfl, h1, h2, h3⟩ := h
  obtain ⟨x', cap', rfl, h1', h2', h3'⟩ := h'
  clear h3 h3' h1 h1' h2 h2'
  by_cases c1 : code a = 0
  · by_cases c2 : code b = 0
    · by_cases c3 : a.length = b.length
      · rw [both_ok c1 c2 c3]
        rw [c1] at HA
        rw [c2] at HB
        have e3 : ((a.length : Int) != (b.length : Int)) = false := by rw [c3]; simp
        have e4 : (a.length != b.length) = false := by rw [c3]; simp
        clear c1 c2 c3
        go_enter Try.func53, Try.ntmps53
        go_wp2_with (first | (go_at_call 18; ((with_reducible refine (HA.out).mono ?_); rintro e w' ⟨rfl, rfl⟩)) | (go_at_call 18; ((with_reducible refine (HB.out).mono ?_); rintro e w' ⟨rfl, rfl⟩)))
        go_ret
        exact ⟨rfl, rfl⟩
      · rw [both_shape c1 c2 c3]
        rw [c1] at HA
        rw [c2] at HB
        have e3 : ((a.length : Int) != (b.length : Int)) = true := by simpa using (fun e => c3 (by exact_mod_cast e))
        have e4 : (a.length != b.length) = true := by simpa using c3
        clear c1 c2 c3
        go_enter Try.func53, Try.ntmps53
        go_wp2_with (first | (go_at_call 18; ((with_reducible refine (HA.out).mono ?_); rintro e w' ⟨rfl, rfl⟩)) | (go_at_call 18; ((with_reducible refine (HB.out).mono ?_); rintro e w' ⟨rfl, rfl⟩)))
        go_ret
        exact ⟨rfl, rfl⟩
    · rw [both_right c1 c2]
      rw [c1] at HA
      have e2 := ne_true c2
      generalize code b = cb at *
      clear c1 c2
      go_enter Try.func53, Try.ntmps53
      go_wp2_with (first | (go_at_call 18; ((with_reducible refine (HA.out).mono ?_); rintro e w' ⟨rfl, rfl⟩)) | (go_at_call 18; ((with_reducible refine (HB.out).mono ?_); rintro e w' ⟨rfl, rfl⟩)))
      go_ret
      exact ⟨rfl, rfl⟩
  · rw [both_left c1]
    have e1 := ne_true c1
    generalize code a = ca at *
    clear c1
    go_enter Try.func53, Try.ntmps53
    go_wp2_with (go_at_call 18; ((with_reducible refine (HA.out).mono ?_); rintro e w' ⟨rfl, rfl⟩))
    go_ret
    exact ⟨rfl, rfl⟩


theorem rboth_any {w : World} {v u : Value} {a b : List Int} (h : IntsAt w .i64 v a) (h' : IntsAt w .i64 u b) : Calls Try.prog 55 #[v, u] w fun e w' => e = .returned (.int .i64 (both a b)) ∧ w = w' := by
  have HA := Lib.hid (rcheck_any h)
  have HB := Lib.hid (rcheck_any h')
  obtain ⟨x, cap, rfl, h1, h2, h3⟩ := h
  obtain ⟨x', cap', rfl, h1', h2', h3'⟩ := h'
  clear h3 h3' h1 h1' h2 h2'
  by_cases c1 : code a = 0
  · by_cases c2 : code b = 0
    · by_cases c3 : a.length = b.length
      · rw [both_ok c1 c2 c3]
        rw [c1] at HA
        rw [c2] at HB
        have e3 : ((a.length : Int) != (b.length : Int)) = false := by rw [c3]; simp
        have e4 : (a.length != b.length) = false := by rw [c3]; simp
        clear c1 c2 c3
        go_enter Try.func55, Try.ntmps55
        go_wp2_with (first | (go_at_call 19; ((with_reducible refine (HA.out).mono ?_); rintro e w' ⟨rfl, rfl⟩)) | (go_at_call 19; ((with_reducible refine (HB.out).mono ?_); rintro e w' ⟨rfl, rfl⟩)))
        go_ret
        exact ⟨rfl, rfl⟩
      · rw [both_shape c1 c2 c3]
        rw [c1] at HA
        rw [c2] at HB
        have e3 : ((a.length : Int) != (b.length : Int)) = true := by simpa using (fun e => c3 (by exact_mod_cast e))
        have e4 : (a.length != b.length) = true := by simpa using c3
        clear c1 c2 c3
        go_enter Try.func55, Try.ntmps55
        go_wp2_with (first | (go_at_call 19; ((with_reducible refine (HA.out).mono ?_); rintro e w' ⟨rfl, rfl⟩)) | (go_at_call 19; ((with_reducible refine (HB.out).mono ?_); rintro e w' ⟨rfl, rfl⟩)))
        go_ret
        exact ⟨rfl, rfl⟩
    · rw [both_right c1 c2]
      rw [c1] at HA
      have e2 := ne_true c2
      generalize code b = cb at *
      clear c1 c2
      go_enter Try.func55, Try.ntmps55
      go_wp2_with (first | (go_at_call 19; ((with_reducible refine (HA.out).mono ?_); rintro e w' ⟨rfl, rfl⟩)) | (go_at_call 19; ((with_reducible refine (HB.out).mono ?_); rintro e w' ⟨rfl, rfl⟩)))
      go_ret
      exact ⟨rfl, rfl⟩
  · rw [both_left c1]
    have e1 := ne_true c1
    generalize code a = ca at *
    clear c1
    go_enter Try.func55, Try.ntmps55
    go_wp2_with (go_at_call 19; ((with_reducible refine (HA.out).mono ?_); rintro e w' ⟨rfl, rfl⟩))
    go_ret
    exact ⟨rfl, rfl⟩


theorem equal_len (a a' : Option Addr) (n m cap cap' : Nat) (h : n ≠ m) (w : World) : Calls Try.prog 36 #[.slice a n cap, .slice a' m cap'] w (Quiet (.bool false) w) := by
  have e3 : ((n : Int) != (m : Int)) = true := by simpa using (fun e => h (by exact_mod_cast e))
  have e4 : (n != m) = true := by simpa using h
  clear h
  go_enter Try.func36, Try.ntmps36
  go_wp2
  go_ret
  exact ⟨0, rfl, rfl⟩
theorem equal_nil (a a' : Option Addr) (cap cap' : Nat) (w : World) : Calls Try.prog 36 #[.slice a 0 cap, .slice a' 0 cap'] w (Quiet (.bool true) w) := by
  go_enter Try.func36, Try.ntmps36
  go_wp2
  refine wp_loop_rounds 1 ?_
  rw [rounds_succ]
  go_wp2
  go_ret
  exact ⟨0, rfl, rfl⟩
set_option maxHeartbeats 1000000 in
theorem equal_some (b off cap c pff cbp len : Nat) (zs ys : List Int) (hz : zs.length = len) (hy : ys.length = len) (w : World) (hc : At w b off zs) (hc2 : At w c pff ys) (hl : len ≤ 9223372036854775807) :
    Calls Try.prog 36 #[.slice (some ⟨b, off, none⟩) len cap, .slice (some ⟨c, pff, none⟩) len cbp] w (Quiet (.bool (decide (zs = ys))) w) := by
  have HZ := Lib.hid hz
  have HY := Lib.hid hy
  have HC := Lib.hid hc
  have HD := Lib.hid hc2
  clear hz hy hc hc2
  have e3 : ((len : Int) != (len : Int)) = false := by simp
  go_enter Try.func36, Try.ntmps36
  go_wp2
  go_loopw [13] (fun i wr => ∃ k m : Nat, k ≤ len ∧ i = .int .i64 k ∧ wr = w.drewN m ∧ zs.take k = ys.take k) (fun i _ => len - (intOf i).toNat)
  case atStart => exact ⟨0, 0, Nat.zero_le _, rfl, rfl, rfl⟩
  case round =>
    obtain ⟨k, m, hk, rfl, rfl, ht⟩ := hrel
    have HT := Lib.hid ht
    clear ht
    by_cases hlt : k < len
    · have hcell := HC.out k (by have := HZ.out; omega)
      have hcell1 := HD.out k (by have := HY.out; omega)
      have HS1 := Lib.hid (take_snoc (l := zs) (k := k) (by have := HZ.out; omega))
      have HS2 := Lib.hid (take_snoc (l := ys) (k := k) (by have := HY.out; omega))
      have HX1 : Hid (zs.getD k 0 = zs.getD k 0) := Lib.hid rfl
      have HX2 : Hid (ys.getD k 0 = ys.getD k 0) := Lib.hid rfl
      have HN : Hid (zs.getD k 0 ≠ ys.getD k 0 → zs ≠ ys) := Lib.hid (fun h e => h (by rw [e]))
      generalize zs.getD k 0 = x at *
      generalize ys.getD k 0 = y at *
      clear HX1 HX2
      by_cases hxy : x = y
      · subst hxy
        have hd : ((x : Int) != x) = false := by simp
        go_wp2
        go_quiet (fail)
        go_wp2
        exact ⟨⟨k + 1, m + nq, by omega, by go_num, rfl, by rw [HS1.out, HS2.out, HT.out]⟩, by simp [intOf]; omega⟩
      · have hd : ((x : Int) != y) = true := by simpa using hxy
        go_wp2
        go_quiet (fail)
        go_wp2
        go_ret
        exact ⟨m + nq, ret_bool (by simpa using HN.out hxy), by rw [World.drewN_drewN]⟩
    · have hk' : k = len := by omega
      have HE : Hid (zs = ys) := Lib.hid (by have h1 := HZ.out; have h2 := HY.out; have := HT.out; rwa [List.take_of_length_le (by omega), List.take_of_length_le (by omega)] at this)
      clear hk'
      go_wp2
      go_ret
      exact ⟨m, ret_bool (by simpa using HE.out), rfl⟩
theorem equal_any {w : World} {v u : Value} {zs ys : List Int} (h : IntsAt w .i64 v zs) (h' : IntsAt w .i64 u ys) : Calls Try.prog 36 #[v, u] w (Quiet (.bool (decide (zs = ys))) w) := by
  obtain ⟨a, cap, rfl, h1, h2, h3⟩ := h
  obtain ⟨a', cap', rfl, h1', h2', h3'⟩ := h'
  by_cases hl : zs.length = ys.length
  · rcases h3 with rfl | ⟨b, off, rfl, hb, hc⟩
    · have : ys = [] := List.length_eq_zero_iff.1 hl.symm
      subst this
      exact equal_nil _ _ _ _ w
    · rcases h3' with rfl | ⟨c, pff, rfl, hb', hc'⟩
      · have : zs = [] := List.length_eq_zero_iff.1 hl
        subst this
        exact equal_nil _ _ _ _ w
      · rw [← hl]
        exact equal_some b off cap c pff cap' _ zs ys rfl hl.symm w hc hc' (by unfold maxLen at h2; omega)
  · rw [show decide (zs = ys) = false by simpa using (fun e => hl (by rw [e]))]
    exact equal_len _ _ _ _ _ _ hl w


theorem same_len (a a' : Option Addr) (n m cap cap' : Nat) (h : n ≠ m) (w : World) : Calls Try.prog 25 #[.slice a n cap, .slice a' m cap'] w (Quiet (.bool false) w) := by
  have e3 : ((n : Int) != (m : Int)) = true := by simpa using (fun e => h (by exact_mod_cast e))
  have e4 : (n != m) = true := by simpa using h
  clear h
  go_enter Try.func25, Try.ntmps25
  go_wp2
  go_ret
  exact ⟨0, rfl, rfl⟩
theorem same_nil (a a' : Option Addr) (cap cap' : Nat) (w : World) : Calls Try.prog 25 #[.slice a 0 cap, .slice a' 0 cap'] w (Quiet (.bool true) w) := by
  go_enter Try.func25, Try.ntmps25
  go_wp2
  refine wp_loop_rounds 1 ?_
  rw [rounds_succ]
  go_wp2
  go_ret
  exact ⟨0, rfl, rfl⟩
set_option maxHeartbeats 1000000 in
theorem same_some (b off cap c pff cbp len : Nat) (zs ys : List Int) (hz : zs.length = len) (hy : ys.length = len) (w : World) (hc : At w b off zs) (hc2 : At w c pff ys) (hl : len ≤ 9223372036854775807) :
    Calls Try.prog 25 #[.slice (some ⟨b, off, none⟩) len cap, .slice (some ⟨c, pff, none⟩) len cbp] w (Quiet (.bool (decide (zs = ys))) w) := by
  have HZ := Lib.hid hz
  have HY := Lib.hid hy
  have HC := Lib.hid hc
  have HD := Lib.hid hc2
  clear hz hy hc hc2
  have e3 : ((len : Int) != (len : Int)) = false := by simp
  go_enter Try.func25, Try.ntmps25
  go_wp2
  go_loopw [5] (fun i wr => ∃ k m : Nat, k ≤ len ∧ i = .int .i64 k ∧ wr = w.drewN m ∧ zs.take k = ys.take k) (fun i _ => len - (intOf i).toNat)
  case atStart => exact ⟨0, 0, Nat.zero_le _, rfl, rfl, rfl⟩
  case round =>
    obtain ⟨k, m, hk, rfl, rfl, ht⟩ := hrel
    have HT := Lib.hid ht
    clear ht
    by_cases hlt : k < len
    · have hcell := HC.out k (by have := HZ.out; omega)
      have hcell1 := HD.out k (by have := HY.out; omega)
      have HS1 := Lib.hid (take_snoc (l := zs) (k := k) (by have := HZ.out; omega))
      have HS2 := Lib.hid (take_snoc (l := ys) (k := k) (by have := HY.out; omega))
      have HX1 : Hid (zs.getD k 0 = zs.getD k 0) := Lib.hid rfl
      have HX2 : Hid (ys.getD k 0 = ys.getD k 0) := Lib.hid rfl
      have HN : Hid (zs.getD k 0 ≠ ys.getD k 0 → zs ≠ ys) := Lib.hid (fun h e => h (by rw [e]))
      generalize zs.getD k 0 = x at *
      generalize ys.getD k 0 = y at *
      clear HX1 HX2
      by_cases hxy : x = y
      · subst hxy
        have hd : ((x : Int) != x) = false := by simp
        go_wp2
        go_quiet (fail)
        go_wp2
        exact ⟨⟨k + 1, m + nq, by omega, by go_num, rfl, by rw [HS1.out, HS2.out, HT.out]⟩, by simp [intOf]; omega⟩
      · have hd : ((x : Int) != y) = true := by simpa using hxy
        go_wp2
        go_quiet (fail)
        go_wp2
        go_ret
        exact ⟨m + nq, ret_bool (by simpa using HN.out hxy), by rw [World.drewN_drewN]⟩
    · have hk' : k = len := by omega
      have HE : Hid (zs = ys) := Lib.hid (by have h1 := HZ.out; have h2 := HY.out; have := HT.out; rwa [List.take_of_length_le (by omega), List.take_of_length_le (by omega)] at this)
      clear hk'
      go_wp2
      go_ret
      exact ⟨m, ret_bool (by simpa using HE.out), rfl⟩
theorem same_any {w : World} {v u : Value} {zs ys : List Int} (h : IntsAt w .i64 v zs) (h' : IntsAt w .i64 u ys) : Calls Try.prog 25 #[v, u] w (Quiet (.bool (decide (zs = ys))) w) := by
  obtain ⟨a, cap, rfl, h1, h2, h3⟩ := h
  obtain ⟨a', cap', rfl, h1', h2', h3'⟩ := h'
  by_cases hl : zs.length = ys.length
  · rcases h3 with rfl | ⟨b, off, rfl, hb, hc⟩
    · have : ys = [] := List.length_eq_zero_iff.1 hl.symm
      subst this
      exact same_nil _ _ _ _ w
    · rcases h3' with rfl | ⟨c, pff, rfl, hb', hc'⟩
      · have : zs = [] := List.length_eq_zero_iff.1 hl
        subst this
        exact same_nil _ _ _ _ w
      · rw [← hl]
        exact same_some b off cap c pff cap' _ zs ys rfl hl.symm w hc hc' (by unfold maxLen at h2; omega)
  · rw [show decide (zs = ys) = false by simpa using (fun e => hl (by rw [e]))]
    exact same_len _ _ _ _ _ _ hl w


theorem rof_any {w : World} {v : Value} {zs : List Int} (h : IntsAt w .i64 v zs) : Calls Try.prog 22 #[v] w (PairPost (ofList zs) (ofCode zs) w) := by
  have HH := Lib.hid h
  obtain ⟨x, cap, rfl, h1, h2, h3⟩ := h
  clear h3 h1 h2
  unfold ofList ofCode
  by_cases hl : 65536 < zs.length
  · rw [if_pos hl, if_pos hl]
    go_enter Try.func22, Try.ntmps22
    go_wp2
    go_ret2
    exact ⟨_, rfl, Below.refl _ _, ints_nil _⟩
  · rw [if_neg hl, if_neg hl]
    have HC := Lib.hid (labels_any HH.out hl)
    go_enter Try.func22, Try.ntmps22
    go_wp2_with (go_at_call 52; ((with_reducible refine (HC.out).mono ?_); rintro e w1 ⟨v1, rfl, hb, hi⟩; have HB1 := Lib.hid hb; have HI := Lib.hid hi; clear hb hi))
    go_ret2
    exact ⟨_, rfl, HB1.out, HI.out⟩

def refCode (a b : List Int) : Int := if code a ≠ 0 then code a else if b.length ≠ a.length then 15 else 0
def refList (a b : List Int) : List Int := if code a ≠ 0 then [] else if b.length ≠ a.length then [] else cut a b
theorem ref_bad {a b : List Int} (h : code a ≠ 0) : refCode a b = code a ∧ refList a b = [] := by rw [refCode, refList, if_pos h, if_pos h]; exact ⟨rfl, rfl⟩
theorem ref_shape {a b : List Int} (h : code a = 0) (h2 : b.length ≠ a.length) : refCode a b = 15 ∧ refList a b = [] := by
  constructor
  · rw [refCode, if_neg (by simpa using h), if_pos h2]
  · rw [refList, if_neg (by simpa using h), if_pos h2]
theorem ref_ok {a b : List Int} (h : code a = 0) (h2 : b.length = a.length) : refCode a b = 0 ∧ refList a b = cut a b := by
  constructor
  · rw [refCode, if_neg (by simpa using h), if_neg (by simpa using h2)]
  · rw [refList, if_neg (by simpa using h), if_neg (by simpa using h2)]


theorem refine_any {w : World} {v u : Value} {a b : List Int} (h : IntsAt w .i64 v a) (h' : IntsAt w .i64 u b) (hf : Fit b) : Calls Try.prog 32 #[v, u] w (PairPost (refList a b) (refCode a b) w) := by
  have HA := Lib.hid (check_any h)
  have HH := Lib.hid h
  have HH' := Lib.hid h'
  obtain ⟨x, cap, rfl, h1, h2, h3⟩ := h
  obtain ⟨x', cap', rfl, h1', h2', h3'⟩ := h'
  clear h3 h3' h1 h1' h2 h2'
  by_cases c1 : code a = 0
  · by_cases c3 : b.length = a.length
    · rw [(ref_ok c1 c3).1, (ref_ok c1 c3).2]
      have HC := Lib.hid (meet_any HH.out HH'.out c3.symm (code_ok c1).1 (wf_fit (code_ok c1).2 (code_ok c1).1) hf)
      rw [c1] at HA
      have e3 : ((b.length : Int) != (a.length : Int)) = false := by rw [c3]; simp
      have e4 : (b.length != a.length) = false := by rw [c3]; simp
      clear c1 c3
      go_enter Try.func32, Try.ntmps32
      go_wp2_with (first | (go_at_call 18; ((with_reducible refine (HA.out).mono ?_); rintro e w' ⟨rfl, rfl⟩)) | (go_at_call 54; ((with_reducible refine (HC.out).mono ?_); rintro e w1 ⟨v1, rfl, hb, hi⟩; have HB1 := Lib.hid hb; have HI := Lib.hid hi; clear hb hi)))
      go_ret2
      exact ⟨_, rfl, HB1.out, HI.out⟩
    · rw [(ref_shape c1 c3).1, (ref_shape c1 c3).2]
      rw [c1] at HA
      have e3 : ((b.length : Int) != (a.length : Int)) = true := by simpa using (fun e => c3 (by exact_mod_cast e))
      have e4 : (b.length != a.length) = true := by simpa using c3
      clear c1 c3
      go_enter Try.func32, Try.ntmps32
      go_wp2_with (go_at_call 18; ((with_reducible refine (HA.out).mono ?_); rintro e w' ⟨rfl, rfl⟩))
      go_ret2
      exact ⟨_, rfl, Below.refl _ _, ints_nil _⟩
  · rw [(ref_bad c1).1, (ref_bad c1).2]
    have e1 := ne_true c1
    generalize code a = k at *
    clear c1
    go_enter Try.func32, Try.ntmps32
    go_wp2_with (go_at_call 18; ((with_reducible refine (HA.out).mono ?_); rintro e w' ⟨rfl, rfl⟩))
    go_ret2
    exact ⟨_, rfl, Below.refl _ _, ints_nil _⟩


theorem rrefine_any {w : World} {v u : Value} {a b : List Int} (h : IntsAt w .i64 v a) (h' : IntsAt w .i64 u b) : Calls Try.prog 33 #[v, u] w (PairPost (refList a b) (refCode a b) w) := by
  have HA := Lib.hid (rcheck_any h)
  have HH := Lib.hid h
  have HH' := Lib.hid h'
  obtain ⟨x, cap, rfl, h1, h2, h3⟩ := h
  obtain ⟨x', cap', rfl, h1', h2', h3'⟩ := h'
  clear h3 h3' h1 h1' h2 h2'
  by_cases c1 : code a = 0
  · by_cases c3 : b.length = a.length
    · rw [(ref_ok c1 c3).1, (ref_ok c1 c3).2]
      have HC := Lib.hid (rcut_any HH.out HH'.out c3.symm (code_ok c1).1)
      rw [c1] at HA
      have e3 : ((b.length : Int) != (a.length : Int)) = false := by rw [c3]; simp
      have e4 : (b.length != a.length) = false := by rw [c3]; simp
      clear c1 c3
      go_enter Try.func33, Try.ntmps33
      go_wp2_with (first | (go_at_call 19; ((with_reducible refine (HA.out).mono ?_); rintro e w' ⟨rfl, rfl⟩)) | (go_at_call 57; ((with_reducible refine (HC.out).mono ?_); rintro e w1 ⟨v1, rfl, hb, hi⟩; have HB1 := Lib.hid hb; have HI := Lib.hid hi; clear hb hi)))
      go_ret2
      exact ⟨_, rfl, HB1.out, HI.out⟩
    · rw [(ref_shape c1 c3).1, (ref_shape c1 c3).2]
      rw [c1] at HA
      have e3 : ((b.length : Int) != (a.length : Int)) = true := by simpa using (fun e => c3 (by exact_mod_cast e))
      have e4 : (b.length != a.length) = true := by simpa using c3
      clear c1 c3
      go_enter Try.func33, Try.ntmps33
      go_wp2_with (go_at_call 19; ((with_reducible refine (HA.out).mono ?_); rintro e w' ⟨rfl, rfl⟩))
      go_ret2
      exact ⟨_, rfl, Below.refl _ _, ints_nil _⟩
  · rw [(ref_bad c1).1, (ref_bad c1).2]
    have e1 := ne_true c1
    generalize code a = k at *
    clear c1
    go_enter Try.func33, Try.ntmps33
    go_wp2_with (go_at_call 19; ((with_reducible refine (HA.out).mono ?_); rintro e w' ⟨rfl, rfl⟩))
    go_ret2
    exact ⟨_, rfl, Below.refl _ _, ints_nil _⟩


def meetfList (a b : List Int) : List Int := if both a b = 0 then cut a b else []
theorem meetf_any {w : World} {v u : Value} {a b : List Int} (h : IntsAt w .i64 v a) (h' : IntsAt w .i64 u b) : Calls Try.prog 28 #[v, u] w (PairPost (meetfList a b) (both a b) w) := by
  have HB := Lib.hid (both_any h h')
  unfold meetfList
  by_cases c : both a b = 0
  · rw [if_pos c]
    obtain ⟨c1, c2, c3⟩ := both_inv c
    have HC := Lib.hid (meet_any h h' c3 (code_ok c1).1 (wf_fit (code_ok c1).2 (code_ok c1).1) (wf_fit (code_ok c2).2 (code_ok c2).1))
    rw [c] at HB ⊢
    clear c c1 c2 c3 h h'
    go_enter Try.func28, Try.ntmps28
    go_wp2_with (first | (go_at_call 53; ((with_reducible refine (HB.out).mono ?_); rintro e w' ⟨rfl, rfl⟩)) | (go_at_call 54; ((with_reducible refine (HC.out).mono ?_); rintro e w1 ⟨v1, rfl, hb, hi⟩; have HB1 := Lib.hid hb; have HI := Lib.hid hi; clear hb hi)))
    go_ret2
    exact ⟨_, rfl, HB1.out, HI.out⟩
  · rw [if_neg c]
    have e1 := ne_true c
    generalize both a b = k at *
    clear c h h'
    go_enter Try.func28, Try.ntmps28
    go_wp2_with (go_at_call 53; ((with_reducible refine (HB.out).mono ?_); rintro e w' ⟨rfl, rfl⟩))
    go_ret2
    exact ⟨_, rfl, Below.refl _ _, ints_nil _⟩


theorem rmeetf_any {w : World} {v u : Value} {a b : List Int} (h : IntsAt w .i64 v a) (h' : IntsAt w .i64 u b) : Calls Try.prog 29 #[v, u] w (PairPost (meetfList a b) (both a b) w) := by
  have HB := Lib.hid (rboth_any h h')
  unfold meetfList
  by_cases c : both a b = 0
  · rw [if_pos c]
    obtain ⟨c1, c2, c3⟩ := both_inv c
    have HC := Lib.hid (rcut_any h h' c3 (code_ok c1).1)
    rw [c] at HB ⊢
    clear c c1 c2 c3 h h'
    go_enter Try.func29, Try.ntmps29
    go_wp2_with (first | (go_at_call 55; ((with_reducible refine (HB.out).mono ?_); rintro e w' ⟨rfl, rfl⟩)) | (go_at_call 57; ((with_reducible refine (HC.out).mono ?_); rintro e w1 ⟨v1, rfl, hb, hi⟩; have HB1 := Lib.hid hb; have HI := Lib.hid hi; clear hb hi)))
    go_ret2
    exact ⟨_, rfl, HB1.out, HI.out⟩
  · rw [if_neg c]
    have e1 := ne_true c
    generalize both a b = k at *
    clear c h h'
    go_enter Try.func29, Try.ntmps29
    go_wp2_with (go_at_call 55; ((with_reducible refine (HB.out).mono ?_); rintro e w' ⟨rfl, rfl⟩))
    go_ret2
    exact ⟨_, rfl, Below.refl _ _, ints_nil _⟩

end Go.Proofs.Ytlacohjecehpiaa.Part
