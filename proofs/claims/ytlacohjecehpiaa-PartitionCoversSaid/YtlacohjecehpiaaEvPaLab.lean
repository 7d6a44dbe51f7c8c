/-
  The labels of keys, and of pairs of keys: the reference's.
-/
import Derived.Test.YtlacohjecehpiaaEvPaOf
namespace Go.Proofs.Ytlacohjecehpiaa.Part
open Go Go.RowKit Go.Part Go.Law Go.Maps

theorem own_row {w : World} {base : Nat} {v : Value} {zs : List Int} {n : Nat} (hz : zs.length = n) (h : w.ownsRow base 3 1 v n (zs.map (Value.int .i64))) : IntsAt w .i64 v zs := by
  subst hz
  rcases h.2 with ⟨rfl, hn⟩ | ⟨g, cap, cur, rfl, hg, hb, hn, hcap, hcs, htake⟩
  · have : zs = [] := List.length_eq_zero_iff.1 hn
    subst this
    exact ⟨none, 0, rfl, Nat.le_refl _, by simp [maxLen], .inl rfl⟩
  · refine ⟨_, _, rfl, hn, hcap, .inr ⟨g, 0, rfl, ?_, fun j hj => ?_⟩⟩
    · by_cases hlt : g < w.heap.size
      · exact hlt
      · rw [Array.getElem?_eq_none (by omega)] at hb; cases hb
    · have h1 : (cur.toList.take (zs.length * 1))[j]? = some (.int .i64 (zs.getD j 0)) := by
        rw [htake, List.getElem?_map, List.getElem?_eq_getElem hj]
        simp [List.getD, List.getElem?_eq_getElem hj]
      rw [List.getElem?_take, if_pos (by omega)] at h1
      simp only [World.cell?, hb]
      simpa using h1
theorem own_block {w : World} {base n size : Nat} {e : TypeId} {v : Value} {xs : List Value} (h : w.ownsRow base e size v n xs) : ∀ k, v.ownBlock = some k → base ≤ k := by
  intro k hk
  rcases h.2 with ⟨rfl, _⟩ | ⟨g, cap, cur, rfl, hg, _⟩
  · cases hk
  · cases hk; exact hg
theorem cell_one_new (w : World) (v : Value) (t : TypeId) : ∀ (j : Nat) (u : Value), [v][j]? = some u → (w.alloc (.cells #[v] t)).cell? ((⟨w.heap.size, 0, none⟩ : Addr).add j) = some u := by
  intro j u h
  match j, h with
  | 0, h =>
    obtain rfl : v = u := by simpa using h
    rw [show (⟨w.heap.size, 0, none⟩ : Addr).add 0 = ⟨w.heap.size, 0, none⟩ from rfl, World.cell?_alloc_at _ _ _ _ rfl]; rfl
  | j + 1, h => simp at h
/-- A list of the call's own, once it has a member, read. -/
theorem own_some {w : World} {base n : Nat} {v : Value} {zs : List Int} (hn : 0 < n) (hz : zs.length = n) (h : w.ownsRow base 3 1 v n (zs.map (Value.int .i64))) : ∃ g cap, v = .slice (some ⟨g, 0, none⟩) n cap ∧ base ≤ g ∧ ∀ j, j < n → w.cell? ⟨g, 0 + j, none⟩ = some (.int .i64 (zs.getD j 0)) := by
  subst hz
  rcases h.2 with ⟨rfl, hn'⟩ | ⟨g, cap, cur, rfl, hg, hb, hn', hcap, hcs, htake⟩
  · omega
  · refine ⟨_, _, rfl, hg, fun j hj => ?_⟩
    have h1 : (cur.toList.take (zs.length * 1))[j]? = some (.int .i64 (zs.getD j 0)) := by
      rw [htake, List.getElem?_map, List.getElem?_eq_getElem hj]
      simp [List.getD, List.getElem?_eq_getElem hj]
    rw [List.getElem?_take, if_pos (by omega)] at h1
    simp only [World.cell?, hb]
    simpa using h1
section
variable {α : Type} [DecidableEq α] {f : Nat → α}
/-- How far the search for a key has come. -/
def Sought (f : Nat → α) (k j : Nat) (l : Int) : Prop := (l = -1 ∧ fnd f (f k) j = none) ∨ ∃ q : Nat, fnd f (f k) k = some q ∧ l = (cnt f q : Int)
theorem sought_zero (k : Nat) : Sought f k 0 (-1) := .inl ⟨rfl, rfl⟩
theorem sought_miss {k j : Nat} (h : fnd f (f k) j = none) (hne : f j ≠ f k) : Sought f k (j + 1) (-1) := .inl ⟨rfl, by
  show (match fnd f (f k) j with | some q => some q | none => if f j = f k then some j else none) = none
  rw [h]; simp [hne]⟩
theorem sought_hit {k j : Nat} (hj : j < k) (h : fnd f (f k) j = none) (he : f j = f k) : fnd f (f k) k = some j ∧ lab f j = cnt f j :=
  ⟨fnd_at hj he h, lab_new (by rw [he]; exact h)⟩
end

theorem elem22 : Try.prog.elem 22 = 3 := by kernel_rfl
theorem size3 (W : World) : (sizeOf 3).run Try.prog W = .ok 1 W := by kernel_rfl
theorem index_at (W : World) (g off k cap j : Nat) (hj : j < k) : (Instr.indexAt 22 (.slice (some ⟨g, off, none⟩) k cap) (.int .i64 (j : Int))).run Try.prog W = .ok (.pointer (some ⟨g, off + j, none⟩)) W := by
  rw [run_indexAt_slice (P := Try.prog) (w := W) 22 ⟨g, off, none⟩ k cap .i64 (j : Int) (by rw [elem22]; exact Try.underlying22), if_pos ⟨by omega, by omega⟩, elem22, size3]
  simp [Result.andThen, Go.WideShapes.add_plain]
theorem own_index {w : World} {base n : Nat} {v : Value} {zs : List Int} (hz : zs.length = n) (h : w.ownsRow base 3 1 v n (zs.map (Value.int .i64))) (j : Nat) (hj : j < n) :
    ∃ p : Addr, (∀ W : World, (Instr.indexAt 22 v (.int .i64 (j : Int))).run Try.prog W = .ok (.pointer (some p)) W) ∧ w.cell? p = some (.int .i64 (zs.getD j 0)) := by
  obtain ⟨g, cap', rfl, _, hcl⟩ := own_some (by omega) hz h
  exact ⟨⟨g, 0 + j, none⟩, fun W => index_at W g 0 n cap' j hj, hcl j hj⟩

set_option maxRecDepth 100000 in
set_option maxHeartbeats 2000000 in
theorem labels_some (b off cap len : Nat) (zs : List Int) (hz : zs.length = len) (hl : ¬ 65536 < len) (w : World) (hb : b < w.heap.size) (hc : At w b off zs) :
    Calls Try.prog 52 #[.slice (some ⟨b, off, none⟩) len cap] w (ListPost (labs (fn zs) len) w) := by
  have HZ := Lib.hid hz
  have HC := Lib.hid hc
  clear hz hc
  obtain ⟨i0, hi, hz0, hz1, hz2⟩ := info_parts info3
  have HN : Hid (w.ownsRow w.heap.size 3 1 (.slice none 0 0) 0 ((labs (fn zs) 0).map (Value.int .i64))) := Lib.hid ⟨rfl, .inl ⟨rfl, rfl⟩⟩
  go_enter Try.func52, Try.ntmps52
  go_wp2
  go_loopw [3, 4, 5] (fun v nx i wr => ∃ k : Nat, k ≤ len ∧ i = .int .i64 k ∧ nx = .int .i64 (cnt (fn zs) k) ∧ Below w.heap.size w wr ∧ wr.ownsRow w.heap.size 3 1 v k ((labs (fn zs) k).map (Value.int .i64))) (fun _ _ i _ => len - (intOf i).toNat)
  case atStart => exact ⟨0, Nat.zero_le _, rfl, rfl, Below.refl _ _, HN.out⟩
  case round =>
    obtain ⟨k, hk, rfl, rfl, hbl, hown⟩ := hrel
    by_cases hlt : k < len
    · have HW := Lib.hid (fun (hp : 0 < k) => own_some hp (labs_length _ _) hown)
      have HOW := Lib.hid hown
      have HBL := Lib.hid hbl
      have HCC : Hid (At wr b off zs) := Lib.hid (HC.out.below hbl hb)
      have hck : cnt (fn zs) k ≤ k := cnt_le _ _
      clear hown hbl
      have HX := Lib.hid (own_index (labs_length _ _) HOW.out)
      go_wp2
      go_loopw [6, 7] (fun l i wx => ∃ (j m : Nat) (c : Int), j ≤ k ∧ i = .int .i64 j ∧ l = .int .i64 c ∧ wx = wr.drewN m ∧ Sought (fn zs) k j c) (fun _ i _ => k - (intOf i).toNat)
      case atStart => exact ⟨0, 0, -1, Nat.zero_le _, rfl, rfl, rfl, sought_zero k⟩
      case round =>
        obtain ⟨j, m, l, hj, rfl, rfl, rfl, hs⟩ := hrel
        rcases hs with ⟨rfl, hs⟩ | ⟨q, hq, rfl⟩
        · by_cases hjk : j < k
          · have hcell := HCC.out j (by have := HZ.out; omega)
            have hcell1 := HCC.out k (by have := HZ.out; omega)
            have hjl : j < len := by omega
            obtain ⟨p, hix, hpc⟩ := HX.out j hjk
            rw [labs_getD _ hjk] at hpc
            have HIX := Lib.hid hix
            have HPC := Lib.hid hpc
            have HS := Lib.hid hs
            clear hs hix hpc
            have HF1 : Hid ((fn zs) j = zs.getD j 0) := Lib.hid rfl
            have HF2 : Hid ((fn zs) k = zs.getD k 0) := Lib.hid rfl
            generalize zs.getD j 0 = x at *
            generalize zs.getD k 0 = y at *
            by_cases hxy : x = y
            · subst hxy
              have hd : ((x : Int) == x) = true := by simp
              go_wp2
              go_quiet (fail)
              obtain ⟨h1, h2⟩ := sought_hit (f := fn zs) hjk HS.out (by rw [HF1.out, HF2.out])
              have H1 := Lib.hid h1
              have H2 := Lib.hid h2
              have hix := HIX.out
              have hpc := HPC.out
              clear h1 h2
              go_wp2
              exact ⟨⟨j + 1, m + nq, (lab (fn zs) j : Int), by omega, by go_num, rfl, rfl, .inr ⟨j, H1.out, by rw [H2.out]⟩⟩, by simp [intOf]; omega⟩
            · have hd : ((x : Int) == y) = false := by simpa using hxy
              go_wp2
              go_quiet (fail)
              go_wp2
              exact ⟨⟨j + 1, m + nq, -1, by omega, by go_num, rfl, rfl, sought_miss HS.out (by rw [HF1.out, HF2.out]; exact hxy)⟩, by simp [intOf]; omega⟩
          · have hjk' : j = k := by omega
            subst hjk'
            have HLAB := Lib.hid (lab_new hs)
            have HCN := Lib.hid (cnt_fresh hs)
            clear hs
            go_wp2_with (at_builtin; refine wpList_append_own _ rfl _ _ 22 rfl w.heap.size 3 i0 (.int .i64 0) 1 8 Try.underlying22 hi hz0 hz1 hz2 rfl (by decide) _ _ _ rfl (World.ownsRow.alloc (show (wr.drewN m).ownsRow _ _ _ _ _ _ from HOW.out) _) ⟨(wr.drewN m).heap.size, 0, none⟩ 1 1 [.int .i64 (cnt (fn zs) j : Int)] rfl rfl (cell_one_new _ _ _) (fun x hx => by simp at hx; subst hx; rfl) (by unfold maxLen; omega) (by omega) (by have := HBL.out.size; simp; omega) ?_; intro v' w1 hown' hgrow _; have HO1 := Lib.hid hown'; have HG1 := Lib.hid hgrow; clear hown' hgrow)
            exact ⟨⟨j + 1, by omega, by go_num, by rw [HCN.out]; go_num, ((below_drewN HBL.out m).alloc HBL.out.size _).grown HG1.out (by have := HBL.out.size; simp; omega) (own_block HOW.out), by rw [labs_succ, HLAB.out, List.map_append]; exact HO1.out⟩, by simp [intOf]; omega⟩
        · have HLAB := Lib.hid (lab_old hq)
          have HCN := Lib.hid (cnt_old hq)
          clear hq
          by_cases hjk : j < k
          · skip
            go_wp2_with (at_builtin; refine wpList_append_own _ rfl _ _ 22 rfl w.heap.size 3 i0 (.int .i64 0) 1 8 Try.underlying22 hi hz0 hz1 hz2 rfl (by decide) _ _ _ rfl (World.ownsRow.alloc (show (wr.drewN m).ownsRow _ _ _ _ _ _ from HOW.out) _) ⟨(wr.drewN m).heap.size, 0, none⟩ 1 1 [.int .i64 (cnt (fn zs) q : Int)] rfl rfl (cell_one_new _ _ _) (fun x hx => by simp at hx; subst hx; rfl) (by unfold maxLen; omega) (by omega) (by have := HBL.out.size; simp; omega) ?_; intro v' w1 hown' hgrow _; have HO1 := Lib.hid hown'; have HG1 := Lib.hid hgrow; clear hown' hgrow)
            exact ⟨⟨k + 1, by omega, by go_num, by rw [HCN.out], ((below_drewN HBL.out m).alloc HBL.out.size _).grown HG1.out (by have := HBL.out.size; simp; omega) (own_block HOW.out), by rw [labs_succ, HLAB.out, List.map_append]; exact HO1.out⟩, by simp [intOf]; omega⟩
          · skip
            go_wp2_with (at_builtin; refine wpList_append_own _ rfl _ _ 22 rfl w.heap.size 3 i0 (.int .i64 0) 1 8 Try.underlying22 hi hz0 hz1 hz2 rfl (by decide) _ _ _ rfl (World.ownsRow.alloc (show (wr.drewN m).ownsRow _ _ _ _ _ _ from HOW.out) _) ⟨(wr.drewN m).heap.size, 0, none⟩ 1 1 [.int .i64 (cnt (fn zs) q : Int)] rfl rfl (cell_one_new _ _ _) (fun x hx => by simp at hx; subst hx; rfl) (by unfold maxLen; omega) (by omega) (by have := HBL.out.size; simp; omega) ?_; intro v' w1 hown' hgrow _; have HO1 := Lib.hid hown'; have HG1 := Lib.hid hgrow; clear hown' hgrow)
            exact ⟨⟨k + 1, by omega, by go_num, by rw [HCN.out], ((below_drewN HBL.out m).alloc HBL.out.size _).grown HG1.out (by have := HBL.out.size; simp; omega) (own_block HOW.out), by rw [labs_succ, HLAB.out, List.map_append]; exact HO1.out⟩, by simp [intOf]; omega⟩
    · have hk' : k = len := by omega
      subst hk'
      have HOW := Lib.hid hown
      have HBL := Lib.hid hbl
      clear hown hbl
      go_wp2
      go_ret
      exact ⟨_, rfl, HBL.out, own_row (labs_length _ _) HOW.out⟩


set_option maxRecDepth 100000 in
set_option maxHeartbeats 2000000 in
theorem cut_some (b off cap c pff cbp len : Nat) (zs ys : List Int) (hz : zs.length = len) (hy : ys.length = len) (hl : ¬ 65536 < len) (w : World) (hb : b < w.heap.size) (hc : At w b off zs) (hb2 : c < w.heap.size) (hc2 : At w c pff ys) :
    Calls Try.prog 57 #[.slice (some ⟨b, off, none⟩) len cap, .slice (some ⟨c, pff, none⟩) len cbp] w (ListPost (labs (prs zs ys) len) w) := by
  have HZ := Lib.hid hz
  have HC := Lib.hid hc
  clear hz hc
  have HY := Lib.hid hy
  have HD2 := Lib.hid hc2
  clear hy hc2
  obtain ⟨i0, hi, hz0, hz1, hz2⟩ := info_parts info3
  have HN : Hid (w.ownsRow w.heap.size 3 1 (.slice none 0 0) 0 ((labs (prs zs ys) 0).map (Value.int .i64))) := Lib.hid ⟨rfl, .inl ⟨rfl, rfl⟩⟩
  go_enter Try.func57, Try.ntmps57
  go_wp2
  go_loopw [5, 6, 7] (fun v nx i wr => ∃ k : Nat, k ≤ len ∧ i = .int .i64 k ∧ nx = .int .i64 (cnt (prs zs ys) k) ∧ Below w.heap.size w wr ∧ wr.ownsRow w.heap.size 3 1 v k ((labs (prs zs ys) k).map (Value.int .i64))) (fun _ _ i _ => len - (intOf i).toNat)
  case atStart => exact ⟨0, Nat.zero_le _, rfl, rfl, Below.refl _ _, HN.out⟩
  case round =>
    obtain ⟨k, hk, rfl, rfl, hbl, hown⟩ := hrel
    by_cases hlt : k < len
    · have HW := Lib.hid (fun (hp : 0 < k) => own_some hp (labs_length _ _) hown)
      have HOW := Lib.hid hown
      have HBL := Lib.hid hbl
      have HCC : Hid (At wr b off zs) := Lib.hid (HC.out.below hbl hb)
      have HD : Hid (At wr c pff ys) := Lib.hid (HD2.out.below hbl hb2)
      have hck : cnt (prs zs ys) k ≤ k := cnt_le _ _
      clear hown hbl
      have HX := Lib.hid (own_index (labs_length _ _) HOW.out)
      go_wp2
      go_loopw [8, 9] (fun l i wx => ∃ (j m : Nat) (c : Int), j ≤ k ∧ i = .int .i64 j ∧ l = .int .i64 c ∧ wx = wr.drewN m ∧ Sought (prs zs ys) k j c) (fun _ i _ => k - (intOf i).toNat)
      case atStart => exact ⟨0, 0, -1, Nat.zero_le _, rfl, rfl, rfl, sought_zero k⟩
      case round =>
        obtain ⟨j, m, l, hj, rfl, rfl, rfl, hs⟩ := hrel
        rcases hs with ⟨rfl, hs⟩ | ⟨q, hq, rfl⟩
        · by_cases hjk : j < k
          · have hcell := HCC.out j (by have := HZ.out; omega)
            have hcell1 := HCC.out k (by have := HZ.out; omega)
            have hcell2 := HD.out j (by have := HY.out; omega)
            have hcell3 := HD.out k (by have := HY.out; omega)
            have hjl : j < len := by omega
            obtain ⟨p, hix, hpc⟩ := HX.out j hjk
            rw [labs_getD _ hjk] at hpc
            have HIX := Lib.hid hix
            have HPC := Lib.hid hpc
            have HS := Lib.hid hs
            clear hs hix hpc
            have HF1 : Hid ((prs zs ys) j = (zs.getD j 0, ys.getD j 0)) := Lib.hid rfl
            have HF2 : Hid ((prs zs ys) k = (zs.getD k 0, ys.getD k 0)) := Lib.hid rfl
            generalize zs.getD j 0 = x at *
            generalize zs.getD k 0 = y at *
            generalize ys.getD j 0 = x2 at *
            generalize ys.getD k 0 = y2 at *
            by_cases hxy : x = y
            · subst hxy
              have hd : ((x : Int) == x) = true := by simp
              by_cases hxy2 : x2 = y2
              · subst hxy2
                have hd2 : ((x2 : Int) == x2) = true := by simp
                go_wp2
                go_quiet (fail)
                obtain ⟨h1, h2⟩ := sought_hit (f := prs zs ys) hjk HS.out (by rw [HF1.out, HF2.out])
                have H1 := Lib.hid h1
                have H2 := Lib.hid h2
                have hix := HIX.out
                have hpc := HPC.out
                clear h1 h2
                go_wp2
                exact ⟨⟨j + 1, m + nq, (lab (prs zs ys) j : Int), by omega, by go_num, rfl, rfl, .inr ⟨j, H1.out, by rw [H2.out]⟩⟩, by simp [intOf]; omega⟩
              · have hd2 : ((x2 : Int) == y2) = false := by simpa using hxy2
                go_wp2
                go_quiet (fail)
                go_wp2
                exact ⟨⟨j + 1, m + nq, -1, by omega, by go_num, rfl, rfl, sought_miss HS.out (by rw [HF1.out, HF2.out]; intro e; exact hxy2 (congrArg Prod.snd e))⟩, by simp [intOf]; omega⟩
            · have hd : ((x : Int) == y) = false := by simpa using hxy
              go_wp2
              go_quiet (fail)
              go_wp2
              exact ⟨⟨j + 1, m + nq, -1, by omega, by go_num, rfl, rfl, sought_miss HS.out (by rw [HF1.out, HF2.out]; intro e; exact hxy (congrArg Prod.fst e))⟩, by simp [intOf]; omega⟩
          · have hjk' : j = k := by omega
            subst hjk'
            have HLAB := Lib.hid (lab_new hs)
            have HCN := Lib.hid (cnt_fresh hs)
            clear hs
            go_wp2_with (at_builtin; refine wpList_append_own _ rfl _ _ 22 rfl w.heap.size 3 i0 (.int .i64 0) 1 8 Try.underlying22 hi hz0 hz1 hz2 rfl (by decide) _ _ _ rfl (World.ownsRow.alloc (show (wr.drewN m).ownsRow _ _ _ _ _ _ from HOW.out) _) ⟨(wr.drewN m).heap.size, 0, none⟩ 1 1 [.int .i64 (cnt (prs zs ys) j : Int)] rfl rfl (cell_one_new _ _ _) (fun x hx => by simp at hx; subst hx; rfl) (by unfold maxLen; omega) (by omega) (by have := HBL.out.size; simp; omega) ?_; intro v' w1 hown' hgrow _; have HO1 := Lib.hid hown'; have HG1 := Lib.hid hgrow; clear hown' hgrow)
            exact ⟨⟨j + 1, by omega, by go_num, by rw [HCN.out]; go_num, ((below_drewN HBL.out m).alloc HBL.out.size _).grown HG1.out (by have := HBL.out.size; simp; omega) (own_block HOW.out), by rw [labs_succ, HLAB.out, List.map_append]; exact HO1.out⟩, by simp [intOf]; omega⟩
        · have HLAB := Lib.hid (lab_old hq)
          have HCN := Lib.hid (cnt_old hq)
          clear hq
          by_cases hjk : j < k
          · skip
            go_wp2_with (at_builtin; refine wpList_append_own _ rfl _ _ 22 rfl w.heap.size 3 i0 (.int .i64 0) 1 8 Try.underlying22 hi hz0 hz1 hz2 rfl (by decide) _ _ _ rfl (World.ownsRow.alloc (show (wr.drewN m).ownsRow _ _ _ _ _ _ from HOW.out) _) ⟨(wr.drewN m).heap.size, 0, none⟩ 1 1 [.int .i64 (cnt (prs zs ys) q : Int)] rfl rfl (cell_one_new _ _ _) (fun x hx => by simp at hx; subst hx; rfl) (by unfold maxLen; omega) (by omega) (by have := HBL.out.size; simp; omega) ?_; intro v' w1 hown' hgrow _; have HO1 := Lib.hid hown'; have HG1 := Lib.hid hgrow; clear hown' hgrow)
            exact ⟨⟨k + 1, by omega, by go_num, by rw [HCN.out], ((below_drewN HBL.out m).alloc HBL.out.size _).grown HG1.out (by have := HBL.out.size; simp; omega) (own_block HOW.out), by rw [labs_succ, HLAB.out, List.map_append]; exact HO1.out⟩, by simp [intOf]; omega⟩
          · skip
            go_wp2_with (at_builtin; refine wpList_append_own _ rfl _ _ 22 rfl w.heap.size 3 i0 (.int .i64 0) 1 8 Try.underlying22 hi hz0 hz1 hz2 rfl (by decide) _ _ _ rfl (World.ownsRow.alloc (show (wr.drewN m).ownsRow _ _ _ _ _ _ from HOW.out) _) ⟨(wr.drewN m).heap.size, 0, none⟩ 1 1 [.int .i64 (cnt (prs zs ys) q : Int)] rfl rfl (cell_one_new _ _ _) (fun x hx => by simp at hx; subst hx; rfl) (by unfold maxLen; omega) (by omega) (by have := HBL.out.size; simp; omega) ?_; intro v' w1 hown' hgrow _; have HO1 := Lib.hid hown'; have HG1 := Lib.hid hgrow; clear hown' hgrow)
            exact ⟨⟨k + 1, by omega, by go_num, by rw [HCN.out], ((below_drewN HBL.out m).alloc HBL.out.size _).grown HG1.out (by have := HBL.out.size; simp; omega) (own_block HOW.out), by rw [labs_succ, HLAB.out, List.map_append]; exact HO1.out⟩, by simp [intOf]; omega⟩
    · have hk' : k = len := by omega
      subst hk'
      have HOW := Lib.hid hown
      have HBL := Lib.hid hbl
      clear hown hbl
      go_wp2
      go_ret
      exact ⟨_, rfl, HBL.out, own_row (labs_length _ _) HOW.out⟩

end Go.Proofs.Ytlacohjecehpiaa.Part
