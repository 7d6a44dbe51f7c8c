/-
  Lists that the functions of layer 2 make: the identity, compositions.
-/
import Derived.Test.YtpdlnijdcgcfbabDoorEvBPermMoved
import Derived.Test.YtpdlnijdcgcfbabDoorEvPermMath2
import Derived.Laws.AppendOwn
namespace Go.Proofs.YtpdlnijdcgcfbabDoor.Perm
open Go Go.RowKit Go.Perm Go.Law
open Go.Proofs.YtpdlnijdcgcfbabDoor.Col (ret_int ret_bool ret_two)

theorem replicate_map (n : Nat) (vs : List Int) (h : vs.length = n) : List.replicate n (Value.int .i64 0) = (cp vs 0).map (Value.int .i64) := by rw [cp_zero, h]; simp

set_option maxHeartbeats 800000 in
theorem identity_any (n : Nat) (h1 : 1 ≤ n) (h5 : n ≤ 5) (w : World) : Calls Tryd.prog 33 #[.int .i64 n] w (OnePost (ids n) w) := by
  have HM := Lib.hid (Own.made w 3 (.int .i64 0) n)
  have hmk := make_ints n h5
  go_enter Tryd.func33, Tryd.ntmps33
  go_wp2
  go_loopw [9] (fun i wr => ∃ k : Nat, k ≤ n ∧ i = .int .i64 k ∧ Below w.heap.size w wr ∧ Own wr w.heap.size 3 ((cp (ids n) k).map (Value.int .i64))) (fun i _ => n - (intOf i).toNat)
  case atStart => exact ⟨0, Nat.zero_le _, rfl, (Below.refl _ _).alloc (Nat.le_refl _) _, by rw [← replicate_map n _ (ids_length n)]; exact HM.out⟩
  case round =>
    obtain ⟨k, hk, rfl, hbl, hown⟩ := hrel
    by_cases hlt : k < n
    · have HE := Lib.hid (cp_succ (ids n) k (by rw [ids_length]; exact hlt))
      have HI := Lib.hid (ids_getD hlt)
      have hl : (cp (ids n) k).length = n := by rw [cp_length _ _ (by rw [ids_length]; omega), ids_length]
      have hoc : wr.cell? ⟨w.heap.size, k, none⟩ = some (.int .i64 ((cp (ids n) k).getD k 0)) := by have := hown.at k (by omega); simpa using this
      have hfr := hown.free k
      have HOW := Lib.hid hown
      have HBL := Lib.hid hbl
      clear hown hl hbl
      go_wp2
      go_roundw
      case rel => exact ⟨k + 1, by omega, by go_num, HBL.out.setCell (by simp) _, by rw [HE.out, HI.out, List.map_set]; exact HOW.out.set k _⟩
      case measure => simp [intOf]; omega
    · have HOW := Lib.hid hown
      have HBL := Lib.hid hbl
      clear hown hbl
      go_wp2
      go_ret
      have hk' : k = n := by omega
      subst hk'
      have hall : cp (ids k) k = ids k := by have := cp_all (ids k); rwa [ids_length] at this
      exact ⟨_, rfl, HBL.out, own_ints (by rw [← hall]; exact HOW.out) (ids_length _) h5⟩

set_option maxHeartbeats 800000 in
theorem compose_any (b off len cap : Nat) (zs : List Int) (b1 off1 cap1 : Nat) (vs : List Int) (hz : zs.length = len) (hv : vs.length = len) (h1 : 1 ≤ len) (h5 : len ≤ 5) (hf : Fits len vs) (w : World) (hc : At w b off zs) (hd : At w b1 off1 vs) :
    Calls Tryd.prog 31 #[.slice (some ⟨b, off, none⟩) len cap, .slice (some ⟨b1, off1, none⟩) len cap1] w (OnePost (comp zs vs) w) := by
  have hb := hc.lt (by omega)
  have hb1 := hd.lt (by omega)
  have HF := Lib.hid hf
  have HC := Lib.hid hc
  have HD := Lib.hid hd
  have HZ := Lib.hid hz
  have HV := Lib.hid hv
  have HL := Lib.hid (show (comp zs vs).length = len by rw [comp_length]; exact hv)
  clear hf hc hd hz hv
  have HM := Lib.hid (Own.made w 3 (.int .i64 0) len)
  have hmk := make_ints len h5
  go_enter Tryd.func31, Tryd.ntmps31
  go_wp2
  go_loopw [13] (fun i wr => ∃ k : Nat, k ≤ len ∧ i = .int .i64 k ∧ Below w.heap.size w wr ∧ Own wr w.heap.size 3 ((cp (comp zs vs) k).map (Value.int .i64))) (fun i _ => len - (intOf i).toNat)
  case atStart => exact ⟨0, Nat.zero_le _, rfl, (Below.refl _ _).alloc (Nat.le_refl _) _, by rw [← replicate_map len _ HL.out]; exact HM.out⟩
  case round =>
    obtain ⟨k, hk, rfl, hbl, hown⟩ := hrel
    have hz := HZ.out
    have hv := HV.out
    have hL := HL.out
    by_cases hlt : k < len
    · have HE := Lib.hid (cp_succ (comp zs vs) k (by omega))
      have HG := Lib.hid (comp_getD (a := zs) (b := vs) (k := k) (by omega))
      have hcell1 := (HD.out.below hbl hb1) k (by omega)
      have hx := HF.out (vs.getD k 0) (getD_mem (by omega))
      have hl : (cp (comp zs vs) k).length = len := by rw [cp_length _ _ (by omega)]; exact hL
      generalize vs.getD k 0 = x at *
      obtain ⟨hx0, hx1⟩ := hx
      obtain ⟨q, rfl⟩ := Int.eq_ofNat_of_zero_le hx0
      have hcell := (HC.out.below hbl hb) q (by omega)
      generalize hy : (comp zs vs).getD k 0 = y at *
      have HY : Hid (zs.getD q 0 = y) := Lib.hid (by have := HG.out; simpa using this.symm)
      rw [HY.out] at hcell
      have hoc : wr.cell? ⟨w.heap.size, k, none⟩ = some (.int .i64 ((cp (comp zs vs) k).getD k 0)) := by have := hown.at k (by omega); simpa using this
      have hfr := hown.free k
      have HOW := Lib.hid hown
      have HBL := Lib.hid hbl
      clear hown hl hbl hz hv hL hy HG
      go_wp2
      go_roundw
      case rel => exact ⟨k + 1, by omega, by go_num, HBL.out.setCell (by simp) _, by rw [HE.out, List.map_set]; exact HOW.out.set k _⟩
      case measure => simp [intOf]; omega
    · have HOW := Lib.hid hown
      have HBL := Lib.hid hbl
      clear hown hbl hz hv hL
      go_wp2
      go_ret
      have hk' : k = len := by omega
      subst hk'
      have hall : cp (comp zs vs) k = comp zs vs := by have := cp_all (comp zs vs); rwa [HL.out] at this
      exact ⟨_, rfl, HBL.out, own_ints (by rw [← hall]; exact HOW.out) HL.out h5⟩
theorem own_row {w : World} {base : Nat} {v : Value} {zs : List Int} (h : w.ownsRow base 3 1 v zs.length (zs.map (Value.int .i64))) : IntsAt w .i64 v zs := by
  rcases h.2 with ⟨rfl, hn⟩ | ⟨g, cap, cur, rfl, hg, hb, hn, hcap, hcs, htake⟩
  · have : zs = [] := List.length_eq_zero_iff.1 hn
    subst this
    exact ⟨none, 0, rfl, Nat.le_refl _, by simp [maxLen], .inl rfl⟩
  · refine ⟨_, _, rfl, hn, hcap, .inr ⟨g, 0, rfl, ?_, fun j hj => ?_⟩⟩
    · by_cases hlt : g < w.heap.size
      · exact hlt
      · rw [Array.getElem?_eq_none (by omega)] at hb; cases hb
    · have h1 : (cur.toList.take (zs.length * 1))[j]? = some (.int .i64 (zs.getD j 0)) := by
        rw [htake, List.getElem?_map, List.getElem?_eq_getElem hj]
        simp [List.getD, List.getElem?_eq_getElem hj]
      rw [List.getElem?_take, if_pos (by omega)] at h1
      simp only [World.cell?, hb]
      simpa using h1

theorem own_block {w : World} {base n size : Nat} {e : TypeId} {v : Value} {xs : List Value} (h : w.ownsRow base e size v n xs) : ∀ k, v.ownBlock = some k → base ≤ k := by
  intro k hk
  rcases h.2 with ⟨rfl, _⟩ | ⟨g, cap, cur, rfl, hg, _⟩
  · cases hk
  · cases hk; exact hg
theorem cell_one_new (w : World) (v : Value) (t : TypeId) : ∀ (j : Nat) (u : Value), [v][j]? = some u → (w.alloc (.cells #[v] t)).cell? ((⟨w.heap.size, 0, none⟩ : Addr).add j) = some u := by
  intro j u h
  match j, h with
  | 0, h =>
    obtain rfl : v = u := by simpa using h
    rw [show (⟨w.heap.size, 0, none⟩ : Addr).add 0 = ⟨w.heap.size, 0, none⟩ from rfl, World.cell?_alloc_at _ _ _ _ rfl]; rfl
  | j + 1, h => simp at h
set_option maxHeartbeats 1000000 in
set_option maxRecDepth 100000 in
theorem one_any (n : Nat) (h5 : n ≤ 5) (w : World) : Calls Tryd.prog 23 #[.int .i64 n] w (OnePost (ids n) w) := by
  obtain ⟨i0, hi, hz0, hz1, hz2⟩ := info_parts info3
  have HN : Hid (w.ownsRow w.heap.size 3 1 (.slice none 0 0) ((ids n).take 0).length (((ids n).take 0).map (Value.int .i64))) := Lib.hid ⟨rfl, .inl ⟨rfl, rfl⟩⟩
  go_enter Tryd.func23, Tryd.ntmps23
  go_wp2
  go_loopw [3, 4] (fun v i wr => ∃ k : Nat, k ≤ n ∧ i = .int .i64 k ∧ Below w.heap.size w wr ∧ wr.ownsRow w.heap.size 3 1 v ((ids n).take k).length (((ids n).take k).map (Value.int .i64))) (fun _ i _ => n - (intOf i).toNat)
  case atStart => exact ⟨0, Nat.zero_le _, rfl, Below.refl _ _, HN.out⟩
  case round =>
    obtain ⟨k, hk, rfl, hbl, hown⟩ := hrel
    by_cases hlt : k < n
    · have HT := Lib.hid (ids_take_succ hlt)
      have hl : ((ids n).take k).length = k := by rw [List.length_take, ids_length]; omega
      have hl1 : ((ids n).take (k + 1)).length = k + 1 := by rw [List.length_take, ids_length]; omega
      rw [hl] at hown
      have HL1 := Lib.hid hl1
      have HOW := Lib.hid hown
      have HBL := Lib.hid hbl
      clear hown hl hl1 hbl
      go_wp2_with (at_builtin; refine wpList_append_own _ rfl _ _ 22 rfl w.heap.size 3 i0 (.int .i64 0) 1 8 Tryd.underlying22 hi hz0 hz1 hz2 rfl (by decide) _ _ _ rfl (HOW.out.alloc _) ⟨wr.heap.size, 0, none⟩ 1 1 [.int .i64 (k : Int)] rfl rfl (cell_one_new _ _ _) (fun x hx => by simp at hx; subst hx; rfl) (by unfold maxLen; omega) (by omega) (by have := HBL.out.size; simp; omega) ?_; intro v' w1 hown' hgrow _; have HO1 := Lib.hid hown'; have HG1 := Lib.hid hgrow; clear hown' hgrow)
      go_roundw
      case rel => exact ⟨k + 1, by omega, by go_num, (HBL.out.alloc HBL.out.size _).grown HG1.out (by have := HBL.out.size; simp; omega) (own_block HOW.out), by rw [HL1.out, HT.out, List.map_append]; exact HO1.out⟩
      case measure => simp [intOf]; omega
    · have hk' : k = n := by omega
      subst hk'
      rw [List.take_of_length_le (by rw [ids_length]; omega)] at hown
      have HOW := Lib.hid hown
      have HBL := Lib.hid hbl
      clear hown hbl
      go_wp2
      go_ret
      exact ⟨_, rfl, HBL.out, own_row HOW.out⟩

end Go.Proofs.YtpdlnijdcgcfbabDoor.Perm
