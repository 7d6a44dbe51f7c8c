/-
  All permutations by the reference: the walk, by induction on the numbers that are missing.
-/
import Derived.Test.YtpdlnijdcgcfbaaDoorEvPermExt
import Derived.Laws.AppendOwnNone
namespace Go.Proofs.YtpdlnijdcgcfbaaDoor.Perm
open Go Go.RowKit Go.Perm Go.Law
open Go.Proofs.YtpdlnijdcgcfbaaDoor.Col (ret_int ret_bool ret_two)

/-- What begins with a list, with so many numbers more. -/
def fur (n : Nat) : Nat → List Int → List (List Int)
  | 0, b => [b]
  | f + 1, b => (List.range n).flatMap fun p : Nat => if (p : Int) ∈ b then [] else fur n f (b ++ [(p : Int)])
def furTo (n f : Nat) (b : List Int) : Nat → List (List Int)
  | 0 => []
  | p + 1 => furTo n f b p ++ (if (p : Int) ∈ b then [] else fur n f (b ++ [(p : Int)]))
theorem furTo_all (n f : Nat) (b : List Int) (p : Nat) : furTo n f b p = (List.range p).flatMap fun p : Nat => if (p : Int) ∈ b then [] else fur n f (b ++ [(p : Int)]) := by
  induction p with
  | zero => rfl
  | succ p ih => rw [furTo, ih, List.range_succ, List.flatMap_append]; simp
theorem fur_succ (n f : Nat) (b : List Int) : fur n (f + 1) b = furTo n f b n := by rw [furTo_all]; rfl
theorem fur_length (n : Nat) (hn : n ≤ 5) : ∀ f b, (fur n f b).length ≤ 5 ^ f
  | 0, b => by simp [fur]
  | f + 1, b => by
    rw [fur_succ]
    have h : ∀ p, (furTo n f b p).length ≤ p * 5 ^ f := by
      intro p
      induction p with
      | zero => simp [furTo]
      | succ p ih =>
        rw [furTo, List.length_append, Nat.succ_mul]
        have : (if (p : Int) ∈ b then [] else fur n f (b ++ [(p : Int)])).length ≤ 5 ^ f := by
          split
          · simp
          · exact fur_length n hn f _
        omega
    have := h n
    have h2 : n * 5 ^ f ≤ 5 * 5 ^ f := Nat.mul_le_mul_right _ hn
    rw [Nat.pow_succ]; omega

set_option maxHeartbeats 400000 in
theorem has_at (b off len cap : Nat) (zs : List Int) (x : Int) (hz : zs.length = len) (hlen : len ≤ 9223372036854775807) (w : World) (hc : At w b off zs) :
    Calls Tryd.prog 153 #[.slice (some ⟨b, off, none⟩) len cap, .int .i64 x] w fun e w' => e = .returned (.bool (decide (x ∈ zs))) ∧ w = w' := by
  have HC := Lib.hid hc
  clear hc
  go_enter Tryd.func153, Tryd.ntmps153
  go_wp2
  go_loop [5] (fun i => ∃ k : Nat, k ≤ len ∧ i = .int .i64 k ∧ x ∉ zs.take k) (fun i => len - (intOf i).toNat)
  case atStart => exact ⟨0, Nat.zero_le _, rfl, by simp⟩
  case round =>
    obtain ⟨k, hk, rfl, hno⟩ := hrel
    have HN := Lib.hid hno
    clear hno
    by_cases hlt : k < len
    · have hcell := HC.out k (by omega)
      generalize hy : zs.getD k 0 = y at hcell
      have HY := Lib.hid hy
      clear hy
      have hmem : y ∈ zs := by rw [← HY.out]; exact getD_mem (by omega)
      by_cases hxy : y = x
      · have hb : (y == x) = true := by simpa using hxy
        have HX := Lib.hid hxy
        clear hxy
        go_wp2
        go_ret
        exact ⟨ret_bool (by rw [← HX.out]; exact (decide_eq_true hmem).symm), rfl⟩
      · have hb : (y == x) = false := by simpa using hxy
        go_wp2
        go_round
        case rel => exact ⟨k + 1, by omega, by go_num, by rw [take_snoc (by omega), HY.out]; simp [HN.out, Ne.symm hxy]⟩
        case measure => simp [intOf]; omega
    · go_wp2
      go_ret
      have := HN.out
      rw [List.take_of_length_le (by omega)] at this
      exact ⟨ret_bool (decide_eq_false this).symm, rfl⟩
theorem has_nil (a : Option Addr) (cap : Nat) (x : Int) (w : World) : Calls Tryd.prog 153 #[.slice a 0 cap, .int .i64 x] w fun e w' => e = .returned (.bool (decide (x ∈ ([] : List Int)))) ∧ w = w' := by
  go_enter Tryd.func153, Tryd.ntmps153
  go_wp2
  go_loop [5] (fun i => i = .int .i64 0) (fun _ => 0)
  case atStart => exact rfl
  case round =>
    obtain rfl := hrel
    go_wp2
    go_ret
    exact ⟨ret_bool (by simp), rfl⟩
theorem has_ints {w : World} {v : Value} {z : List Int} (h : IntsAt w .i64 v z) (x : Int) : Calls Tryd.prog 153 #[v, .int .i64 x] w fun e w' => e = .returned (.bool (decide (x ∈ z))) ∧ w = w' := by
  obtain ⟨a, cap, rfl, _, hmax, h0⟩ := h
  unfold maxLen at hmax
  rcases h0 with rfl | ⟨b, off, rfl, _, hc⟩
  · exact has_nil _ _ x w
  · exact has_at b off _ cap z x rfl (by omega) w hc
theorem has_yes {w : World} {v : Value} {z : List Int} (h : IntsAt w .i64 v z) (x : Int) (hx : x ∈ z) : Calls Tryd.prog 153 #[v, .int .i64 x] w fun e w' => e = .returned (.bool true) ∧ w = w' := by
  have := has_ints h x; rwa [decide_eq_true hx] at this
theorem has_no {w : World} {v : Value} {z : List Int} (h : IntsAt w .i64 v z) (x : Int) (hx : x ∉ z) : Calls Tryd.prog 153 #[v, .int .i64 x] w fun e w' => e = .returned (.bool false) ∧ w = w' := by
  have := has_ints h x; rwa [decide_eq_false hx] at this

/-- Several lists more. -/
theorem OwnLists.append {base : Nat} {w w1 : World} {v v' : Value} {L M : List (List Int)} {vals cells : List Value} (ho : w.ownsRow base 27 1 v L.length vals) (hl : vals.length = L.length) (hi : ∀ j, j < L.length → Inner w (vals.getD j undef) (L.getD j []))
    (hm : cells.length = M.length) (hj : ∀ j, j < M.length → Inner w (cells.getD j undef) (M.getD j [])) (hg : w.grownBy w1 v.ownBlock) (h' : w1.ownsRow base 27 1 v' (L.length + M.length) (vals ++ cells)) : OwnLists base w1 v' (L ++ M) := by
  refine ⟨vals ++ cells, by rw [List.length_append]; exact h', by simp [hl, hm], fun j hjl => ?_⟩
  by_cases e : j < L.length
  · have h1 : (vals ++ cells).getD j undef = vals.getD j undef := by
      rw [List.getD_eq_getElem?_getD, List.getD_eq_getElem?_getD, List.getElem?_append_left (by omega)]
    have h2 : (L ++ M).getD j [] = L.getD j [] := by
      rw [List.getD_eq_getElem?_getD, List.getD_eq_getElem?_getD, List.getElem?_append_left e]
    rw [h1, h2]; exact (hi j e).grown hg ho
  · rw [List.length_append] at hjl
    have h1 : (vals ++ cells).getD j undef = cells.getD (j - L.length) undef := by
      rw [List.getD_eq_getElem?_getD, List.getD_eq_getElem?_getD, List.getElem?_append_right (by omega), hl]
    have h2 : (L ++ M).getD j [] = M.getD (j - L.length) [] := by
      rw [List.getD_eq_getElem?_getD, List.getD_eq_getElem?_getD, List.getElem?_append_right (by omega)]
    rw [h1, h2]; exact (hj _ (by omega)).grown hg ho
end Go.Proofs.YtpdlnijdcgcfbaaDoor.Perm
namespace Go.Proofs.YtpdlnijdcgcfbaaDoor.Perm
open Go Go.RowKit Go.Perm Go.Law
open Go.Proofs.YtpdlnijdcgcfbaaDoor.Col (ret_int ret_bool ret_two)

theorem Inner.alloc {w : World} {v : Value} {z : List Int} (h : Inner w v z) (o : Obj) : Inner (w.alloc o) v z := h.below (below_alloc w o)
/-- A list of lists as an append's source: nil, or with its cells. -/
theorem own_source {base : Nat} {w : World} {v : Value} {L : List (List Int)} (h : OwnLists base w v L) :
    (v = .slice none 0 0 ∧ L = []) ∨ ∃ (g cap : Nat) (cells : List Value), v = .slice (some ⟨g, 0, none⟩) L.length cap ∧ cells.length = L.length ∧ (∀ j, j < L.length → Inner w (cells.getD j undef) (L.getD j [])) ∧
      (∀ (j : Nat) (u : Value), cells[j]? = some u → w.cell? ((⟨g, 0, none⟩ : Addr).add j) = some u) ∧ ∀ u ∈ cells, u.oneCell' = true := by
  obtain ⟨vals, ho, hl, hi⟩ := h
  rcases ho.2 with ⟨rfl, hn⟩ | ⟨g, cap, cur, rfl, hg, hb, hn, hcap, hcs, htake⟩
  · exact .inl ⟨rfl, List.length_eq_zero_iff.1 hn⟩
  · refine .inr ⟨g, cap, vals, rfl, hl, hi, fun j u hu => ?_, fun u hu => ?_⟩
    · rw [Go.WideShapes.add_plain]
      have hj : j < vals.length := by
        by_cases hj : j < vals.length
        · exact hj
        · rw [List.getElem?_eq_none (by omega)] at hu; cases hu
      rw [← htake, List.getElem?_take, if_pos (by omega)] at hu
      simp only [World.cell?, hb]
      simpa using hu
    · obtain ⟨j, hj, rfl⟩ := List.getElem_of_mem hu
      have := hi j (by omega)
      rw [List.getD_eq_getElem?_getD, List.getElem?_eq_getElem hj] at this
      obtain ⟨a, cap, he, _⟩ := this
      simp only [Option.getD_some] at he
      rw [he]; rfl

/-- One round's end: the lists that begin with one more number are put behind those that were there. -/
def RoundPost (base : Nat) (L : List (List Int)) (W : World) (v : Value) (w' : World) : Prop := True

set_option maxHeartbeats 4000000 in
set_option maxRecDepth 100000 in
theorem further_nil (n : Nat) (hn : n ≤ 5) (f : Nat) (ih : ∀ (b : List Int) (vb : Value) (w : World), b.length + f = n → Inner w vb b → Calls Tryd.prog 132 #[.int .i64 n, vb] w (ListsPost w.heap.size (fur n f b) w))
    (w : World) (hlen : ([] : List Int).length + (f + 1) = n) (hin : Inner w (.slice none 0 0) []) : Calls Tryd.prog 132 #[.int .i64 n, (.slice none 0 0)] w (ListsPost w.heap.size (fur n (f + 1) []) w) := by
  have IH := Lib.hid ih
  clear ih
  obtain ⟨i0, hi0, hz0, hz1, hz2⟩ := info_parts info3
  obtain ⟨i1, hi1, hy0, hy1, hy2⟩ := info_parts info27
  have HIN := Lib.hid hin
  have hbl : 0 < n := by simp at hlen; omega
  have HLEN := Lib.hid hlen
  have HF := Lib.hid (fur_succ n f [])
  have HFL := Lib.hid (fur_length n hn f)
  have hf5 : 5 ^ f ≤ 625 := Nat.le_trans (Nat.pow_le_pow_right (by omega) (show f ≤ 4 by omega)) (by decide)
  have HN : Hid (OwnLists w.heap.size w (.slice none 0 0) (furTo n f [] 0)) := Lib.hid (ownLists_nil _ _)
  clear hlen
  have hnb : ((0 : Int) == (n : Int)) = false := by simpa using (by omega : (0 : Int) ≠ n)
  go_enter Tryd.func132, Tryd.ntmps132
  go_wp2
  go_loopw [5, 6] (fun v i wr => ∃ p : Nat, p ≤ n ∧ i = .int .i64 p ∧ Below w.heap.size w wr ∧ OwnLists w.heap.size wr v (furTo n f [] p) ∧ (furTo n f [] p).length ≤ p * 625) (fun _ i _ => n - (intOf i).toNat)
  case atStart => exact ⟨0, Nat.zero_le _, rfl, Below.refl _ _, HN.out, by simp [furTo]⟩
  case round =>
    obtain ⟨p, hp, rfl, hb1, hown1, hcnt⟩ := hrel
    have HIN1 := Lib.hid (HIN.out.below hb1)
    have HO := Lib.hid hown1
    have HB1 := Lib.hid hb1
    have HCNT := Lib.hid hcnt
    clear hb1 hown1 hcnt
    by_cases hpn : p < n
    · have HE := Lib.hid (show furTo n f [] (p + 1) = furTo n f [] p ++ (if (p : Int) ∈ ([] : List Int) then [] else fur n f ([] ++ [(p : Int)])) from rfl)
      by_cases hm : (p : Int) ∈ ([] : List Int)
      · have HM := Lib.hid hm
        clear hm
        go_wp2_with (go_at_call 153; refine (has_yes (inner_ints HIN1.out) _ HM.out).mono ?_; rintro e w2 ⟨rfl, rfl⟩)
        exact ⟨⟨p + 1, by omega, by go_num, HB1.out, by rw [HE.out, if_pos HM.out, List.append_nil]; exact HO.out, by have := HCNT.out; rw [HE.out, if_pos HM.out, List.append_nil]; omega⟩, by simp [intOf]; omega⟩
      · have HM := Lib.hid hm
        have HE2 : Hid (furTo n f [] (p + 1) = furTo n f [] p ++ fur n f ([] ++ [(p : Int)])) := Lib.hid (by rw [HE.out, if_neg hm])
        have HML := Lib.hid (HFL.out ([] ++ [(p : Int)]))
        have hnl : (furTo n f [] p).length ≤ 3125 := by have := HCNT.out; have : p * 625 ≤ 5 * 625 := Nat.mul_le_mul_right _ (by omega); omega
        clear hm HE
        generalize furTo n f [] p = N at *
        have HB3 := Lib.hid (Below.refl wr.heap.size wr)
        have HO3 : Hid (wr.ownsRow wr.heap.size 3 1 (.slice none 0 0) 0 (([] : List Int).map (Value.int .i64))) := Lib.hid ⟨rfl, .inl ⟨rfl, rfl⟩⟩
        go_wp2_with (first
          | (go_at_call 153; refine (has_no (inner_ints HIN1.out) _ HM.out).mono ?_; rintro e w2 ⟨rfl, rfl⟩)
          | (at_builtin; refine wpList_append_own_none rfl _ _ 27 rfl wr.heap.size 3 i0 1 Tryd.underlying27 hi0 (.slice none 0 0) 0 [] rfl (by exact ⟨rfl, .inl ⟨rfl, rfl⟩⟩) rfl ?_)
          | (at_builtin; refine wpList_append_own _ rfl _ _ 27 rfl _ 3 i0 (.int .i64 0) 1 8 Tryd.underlying27 hi0 hz0 hz1 hz2 rfl (by decide) _ _ _ rfl (HO3.out.alloc _) ⟨_, 0, none⟩ 1 1 [.int .i64 (p : Int)] rfl rfl (cell_one_new _ _ _) (fun x hx => by simp at hx; subst hx; rfl) (by unfold maxLen; omega) (by omega) (by have := HB3.out.size; simp <;> omega) ?_; intro vi w5 ho5 hg5 _;
             have HB5 := Lib.hid (Below.grown (Below.alloc HB3.out HB3.out.size (.cells #[.int .i64 (p : Int)] 3)) hg5 (by have := HB3.out.size; simp <;> omega) (own_block HO3.out));
             have HIV := Lib.hid (inner_own (z := [] ++ [(p : Int)]) (n := 0 + 1) (by simp) (by rw [List.map_append]; exact ho5));
             obtain ⟨gi, capi, _, rfl⟩ := own_some ho5;
             clear ho5 hg5))
        refine (IH.out ([] ++ [(p : Int)]) _ _ (by have := HLEN.out; simp at this ⊢; omega) HIV.out).mono ?_
        rintro e w6 ⟨vm, rfl, hb6, hol6⟩
        have hou := (HO.out.below HB5.out).below hb6
        have HB6 := Lib.hid ((HB1.out.trans (HB5.out.mono HB1.out.size)).trans (hb6.mono (Nat.le_trans HB1.out.size HB5.out.size)))
        have HSZ := Lib.hid (Nat.le_trans (Nat.le_trans HB1.out.size HB5.out.size) hb6.size)
        obtain ⟨cells, ho1, hl1, hi1⟩ := hou
        have HO1 := Lib.hid ho1
        have HL1 := Lib.hid hl1
        have HI1 := Lib.hid hi1
        clear ho1 hl1 hi1
        rcases own_source hol6 with ⟨rfl, hM⟩ | ⟨gm, capm, mcells, rfl, hml, hmi, hmc, hm1⟩
        · rw [hM] at HE2
          have HM0 := Lib.hid hM
          clear hM hb6 hol6
          go_wp2_with (at_builtin; refine wpList_append_own_none rfl _ _ 68 rfl w.heap.size 27 i1 1 Tryd.underlying68 hi1 _ _ _ rfl HO1.out rfl ?_)
          exact ⟨⟨p + 1, by omega, by go_num, HB6.out, by rw [HE2.out, List.append_nil]; exact ⟨cells, HO1.out, HL1.out, HI1.out⟩, by have := HCNT.out; rw [HE2.out, List.append_nil]; omega⟩, by simp [intOf]; omega⟩
        · have HMC := Lib.hid hmc
          have HM1 := Lib.hid hm1
          have HMI := Lib.hid hmi
          have HMLN := Lib.hid hml
          clear hmc hm1 hmi hml hb6 hol6
          have hml5 : (fur n f ([] ++ [(p : Int)])).length ≤ 625 := Nat.le_trans HML.out hf5
          generalize fur n f ([] ++ [(p : Int)]) = M at *
          generalize hMl : M.length = ml at *
          have HMQ := Lib.hid hMl
          clear hMl
          go_wp2_with (at_builtin; refine wpList_append_own _ rfl _ _ 68 rfl w.heap.size 27 i1 (.slice none 0 0) 1 24 Tryd.underlying68 hi1 hy0 hy1 hy2 rfl (by decide) _ _ _ rfl HO1.out ⟨gm, 0, none⟩ ml capm mcells rfl (by rw [HMLN.out]; omega) HMC.out HM1.out (by unfold maxLen; omega) (by omega) HSZ.out ?_; intro v8 w8 ho8 hg8 _; have HO8 := Lib.hid ho8; have HG8 := Lib.hid hg8; clear ho8 hg8)
          exact ⟨⟨p + 1, by omega, by go_num, Below.grown HB6.out HG8.out HSZ.out (own_block HO1.out), by rw [HE2.out]; exact OwnLists.append HO1.out HL1.out HI1.out (by rw [HMQ.out]; exact HMLN.out) (fun j hj => HMI.out j (by rw [← HMQ.out]; exact hj)) HG8.out (by rw [HMQ.out]; exact HO8.out), by have := HCNT.out; have := HMQ.out; rw [HE2.out, List.length_append]; omega⟩, by simp [intOf]; omega⟩
    · have hpn' : p = n := by omega
      subst hpn'
      go_wp2
      go_ret
      exact ⟨_, rfl, HB1.out, by rw [HF.out]; exact HO.out⟩
set_option maxHeartbeats 4000000 in
set_option maxRecDepth 100000 in
theorem further_some (n : Nat) (hn : n ≤ 5) (f : Nat) (ih : ∀ (b : List Int) (vb : Value) (w : World), b.length + f = n → Inner w vb b → Calls Tryd.prog 132 #[.int .i64 n, vb] w (ListsPost w.heap.size (fur n f b) w))
    (b : List Int) (gb cap : Nat) (w : World) (hlen : b.length + (f + 1) = n) (hin : Inner w (.slice (some ⟨gb, 0, none⟩) b.length cap) b) : Calls Tryd.prog 132 #[.int .i64 n, (.slice (some ⟨gb, 0, none⟩) b.length cap)] w (ListsPost w.heap.size (fur n (f + 1) b) w) := by
  have IH := Lib.hid ih
  clear ih
  obtain ⟨i0, hi0, hz0, hz1, hz2⟩ := info_parts info3
  obtain ⟨i1, hi1, hy0, hy1, hy2⟩ := info_parts info27
  have HIN := Lib.hid hin
  have hbl : b.length < n := by omega
  have HLEN := Lib.hid hlen
  have HF := Lib.hid (fur_succ n f b)
  have HFL := Lib.hid (fur_length n hn f)
  have hf5 : 5 ^ f ≤ 625 := Nat.le_trans (Nat.pow_le_pow_right (by omega) (show f ≤ 4 by omega)) (by decide)
  have HN : Hid (OwnLists w.heap.size w (.slice none 0 0) (furTo n f b 0)) := Lib.hid (ownLists_nil _ _)
  clear hlen
  generalize hbn : b.length = bl at *
  have HBN := Lib.hid hbn
  clear hbn
  have hnb : ((bl : Int) == (n : Int)) = false := by simpa using (by omega : (bl : Int) ≠ n)
  go_enter Tryd.func132, Tryd.ntmps132
  go_wp2
  go_loopw [5, 6] (fun v i wr => ∃ p : Nat, p ≤ n ∧ i = .int .i64 p ∧ Below w.heap.size w wr ∧ OwnLists w.heap.size wr v (furTo n f b p) ∧ (furTo n f b p).length ≤ p * 625) (fun _ i _ => n - (intOf i).toNat)
  case atStart => exact ⟨0, Nat.zero_le _, rfl, Below.refl _ _, HN.out, by simp [furTo]⟩
  case round =>
    obtain ⟨p, hp, rfl, hb1, hown1, hcnt⟩ := hrel
    have HIN1 := Lib.hid (HIN.out.below hb1)
    have HO := Lib.hid hown1
    have HB1 := Lib.hid hb1
    have HCNT := Lib.hid hcnt
    clear hb1 hown1 hcnt
    by_cases hpn : p < n
    · have HE := Lib.hid (show furTo n f b (p + 1) = furTo n f b p ++ (if (p : Int) ∈ b then [] else fur n f (b ++ [(p : Int)])) from rfl)
      by_cases hm : (p : Int) ∈ b
      · have HM := Lib.hid hm
        clear hm
        go_wp2_with (go_at_call 153; refine (has_yes (inner_ints HIN1.out) _ HM.out).mono ?_; rintro e w2 ⟨rfl, rfl⟩)
        exact ⟨⟨p + 1, by omega, by go_num, HB1.out, by rw [HE.out, if_pos HM.out, List.append_nil]; exact HO.out, by have := HCNT.out; rw [HE.out, if_pos HM.out, List.append_nil]; omega⟩, by simp [intOf]; omega⟩
      · have HM := Lib.hid hm
        have HE2 : Hid (furTo n f b (p + 1) = furTo n f b p ++ fur n f (b ++ [(p : Int)])) := Lib.hid (by rw [HE.out, if_neg hm])
        have HML := Lib.hid (HFL.out (b ++ [(p : Int)]))
        have hnl : (furTo n f b p).length ≤ 3125 := by have := HCNT.out; have : p * 625 ≤ 5 * 625 := Nat.mul_le_mul_right _ (by omega); omega
        clear hm HE
        generalize furTo n f b p = N at *
        rcases HIN1.out with ⟨a', cap', he, hcap1, hcap2, hcase⟩
        simp only [Value.slice.injEq] at he
        obtain ⟨he1, -, he2⟩ := he
        rcases hcase with ⟨_, hnone, _⟩ | ⟨gb', cs, hgb', hgb, htk⟩
        · rw [hnone] at he1; cases he1
        obtain rfl : gb = gb' := by rw [hgb'] at he1; simpa using he1
        clear he1 he2 hgb'
        have HNEW : Hid (∀ (j : Nat) (u : Value), (b.map (Value.int .i64))[j]? = some u → wr.cell? ((⟨gb, 0, none⟩ : Addr).add j) = some u) := Lib.hid fun j u hu => by
          rw [Go.WideShapes.add_plain, ← htk, List.getElem?_take] at *
          split at hu
          · simp only [World.cell?, hgb]; simpa using hu
          · cases hu
        clear hgb htk hcap1 hcap2
        go_wp2_with (first
          | (go_at_call 153; refine (has_no (inner_ints HIN1.out) _ HM.out).mono ?_; rintro e w2 ⟨rfl, rfl⟩)
          | (at_builtin; refine wpList_append_own _ rfl _ _ 27 rfl _ 3 i0 (.int .i64 0) 1 8 Tryd.underlying27 hi0 hz0 hz1 hz2 rfl (by decide) _ _ _ rfl (HO3.out.alloc _) ⟨_, 0, none⟩ 1 1 [.int .i64 (p : Int)] rfl rfl (cell_one_new _ _ _) (fun x hx => by simp at hx; subst hx; rfl) (by unfold maxLen; omega) (by omega) (by have := HB3.out.size; simp <;> omega) ?_; intro vi w5 ho5 hg5 _;
             have HB5 := Lib.hid (Below.grown (Below.alloc HB3.out HB3.out.size (.cells #[.int .i64 (p : Int)] 3)) hg5 (by have := HB3.out.size; simp <;> omega) (own_block HO3.out));
             have HIV := Lib.hid (inner_own (z := b ++ [(p : Int)]) (n := bl + 1) (by rw [List.length_append, HBN.out]; rfl) (by rw [List.map_append]; exact ho5));
             obtain ⟨gi, capi, _, rfl⟩ := own_some ho5;
             clear ho5 hg5)
          | (at_builtin; refine wpList_append_own _ rfl _ _ 27 rfl wr.heap.size 3 i0 (.int .i64 0) 1 8 Tryd.underlying27 hi0 hz0 hz1 hz2 rfl (by decide) (.slice none 0 0) 0 [] rfl (by exact ⟨rfl, .inl ⟨rfl, rfl⟩⟩) ⟨gb, 0, none⟩ bl cap (b.map (Value.int .i64)) rfl (by rw [List.length_map, HBN.out]; omega) (by exact HNEW.out) (fun x hx => by obtain ⟨y, _, rfl⟩ := List.mem_map.1 hx; rfl) (by unfold maxLen; omega) (by omega) (by exact Nat.le_refl _) ?_; intro v7 w3 ho3 hg3 _;
             have HB3 := Lib.hid (Below.grown (Below.refl wr.heap.size wr) hg3 (Nat.le_refl _) (fun k hk => by cases hk));
             have HO3 : Hid (w3.ownsRow wr.heap.size 3 1 v7 bl (b.map (Value.int .i64))) := Lib.hid (by simpa using ho3);
             clear ho3 hg3))
        refine (IH.out (b ++ [(p : Int)]) _ _ (by rw [List.length_append, HBN.out]; have := HLEN.out; simp; omega) HIV.out).mono ?_
        rintro e w6 ⟨vm, rfl, hb6, hol6⟩
        have hou := (HO.out.below HB5.out).below hb6
        have HB6 := Lib.hid ((HB1.out.trans (HB5.out.mono HB1.out.size)).trans (hb6.mono (Nat.le_trans HB1.out.size HB5.out.size)))
        have HSZ := Lib.hid (Nat.le_trans (Nat.le_trans HB1.out.size HB5.out.size) hb6.size)
        obtain ⟨cells, ho1, hl1, hi1⟩ := hou
        have HO1 := Lib.hid ho1
        have HL1 := Lib.hid hl1
        have HI1 := Lib.hid hi1
        clear ho1 hl1 hi1
        rcases own_source hol6 with ⟨rfl, hM⟩ | ⟨gm, capm, mcells, rfl, hml, hmi, hmc, hm1⟩
        · rw [hM] at HE2
          have HM0 := Lib.hid hM
          clear hM hb6 hol6
          go_wp2_with (at_builtin; refine wpList_append_own_none rfl _ _ 68 rfl w.heap.size 27 i1 1 Tryd.underlying68 hi1 _ _ _ rfl HO1.out rfl ?_)
          exact ⟨⟨p + 1, by omega, by go_num, HB6.out, by rw [HE2.out, List.append_nil]; exact ⟨cells, HO1.out, HL1.out, HI1.out⟩, by have := HCNT.out; rw [HE2.out, List.append_nil]; omega⟩, by simp [intOf]; omega⟩
        · have HMC := Lib.hid hmc
          have HM1 := Lib.hid hm1
          have HMI := Lib.hid hmi
          have HMLN := Lib.hid hml
          clear hmc hm1 hmi hml hb6 hol6
          have hml5 : (fur n f (b ++ [(p : Int)])).length ≤ 625 := Nat.le_trans HML.out hf5
          generalize fur n f (b ++ [(p : Int)]) = M at *
          generalize hMl : M.length = ml at *
          have HMQ := Lib.hid hMl
          clear hMl
          go_wp2_with (at_builtin; refine wpList_append_own _ rfl _ _ 68 rfl w.heap.size 27 i1 (.slice none 0 0) 1 24 Tryd.underlying68 hi1 hy0 hy1 hy2 rfl (by decide) _ _ _ rfl HO1.out ⟨gm, 0, none⟩ ml capm mcells rfl (by rw [HMLN.out]; omega) HMC.out HM1.out (by unfold maxLen; omega) (by omega) HSZ.out ?_; intro v8 w8 ho8 hg8 _; have HO8 := Lib.hid ho8; have HG8 := Lib.hid hg8; clear ho8 hg8)
          exact ⟨⟨p + 1, by omega, by go_num, Below.grown HB6.out HG8.out HSZ.out (own_block HO1.out), by rw [HE2.out]; exact OwnLists.append HO1.out HL1.out HI1.out (by rw [HMQ.out]; exact HMLN.out) (fun j hj => HMI.out j (by rw [← HMQ.out]; exact hj)) HG8.out (by rw [HMQ.out]; exact HO8.out), by have := HCNT.out; have := HMQ.out; rw [HE2.out, List.length_append]; omega⟩, by simp [intOf]; omega⟩
    · have hpn' : p = n := by omega
      subst hpn'
      go_wp2
      go_ret
      exact ⟨_, rfl, HB1.out, by rw [HF.out]; exact HO.out⟩
set_option maxHeartbeats 4000000 in
set_option maxRecDepth 100000 in
theorem further_any (n : Nat) (hn : n ≤ 5) : ∀ (f : Nat) (b : List Int) (vb : Value) (w : World), b.length + f = n → Inner w vb b → Calls Tryd.prog 132 #[.int .i64 n, vb] w (ListsPost w.heap.size (fur n f b) w) := by
  intro f
  induction f with
  | zero =>
    intro b vb w hlen hin
    have HIN := Lib.hid hin
    obtain ⟨a, cap, rfl, _⟩ := hin
    have hl : b.length = n := by omega
    have HL := Lib.hid hl
    clear hlen hl
    rw [HL.out] at HIN ⊢
    go_enter Tryd.func132, Tryd.ntmps132
    go_wp2
    go_ret
    refine ⟨_, rfl, below_alloc _ _, [.slice a n cap], ⟨rfl, .inr ⟨w.heap.size, 1, #[.slice a n cap], rfl, Nat.le_refl _, by unfold World.alloc; simp, Nat.le_refl _, by simp [maxLen], rfl, rfl⟩⟩, rfl, fun j hj => ?_⟩
    have hj0 : j = 0 := by simp [fur] at hj; omega
    subst hj0
    exact HIN.out.alloc _
  | succ f ih =>
    intro b vb w hlen hin
    have hin' := hin
    obtain ⟨a, cap, rfl, _, _, hcase⟩ := hin'
    rcases hcase with ⟨rfl, rfl, rfl⟩ | ⟨gb, cs, rfl, _, _⟩
    · exact further_nil n hn f ih w hlen hin
    · exact further_some n hn f ih b gb cap w hlen hin
end Go.Proofs.YtpdlnijdcgcfbaaDoor.Perm
