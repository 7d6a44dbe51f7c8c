/-
  All permutations, a number more behind each list: the program's way.
-/
import Derived.Test.YtpdlnijdcgcfbaaDoorEvPermLists
namespace Go.Proofs.YtpdlnijdcgcfbaaDoor.Perm
open Go Go.RowKit Go.Perm Go.Law
open Go.Proofs.YtpdlnijdcgcfbaaDoor.Col (ret_int ret_bool ret_two)

theorem below_alloc (w : World) (o : Obj) : Below w.heap.size w (w.alloc o) := (Below.refl _ _).alloc (Nat.le_refl _) o
theorem own_some {w : World} {base n size : Nat} {e : TypeId} {v : Value} {xs : List Value} (h : w.ownsRow base e size v (n + 1) xs) : ∃ (g cap : Nat) (_ : Unit), v = .slice (some ⟨g, 0, none⟩) (n + 1) cap := by
  rcases h.2 with ⟨_, hn⟩ | ⟨g, cap, cur, rfl, _⟩
  · omega
  · exact ⟨g, cap, (), rfl⟩
def extTo (a : List Int) : Nat → List (List Int)
  | 0 => []
  | p + 1 => if (p : Int) ∈ a then extTo a p else extTo a p ++ [a ++ [(p : Int)]]
def ext (n : Nat) : List (List Int) → List (List Int)
  | [] => []
  | a :: L => extTo a n ++ ext n L
theorem extTo_length (a : List Int) (p : Nat) : (extTo a p).length ≤ p := by
  induction p with
  | zero => simp [extTo]
  | succ p ih =>
    unfold extTo
    split
    · omega
    · rw [List.length_append]; simp; omega
theorem ext_length (n : Nat) (L : List (List Int)) : (ext n L).length ≤ L.length * n := by
  induction L with
  | nil => simp [ext]
  | cons a L ih =>
    have := extTo_length a n
    rw [ext, List.length_append, List.length_cons, Nat.succ_mul]; omega
theorem ext_snoc (n : Nat) (L : List (List Int)) (a : List Int) : ext n (L ++ [a]) = ext n L ++ extTo a n := by
  induction L with
  | nil => simp [ext]
  | cons b L ih => rw [List.cons_append, ext, ext, ih, List.append_assoc]
theorem ext_take_succ {n k : Nat} {L : List (List Int)} (h : k < L.length) : ext n (L.take (k + 1)) = ext n (L.take k) ++ extTo (L.getD k []) n := by
  rw [List.take_succ_eq_append_getElem h, ext_snoc]
  simp [List.getD, List.getElem?_eq_getElem h]
theorem clone_inner {w : World} {v : Value} {z : List Int} (h : Inner w v z) (h5 : z.length ≤ 5) : Calls Tryd.prog 131 #[v] w (ClonePost z w) := by
  have hI := inner_ints h
  obtain ⟨a, cap, rfl, h1, h2, h3⟩ := h
  rcases h3 with ⟨rfl, rfl, rfl⟩ | ⟨b, cs, rfl, hb, ht⟩
  · exact clone_nil w
  · obtain ⟨a', cap', he, _, _, h0⟩ := hI
    cases he
    refine clone_some b z.length cap z rfl h5 w ?_ (block_lt hb)
    rcases h0 with rfl | ⟨b', off', he, _, hc⟩
    · exact fun j hj => absurd hj (by simp)
    · cases he; exact hc
theorem contains_ints {w : World} {v : Value} {z : List Int} (h : IntsAt w .i64 v z) (x : Int) : Calls Tryd.prog 99 #[v, .int .i64 x] w fun e w' => e = .returned (.bool (decide (x ∈ z))) ∧ w = w' := by
  obtain ⟨a, cap, rfl, _, hmax, h0⟩ := h
  unfold maxLen at hmax
  rcases h0 with rfl | ⟨b, off, rfl, _, hc⟩
  · exact contains_of _ _ x w (index_nil _ _ x w)
  · exact contains_any b off _ cap z x rfl (by omega) w hc
theorem contains_yes {w : World} {v : Value} {z : List Int} (h : IntsAt w .i64 v z) (x : Int) (hx : x ∈ z) : Calls Tryd.prog 99 #[v, .int .i64 x] w fun e w' => e = .returned (.bool true) ∧ w = w' := by
  have := contains_ints h x; rwa [decide_eq_true hx] at this
theorem contains_no {w : World} {v : Value} {z : List Int} (h : IntsAt w .i64 v z) (x : Int) (hx : x ∉ z) : Calls Tryd.prog 99 #[v, .int .i64 x] w fun e w' => e = .returned (.bool false) ∧ w = w' := by
  have := contains_ints h x; rwa [decide_eq_false hx] at this

def ListsPost (base : Nat) (L : List (List Int)) (W : World) (e : Ending) (w' : World) : Prop := ∃ v, e = .returned v ∧ Below W.heap.size W w' ∧ OwnLists base w' v L
set_option maxHeartbeats 4000000 in
set_option maxRecDepth 100000 in
theorem extend_any (b len cap : Nat) (vals : List Value) (L : List (List Int)) (n : Nat) (hL : L.length = len) (hlen : len ≤ 200) (hn : n ≤ 5) (w : World) (hb : b < w.heap.size)
    (hc : ∀ j, j < len → w.cell? ⟨b, 0 + j, none⟩ = some (vals.getD j undef)) (hi : ∀ j, j < len → Inner w (vals.getD j undef) (L.getD j [])) (h4 : ∀ j, j < len → (L.getD j []).length ≤ 4) :
    Calls Tryd.prog 100 #[.slice (some ⟨b, 0, none⟩) len cap, .int .i64 n] w (ListsPost w.heap.size (ext n L) w) := by
  obtain ⟨i0, hi0, hz0, hz1, hz2⟩ := info_parts info3
  obtain ⟨i1, hi1, hy0, hy1, hy2⟩ := info_parts info27
  have HC := Lib.hid hc
  have HI := Lib.hid hi
  have H4 := Lib.hid h4
  have HL := Lib.hid hL
  have HN : Hid (OwnLists w.heap.size w (.slice none 0 0) (ext n (L.take 0))) := Lib.hid (ownLists_nil _ _)
  clear hc hi h4 hL
  go_enter Tryd.func100, Tryd.ntmps100
  go_wp2
  go_loopw [5, 11] (fun v i wr => ∃ k : Nat, k ≤ len ∧ i = .int .i64 k ∧ Below w.heap.size w wr ∧ OwnLists w.heap.size wr v (ext n (L.take k))) (fun _ i _ => len - (intOf i).toNat)
  case atStart => exact ⟨0, Nat.zero_le _, rfl, Below.refl _ _, HN.out⟩
  case round =>
    obtain ⟨k, hk, rfl, hbl, hown⟩ := hrel
    have HOWN := Lib.hid hown
    have HBL := Lib.hid hbl
    clear hown hbl
    obtain ⟨wo, rfl⟩ : ∃ wo : World, wo = wr := ⟨_, rfl⟩
    by_cases hlt : k < len
    · have hcell : wo.cell? ⟨b, 0 + k, none⟩ = some (vals.getD k undef) := by rw [HBL.out.cell hb]; exact HC.out k hlt
      have HIN := Lib.hid ((HI.out k hlt).below HBL.out)
      have HT := Lib.hid (ext_take_succ (n := n) (k := k) (L := L) (by rw [HL.out]; exact hlt))
      have HCNT := Lib.hid (ext_length n (L.take k))
      have h4k := H4.out k hlt
      generalize vals.getD k undef = va at *
      generalize L.getD k [] = a at *
      obtain ⟨aa, acap, rfl, _⟩ := HIN.out
      have HTK : Hid ((L.take k).length = k) := Lib.hid (by rw [List.length_take, HL.out]; omega)
      have hcnt : (ext n (L.take k)).length ≤ 1000 := by
        have h1 := HCNT.out
        rw [HTK.out] at h1
        have : k * n ≤ 200 * 5 := Nat.mul_le_mul (by omega) hn
        omega
      generalize ext n (L.take k) = M at *
      rw [Nat.zero_add] at hcell
      generalize hal : a.length = al at *
      have HAL := Lib.hid hal
      clear hal
      go_wp2
      go_loopw [5, 16] (fun v i wr => ∃ p : Nat, p ≤ n ∧ i = .int .i64 p ∧ Below w.heap.size w wr ∧ Inner wr (.slice aa al acap) a ∧ OwnLists w.heap.size wr v (M ++ extTo a p)) (fun _ i _ => n - (intOf i).toNat)
      case atStart => exact ⟨0, Nat.zero_le _, rfl, HBL.out, HIN.out, by rw [extTo, List.append_nil]; exact HOWN.out⟩
      case round =>
        obtain ⟨p, hp, rfl, hbl1, hin1, hown1⟩ := hrel
        have HIN1 := Lib.hid hin1
        have HO := Lib.hid hown1
        have HB1 := Lib.hid hbl1
        clear hbl1 hin1 hown1
        by_cases hpn : p < n
        · have HE := Lib.hid (show extTo a (p + 1) = if (p : Int) ∈ a then extTo a p else extTo a p ++ [a ++ [(p : Int)]] from rfl)
          have hel := extTo_length a p
          by_cases hm : (p : Int) ∈ a
          · have HM := Lib.hid hm
            clear hm hel
            go_wp2_with (go_at_call 99; refine (contains_yes (inner_ints HIN1.out) _ HM.out).mono ?_; rintro e w2 ⟨rfl, rfl⟩)
            exact ⟨⟨p + 1, by omega, by go_num, HB1.out, HIN1.out, by rw [HE.out, if_pos HM.out]; exact HO.out⟩, by simp [intOf]; omega⟩
          · have HM := Lib.hid hm
            clear hm
            have hML : (M ++ extTo a p).length ≤ 1005 := by rw [List.length_append]; omega
            have HE2 : Hid (M ++ extTo a (p + 1) = (M ++ extTo a p) ++ [a ++ [(p : Int)]]) := Lib.hid (by rw [HE.out, if_neg HM.out, List.append_assoc])
            clear hel HE
            generalize M ++ extTo a p = N at *
            go_wp2_with (first
              | (go_at_call 99; refine (contains_no (inner_ints HIN1.out) _ HM.out).mono ?_; rintro e w2 ⟨rfl, rfl⟩)
              | (go_at_call 131; refine (clone_inner HIN1.out (by rw [HAL.out]; omega)).mono ?_; rintro e w2 ⟨vc, rfl, hb2, ho2⟩; rw [HAL.out] at ho2; have HB3 := Lib.hid hb2; have HO3 := Lib.hid ho2; clear hb2 ho2)
              | (at_builtin; refine wpList_append_own _ rfl _ _ 27 rfl _ 3 i0 (.int .i64 0) 1 8 Tryd.underlying27 hi0 hz0 hz1 hz2 rfl (by decide) _ _ _ rfl (HO3.out.alloc _) ⟨_, 0, none⟩ 1 1 [.int .i64 (p : Int)] rfl rfl (cell_one_new _ _ _) (fun x hx => by simp at hx; subst hx; rfl) (by unfold maxLen; omega) (by omega) (by have := HB3.out.size; simp; omega) ?_; intro vi w3 ho3 hg3 _;
                 have HB4 := Lib.hid (Below.grown (Below.alloc HB3.out HB3.out.size (.cells #[.int .i64 (p : Int)] 3)) hg3 (by have := HB3.out.size; simp; omega) (own_block HO3.out));
                 have HIV := Lib.hid (inner_own (z := a ++ [(p : Int)]) (n := al + 1) (by rw [List.length_append, HAL.out]; rfl) (by rw [List.map_append]; exact ho3));
                 have HIN4 := Lib.hid (HIN1.out.below HB4.out);
                 obtain ⟨cells, ho1, hl1, hi1⟩ := HO.out.below HB4.out;
                 have HO1 := Lib.hid ho1; have HL1 := Lib.hid hl1; have HI1 := Lib.hid hi1;
                 obtain ⟨gi, capi, curi, rfl⟩ := own_some ho3;
                 clear ho3 hg3 ho1 hl1 hi1)
              | (at_builtin; refine wpList_append_own _ rfl _ _ 68 rfl _ 27 i1 (.slice none 0 0) 1 24 Tryd.underlying68 hi1 hy0 hy1 hy2 rfl (by decide) _ _ _ rfl (HO1.out.alloc _) ⟨_, 0, none⟩ 1 1 [.slice (some ⟨gi, 0, none⟩) (al + 1) capi] rfl rfl (cell_one_new _ _ _) (fun x hx => by simp at hx; subst hx; rfl) (by unfold maxLen; omega) (by omega) (by have := HB1.out.size; have := HB4.out.size; simp; omega) ?_; intro v5 w5 ho5 hg5 _; have HO5 := Lib.hid ho5; have HG5 := Lib.hid hg5; clear ho5 hg5))
            have hba := below_alloc w3 (.cells #[.slice (some ⟨gi, 0, none⟩) (al + 1) capi] 27)
            exact ⟨⟨p + 1, by omega, by go_num, Below.grown ((HB1.out.trans (HB4.out.mono HB1.out.size)).trans (hba.mono (Nat.le_trans HB1.out.size HB4.out.size))) HG5.out (by have := HB1.out.size; have := HB4.out.size; simp; omega) (own_block HO1.out),
              (HIN4.out.below hba).grown HG5.out (HO1.out.alloc _),
              by rw [HE2.out]; exact OwnLists.snoc (HO1.out.alloc _) HL1.out (fun j hj => (HI1.out j hj).below hba) (HIV.out.below hba) HG5.out HO5.out⟩, by simp [intOf]; omega⟩
        · have hpn' : p = n := by omega
          subst hpn'
          go_wp2
          exact ⟨⟨k + 1, by omega, by go_num, HB1.out, by rw [HT.out]; exact HO.out⟩, by simp [intOf]; omega⟩
    · have hk' : k = len := by omega
      subst hk'
      go_wp2
      go_ret
      refine ⟨_, rfl, HBL.out, ?_⟩
      have := HOWN.out
      rwa [List.take_of_length_le (by rw [HL.out]; omega)] at this
end Go.Proofs.YtpdlnijdcgcfbaaDoor.Perm
