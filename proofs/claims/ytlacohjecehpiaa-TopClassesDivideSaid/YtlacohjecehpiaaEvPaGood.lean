/-
  Good lists: short, well-formed, of one length; and the meet and the join of two of them.
-/
import Derived.Test.YtlacohjecehpiaaEvPaFiner
import Derived.Test.YtlacohjecehpiaaEvPaRefines
namespace Go.Proofs.Ytlacohjecehpiaa.Part
open Go Go.RowKit Go.Part Go.Law Go.Maps

/-- What is wrong with a list next to a first one. -/
def worse (l0 zs : List Int) : Bool := !(decide (zs.length ≤ 30) && decide (code zs = 0) && decide (zs.length = l0.length))
theorem worse_any {w : World} {v v0 : Value} {zs l0 : List Int} {a0 : Option Addr} {cap0 B n cap bx : Nat} (h : IntsAt w .i64 v zs) (hn : 0 < n) (hq : w.cell? ⟨bx, 0, none⟩ = some (.slice (some ⟨B, 0, none⟩) n cap)) (h0 : w.cell? ⟨B, 0, none⟩ = some v0) (hv : v0 = .slice a0 l0.length cap0) :
    Calls Try.prog 60 #[v, .pointer (some ⟨bx, 0, none⟩)] w fun e w' => e = .returned (.bool (worse l0 zs)) ∧ w = w' := by
  subst hv
  have HS := Lib.hid (short_any h _ rfl)
  have HC := Lib.hid (rcheck_any h)
  obtain ⟨x, c, rfl, h1, h2, h3⟩ := h
  clear h3 h1 h2
  by_cases a : zs.length ≤ 30
  · rw [show decide (zs.length ≤ 30) = true by simpa using a] at HS
    by_cases c1 : code zs = 0
    · rw [c1] at HC
      by_cases hl : zs.length = l0.length
      · have e0 : worse l0 zs = false := by unfold worse; simp [c1, hl]; omega
        rw [e0]
        have e4 : (zs.length != l0.length) = false := by simpa using hl
        have e5 : ((zs.length : Int) != (l0.length : Int)) = false := by simpa using (by omega : (zs.length : Int) = l0.length)
        clear e0 c1 hl
        go_enter Try.func60, Try.ntmps60
        go_wp2_with (first | (go_at_call 46; ((with_reducible refine (HS.out).mono ?_); rintro e w' ⟨rfl, rfl⟩)) | (go_at_call 19; ((with_reducible refine (HC.out).mono ?_); rintro e w' ⟨rfl, rfl⟩)))
        go_ret
        exact ⟨rfl, rfl⟩
      · have e0 : worse l0 zs = true := by unfold worse; simp [a, c1, hl]
        rw [e0]
        have e4 : (zs.length != l0.length) = true := by simpa using hl
        have e5 : ((zs.length : Int) != (l0.length : Int)) = true := bne_iff_ne.2 (by omega)
        clear e0 c1 hl
        go_enter Try.func60, Try.ntmps60
        go_wp2_with (first | (go_at_call 46; ((with_reducible refine (HS.out).mono ?_); rintro e w' ⟨rfl, rfl⟩)) | (go_at_call 19; ((with_reducible refine (HC.out).mono ?_); rintro e w' ⟨rfl, rfl⟩)))
        go_ret
        exact ⟨rfl, rfl⟩
    · have e0 : worse l0 zs = true := by unfold worse; simp [a, c1]
      rw [e0]
      have e1 := ne_true c1
      generalize code zs = k at *
      clear e0 c1
      go_enter Try.func60, Try.ntmps60
      go_wp2_with (first | (go_at_call 46; ((with_reducible refine (HS.out).mono ?_); rintro e w' ⟨rfl, rfl⟩)) | (go_at_call 19; ((with_reducible refine (HC.out).mono ?_); rintro e w' ⟨rfl, rfl⟩)))
      go_ret
      exact ⟨rfl, rfl⟩
  · rw [show decide (zs.length ≤ 30) = false by simpa using a] at HS
    have e0 : worse l0 zs = true := by unfold worse; simp [a]
    rw [e0]
    clear e0 a
    go_enter Try.func60, Try.ntmps60
    go_wp2_with (first | (go_at_call 46; ((with_reducible refine (HS.out).mono ?_); rintro e w' ⟨rfl, rfl⟩)))
    go_ret
    exact ⟨rfl, rfl⟩

set_option maxHeartbeats 1000000 in
theorem index60 (p : List Int → Bool) (B n cap : Nat) (L : List (List Int)) (vs : Nat → Value) (q : Addr) (w : World) (h : Rows w B n L vs) (hn : n ≤ 65538) (hf : ∀ j, j < n → Calls Try.prog 60 #[vs j, .pointer (some q)] w fun e w' => e = .returned (.bool (p (L.getD j []))) ∧ w = w') :
    Calls Try.prog 71 #[.slice (some ⟨B, 0, none⟩) n cap, .func (.func 60) #[] #[.pointer (some q)]] w fun e w' => e = .returned (.int .i64 (ix p L 0)) ∧ w = w' := by
  have HR := Lib.hid h
  have HF := Lib.hid hf
  clear h hf
  go_enter Try.func71, Try.ntmps71
  go_wp2
  go_loop [8] (fun i => ∃ k : Nat, k ≤ n ∧ i = .int .i64 k ∧ ix p L 0 = ix p (L.drop k) k) (fun i => n - (intOf i).toNat)
  case atStart => exact ⟨0, Nat.zero_le _, rfl, rfl⟩
  case round =>
    obtain ⟨k, hk, rfl, he⟩ := hrel
    have HE := Lib.hid he
    clear he
    by_cases hlt : k < n
    · have hcell := (HR.out.2 k hlt).1
      rw [Nat.zero_add] at hcell
      have hl := HR.out.1
      have HD : Hid (L.drop k = L.getD k [] :: L.drop (k + 1)) := Lib.hid (by rw [List.drop_eq_getElem_cons (by omega)]; simp [List.getD, List.getElem?_eq_getElem (show k < L.length by omega)])
      have HC := Lib.hid (HF.out k hlt)
      clear hl
      generalize hv : vs k = v at *
      clear hv
      cases hp : p (L.getD k [])
      · have HI : Hid (ix p L 0 = ix p (L.drop (k + 1)) (k + 1)) := Lib.hid (by rw [HE.out, HD.out, ix, if_neg (by rw [hp]; simp)])
        rw [hp] at HC
        clear hp
        go_wp2_with (go_at_call 60; ((with_reducible refine (HC.out).mono ?_); rintro e w' ⟨rfl, rfl⟩))
        go_round
        case rel => exact ⟨k + 1, by omega, by go_num, HI.out⟩
        case measure => simp [intOf]; omega
      · have HI : Hid (ix p L 0 = k) := Lib.hid (by rw [HE.out, HD.out, ix, if_pos hp])
        rw [hp] at HC
        clear hp
        go_wp2_with (go_at_call 60; ((with_reducible refine (HC.out).mono ?_); rintro e w' ⟨rfl, rfl⟩))
        go_ret
        exact ⟨ret_int HI.out.symm, rfl⟩
    · have HI : Hid (ix p L 0 = -1) := Lib.hid (by rw [HE.out, List.drop_eq_nil_of_le (by have := HR.out.1; omega), ix])
      go_wp2
      go_ret
      exact ⟨ret_int HI.out.symm, rfl⟩
theorem has60 (p : List Int → Bool) (B n cap : Nat) (L : List (List Int)) (vs : Nat → Value) (q : Addr) (w : World) (h : Rows w B n L vs) (hn : n ≤ 65538) (hf : ∀ j, j < n → Calls Try.prog 60 #[vs j, .pointer (some q)] w fun e w' => e = .returned (.bool (p (L.getD j []))) ∧ w = w') :
    Calls Try.prog 44 #[.slice (some ⟨B, 0, none⟩) n cap, .func (.func 60) #[] #[.pointer (some q)]] w fun e w' => e = .returned (.bool (L.any p)) ∧ w = w' := by
  have HI := Lib.hid (index60 p B n cap L vs q w h hn hf)
  have HG := Lib.hid (ix_ge p L 0)
  generalize ix p L 0 = z at *
  clear h hf
  go_enter Try.func44, Try.ntmps44
  go_wp2_with (go_at_call 71; ((with_reducible refine (HI.out).mono ?_); rintro e w' ⟨rfl, rfl⟩))
  go_ret
  exact ⟨ret_bool HG.out, rfl⟩

theorem rows_below {w w' : World} {B n : Nat} {L : List (List Int)} {vs : Nat → Value} (h : Rows w B n L vs) (hb : Below w.heap.size w w') : Rows w' B n L vs :=
  ⟨h.1, fun j hj => ⟨by rw [hb.cell (cell_lt (h.2 j hj).1)]; exact (h.2 j hj).1, ints_below (h.2 j hj).2 hb⟩⟩
theorem good_any (B n cap : Nat) (L : List (List Int)) (vs : Nat → Value) (w : World) (h : Rows w B n L vs) (hn0 : 0 < n) (hn : n ≤ 65538) (b : Bool) (hb : L.any (worse (L.getD 0 [])) = !b) :
    Calls Try.prog 34 #[.slice (some ⟨B, 0, none⟩) n cap] w fun e w' => e = .returned (.bool b) ∧ Below w.heap.size w w' := by
  have hB := below_one w (.cells #[.slice (some ⟨B, 0, none⟩) n cap] 22)
  have h' := rows_below h hB
  have hq : (w.alloc (.cells #[.slice (some ⟨B, 0, none⟩) n cap] 25)).cell? ⟨w.heap.size, 0, none⟩ = some (.slice (some ⟨B, 0, none⟩) n cap) := by rw [World.cell?_alloc_at _ _ _ _ rfl]; rfl
  have h2 := rows_below h (below_one w (.cells #[.slice (some ⟨B, 0, none⟩) n cap] 25))
  obtain ⟨a0, cap0, e0, _, _, _⟩ := (h2.2 0 hn0).2
  have HH := Lib.hid (has60 (worse (L.getD 0 [])) B n cap L vs ⟨w.heap.size, 0, none⟩ _ h2 hn (fun j hj => worse_any (h2.2 j hj).2 hn0 hq (by have := (h2.2 0 hn0).1; rwa [Nat.zero_add] at this) e0))
  rw [hb] at HH
  clear h hb hB h' hq h2 e0
  go_enter Try.func34, Try.ntmps34
  go_wp2_with (go_at_call 44; ((with_reducible refine (HH.out).mono ?_); rintro e w' ⟨rfl, rfl⟩))
  go_ret
  exact ⟨ret_bool (by simp), below_one _ _⟩
theorem worse_false {l0 zs : List Int} (h : worse l0 zs = false) : zs.length ≤ 30 ∧ code zs = 0 ∧ zs.length = l0.length := by
  unfold worse at h
  simp at h
  exact ⟨h.1.1, h.1.2, h.2⟩
theorem good_two {a b : List Int} (h : [a, b].any (worse a) = !true) : a.length ≤ 30 ∧ wf a ∧ wf b ∧ a.length = b.length := by
  simp only [List.any_cons, List.any_nil, Bool.or_false, Bool.not_true, Bool.or_eq_false_iff] at h
  obtain ⟨h1, h2, _⟩ := worse_false h.1
  obtain ⟨h4, h5, h6⟩ := worse_false h.2
  exact ⟨h1, (code_ok h2).2, (code_ok h5).2, h6.symm⟩
theorem good_three {a b c : List Int} (h : [a, b, c].any (worse a) = !true) : a.length ≤ 30 ∧ wf a ∧ wf b ∧ wf c ∧ a.length = b.length ∧ a.length = c.length := by
  simp only [List.any_cons, List.any_nil, Bool.or_false, Bool.not_true, Bool.or_eq_false_iff] at h
  obtain ⟨h1, h2, _⟩ := worse_false h.1
  obtain ⟨h4, h5, h6⟩ := worse_false h.2.1
  obtain ⟨h7, h8, h9⟩ := worse_false h.2.2
  exact ⟨h1, (code_ok h2).2, (code_ok h5).2, (code_ok h8).2, h6.symm, h9.symm⟩
theorem good_one {a : List Int} (h : [a].any (worse a) = !true) : a.length ≤ 30 ∧ wf a := by
  simp only [List.any_cons, List.any_nil, Bool.or_false, Bool.not_true] at h
  obtain ⟨h1, h2, _⟩ := worse_false h
  exact ⟨h1, (code_ok h2).2⟩
theorem both_wf {a b : List Int} (ha : wf a) (hb : wf b) (hl : a.length = b.length) (hs : a.length ≤ 30) : both a b = 0 := both_ok (code_of (by omega) ha) (code_of (by omega) hb) hl
theorem meet_wf {w : World} {v u : Value} {a b : List Int} (h : IntsAt w .i64 v a) (h' : IntsAt w .i64 u b) (ha : wf a) (hb : wf b) (hl : a.length = b.length) (hs : a.length ≤ 30) : Calls Try.prog 28 #[v, u] w (PairPost (cut a b) 0 w) := by
  have := meetf_any h h'
  have e := both_wf ha hb hl hs
  rwa [meetfList, if_pos e, e] at this
theorem join_wf {w : World} {v u : Value} {a b : List Int} (h : IntsAt w .i64 v a) (h' : IntsAt w .i64 u b) (ha : wf a) (hb : wf b) (hl : a.length = b.length) (hs : a.length ≤ 30) : Calls Try.prog 30 #[v, u] w (PairPost (glue a.length a b) 0 w) := by
  have := join_any h h'
  have e := both_wf ha hb hl hs
  rwa [joinList, if_pos e, e] at this
theorem finer_wf {w : World} {v u : Value} {a b : List Int} (h : IntsAt w .i64 v a) (h' : IntsAt w .i64 u b) (ha : wf a) (hb : wf b) (hl : a.length = b.length) (hs : a.length ≤ 30) : Calls Try.prog 26 #[v, u] w (BoolPost (decide (cut a b = a)) 0 w) := by
  have := finer_any h h'
  have e := both_wf ha hb hl hs
  rwa [finB, if_pos e, e] at this
def TwoPost (zs ys : List Int) (W : World) (e : Ending) (w' : World) : Prop := ∃ v u, e = .returned (.tuple #[v, u, .bool true]) ∧ Below W.heap.size W w' ∧ IntsAt w' .i64 v zs ∧ IntsAt w' .i64 u ys
theorem two_wf {w : World} {v u : Value} {a b : List Int} (h : IntsAt w .i64 v a) (h' : IntsAt w .i64 u b) (ha : wf a) (hb : wf b) (hl : a.length = b.length) (hs : a.length ≤ 30) : Calls Try.prog 35 #[v, u] w (TwoPost (cut a b) (glue a.length a b) w) := by
  have H1 := Lib.hid (meet_wf h h' ha hb hl hs)
  have H2 : Hid (∀ w1, Below w.heap.size w w1 → Calls Try.prog 30 #[v, u] w1 (PairPost (glue a.length a b) 0 w1)) := Lib.hid fun w1 hb1 => join_wf (ints_below h hb1) (ints_below h' hb1) ha hb hl hs
  clear h h' hl hs ha hb
  go_enter Try.func35, Try.ntmps35
  go_wp2_with (first | (go_at_call 28; ((with_reducible refine (H1.out).mono ?_); rintro e w1 ⟨v1, rfl, hb, hi⟩; have HB1 := Lib.hid hb; have HI1 := Lib.hid hi; clear hb hi)) | (go_at_call 30; ((with_reducible refine (H2.out _ HB1.out).mono ?_); rintro e w2 ⟨v2, rfl, hb, hi⟩; have HB2 := Lib.hid hb; have HI2 := Lib.hid hi; clear hb hi)))
  refine bodyPost_ret (v := .tuple #[v1, v2, .bool true]) (by simp [results, Try.results35, go_sem]) rfl ⟨v1, v2, rfl, HB1.out.trans (bel_le HB2.out HB1.out.size), ints_below HI1.out HB2.out, HI2.out⟩

/-! The lattice, as lists. -/
section
variable {a b c : List Int}
theorem cut_wf (a b : List Int) : wf (cut a b) := wf_labs _ _
theorem cut_len (a b : List Int) : (cut a b).length = a.length := labs_length _ _
theorem glue_wf (n : Nat) (a b : List Int) : wf (glue n a b) := wf_labs _ _
theorem glue_len (n : Nat) (a b : List Int) : (glue n a b).length = n := labs_length _ _
theorem cut_eqv (a b : List Int) : Eqv a.length (fn (cut a b)) (prs a b) := labs_eqv_self _ _
theorem glue_conn (n : Nat) (a b : List Int) (i j : Nat) (hi : i < n) (hj : j < n) : fn (glue n a b) i = fn (glue n a b) j ↔ Conn n (fn a) (fn b) i j :=
  (labs_eqv_self (fun i => Conn n (fn a) (fn b) i) n i j hi hj).trans (conn_eqv n (fn a) (fn b) i j)
theorem prs_iff (a b : List Int) (i j : Nat) : prs a b i = prs a b j ↔ fn a i = fn a j ∧ fn b i = fn b j := by
  unfold prs; exact Prod.mk.injEq _ _ _ _ ▸ Iff.rfl
theorem cut_comm (hl : a.length = b.length) : cut b a = cut a b := by
  unfold cut
  rw [← hl]
  exact labs_eqv fun i j _ _ => by rw [prs_iff, prs_iff]; exact And.comm
theorem glue_comm (n : Nat) (a b : List Int) : glue n b a = glue n a b :=
  labs_eqv fun i j _ _ => by
    rw [conn_eqv, conn_eqv]
    exact ⟨Conn.into (fun i j hi hj e => .right hi hj e) (fun i j hi hj e => .left hi hj e), Conn.into (fun i j hi hj e => .right hi hj e) (fun i j hi hj e => .left hi hj e)⟩
theorem cut_is (ha : wf a) (h : ∀ i j, i < a.length → j < a.length → fn a i = fn a j → fn b i = fn b j) : cut a b = a := by
  refine (cut_iff ha).2 fun i k hi hk e => h i k hi (by omega) e
theorem glue_is {n : Nat} (hc : wf c) (hl : c.length = n) (h1 : ∀ i j, i < n → j < n → fn c i = fn c j → Conn n (fn a) (fn b) i j) (h2 : ∀ i j, i < n → j < n → fn a i = fn a j → fn c i = fn c j) (h3 : ∀ i j, i < n → j < n → fn b i = fn b j → fn c i = fn c j) : glue n a b = c := by
  have : labs (fn c) n = c := by rw [← hl]; exact hc
  rw [← this]
  exact labs_eqv fun i j hi hj => by rw [conn_eqv]; exact ⟨Conn.same h2 h3, h1 i j hi hj⟩
theorem cut_self (ha : wf a) : cut a a = a := cut_is ha fun _ _ _ _ e => e
theorem glue_self {n : Nat} (ha : wf a) (hl : a.length = n) : glue n a a = a := glue_is ha hl (fun _ _ hi hj e => .left hi hj e) (fun _ _ _ _ e => e) (fun _ _ _ _ e => e)
theorem glue_cut {n : Nat} (ha : wf a) (hl : a.length = n) : glue n a (cut a b) = a :=
  glue_is ha hl (fun i j hi hj e => .left hi hj e) (fun _ _ _ _ e => e) (fun i j hi hj e => ((prs_iff a b i j).1 ((cut_eqv a b i j (by omega) (by omega)).1 e)).1)
theorem cut_glue {n : Nat} (ha : wf a) (hl : a.length = n) : cut a (glue n a b) = a :=
  cut_is ha fun i j hi hj e => (glue_conn n a b i j (by omega) (by omega)).2 (.left (by omega) (by omega) e)
theorem cut_glue_right {n : Nat} (hb : wf b) (hl : b.length = n) : cut b (glue n a b) = b :=
  cut_is hb fun i j hi hj e => (glue_conn n a b i j (by omega) (by omega)).2 (.right (by omega) (by omega) e)
theorem cut_cut : cut (cut a b) a = cut a b :=
  cut_is (cut_wf a b) fun i j hi hj e => ((prs_iff a b i j).1 ((cut_eqv a b i j (by rwa [cut_len] at hi) (by rwa [cut_len] at hj)).1 e)).1
theorem cut_assoc (hl : a.length = b.length) : cut (cut a b) c = cut a (cut b c) := by
  show labs _ (cut a b).length = labs _ a.length
  rw [cut_len]
  refine labs_eqv fun i j hi hj => ?_
  rw [prs_iff, prs_iff, cut_eqv a b i j hi hj, cut_eqv b c i j (by omega) (by omega), prs_iff, prs_iff]
  exact and_assoc
theorem glue_assoc {n : Nat} : glue n (glue n a b) c = glue n a (glue n b c) :=
  labs_eqv fun i j hi hj => by
    rw [conn_eqv, conn_eqv]
    constructor
    · refine Conn.into (fun i j hi hj e => ?_) (fun i j hi hj e => .right hi hj ((glue_conn n b c i j hi hj).2 (.right hi hj e)))
      exact Conn.into (fun i j hi hj e => .left hi hj e) (fun i j hi hj e => .right hi hj ((glue_conn n b c i j hi hj).2 (.left hi hj e))) ((glue_conn n a b i j hi hj).1 e)
    · refine Conn.into (fun i j hi hj e => .left hi hj ((glue_conn n a b i j hi hj).2 (.left hi hj e))) (fun i j hi hj e => ?_)
      exact Conn.into (fun i j hi hj e => .left hi hj ((glue_conn n a b i j hi hj).2 (.right hi hj e))) (fun i j hi hj e => .right hi hj e) ((glue_conn n b c i j hi hj).1 e)
theorem cut_glue_iff {n : Nat} (ha : wf a) (hb : wf b) (hla : a.length = n) (hlb : b.length = n) : cut a b = a ↔ glue n a b = b := by
  rw [cut_iff ha]
  constructor
  · intro h
    have key : ∀ i j, i < n → j < n → fn a i = fn a j → fn b i = fn b j := by
      intro i j hi hj e
      rcases Nat.lt_trichotomy i j with h1 | h1 | h1
      · exact (h j i (by omega) h1 e.symm).symm
      · rw [h1]
      · exact h i j (by omega) h1 e
    exact glue_is hb hlb (fun i j hi hj e => .right hi hj e) key (fun _ _ _ _ e => e)
  · intro h i k hi hk e
    have h1 := (glue_conn n a b i k (by omega) (by omega)).2 (.left (by omega) (by omega) e)
    rw [h] at h1
    exact h1
theorem cN_cut (a b : List Int) : cN a ≤ cN (cut a b) := by
  unfold cN
  rw [cut_len]
  exact cnt_finer (n := a.length) (fun i j hi hj e => ((prs_iff a b i j).1 ((cut_eqv a b i j hi hj).1 e)).1) (Nat.le_refl _)
theorem cN_glue {n : Nat} (hl : a.length = n) : cN (glue n a b) ≤ cN a := by
  unfold cN
  rw [glue_len, hl]
  exact cnt_finer (n := n) (fun i j hi hj e => (glue_conn n a b i j hi hj).2 (.left hi hj e)) (Nat.le_refl _)
end
end Go.Proofs.Ytlacohjecehpiaa.Part
