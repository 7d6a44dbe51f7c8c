/-
  PartitionCovers answers true: classes are not empty, disjoint, contain all elements, and are ordered by their least ones; the labels, and other names of them, have the same partition.
-/
import Derived.Test.YtlacohjecehpiaaEvPaSorted
import Derived.Test.YtlacohjecehpiaaEvPaGood
namespace Go.Proofs.Ytlacohjecehpiaa.Part
open Go Go.RowKit Go.Part Go.Law Go.Maps

/-! The members of classes. -/
def clsN (l : List Int) (k m : Nat) : List Nat := (List.range m).filter fun i => decide (l.getD i 0 = (k : Int))
theorem cls_len (l : List Int) (k m : Nat) : (cls l k m).length = (clsN l k m).length := by simp [cls, clsN]
theorem cls_at {l : List Int} {k m j : Nat} (h : j < (cls l k m).length) : ∃ i : Nat, (cls l k m).getD j 0 = (i : Int) ∧ (clsN l k m)[j]? = some i ∧ i < m ∧ l.getD i 0 = (k : Int) := by
  have h' : j < (clsN l k m).length := by rw [← cls_len]; exact h
  have hm : (clsN l k m)[j] ∈ clsN l k m := List.getElem_mem h'
  simp only [clsN, List.mem_filter, List.mem_range, decide_eq_true_eq] at hm
  refine ⟨(clsN l k m)[j], ?_, List.getElem?_eq_getElem h', hm.1, hm.2⟩
  have : (cls l k m)[j]? = some (((clsN l k m)[j] : Nat) : Int) := by
    show ((clsN l k m).map fun (i : Nat) => (i : Int))[j]? = _
    rw [List.getElem?_map, List.getElem?_eq_getElem h']; rfl
  rw [List.getD_eq_getElem?_getD, this]; rfl
theorem cls_has {l : List Int} {k m i : Nat} (hi : i < m) (h : l.getD i 0 = (k : Int)) : ∃ j, j < (cls l k m).length ∧ (cls l k m).getD j 0 = (i : Int) := by
  have hm : i ∈ clsN l k m := by simp only [clsN, List.mem_filter, List.mem_range, decide_eq_true_eq]; exact ⟨hi, h⟩
  obtain ⟨j, hj, e⟩ := List.mem_iff_getElem.1 hm
  have hj' : j < (cls l k m).length := by rw [cls_len]; exact hj
  obtain ⟨i', h1, h2, _⟩ := cls_at hj'
  rw [List.getElem?_eq_getElem hj, e] at h2
  cases h2
  exact ⟨j, hj', h1⟩
theorem cls_lt {l : List Int} {k m j j' : Nat} (h : j < j') (hj : j' < (cls l k m).length) : (cls l k m).getD j 0 < (cls l k m).getD j' 0 := by
  obtain ⟨i, h1, h2, _⟩ := cls_at (show j < (cls l k m).length by omega)
  obtain ⟨i', h1', h2', _⟩ := cls_at hj
  have hp : (clsN l k m).Pairwise (· < ·) := List.pairwise_lt_range.filter _
  have hlj : j' < (clsN l k m).length := by rw [← cls_len]; exact hj
  have := (List.pairwise_iff_getElem.1 hp) j j' (by omega) hlj h
  rw [List.getElem?_eq_getElem (by omega)] at h2
  rw [List.getElem?_eq_getElem hlj] at h2'
  have e2 := Option.some.inj h2
  have e2' := Option.some.inj h2'
  rw [e2, e2'] at this
  rw [h1, h1']; omega
theorem cls_some {l : List Int} (hw : wf l) {k : Nat} (hk : k < cN l) : 0 < (cls l k l.length).length := by
  obtain ⟨q, hq, hl⟩ := lab_onto (fn l) (n := l.length) (v := k) hk
  obtain ⟨j, hj, _⟩ := cls_has (k := k) hq (by rw [wf_getD hw hq, hl])
  omega
theorem cls_first {l : List Int} (hw : wf l) {q : Nat} (hk : q + 1 < cN l) : (cls l q l.length).getD 0 0 < (cls l (q + 1) l.length).getD 0 0 := by
  obtain ⟨i, h1, _, h3, h4⟩ := cls_at (cls_some hw hk)
  have hle := lab_le (fn l) i
  have hl := wf_getD hw h3
  rw [h4] at hl
  obtain ⟨j, hj, hlj⟩ := lab_onto (fn l) (n := i) (v := q) (by omega)
  have hlj' : l.getD j 0 = (q : Int) := by rw [wf_getD hw (by omega), hlj]
  obtain ⟨p, hp, he⟩ := cls_has (k := q) (show j < l.length by omega) hlj'
  rw [h1]
  by_cases e : p = 0
  · rw [← e, he]; omega
  · have := cls_lt (l := l) (k := q) (m := l.length) (show 0 < p by omega) hp
    omega
/-- Other names of labels. -/
def named (l : List Int) (t : Int) (m : Nat) : List Int := (List.range m).map fun i => t - 2 * l.getD i 0
theorem named_succ (l : List Int) (t : Int) (m : Nat) : named l t (m + 1) = named l t m ++ [t - 2 * l.getD m 0] := by simp [named, List.range_succ]
theorem named_len (l : List Int) (t : Int) (m : Nat) : (named l t m).length = m := by simp [named]
theorem named_get {l : List Int} {t : Int} {m i : Nat} (h : i < m) : (named l t m).getD i 0 = t - 2 * l.getD i 0 := by simp [named, List.getD_eq_getElem?_getD, h]
theorem named_labs {l : List Int} (t : Int) (hw : wf l) : labs (fn (named l t l.length)) l.length = l := by
  have : labs (fn (named l t l.length)) l.length = labs (fn l) l.length := labs_eqv fun i j hi hj => by
    show (named l t l.length).getD i 0 = (named l t l.length).getD j 0 ↔ l.getD i 0 = l.getD j 0
    rw [named_get hi, named_get hj]; omega
  rw [this]; exact hw
theorem named_fit {l : List Int} {t : Int} (hw : wf l) (hl : l.length ≤ 30) (h1 : -1000 ≤ t) (h2 : t ≤ 1000) : Fit (named l t l.length) := by
  intro x hx
  simp only [named, List.mem_map, List.mem_range] at hx
  obtain ⟨i, hi, rfl⟩ := hx
  obtain ⟨y, hy, hlt⟩ := wf_nat hw hi
  have hc : cN l ≤ l.length := cnt_le _ _
  rw [hy]
  have h3 : IntKind.i64.min ≤ t - 2 * (y : Int) := by show (-9223372036854775808 : Int) ≤ _; omega
  have h4 : t - 2 * (y : Int) ≤ IntKind.i64.max := by show _ ≤ (9223372036854775807 : Int); omega
  simp only [Lit.wf, Bool.and_eq_true, decide_eq_true_eq]
  exact ⟨h3, h4⟩
theorem quiet_own0 {P : Program} {f : FuncId} {args : Array Value} {w : World} {n : Nat} {v : Value}
    (h : Calls P f args (w.drewN n) (Quiet v (w.drewN n))) : Calls P f args (w.drewN n) fun e w'' => e = .returned v ∧ ∃ m, w'' = w.drewN m :=
  h.mono fun _ _ ⟨m, he, hw⟩ => ⟨he, n + m, by rw [hw, World.drewN_drewN]⟩
theorem ints_first {w : World} {v : Value} {zs : List Int} (h : IntsAt w .i64 v zs) (h0 : 0 < zs.length) :
    ∃ p : Addr, p.block < w.heap.size ∧ (∀ W : World, (Instr.indexAt 22 v (.int .i64 0)).run Try.prog W = .ok (.pointer (some p)) W) ∧ w.cell? p = some (.int .i64 (zs.getD 0 0)) := by
  obtain ⟨p, h1, h2, h3⟩ := ints_index h h0
  exact ⟨p, h1, fun W => by have := h2 W; simpa using this, h3⟩
set_option maxHeartbeats 1000000 in
set_option maxRecDepth 100000 in
theorem covers_out {w : World} {v : Value} {l : List Int} (h : IntsAt w .i64 v l) (t : Int) (b : Bool) (hb : [l].any (worse l) = !b) (hc : b = false ∨ t < -1000 ∨ 1000 < t) :
    Calls Try.prog 10 #[v, .int .i64 t] w fun e w' => e = .returned (.bool true) ∧ Below w.heap.size w w' := by
  have T0 := Lib.hid (below_one w (.cells #[v] 22))
  have HF := Lib.hid (good_any w.heap.size 1 1 _ _ _ (rows1 h) (by omega) (by omega) b hb)
  obtain ⟨x, cap, rfl, h1, h2, h3⟩ := h
  clear h3 h1 h2 hb
  cases b with
  | false =>
    clear hc
    go_enter Try.func10, Try.ntmps10
    go_wp2_with (first | (go_at_call 34; ((with_reducible refine (HF.out).mono ?_); rintro e w1 ⟨rfl, hb⟩; have T1 := Lib.hid (T0.out.trans (bel_le hb T0.out.size)); clear hb)) | (go_at_call 13; ((with_reducible refine (Ev.awake _).mono ?_); rintro e w' ⟨rfl, hw⟩)))
    go_ret
    exact ⟨rfl, T1.out.trans (bel_le hw T1.out.size)⟩
  | true =>
    have hc : t < -1000 ∨ 1000 < t := by simpa using hc
    rcases hc with hc | hc
    · go_enter Try.func10, Try.ntmps10
      go_wp2_with (first | (go_at_call 34; ((with_reducible refine (HF.out).mono ?_); rintro e w1 ⟨rfl, hb⟩; have T1 := Lib.hid (T0.out.trans (bel_le hb T0.out.size)); clear hb)) | (go_at_call 13; ((with_reducible refine (Ev.awake _).mono ?_); rintro e w' ⟨rfl, hw⟩)))
      go_ret
      exact ⟨rfl, T1.out.trans (bel_le hw T1.out.size)⟩
    · have hc2 : ¬ t < -1000 := by omega
      go_enter Try.func10, Try.ntmps10
      go_wp2_with (first | (go_at_call 34; ((with_reducible refine (HF.out).mono ?_); rintro e w1 ⟨rfl, hb⟩; have T1 := Lib.hid (T0.out.trans (bel_le hb T0.out.size)); clear hb)) | (go_at_call 13; ((with_reducible refine (Ev.awake _).mono ?_); rintro e w' ⟨rfl, hw⟩)))
      go_ret
      exact ⟨rfl, T1.out.trans (bel_le hw T1.out.size)⟩
set_option maxHeartbeats 8000000 in
set_option maxRecDepth 100000 in
theorem covers_in {w : World} {x : Option Addr} {n cap : Nat} {l : List Int} (hll : l.length = n) (h : IntsAt w .i64 (.slice x n cap) l) (hn : n ≤ 30) (hw : wf l) (t : Int) (ht1 : ¬ t < -1000) (ht2 : ¬ 1000 < t) (hb : [l].any (worse l) = !true) :
    Calls Try.prog 10 #[.slice x n cap, .int .i64 t] w fun e w' => e = .returned (.bool true) ∧ Below w.heap.size w w' := by
  have T0 := Lib.hid (below_one w (.cells #[.slice x n cap] 22))
  have HF := Lib.hid (good_any w.heap.size 1 1 _ _ _ (rows1 h) (by omega) (by omega) true hb)
  have HI := Lib.hid h
  have HL := Lib.hid hll
  have HW := Lib.hid hw
  have hcn : cN l ≤ n := by have := cnt_le (fn l) l.length; unfold cN; omega
  have HC1 : Hid (∀ w1, Below w.heap.size w w1 → Calls Try.prog 14 #[.slice x n cap] w1 (ClassPost (clsAll l) 0 w1)) := Lib.hid fun w1 h1 => by
    have := classes_any (ints_below h h1)
    rwa [clsList, code_of (by omega) hw, if_pos rfl] at this
  have HC2 : Hid (∀ w1, Below w.heap.size w w1 → Calls Try.prog 16 #[.slice x n cap] w1 fun e w' => e = .returned (.tuple #[.int .i64 (cN l), .int .i64 0]) ∧ w1 = w') := Lib.hid fun w1 h1 => by
    have := pcount_any (ints_below h h1)
    rwa [cntOf, code_of (by omega) hw, if_pos rfl] at this
  have hmk := make_bools n (by omega)
  have e1 : ((cN l : Int) != (cN l : Int)) = false := by simp
  clear h hll hw hb
  go_enter Try.func10, Try.ntmps10
  go_wp2_with (first
    | (go_at_call 16; ((with_reducible refine (HC2.out _ T2.out).mono ?_); rintro e w' ⟨rfl, rfl⟩))
    | (go_at_call 14; ((with_reducible refine (HC1.out _ T1.out).mono ?_); rintro e w2 ⟨v2, rfl, hb, hl⟩; have T2 := Lib.hid (T1.out.trans (bel_le hb T1.out.size)); obtain ⟨a2, cap2, rfl, _, hj⟩ := hl; rw [clsAll_len] at hj ⊢; have HJ := Lib.hid hj; clear hb hj))
    | (go_at_call 34; ((with_reducible refine (HF.out).mono ?_); rintro e w1 ⟨rfl, hb⟩; have T1 := Lib.hid (T0.out.trans (bel_le hb T0.out.size)); clear hb)))
  have HM : Hid (Own (w2.alloc (.cells (madeCells #[.bool false] n) 4)) w2.heap.size 4 (truths n fun i => l.getD i 0 < ((0 : Nat) : Int))) := Lib.hid (by
    have := Own.made w2 4 (.bool false) n
    rw [truths_none] at this
    rw [truths_same (Q := fun _ => False) (fun i hi => by
      obtain ⟨y, hy, _⟩ := wf_nat HW.out (show i < l.length by have := HL.out; omega)
      rw [hy]; simp)]
    exact this)
  have HS0 := Lib.hid (below_one w2 (.cells (madeCells #[.bool false] n) 4))
  clear hmk
  go_loopw [61] (fun i wr => ∃ k : Nat, k ≤ cN l ∧ i = .int .i64 k ∧ Below w2.heap.size w2 wr ∧ Own wr w2.heap.size 4 (truths n fun i => l.getD i 0 < (k : Int))) (fun i _ => cN l - (intOf i).toNat)
  case atStart => exact ⟨0, Nat.zero_le _, rfl, HS0.out, HM.out⟩
  case round =>
    obtain ⟨k, hk, rfl, hbl, hown⟩ := hrel
    have HBL := Lib.hid hbl
    have HOW := Lib.hid hown
    clear hbl hown HM HS0
    by_cases hlt : k < cN l
    · obtain ⟨p, u, hp, hix, hpc, hiu⟩ := HJ.out k hlt
      rw [clsAll_get hlt, HL.out] at hiu
      have hpc2 := (HBL.out.cell hp).trans hpc
      have hz0 : 0 < (cls l k n).length := by have := cls_some HW.out hlt; rwa [HL.out] at this
      have hzn : (cls l k n).length ≤ n := cls_le _ _ _
      have HIU := Lib.hid hiu
      obtain ⟨p0, hp0, hix0, hc0⟩ := ints_first hiu hz0
      have hc02 := (HBL.out.cell hp0).trans hc0
      have HSO : Hid (∀ m, Calls Try.prog 37 #[u] (wr.drewN m) (Quiet (.bool true) (wr.drewN m))) := Lib.hid (fun m => sorted_any (ints_drewN (ints_below hiu HBL.out) m) hz0 (by omega) (fun j hj => Int.le_of_lt (cls_lt (Nat.lt_succ_self j) hj)))
      obtain ⟨au, cu, eu, _, _, _⟩ := hiu
      subst eu
      have HU : Hid ((cls l k n).length = (cls l k n).length) := Lib.hid rfl
      clear hpc hc0 HU
      obtain ⟨z, hz⟩ : ∃ z, (cls l k n).length = z := ⟨_, rfl⟩
      have HZ := Lib.hid hz
      rw [hz] at hz0 hzn hpc2 HIU HSO hix0
      have HIX0 := Lib.hid hix0
      clear hz
      obtain ⟨f1, hf1⟩ : ∃ f, (cls l k n).getD 0 0 = f := ⟨_, rfl⟩
      rw [hf1] at hc02
      have HF1 := Lib.hid hf1
      clear hf1
      have e5 : ((z : Int) == 0) = false := beq_eq_false_iff_ne.2 (by omega)
      have e6 : (z == 0) = false := beq_eq_false_iff_ne.2 (by omega)
      by_cases hk0 : 0 < k
      · obtain ⟨q, hq⟩ : ∃ q, q + 1 = k := ⟨k - 1, by omega⟩
        obtain ⟨p3, u3, hp3, hix3, hpc3, hiu3⟩ := HJ.out q (by omega)
        rw [clsAll_get (by omega), HL.out] at hiu3
        have hz3 : 0 < (cls l q n).length := by have := cls_some HW.out (show q < cN l by omega); rwa [HL.out] at this
        obtain ⟨p4, hp4, hix4, hc4⟩ := ints_first hiu3 hz3
        have hpc32 := (HBL.out.cell hp3).trans hpc3
        have hc42 := (HBL.out.cell hp4).trans hc4
        have hfst := cls_first HW.out (q := q) (by omega)
        rw [hq, HL.out, HF1.out] at hfst
        generalize (cls l q n).getD 0 0 = f2 at *
        have hw1 : IntKind.i64.wrap ((k : Int) - 1) = (q : Int) := by rw [show ((k : Int) - 1) = (q : Int) by omega, IntKind.wrap_i64]; omega
        have hw2 : wrap64 ((k : Int) - 1) = (q : Int) := by unfold wrap64; omega
        have hw3 : ((k : Int) - 1) = (q : Int) := by omega
        have hd9 : decide (f1 ≤ f2) = false := by simp; omega
        obtain ⟨au3, cu3, eu3, _, _, _⟩ := hiu3
        subst eu3
        clear hpc3 hc4 hq
        go_wp2
        go_quiet ((go_at_call 37; exact quiet_own0 (HSO.out _)))
        go_wp2
        go_loopw [93] (fun jj wr => ∃ j : Nat, j ≤ z ∧ jj = .int .i64 j ∧ Below w2.heap.size w2 wr ∧ Own wr w2.heap.size 4 (truths n fun i => l.getD i 0 < (k : Int) ∨ ∃ j', j' < j ∧ (cls l k n).getD j' 0 = (i : Int))) (fun jj _ => z - (intOf jj).toNat)
        case atStart => exact ⟨0, Nat.zero_le _, rfl, below_drewN HBL.out _, by rw [truths_same (Q := fun i => l.getD i 0 < (k : Int)) (fun i hi => ⟨fun h => h.elim id (fun ⟨_, h, _⟩ => absurd h (by omega)), .inl⟩)]; exact HOW.out.drewN _⟩
        case round =>
          obtain ⟨j, hj, rfl, hbl, hown⟩ := hrel
          have HBL2 := Lib.hid hbl
          have HOW2 := Lib.hid hown
          clear hbl hown
          by_cases hjz : j < z
          · obtain ⟨i0, hi0, _, hin, hli⟩ := cls_at (l := l) (k := k) (m := n) (j := j) (by rw [HZ.out]; exact hjz)
            obtain ⟨p5, hp5, hix5, hc5⟩ := ints_index HIU.out (j := j) (by rw [HZ.out]; exact hjz)
            obtain ⟨p6, hp6, hix6, hc6⟩ := ints_index HI.out (j := i0) (by rw [HL.out]; exact hin)
            have hc52 := (HBL2.out.cell hp5).trans hc5
            have hc62 := ((T2.out.trans (bel_le HBL2.out T2.out.size)).cell hp6).trans hc6
            rw [hi0] at hc52
            rw [hli] at hc62
            have hseen : wr.cell? ⟨w2.heap.size, i0, none⟩ = some (.bool false) := HOW2.out.cell (truths_no hin (by
              rintro (h1 | ⟨j', h1, h2⟩)
              · omega
              · have := cls_lt (l := l) (k := k) (m := n) h1 (by rw [HZ.out]; exact hjz)
                omega))
            have hfr := HOW2.out.free i0
            have HNX : Hid (Own (wr.setCell ⟨w2.heap.size, i0, none⟩ (.bool true)) w2.heap.size 4 (truths n fun i => l.getD i 0 < (k : Int) ∨ ∃ j', j' < j + 1 ∧ (cls l k n).getD j' 0 = (i : Int))) := Lib.hid (by
              have h1 := HOW2.out.set i0 (.bool true)
              rw [truths_set] at h1
              rw [← truths_same (fun i hi => ?_)]
              · exact h1
              · constructor
                · rintro ((h | ⟨j', h2, h3⟩) | h)
                  · exact .inl h
                  · exact .inr ⟨j', by omega, h3⟩
                  · exact .inr ⟨j, by omega, by rw [hi0, h]⟩
                · rintro (h | ⟨j', h2, h3⟩)
                  · exact .inl (.inl h)
                  · by_cases e : j' = j
                    · rw [e, hi0] at h3; exact .inr (by omega)
                    · exact .inl (.inr ⟨j', by omega, h3⟩))
            have ek : ((k : Int) != (k : Int)) = false := by simp
            clear hc5 hc6 hi0 hli
            go_wp2
            go_roundw
            case rel => exact ⟨j + 1, by omega, by go_num, HBL2.out.setCell (Nat.le_refl _) _, HNX.out⟩
            case measure => simp [intOf]; omega
          · have hjz' : j = z := by omega
            have HNX : Hid (Own wr w2.heap.size 4 (truths n fun i => l.getD i 0 < ((k + 1 : Nat) : Int))) := Lib.hid (by
              rw [← truths_same (fun i hi => ?_)]
              · exact HOW2.out
              · constructor
                · rintro (h | ⟨j', h2, h3⟩)
                  · omega
                  · obtain ⟨i', h4, _, _, h5⟩ := cls_at (l := l) (k := k) (m := n) (j := j') (by rw [HZ.out]; omega)
                    rw [h4] at h3
                    have : i' = i := by omega
                    rw [← this, h5]; omega
                · intro h
                  by_cases e : l.getD i 0 = (k : Int)
                  · obtain ⟨j', h2, h3⟩ := cls_has (l := l) (k := k) (m := n) hi e
                    rw [HZ.out] at h2
                    exact .inr ⟨j', by omega, h3⟩
                  · exact .inl (by omega))
            clear hjz'
            go_wp2
            go_roundw
            case rel => exact ⟨k + 1, by omega, by go_num, HBL2.out, HNX.out⟩
            case measure => simp [intOf]; omega
      · go_wp2
        go_quiet ((go_at_call 37; exact quiet_own0 (HSO.out _)))
        go_wp2
        go_loopw [93] (fun jj wr => ∃ j : Nat, j ≤ z ∧ jj = .int .i64 j ∧ Below w2.heap.size w2 wr ∧ Own wr w2.heap.size 4 (truths n fun i => l.getD i 0 < (k : Int) ∨ ∃ j', j' < j ∧ (cls l k n).getD j' 0 = (i : Int))) (fun jj _ => z - (intOf jj).toNat)
        case atStart => exact ⟨0, Nat.zero_le _, rfl, below_drewN HBL.out _, by rw [truths_same (Q := fun i => l.getD i 0 < (k : Int)) (fun i hi => ⟨fun h => h.elim id (fun ⟨_, h, _⟩ => absurd h (by omega)), .inl⟩)]; exact HOW.out.drewN _⟩
        case round =>
          obtain ⟨j, hj, rfl, hbl, hown⟩ := hrel
          have HBL2 := Lib.hid hbl
          have HOW2 := Lib.hid hown
          clear hbl hown
          by_cases hjz : j < z
          · obtain ⟨i0, hi0, _, hin, hli⟩ := cls_at (l := l) (k := k) (m := n) (j := j) (by rw [HZ.out]; exact hjz)
            obtain ⟨p5, hp5, hix5, hc5⟩ := ints_index HIU.out (j := j) (by rw [HZ.out]; exact hjz)
            obtain ⟨p6, hp6, hix6, hc6⟩ := ints_index HI.out (j := i0) (by rw [HL.out]; exact hin)
            have hc52 := (HBL2.out.cell hp5).trans hc5
            have hc62 := ((T2.out.trans (bel_le HBL2.out T2.out.size)).cell hp6).trans hc6
            rw [hi0] at hc52
            rw [hli] at hc62
            have hseen : wr.cell? ⟨w2.heap.size, i0, none⟩ = some (.bool false) := HOW2.out.cell (truths_no hin (by
              rintro (h1 | ⟨j', h1, h2⟩)
              · omega
              · have := cls_lt (l := l) (k := k) (m := n) h1 (by rw [HZ.out]; exact hjz)
                omega))
            have hfr := HOW2.out.free i0
            have HNX : Hid (Own (wr.setCell ⟨w2.heap.size, i0, none⟩ (.bool true)) w2.heap.size 4 (truths n fun i => l.getD i 0 < (k : Int) ∨ ∃ j', j' < j + 1 ∧ (cls l k n).getD j' 0 = (i : Int))) := Lib.hid (by
              have h1 := HOW2.out.set i0 (.bool true)
              rw [truths_set] at h1
              rw [← truths_same (fun i hi => ?_)]
              · exact h1
              · constructor
                · rintro ((h | ⟨j', h2, h3⟩) | h)
                  · exact .inl h
                  · exact .inr ⟨j', by omega, h3⟩
                  · exact .inr ⟨j, by omega, by rw [hi0, h]⟩
                · rintro (h | ⟨j', h2, h3⟩)
                  · exact .inl (.inl h)
                  · by_cases e : j' = j
                    · rw [e, hi0] at h3; exact .inr (by omega)
                    · exact .inl (.inr ⟨j', by omega, h3⟩))
            have ek : ((k : Int) != (k : Int)) = false := by simp
            clear hc5 hc6 hi0 hli
            go_wp2
            go_roundw
            case rel => exact ⟨j + 1, by omega, by go_num, HBL2.out.setCell (Nat.le_refl _) _, HNX.out⟩
            case measure => simp [intOf]; omega
          · have hjz' : j = z := by omega
            have HNX : Hid (Own wr w2.heap.size 4 (truths n fun i => l.getD i 0 < ((k + 1 : Nat) : Int))) := Lib.hid (by
              rw [← truths_same (fun i hi => ?_)]
              · exact HOW2.out
              · constructor
                · rintro (h | ⟨j', h2, h3⟩)
                  · omega
                  · obtain ⟨i', h4, _, _, h5⟩ := cls_at (l := l) (k := k) (m := n) (j := j') (by rw [HZ.out]; omega)
                    rw [h4] at h3
                    have : i' = i := by omega
                    rw [← this, h5]; omega
                · intro h
                  by_cases e : l.getD i 0 = (k : Int)
                  · obtain ⟨j', h2, h3⟩ := cls_has (l := l) (k := k) (m := n) hi e
                    rw [HZ.out] at h2
                    exact .inr ⟨j', by omega, h3⟩
                  · exact .inl (by omega))
            clear hjz'
            go_wp2
            go_roundw
            case rel => exact ⟨k + 1, by omega, by go_num, HBL2.out, HNX.out⟩
            case measure => simp [intOf]; omega
    · have hkc : k = cN l := by omega
      have HTR : Hid (∀ i, i < n → wr.cell? ⟨w2.heap.size, i, none⟩ = some (.bool true)) := Lib.hid (fun i hi => HOW.out.cell (truths_yes hi (by
        obtain ⟨y, hy, hyl⟩ := wf_nat HW.out (show i < l.length by have := HL.out; omega)
        rw [hy]; omega)))
      have hS := HOW.out.lt
      have T3 := Lib.hid (T2.out.trans (bel_le HBL.out T2.out.size))
      have hT2 := T2.out.size
      obtain ⟨i0, hi, hz0, hz1, hz2⟩ := info_parts info3
      have HN : Hid (wr.ownsRow (w2.heap.size + 1) 3 1 (.slice none 0 0) 0 ((named l t 0).map (Value.int .i64))) := Lib.hid ⟨rfl, .inl ⟨rfl, rfl⟩⟩
      clear hkc
      go_wp2
      go_loopw [14, 126] (fun v i wx => ∃ m : Nat, m ≤ n ∧ i = .int .i64 m ∧ Below (w2.heap.size + 1) wr wx ∧ wx.ownsRow (w2.heap.size + 1) 3 1 v m ((named l t m).map (Value.int .i64))) (fun _ i _ => n - (intOf i).toNat)
      case atStart => exact ⟨0, Nat.zero_le _, rfl, Below.refl _ _, HN.out⟩
      case round =>
        obtain ⟨m, hm, rfl, hbl, hown⟩ := hrel
        have HB3 := Lib.hid hbl
        have HO3 := Lib.hid hown
        have hsz := hbl.size
        clear hbl hown
        by_cases hmn : m < n
        · obtain ⟨p7, hp7, hix7, hc7⟩ := ints_index HI.out (j := m) (by rw [HL.out]; exact hmn)
          have hc72 := ((T3.out.trans (HB3.out.mono (by omega))).cell hp7).trans hc7
          obtain ⟨y, hy, hyl⟩ := wf_nat HW.out (show m < l.length by have := HL.out; omega)
          rw [hy] at hc72
          have HNS : Hid (named l t (m + 1) = named l t m ++ [t - 2 * (y : Int)]) := Lib.hid (by rw [named_succ, hy])
          clear hc7 hy
          have hm0 : IntKind.i64.wrap (2 * (y : Int)) = 2 * (y : Int) := by rw [IntKind.wrap_i64]; omega
          have hm1 : IntKind.i64.wrap (t - 2 * (y : Int)) = t - 2 * (y : Int) := by rw [IntKind.wrap_i64]; omega
          have hm2 : wrap64 (2 * (y : Int)) = 2 * (y : Int) := by unfold wrap64; omega
          have hm3 : wrap64 (t - 2 * (y : Int)) = t - 2 * (y : Int) := by unfold wrap64; omega
          go_wp2_with (at_builtin; refine wpList_append_own _ rfl _ _ 22 rfl (w2.heap.size + 1) 3 i0 (.int .i64 0) 1 8 Try.underlying22 hi hz0 hz1 hz2 rfl (by decide) _ _ _ rfl (HO3.out.alloc _) ⟨wr.heap.size, 0, none⟩ 1 1 [.int .i64 (t - 2 * (y : Int))] rfl rfl (cell_one_new _ _ _) (fun x hx => by simp at hx; subst hx; rfl) (by unfold maxLen; omega) (by omega) (by simp; omega) ?_; intro v' w1 hown' hgrow _; have HO1 := Lib.hid hown'; have HG1 := Lib.hid hgrow; clear hown' hgrow)
          go_roundw
          case rel => exact ⟨m + 1, by omega, by go_num, (HB3.out.alloc (by omega) _).grown HG1.out (by simp; omega) (own_block HO3.out), by rw [HNS.out, List.map_append]; exact HO1.out⟩
          case measure => simp [intOf]; omega
        · have hmn' : m = n := by omega
          have HKE := Lib.hid (own_row (named_len l t m) HO3.out)
          rw [hmn'] at HKE
          have T4 := Lib.hid (T3.out.trans (HB3.out.mono (by omega)))
          have K1 : Hid (∀ w1, Below w.heap.size w w1 → Calls Try.prog 21 #[.slice x n cap] w1 (PairPost l 0 w1)) := Lib.hid (fun w1 h1 => by
            have := of_any (ints_below HI.out h1) (wf_fit HW.out (by have := HL.out; omega))
            rwa [ofList, ofCode, if_neg (by have := HL.out; omega), if_neg (by have := HL.out; omega), show labs (fn l) l.length = l from HW.out] at this)
          have K2 : Hid (∀ w1 v1, IntsAt w1 .i64 v1 (named l t n) → Calls Try.prog 21 #[v1] w1 (PairPost l 0 w1)) := Lib.hid (fun w1 v1 h1 => by
            have h2 := named_labs t HW.out
            have h3 := named_fit HW.out (by have := HL.out; omega) ht1 ht2
            rw [HL.out] at h2 h3
            have := of_any h1 h3
            rwa [ofList, ofCode, named_len, if_neg (by omega), if_neg (by omega), h2] at this)
          have HTR2 : Hid (∀ i, i < n → wr.cell? ⟨w2.heap.size, i, none⟩ = some (.bool true)) := Lib.hid (fun i hi => (HB3.out.cell (p := ⟨w2.heap.size, i, none⟩) (by show w2.heap.size < w2.heap.size + 1; omega)).trans (HTR.out i hi))
          have hSr : w2.heap.size < wr.heap.size := by omega
          clear hmn'
          go_wp2_with (first
            | (go_at_call 13; ((with_reducible refine (Ev.awake _).mono ?_); rintro e w' ⟨rfl, hw⟩))
            | (go_at_call 36; ((with_reducible refine (equal_true J6.out (ints_below HI.out T6.out)).mono ?_); rintro e w' ⟨m1, rfl, rfl⟩))
            | (go_at_call 36; ((with_reducible refine (equal_true (ints_drewN I6.out _) (ints_drewN (ints_below HI.out T6.out) _)).mono ?_); rintro e w' ⟨m2, rfl, rfl⟩))
            | (go_at_call 38; ((with_reducible refine (HCN.out).mono ?_); rintro e w' ⟨rfl, rfl⟩))
            | (go_at_call 21; ((with_reducible refine (K2.out _ _ (ints_below HKE.out HB5.out)).mono ?_); rintro e w6 ⟨v6, rfl, hb, hi⟩; have T6 := Lib.hid (T5.out.trans (bel_le hb T5.out.size)); have I6 := Lib.hid hi; have J6 := Lib.hid (ints_below I5.out hb); have HCN := Lib.hid (contains_no w2.heap.size n (by omega) w6 (fun i hi' => (hb.cell (p := ⟨w2.heap.size, i, none⟩) (Nat.lt_of_lt_of_le hSr HB5.out.size)).trans ((HB5.out.cell (p := ⟨w2.heap.size, i, none⟩) hSr).trans (HTR2.out i hi')))); clear hb hi))
            | (go_at_call 21; ((with_reducible refine (K1.out _ T4.out).mono ?_); rintro e w5 ⟨v5, rfl, hb, hi⟩; have HB5 := Lib.hid hb; have T5 := Lib.hid (T4.out.trans (bel_le hb T4.out.size)); have I5 := Lib.hid hi; clear hb hi)))
          go_ret
          exact ⟨rfl, T6.out.trans ((below_drewN (Below.refl _ _) _).trans (bel_le hw (by simpa using T6.out.size)))⟩
theorem covers_walk {w : World} {v : Value} {l : List Int} (h : IntsAt w .i64 v l) (t : Int) : Calls Try.prog 10 #[v, .int .i64 t] w fun e w' => e = .returned (.bool true) ∧ Below w.heap.size w w' := by
  obtain ⟨b, hb⟩ : ∃ b, [l].any (worse l) = !b := ⟨![l].any (worse l), by simp⟩
  by_cases hc : b = false ∨ t < -1000 ∨ 1000 < t
  · exact covers_out h t b hb hc
  · have hb1 : b = true := by cases b <;> simp_all
    subst hb1
    obtain ⟨h1, h2⟩ := good_one hb
    have HI := h
    obtain ⟨x, cap, rfl, _, _, _⟩ := h
    exact covers_in rfl HI h1 h2 t (by omega) (by omega) hb
end Go.Proofs.Ytlacohjecehpiaa.Part
