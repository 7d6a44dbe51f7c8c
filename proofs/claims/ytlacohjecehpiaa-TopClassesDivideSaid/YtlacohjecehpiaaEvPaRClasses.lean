/-
  The classes of a partition: the reference's, and both compared.
-/
import Derived.Test.YtlacohjecehpiaaEvPaClasses
import Derived.Test.YtlacohjecehpiaaEvPaRefines
namespace Go.Proofs.Ytlacohjecehpiaa.Part
open Go Go.RowKit Go.Part Go.Law Go.Maps

/-- A list of its own, as a row that may grow. -/
def RowPost (xs : List Int) (W : World) (e : Ending) (w' : World) : Prop := ∃ v, e = .returned v ∧ Below W.heap.size W w' ∧ w'.ownsRow W.heap.size 3 1 v xs.length (xs.map (Value.int .i64))
set_option maxRecDepth 100000 in
set_option maxHeartbeats 2000000 in
theorem rclass_ok {w : World} {x : Option Addr} {n cap : Nat} {l : List Int} (hll : l.length = n) (h : IntsAt w .i64 (.slice x n cap) l) (hn : n ≤ 65536) (k : Nat) : Calls Try.prog 49 #[.slice x n cap, .int .i64 k] w (RowPost (cls l k n) w) := by
  have HI := Lib.hid h
  have HL := Lib.hid hll
  obtain ⟨i0, hi, hz0, hz1, hz2⟩ := info_parts info3
  have HN : Hid (w.ownsRow w.heap.size 3 1 (.slice none 0 0) (cls l k 0).length ((cls l k 0).map (Value.int .i64))) := Lib.hid ⟨rfl, .inl ⟨rfl, rfl⟩⟩
  clear h hll
  go_enter Try.func49, Try.ntmps49
  go_wp2
  go_loopw [5, 6] (fun v i wr => ∃ m : Nat, m ≤ n ∧ i = .int .i64 m ∧ Below w.heap.size w wr ∧ wr.ownsRow w.heap.size 3 1 v (cls l k m).length ((cls l k m).map (Value.int .i64))) (fun _ i _ => n - (intOf i).toNat)
  case atStart => exact ⟨0, Nat.zero_le _, rfl, Below.refl _ _, HN.out⟩
  case round =>
    obtain ⟨m, hm, rfl, hbl, hown⟩ := hrel
    have HBL := Lib.hid hbl
    have HOW := Lib.hid hown
    have hlen : (cls l k m).length ≤ m := cls_le _ _ _
    clear hbl hown
    by_cases hlt : m < n
    · obtain ⟨p, hp, hix, hpc⟩ := ints_index HI.out (j := m) (by have := HL.out; omega)
      have hpc2 := (HBL.out.cell hp).trans hpc
      have HX : Hid (l.getD m 0 = l.getD m 0) := Lib.hid rfl
      clear hpc
      by_cases he : l.getD m 0 = (k : Int)
      · have HC : Hid (cls l k (m + 1) = cls l k m ++ [(m : Int)]) := Lib.hid (cls_hit he)
        rw [he] at hpc2
        have hd : ((k : Int) == (k : Int)) = true := by simp
        clear he HX
        go_wp2_with (at_builtin; refine wpList_append_own _ rfl _ _ 22 rfl w.heap.size 3 i0 (.int .i64 0) 1 8 Try.underlying22 hi hz0 hz1 hz2 rfl (by decide) _ _ _ rfl (HOW.out.alloc _) ⟨wr.heap.size, 0, none⟩ 1 1 [.int .i64 (m : Int)] rfl rfl (cell_one_new _ _ _) (fun x hx => by simp at hx; subst hx; rfl) (by unfold maxLen; omega) (by omega) (by have := HBL.out.size; simp; omega) ?_; intro v' w1 hown' hgrow _; have HO1 := Lib.hid hown'; have HG1 := Lib.hid hgrow; clear hown' hgrow)
        go_roundw
        case rel => exact ⟨m + 1, by omega, by go_num, (HBL.out.alloc HBL.out.size _).grown HG1.out (by have := HBL.out.size; simp; omega) (own_block HOW.out), by rw [HC.out, List.length_append, List.map_append]; exact HO1.out⟩
        case measure => simp [intOf]; omega
      · have HC : Hid (cls l k (m + 1) = cls l k m) := Lib.hid (cls_miss he)
        generalize l.getD m 0 = y at *
        have hd : ((y : Int) == (k : Int)) = false := by simpa using he
        clear he HX
        go_wp2
        go_roundw
        case rel => exact ⟨m + 1, by omega, by go_num, HBL.out, by rw [HC.out]; exact HOW.out⟩
        case measure => simp [intOf]; omega
    · have hm' : m = n := by omega
      have HOW2 : Hid (wr.ownsRow w.heap.size 3 1 _ (cls l k n).length ((cls l k n).map (Value.int .i64))) := Lib.hid (by rw [← hm']; exact HOW.out)
      clear hm'
      go_wp2
      go_ret
      exact ⟨_, rfl, HBL.out, HOW2.out⟩
theorem rclass_any {w : World} {v : Value} {l : List Int} (h : IntsAt w .i64 v l) (hs : ¬ 65536 < l.length) (k : Nat) : Calls Try.prog 49 #[v, .int .i64 k] w (RowPost (cls l k l.length) w) := by
  have HI := h
  obtain ⟨x, cap, rfl, h1, h2, h3⟩ := h
  exact rclass_ok rfl HI (by omega) k
theorem rows_apart {w : World} {base base' n m : Nat} {u v : Value} {xs ys : List Value} (h : w.ownsRow base 3 1 u n xs) (h' : w.ownsRow base' 22 1 v m ys) : ∀ g, u.ownBlock = some g → some g ≠ v.ownBlock := by
  intro g hg e
  rcases h.2 with ⟨rfl, _⟩ | ⟨g1, c1, cur1, rfl, _, hb1, _⟩
  · cases hg
  · rcases h'.2 with ⟨rfl, _⟩ | ⟨g2, c2, cur2, rfl, _, hb2, _⟩
    · cases e
    · simp only [Value.ownBlock, Option.some.injEq] at hg e
      subst hg
      rw [← e, hb1] at hb2
      cases hb2
theorem row_form {w : World} {base n : Nat} {v : Value} {xs : List Value} (h : w.ownsRow base 3 1 v n xs) : ∃ a cap, v = .slice a n cap := by
  rcases h.2 with ⟨h0, rfl⟩ | ⟨g, cap, _, h0, _⟩
  · exact ⟨_, _, h0⟩
  · exact ⟨_, _, h0⟩
/-- Rows that a call has made, one for each of the first k lists. -/
structure RowsOf (w0 w : World) (v : Value) (k : Nat) (us : List Value) (L : Nat → List Int) : Prop where
  len : us.length = k
  out : w.ownsRow w0.heap.size 22 1 v k us
  row : ∀ j, j < k → w.ownsRow w0.heap.size 3 1 (us.getD j undef) (L j).length ((L j).map (Value.int .i64))
  bel : Below w0.heap.size w0 w
theorem RowsOf.start (w : World) (L : Nat → List Int) : RowsOf w w (.slice none 0 0) 0 [] L := ⟨rfl, ⟨rfl, .inl ⟨rfl, rfl⟩⟩, fun j hj => by omega, Below.refl _ _⟩
theorem row_below {w w' : World} {base e n : Nat} {v : Value} {xs : List Value} (h : w.ownsRow base e 1 v n xs) (hb : Below w.heap.size w w') : w'.ownsRow base e 1 v n xs := by
  have hlt := h.lt
  refine ⟨h.1, h.2.imp id ?_⟩
  rintro ⟨g, cap, cur, rfl, hg, hb', hr⟩
  exact ⟨g, cap, cur, rfl, hg, by rw [hb.block g (hlt g rfl).2]; exact hb', hr⟩
theorem RowsOf.below {w0 w w' : World} {v : Value} {k : Nat} {us : List Value} {L : Nat → List Int} (h : RowsOf w0 w v k us L) (hb : Below w.heap.size w w') : RowsOf w0 w' v k us L :=
  ⟨h.len, row_below h.out hb, fun j hj => row_below (h.row j hj) hb, h.bel.trans (bel_le hb h.bel.size)⟩
theorem RowsOf.snoc {w0 w w1 w2 : World} {v v' u : Value} {k : Nat} {us : List Value} {L : Nat → List Int} (h : RowsOf w0 w v k us L) (hb : Below w.heap.size w w1) (hu : w1.ownsRow w0.heap.size 3 1 u (L k).length ((L k).map (Value.int .i64))) {o : Obj} (hg : (w1.alloc o).grownBy w2 v.ownBlock) (ho : w2.ownsRow w0.heap.size 22 1 v' (k + 1) (us ++ [u])) : RowsOf w0 w2 v' (k + 1) (us ++ [u]) L := by
  have h1 := h.below hb
  have ha : Below w1.heap.size w1 (w1.alloc o) := below_one w1 o
  refine ⟨by simp [h.len], ho, fun j hj => ?_, ((h1.bel.alloc h1.bel.size o).grown hg (by have := h1.bel.size; simp; omega) (fun q hq => (h1.out.lt q hq).1))⟩
  have keep : ∀ (z : Value) (xs : List Int), w1.ownsRow w0.heap.size 3 1 z xs.length (xs.map (Value.int .i64)) → w2.ownsRow w0.heap.size 3 1 z xs.length (xs.map (Value.int .i64)) := fun z xs hz =>
    row_same (row_below hz ha) fun g hg' => hg.block g (by have := (hz.lt g hg').2; simp; omega) (rows_apart hz h1.out g hg')
  by_cases e : j = k
  · subst e
    rw [show (us ++ [u]).getD j undef = u by rw [List.getD_eq_getElem?_getD, List.getElem?_append_right (by rw [h.len]; omega), h.len]; simp]
    exact keep u _ hu
  · rw [show (us ++ [u]).getD j undef = us.getD j undef by rw [List.getD_eq_getElem?_getD, List.getElem?_append_left (by rw [h.len]; omega), ← List.getD_eq_getElem?_getD]]
    exact keep _ _ (h1.row j (by omega))
theorem RowsOf.ll {w0 w : World} {v : Value} {k : Nat} {us : List Value} {L : Nat → List Int} (h : RowsOf w0 w v k us L) (hk : k ≤ 65538) {LS : List (List Int)} (hl : LS.length = k) (he : ∀ j, j < k → LS.getD j [] = L j) : LL w v LS := by
  subst hl
  rcases h.out.2 with ⟨rfl, h0⟩ | ⟨g, cap, cur, rfl, hg, hb, hn', hcap, hcs, htake⟩
  · rw [List.length_eq_zero_iff.1 h0]; exact ll_nil w
  · refine ⟨_, _, rfl, hk, fun j hj => ⟨⟨g, 0 + j, none⟩, us.getD j undef, (h.out.lt g rfl).2, fun W => index_at25 W g 0 _ _ j hj, ?_, ?_⟩⟩
    · have h1 : (cur.toList.take (LS.length * 1))[j]? = some (us.getD j undef) := by
        rw [htake, List.getElem?_eq_getElem (by rw [h.len]; exact hj)]
        simp [List.getD_eq_getElem?_getD, h.len, hj]
      rw [List.getElem?_take, if_pos (by omega)] at h1
      simp only [World.cell?, hb]
      simpa using h1
    · rw [he j hj]; exact own_row rfl (h.row j hj)
set_option maxRecDepth 100000 in
set_option maxHeartbeats 2000000 in
theorem rclasses_ok {w : World} {x : Option Addr} {n cap : Nat} {l : List Int} (hll : l.length = n) (h : IntsAt w .i64 (.slice x n cap) l) (hn : n ≤ 65536) (hw : wf l)
    (HB : Hid (Calls Try.prog 19 #[.slice x n cap] w fun e w' => e = .returned (.int .i64 0) ∧ w = w')) : Calls Try.prog 15 #[.slice x n cap] w (ClassPost (clsAll l) 0 w) := by
  have HI := Lib.hid h
  have HC : Hid (∀ wr, Below w.heap.size w wr → Calls Try.prog 48 #[.slice x n cap] wr fun e w' => e = .returned (.int .i64 (cN l)) ∧ wr = w') := Lib.hid fun wr hb => number_any (ints_below h hb) (by omega) hw
  have HK : Hid (∀ wr, Below w.heap.size w wr → ∀ k : Nat, Calls Try.prog 49 #[.slice x n cap, .int .i64 k] wr (RowPost (cls l k n) wr)) := Lib.hid fun wr hb k => by rw [← hll]; have := rclass_any (ints_below h hb) (by omega) k; rwa [hll] at this ⊢
  have hcn : cN l ≤ n := by have := cnt_le (fn l) l.length; unfold cN; omega
  have HL := Lib.hid hll
  obtain ⟨i0, hi, hz0, hz1, hz2⟩ := info_parts info22
  clear h hll hw
  go_enter Try.func15, Try.ntmps15
  go_wp2_with (go_at_call 19; ((with_reducible refine (HB.out).mono ?_); rintro e w' ⟨rfl, rfl⟩))
  go_loopw [5, 6] (fun v i wr => ∃ (k : Nat) (us : List Value), k ≤ cN l ∧ i = .int .i64 k ∧ RowsOf w wr v k us (fun j => cls l j n)) (fun _ i _ => cN l - (intOf i).toNat)
  case atStart => exact ⟨0, [], Nat.zero_le _, rfl, RowsOf.start w _⟩
  case round =>
    obtain ⟨k, us, hk, rfl, hr⟩ := hrel
    have HR := Lib.hid hr
    clear hr
    by_cases hlt : k < cN l
    · go_wp2_with first
        | (at_builtin; refine wpList_append_own _ rfl _ _ 25 rfl w.heap.size 22 i0 (.slice none 0 0) 1 24 Try.underlying25 hi hz0 hz1 hz2 rfl (by decide) _ _ _ rfl ((row_below HR.out.out HB1.out).alloc _) ⟨w1.heap.size, 0, none⟩ 1 1 [.slice a1 (cls l k n).length c1] rfl rfl (cell_one_new _ _ _) (fun x hx => by simp at hx; subst hx; rfl) (by unfold maxLen; omega) (by omega) (by have := HR.out.bel.size; have := HB1.out.size; simp; omega) ?_; intro v' w2 hown' hgrow _; have HO1 := Lib.hid hown'; have HG1 := Lib.hid hgrow; clear hown' hgrow)
        | (go_at_call 48; ((with_reducible refine (HC.out _ HR.out.bel).mono ?_); rintro e w' ⟨rfl, rfl⟩))
        | (go_at_call 49; ((with_reducible refine (HK.out _ HR.out.bel _).mono ?_); rintro e w1 ⟨v1, rfl, hb1, hr1⟩; have HB1 := Lib.hid hb1; obtain ⟨a1, c1, rfl⟩ := row_form hr1; have HR1 := Lib.hid hr1; clear hb1 hr1))
      have HN : Hid (RowsOf w w2 v' (k + 1) (us ++ [.slice a1 (cls l k n).length c1]) (fun j => cls l j n)) := Lib.hid (HR.out.snoc HB1.out (by
        obtain ⟨r1, r2⟩ := HR1.out
        exact ⟨r1, r2.imp id (fun ⟨g, cap, cur, e, hg, hr⟩ => ⟨g, cap, cur, e, Nat.le_trans HR.out.bel.size hg, hr⟩)⟩) HG1.out HO1.out)
      go_roundw
      case rel => exact ⟨k + 1, us ++ [.slice a1 (cls l k n).length c1], by omega, by go_num, HN.out⟩
      case measure => simp [intOf]; omega
    · have hk' : k = cN l := by omega
      have HLL := Lib.hid (HR.out.ll (by omega) (show (clsAll l).length = k by rw [clsAll_len, hk']) (fun q hq => by rw [clsAll_get (by omega), HL.out]))
      clear hk'
      go_wp2_with (go_at_call 48; ((with_reducible refine (HC.out _ HR.out.bel).mono ?_); rintro e w' ⟨rfl, rfl⟩))
      go_ret2
      exact ⟨_, rfl, HR.out.bel, HLL.out⟩
def clsList (l : List Int) : List (List Int) := if code l = 0 then clsAll l else []
theorem classes_any {w : World} {v : Value} {l : List Int} (h : IntsAt w .i64 v l) : Calls Try.prog 14 #[v] w (ClassPost (clsList l) (code l) w) := by
  have HA := Lib.hid (check_any h)
  unfold clsList
  by_cases c : code l = 0
  · rw [if_pos c, c]
    rw [c] at HA
    have HI := h
    obtain ⟨x, cap, rfl, h1, h2, h3⟩ := h
    exact classes_ok rfl HI (by have := (code_ok c).1; omega) (code_ok c).2 HA
  · rw [if_neg c]
    have e1 := ne_true c
    generalize code l = k at *
    clear c h
    go_enter Try.func14, Try.ntmps14
    go_wp2_with (go_at_call 18; ((with_reducible refine (HA.out).mono ?_); rintro e w' ⟨rfl, rfl⟩))
    go_ret2
    exact ⟨_, rfl, Below.refl _ _, ll_nil _⟩
theorem rclasses_any {w : World} {v : Value} {l : List Int} (h : IntsAt w .i64 v l) : Calls Try.prog 15 #[v] w (ClassPost (clsList l) (code l) w) := by
  have HA := Lib.hid (rcheck_any h)
  unfold clsList
  by_cases c : code l = 0
  · rw [if_pos c, c]
    rw [c] at HA
    have HI := h
    obtain ⟨x, cap, rfl, h1, h2, h3⟩ := h
    exact rclasses_ok rfl HI (by have := (code_ok c).1; omega) (code_ok c).2 HA
  · rw [if_neg c]
    have e1 := ne_true c
    generalize code l = k at *
    clear c h
    go_enter Try.func15, Try.ntmps15
    go_wp2_with (go_at_call 19; ((with_reducible refine (HA.out).mono ?_); rintro e w' ⟨rfl, rfl⟩))
    go_ret2
    exact ⟨_, rfl, Below.refl _ _, ll_nil _⟩
theorem quiet_own {P : Program} {f : FuncId} {args : Array Value} {w : World} {a n : Nat} {v : Value}
    (h : Calls P f args (w.drewN (a + n)) (Quiet v (w.drewN (a + n)))) : Calls P f args (w.drewN (a + n)) fun e w'' => e = .returned v ∧ ∃ m, w'' = w.drewN (a + m) :=
  h.mono fun _ _ ⟨m, he, hw⟩ => ⟨he, n + m, by rw [hw, World.drewN_drewN, Nat.add_assoc]⟩
set_option maxHeartbeats 1000000 in
theorem samelists {w : World} {v u : Value} {L : List (List Int)} (h : LL w v L) (h' : LL w u L) : Calls Try.prog 20 #[v, u] w (Quiet (.bool true) w) := by
  obtain ⟨x, cap, rfl, hl, hj⟩ := h
  obtain ⟨x', cap', rfl, _, hj'⟩ := h'
  obtain ⟨n, hn⟩ : ∃ n, L.length = n := ⟨_, rfl⟩
  rw [hn] at hj hj' hl ⊢
  have HJ := Lib.hid hj
  have HJ' := Lib.hid hj'
  have e3 : ((n : Int) != (n : Int)) = false := by simp
  clear hj hj' hn
  go_enter Try.func20, Try.ntmps20
  go_wp2
  go_loopw [5] (fun i wr => ∃ k m : Nat, k ≤ n ∧ i = .int .i64 k ∧ wr = w.drewN m) (fun i _ => n - (intOf i).toNat)
  case atStart => exact ⟨0, 0, Nat.zero_le _, rfl, rfl⟩
  case round =>
    obtain ⟨k, m, hk, rfl, rfl⟩ := hrel
    by_cases hlt : k < n
    · obtain ⟨p, z, hp, hix, hc, hi⟩ := HJ.out k hlt
      obtain ⟨p', z', hp', hix', hc', hi'⟩ := HJ'.out k hlt
      have HI := Lib.hid hi
      have HI' := Lib.hid hi'
      clear hi hi'
      go_wp2
      go_quiet ((go_at_call 25; exact quiet_own (same_true (ints_drewN HI.out _) (ints_drewN HI'.out _))))
      go_wp2
      exact ⟨⟨k + 1, m + nq, by omega, by go_num, rfl⟩, by simp [intOf]; omega⟩
    · go_wp2
      go_ret
      exact ⟨m, rfl, rfl⟩
end Go.Proofs.Ytlacohjecehpiaa.Part
