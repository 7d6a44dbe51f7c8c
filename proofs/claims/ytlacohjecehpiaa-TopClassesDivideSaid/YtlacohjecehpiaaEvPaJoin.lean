/-
  The join of two partitions: the program's.
-/
import Derived.Test.YtlacohjecehpiaaEvPaJoinMath
namespace Go.Proofs.Ytlacohjecehpiaa.Part
open Go Go.RowKit Go.Part Go.Law Go.Maps

def ids (n : Nat) : List Int := (List.range n).map fun (x : Nat) => (x : Int)
theorem ids_length (n : Nat) : (ids n).length = n := by simp [ids]
theorem ids_getD {n k : Nat} (h : k < n) : (ids n).getD k 0 = (k : Int) := by simp [ids, List.getD_eq_getElem?_getD, h]
theorem ids_vals (n : Nat) : (ids n).map (Value.int .i64) = vals (List.range n) := by simp [ids, vals, List.map_map]
def RootTo (n R pb r : Nat) (ps : List Nat) (W : World) (e : Ending) (w' : World) : Prop := ∃ qs, e = .returned (.int .i64 (r : Int)) ∧ Forest w' R pb n qs ∧ (∀ j, root (pf qs) j = root (pf ps) j) ∧ W.grownBy w' (some R)
theorem root_to {n R pb : Nat} (hpb : pb ≠ R) {i : Nat} (hi : i < n) {ps : List Nat} {w : World} (h : Forest w R pb n ps) {r : Nat} (hr : root (pf ps) i = r) : Calls Try.prog 58 #[.int .i64 i, .pointer (some ⟨pb, 0, none⟩)] w (RootTo n R pb r ps w) := by
  subst hr
  exact root_any n R pb hpb i hi ps w h
/-- The list of a round: what is known of it. -/
def Turn (n : Nat) (a b l : List Int) (q : Nat) : Prop := wf l ∧ l.length = n ∧ (∀ i j, i < n → j < n → fn l i = fn l j → Conn n (fn a) (fn b) i j) ∧ ∀ ps, Joined n (fn l) ps → (0 < q → Joined n (fn a) ps) → (0 < q + 1 → Joined n (fn a) ps) ∧ (1 < q + 1 → Joined n (fn b) ps)
theorem turn_left {n : Nat} {a b : List Int} (ha : wf a) (hl : a.length = n) : Turn n a b a 0 := ⟨ha, hl, fun i j hi hj e => .left hi hj e, fun ps h _ => ⟨fun _ => h, fun h1 => absurd h1 (by omega)⟩⟩
theorem turn_right {n : Nat} {a b : List Int} (hb : wf b) (hl : b.length = n) : Turn n a b b 1 := ⟨hb, hl, fun i j hi hj e => .right hi hj e, fun ps h h' => ⟨fun _ => h' (by omega), fun _ => h⟩⟩
theorem join_number {n R pb : Nat} (hn : n ≤ 65536) (hpb : pb ≠ R) {a b : List Int} {ps : List Nat} {w0 wr : World} (hf : Forest wr R pb n ps) (hw : w0.heap.size ≤ R) (hj : IsJoin n (fn a) (fn b) (root (pf ps))) :
    Calls Try.prog 50 #[.int .i64 n, .func (.func 58) #[] #[.pointer (some ⟨pb, 0, none⟩)]] wr fun e w' => ∃ v, e = .returned v ∧ Below w0.heap.size wr w' ∧ IntsAt w' .i64 v (glue n a b) := by
  have h1 := hf.own.lt
  have h2 := cell_lt hf.box
  have h := number58 n hn (fun i => (root (pf ps) i : Int)) (fun i => Lit.int .i64 (root (pf ps) i : Int)) (fun i hi => keyOf_int_mk Try.underlying3 (small_wf _ (by have := root_le (pf ps) i; omega))) ⟨pb, 0, none⟩
    (fun w' => ∃ qs, Forest w' R pb n qs ∧ ∀ j, root (pf qs) j = root (pf ps) j) w0.heap.size wr (by omega) (fun w1 w2 hb ⟨qs, h, e⟩ => ⟨qs, h.same (hb R h1) (hb pb h2), e⟩) ⟨ps, hf, fun _ => rfl⟩
    (fun i hi w1 hw1 ⟨qs, h, e⟩ => (root_to hpb hi h (e i)).mono fun e' w2 ⟨rs, he, hf2, hr2, hg⟩ => ⟨he, ⟨rs, hf2, fun j => (hr2 j).trans (e j)⟩, (Below.refl _ _).grown hg (by omega) (fun j hj => by cases hj; exact hw), fun k hk hlt => hg.block k hlt (fun e => by have := Option.some.inj e; omega)⟩)
  rw [labs_eqv (show Eqv n (fun i => Lit.int .i64 (root (pf ps) i : Int)) (root (pf ps)) from fun i j _ _ => by simp; omega), glue_of hj] at h
  exact h.mono fun e w' ⟨v, he, hb, _, hi⟩ => ⟨v, he, hb, hi⟩
theorem ld_joined {n : Nat} {l ls : List Int} {ps : List Nat} (h : ∀ j, j < n → root (pf ps) j = root (pf ps) (ls.getD (l.getD j 0).toNat 0).toNat) : Joined n (fn l) ps := by
  intro i j hi hj e
  have e' : l.getD i 0 = l.getD j 0 := e
  rw [h i hi, h j hj, e']

set_option maxRecDepth 100000 in
set_option maxHeartbeats 4000000 in
theorem join_ok {w : World} {x x' : Option Addr} {n cap cap' : Nat} {a b : List Int} (hla : a.length = n) (hlb : b.length = n) (h : IntsAt w .i64 (.slice x n cap) a) (h' : IntsAt w .i64 (.slice x' n cap') b) (hn : n ≤ 65536) (ha : wf a) (hb : wf b)
    (HB : Hid (Calls Try.prog 53 #[.slice x n cap, .slice x' n cap'] w fun e w' => e = .returned (.int .i64 0) ∧ w = w')) : Calls Try.prog 30 #[.slice x n cap, .slice x' n cap'] w (PairPost (glue n a b) 0 w) := by
  have HI := Lib.hid h
  have HI' := Lib.hid h'
  have HTa := Lib.hid (turn_left (b := b) ha hla)
  have HTb := Lib.hid (turn_right (a := a) hb hlb)
  clear h h' hla hlb ha hb
  have HM := Lib.hid (Own.made w 3 (.int .i64 0) n)
  rw [replicate_ints] at HM
  have HM2 : Hid (Own ((w.alloc (.cells (madeCells #[.int .i64 0] n) 3)).alloc (.cells #[.slice (some ⟨w.heap.size, 0, none⟩) n n] 22)) w.heap.size 3 ((List.replicate n (0 : Int)).map (Value.int .i64))) := Lib.hid (HM.out.alloc _)
  have hmk := make_ints n (by omega)
  go_enter Try.func30, Try.ntmps30
  go_wp2_with (go_at_call 53; ((with_reducible refine (HB.out).mono ?_); rintro e w' ⟨rfl, rfl⟩))
  go_loopw [29] (fun i wr => ∃ k : Nat, k ≤ n ∧ i = .int .i64 k ∧ w.heap.size + 2 ≤ wr.heap.size ∧ Below w.heap.size w wr ∧ Own wr w.heap.size 3 ((cp (ids n) k).map (Value.int .i64)) ∧ wr.cell? ⟨w.heap.size + 1, 0, none⟩ = some (.slice (some ⟨w.heap.size, 0, none⟩) n n)) (fun i _ => n - (intOf i).toNat)
  case atStart => exact ⟨0, Nat.zero_le _, rfl, by simp, ((Below.refl _ _).alloc (Nat.le_refl _) _).alloc (by simp) _, by rw [cp_zero, ids_length]; exact HM2.out, by rw [World.cell?_alloc_at _ _ _ _ (by simp)]; rfl⟩
  case round =>
    obtain ⟨k, hk, rfl, hsz, hbl, hown, hbox⟩ := hrel
    by_cases hlt : k < n
    · have HE := Lib.hid (cp_succ (ids n) k (by rw [ids_length]; exact hlt))
      have HG := Lib.hid (ids_getD hlt)
      have HL := Lib.hid (show (cp (ids n) k).length = n by rw [cp_length _ _ (by rw [ids_length]; omega), ids_length])
      have hcell := hown.at k (by rw [HL.out]; exact hlt)
      rw [Nat.zero_add] at hcell
      have hfr := hown.free k
      have HOW := Lib.hid hown
      have HBL := Lib.hid hbl
      clear hown hbl
      go_wp2
      go_roundw
      case rel => exact ⟨k + 1, by omega, by go_num, by simpa [World.setCell] using hsz, HBL.out.setCell (Nat.le_refl _) _, by rw [HE.out, HG.out, List.map_set]; exact HOW.out.set k _, by rw [cell_same (Below.heap_setCell _ _ _ _ (by show w.heap.size + 1 ≠ w.heap.size; omega))]; exact hbox⟩
      case measure => simp [intOf]; omega
    · have hk' : k = n := by omega
      have hown2 := hown
      rw [hk', show cp (ids n) n = ids n from (by have := cp_all (ids n); rwa [ids_length] at this), ids_vals] at hown2
      have HF : Hid (Forest wr w.heap.size (w.heap.size + 1) n (List.range n)) := Lib.hid ⟨by simp, fun i => by rw [range_pf]; exact Nat.le_refl _, hown2, hbox⟩
      have HBL := Lib.hid hbl
      clear hown hown2 hbl hk' hmk
      have hfar : w.heap.size + 1 ≠ w.heap.size := by omega
      go_wp2
      have HJ : Hid (JS w w.heap.size (w.heap.size + 1) wr.heap.size n (.slice x n cap) (.slice x' n cap') (wr.alloc (.cells #[.slice x n cap, .slice x' n cap'] 22)) (List.range n)) := Lib.hid
        ⟨HF.out.same (Below.heap_alloc _ _ _ HF.out.own.lt) (Below.heap_alloc _ _ _ (cell_lt HF.out.box)), HBL.out.alloc HBL.out.size _, by rw [World.cell?_alloc_at _ _ _ _ rfl]; rfl, by rw [World.cell?_alloc_at _ _ _ _ rfl]; rfl⟩
      have hLR : wr.heap.size ≠ w.heap.size := by omega
      have hLP : wr.heap.size ≠ w.heap.size + 1 := by omega
      have hLw : w.heap.size ≤ wr.heap.size := by omega
      clear hbox HF HBL HM HM2 hsz
      generalize wr.heap.size = L at *
      go_loopw [42] (fun i wr => ∃ (q : Nat) (ps : List Nat), q ≤ 2 ∧ i = .int .i64 q ∧ JS w w.heap.size (w.heap.size + 1) L n (.slice x n cap) (.slice x' n cap') wr ps ∧ Tied n (fn a) (fn b) ps ∧ (0 < q → Joined n (fn a) ps) ∧ (1 < q → Joined n (fn b) ps)) (fun i _ => 2 - (intOf i).toNat)
      case atStart => exact ⟨0, List.range n, by omega, rfl, HJ.out, range_tied _ _ _, fun h => absurd h (by omega), fun h => absurd h (by omega)⟩
      case round =>
        obtain ⟨q, ps, hq, rfl, hjs, htd, hja, hjb⟩ := hrel
        have HJS := Lib.hid hjs
        have HTD := Lib.hid htd
        have HJA := Lib.hid hja
        have HJB := Lib.hid hjb
        clear hjs htd hja hjb HJ
        by_cases hq2 : q < 2
        · obtain ⟨xl, cl, l, hcell, hil, hturn⟩ : ∃ (xl : Option Addr) (cl : Nat) (l : List Int), wr.cell? ⟨L, q, none⟩ = some (.slice xl n cl) ∧ IntsAt w .i64 (.slice xl n cl) l ∧ Turn n a b l q := by
            rcases (show q = 0 ∨ q = 1 by omega) with rfl | rfl
            · exact ⟨x, cap, a, HJS.out.la, HI.out, HTa.out⟩
            · exact ⟨x', cap', b, HJS.out.lb, HI'.out, HTb.out⟩
          have HIL := Lib.hid hil
          have HT := Lib.hid hturn
          have hll : l.length = n := hturn.2.1
          have hcn : cN l ≤ n := by have := cnt_le (fn l) l.length; unfold cN; omega
          have HC := Lib.hid (count_any (w := wr) (by
            have hi := hil
            obtain ⟨y, cp', hv, h1, h2, h3⟩ := hi
            exact ⟨y, cp', hv, h1, h2, h3.imp id (fun ⟨b, off, e, hb, hc⟩ => ⟨b, off, e, Nat.lt_of_lt_of_le hb HJS.out.bel.size, fun j hj => by rw [HJS.out.bel.cell hb]; exact hc j hj⟩)⟩) (by omega) hturn.1)
          have HLL := Lib.hid hll
          have HM3 := Lib.hid (Own.made wr 3 (.int .i64 0) (cN l))
          rw [replicate_ints] at HM3
          have hmk := make_ints (cN l) (by omega)
          have hLx : L < wr.heap.size := cell_lt HJS.out.la
          have hRx : w.heap.size < wr.heap.size := HJS.out.forest.own.lt
          have hPx : w.heap.size + 1 < wr.heap.size := cell_lt HJS.out.forest.box
          clear hil hturn hll
          go_wp2_with (go_at_call 47; ((with_reducible refine (HC.out).mono ?_); rintro e w' ⟨rfl, rfl⟩))
          have HJ1 := Lib.hid (HJS.out.alloc (.cells (madeCells #[.int .i64 0] (cN l)) 3))
          clear hmk hcell
          generalize hD : wr.heap.size = D at *
          clear hD
          go_loopw [13] (fun v wr => ∃ (k : Nat) (ls : List Int), k ≤ n ∧ v = .int .i64 ((k : Int) - 1) ∧ ls.length = cN l ∧ JS w w.heap.size (w.heap.size + 1) L n (.slice x n cap) (.slice x' n cap') wr ps ∧ Own wr D 3 (ls.map (Value.int .i64)) ∧ Lead n l ls k) (fun v _ => (intOf v + 1).toNat)
          case atStart => exact ⟨n, List.replicate (cN l) 0, Nat.le_refl _, by first | rfl | go_num, by simp, HJ1.out, HM3.out, fun j h1 h2 => absurd h1 (by omega)⟩
          case round =>
            obtain ⟨k, ls, hk, hi, hlen, hjs, hown, hlead⟩ := hrel
            have HJZ := Lib.hid hjs
            have HOW := Lib.hid hown
            have HLD := Lib.hid hlead
            have HLEN := Lib.hid hlen
            clear hjs hown hlead hlen
            by_cases hk0 : 0 < k
            · obtain ⟨k', rfl⟩ : ∃ k', k = k' + 1 := ⟨k - 1, by omega⟩
              have hi2 := hi.trans (show Value.int IntKind.i64 (((k' + 1 : Nat) : Int) - 1) = .int .i64 (k' : Int) by congr 1; omega)
              clear hi
              subst hi2
              obtain ⟨xv, hx, hxl⟩ := wf_nat HT.out.1 (show k' < l.length by have := HLL.out; omega)
              obtain ⟨p, hp, hix, hpc⟩ := ints_index HIL.out (j := k') (by have := HLL.out; omega)
              have hpc2 : wr.cell? p = some (.int .i64 (xv : Int)) := by rw [HJZ.out.bel.cell hp, hpc, hx]
              have hcell := HOW.out.at xv (by have := HLEN.out; omega)
              rw [Nat.zero_add] at hcell
              have hfr := HOW.out.free xv
              have HX := Lib.hid hx
              clear hx hpc
              go_wp2
              go_roundw
              case rel => exact ⟨k', ls.set xv (k' : Int), by omega, by first | rfl | go_num, by rw [List.length_set]; exact HLEN.out, HJZ.out.far _ (by omega) (by omega) (by omega) (by omega), by rw [List.map_set]; exact HOW.out.set xv _, lead_set HLD.out (by omega) (fun j hj => by obtain ⟨y, hy, _⟩ := wf_nat HT.out.1 (show j < l.length by have := HLL.out; omega); omega) HX.out HLEN.out hxl⟩
              case measure => simp [intOf]; try omega
            · have hk00 : k = 0 := by omega
              have hi2 := hi.trans (show Value.int IntKind.i64 ((k : Int) - 1) = .int .i64 (-1) by congr 1; omega)
              have HLD0 : Hid (Lead n l ls 0) := Lib.hid (by rw [← hk00]; exact HLD.out)
              clear hi hk00
              subst hi2
              go_wp2
              go_loopw [65] (fun v wr => ∃ (k : Nat) (qs : List Nat), k ≤ n ∧ v = .int .i64 k ∧ JS w w.heap.size (w.heap.size + 1) L n (.slice x n cap) (.slice x' n cap') wr qs ∧ Own wr D 3 (ls.map (Value.int .i64)) ∧ Tied n (fn a) (fn b) qs ∧ (0 < q → Joined n (fn a) qs) ∧ ∀ j, j < k → root (pf qs) j = root (pf qs) (ls.getD (l.getD j 0).toNat 0).toNat) (fun v _ => n - (intOf v).toNat)
              case atStart => exact ⟨0, ps, Nat.zero_le _, rfl, HJZ.out, HOW.out, HTD.out, HJA.out, fun j hj => absurd hj (by omega)⟩
              case round =>
                obtain ⟨k, qs, hk, rfl, hjs, hown, htd, hja, hrt⟩ := hrel
                have HJZ := Lib.hid hjs
                have HOW := Lib.hid hown
                have HTD := Lib.hid htd
                have HJA := Lib.hid hja
                have HRT := Lib.hid hrt
                clear hjs hown htd hja hrt
                by_cases hlt : k < n
                · obtain ⟨xv, hx, hxl⟩ := wf_nat HT.out.1 (show k < l.length by have := HLL.out; omega)
                  obtain ⟨p, hp, hix, hpc⟩ := ints_index HIL.out (j := k) (by have := HLL.out; omega)
                  have hpc2 : wr.cell? p = some (.int .i64 (xv : Int)) := by rw [HJZ.out.bel.cell hp, hpc, hx]
                  obtain ⟨m, hm, hmn, hml⟩ := HLD0.out k (Nat.zero_le _) hlt
                  have hcell := HOW.out.at xv (by have := HLEN.out; omega)
                  have hm' : ls.getD xv 0 = (m : Int) := by rw [hx] at hm; simpa using hm
                  rw [Nat.zero_add, hm'] at hcell
                  obtain ⟨rm, hrm⟩ : ∃ r, root (pf qs) m = r := ⟨_, rfl⟩
                  obtain ⟨rk, hrk⟩ : ∃ r, root (pf qs) k = r := ⟨_, rfl⟩
                  have hfar : w.heap.size + 1 ≠ w.heap.size := by omega
                  have HC1 := Lib.hid (root_to hfar hmn HJZ.out.forest hrm)
                  have HCN : Hid (Conn n (fn a) (fn b) rm rk) := Lib.hid (by
                    have h1 := HTD.out m hmn
                    have h2 := HTD.out k hlt
                    rw [hrm] at h1
                    rw [hrk] at h2
                    exact h1.trans ((HT.out.2.2.1 m k hmn hlt hml).trans h2.symm))
                  have hrmn : rm < n := by rw [← hrm]; exact Nat.lt_of_le_of_lt (root_le _ _) hmn
                  have hrkn : rk < n := by rw [← hrk]; exact Nat.lt_of_le_of_lt (root_le _ _) hlt
                  have HRM := Lib.hid hrm
                  have HRK := Lib.hid hrk
                  have HMX := Lib.hid hm
                  clear hx hpc hm hm' hml hrm hrk
                  rcases Nat.lt_trichotomy rm rk with hlt2 | hlt2 | hlt2
                  · go_wp2_with first
                      | (go_at_call 58; ((with_reducible refine (HC1.out).mono ?_); rintro e w1 ⟨qs1, rfl, hf1, hr1, hg1⟩; have HF1 := Lib.hid hf1; have HR1 := Lib.hid hr1; have HG1 := Lib.hid hg1; have HC2 := Lib.hid (root_to hfar hlt hf1 ((hr1 k).trans HRK.out)); clear hf1 hr1 hg1))
                      | (go_at_call 58; ((with_reducible refine (HC2.out).mono ?_); rintro e w2 ⟨qs2, rfl, hf2, hr2, hg2⟩; have HF2 := Lib.hid hf2; have HR2 := Lib.hid hr2; have HG2 := Lib.hid hg2; have hbox2 := hf2.box; have hfr2 := hf2.own.free rk; have hcl2 := hf2.cell (i := rk) (by omega); clear hf2 hr2 hg2))
                    go_roundw
                    case rel =>
                      obtain ⟨k1, k2, k3⟩ := hung_step (n := n) (A := fn a) (B := fn b) (l := l) (ls := ls) (q := q) (k := k) (m := m) (lo := rm) (hi := rk) HF2.out.le HF2.out.len (fun j => (HR2.out j).trans (HR1.out j)) HTD.out HJA.out HRT.out HMX.out (.inl ⟨HRM.out, HRK.out⟩) (by omega) (by omega) (HCN.out)
                      exact ⟨k + 1, qs2.set rk rm, by omega, by go_num, ((HJZ.out.root HG1.out HF1.out hLR (Nat.le_refl _)).root HG2.out HF2.out hLR (Nat.le_refl _)).store hfar hLR (Nat.le_refl _) (by omega) (by omega), (Own.block' (Own.block' HOW.out (HG1.out.block D HOW.out.lt (fun e => by have := Option.some.inj e; omega))) (HG2.out.block D (Nat.lt_of_lt_of_le HOW.out.lt HG1.out.size) (fun e => by have := Option.some.inj e; omega))).set_far (by show w.heap.size ≠ D; omega) _, k1, k2, k3⟩
                    case measure => simp [intOf]; omega
                  · subst hlt2
                    go_wp2_with first
                      | (go_at_call 58; ((with_reducible refine (HC1.out).mono ?_); rintro e w1 ⟨qs1, rfl, hf1, hr1, hg1⟩; have HF1 := Lib.hid hf1; have HR1 := Lib.hid hr1; have HG1 := Lib.hid hg1; have HC2 := Lib.hid (root_to hfar hlt hf1 ((hr1 k).trans HRK.out)); clear hf1 hr1 hg1))
                      | (go_at_call 58; ((with_reducible refine (HC2.out).mono ?_); rintro e w2 ⟨qs2, rfl, hf2, hr2, hg2⟩; have HF2 := Lib.hid hf2; have HR2 := Lib.hid hr2; have HG2 := Lib.hid hg2; have hbox2 := hf2.box; have hfr2 := hf2.own.free rm; have hcl2 := hf2.cell (i := rm) (by omega); clear hf2 hr2 hg2))
                    go_roundw
                    case rel =>
                      obtain ⟨k1, k2, k3⟩ := hung_step (n := n) (A := fn a) (B := fn b) (l := l) (ls := ls) (q := q) (k := k) (m := m) (lo := rm) (hi := rm) HF2.out.le HF2.out.len (fun j => (HR2.out j).trans (HR1.out j)) HTD.out HJA.out HRT.out HMX.out (.inl ⟨HRM.out, HRK.out⟩) (by omega) (by omega) (HCN.out)
                      exact ⟨k + 1, qs2.set rm rm, by omega, by go_num, ((HJZ.out.root HG1.out HF1.out hLR (Nat.le_refl _)).root HG2.out HF2.out hLR (Nat.le_refl _)).store hfar hLR (Nat.le_refl _) (by omega) (by omega), (Own.block' (Own.block' HOW.out (HG1.out.block D HOW.out.lt (fun e => by have := Option.some.inj e; omega))) (HG2.out.block D (Nat.lt_of_lt_of_le HOW.out.lt HG1.out.size) (fun e => by have := Option.some.inj e; omega))).set_far (by show w.heap.size ≠ D; omega) _, k1, k2, k3⟩
                    case measure => simp [intOf]; omega
                  · go_wp2_with first
                      | (go_at_call 58; ((with_reducible refine (HC1.out).mono ?_); rintro e w1 ⟨qs1, rfl, hf1, hr1, hg1⟩; have HF1 := Lib.hid hf1; have HR1 := Lib.hid hr1; have HG1 := Lib.hid hg1; have HC2 := Lib.hid (root_to hfar hlt hf1 ((hr1 k).trans HRK.out)); clear hf1 hr1 hg1))
                      | (go_at_call 58; ((with_reducible refine (HC2.out).mono ?_); rintro e w2 ⟨qs2, rfl, hf2, hr2, hg2⟩; have HF2 := Lib.hid hf2; have HR2 := Lib.hid hr2; have HG2 := Lib.hid hg2; have hbox2 := hf2.box; have hfr2 := hf2.own.free rm; have hcl2 := hf2.cell (i := rm) (by omega); clear hf2 hr2 hg2))
                    go_roundw
                    case rel =>
                      obtain ⟨k1, k2, k3⟩ := hung_step (n := n) (A := fn a) (B := fn b) (l := l) (ls := ls) (q := q) (k := k) (m := m) (lo := rk) (hi := rm) HF2.out.le HF2.out.len (fun j => (HR2.out j).trans (HR1.out j)) HTD.out HJA.out HRT.out HMX.out (.inr ⟨HRK.out, HRM.out⟩) (by omega) (by omega) (HCN.out.symm)
                      exact ⟨k + 1, qs2.set rm rk, by omega, by go_num, ((HJZ.out.root HG1.out HF1.out hLR (Nat.le_refl _)).root HG2.out HF2.out hLR (Nat.le_refl _)).store hfar hLR (Nat.le_refl _) (by omega) (by omega), (Own.block' (Own.block' HOW.out (HG1.out.block D HOW.out.lt (fun e => by have := Option.some.inj e; omega))) (HG2.out.block D (Nat.lt_of_lt_of_le HOW.out.lt HG1.out.size) (fun e => by have := Option.some.inj e; omega))).set_far (by show w.heap.size ≠ D; omega) _, k1, k2, k3⟩
                    case measure => simp [intOf]; omega
                · have hkn : k = n := by omega
                  have HLJ : Hid (Joined n (fn l) qs) := Lib.hid (ld_joined (by rw [← hkn]; exact HRT.out))
                  clear hkn
                  go_wp2
                  obtain ⟨t1, t2⟩ := HT.out.2.2.2 qs HLJ.out HJA.out
                  go_roundw
                  case rel => exact ⟨q + 1, qs, by omega, by go_num, HJZ.out, HTD.out, t1, t2⟩
                  case measure => simp [intOf]; omega
        · have HIJ : Hid (IsJoin n (fn a) (fn b) (root (pf ps))) := Lib.hid (join_is HTD.out (HJA.out (by omega)) (HJB.out (by omega)))
          have HN := Lib.hid (join_number (w0 := w) hn (show w.heap.size + 1 ≠ w.heap.size by omega) HJS.out.forest (Nat.le_refl _) HIJ.out)
          go_wp2_with (go_at_call 50; ((with_reducible refine (HN.out).mono ?_); rintro e w9 ⟨v9, rfl, hb9, hi9⟩; have HB9 := Lib.hid hb9; have HI9 := Lib.hid hi9; clear hb9 hi9))
          go_ret2
          exact ⟨v9, rfl, HJS.out.bel.trans HB9.out, HI9.out⟩
end Go.Proofs.Ytlacohjecehpiaa.Part
