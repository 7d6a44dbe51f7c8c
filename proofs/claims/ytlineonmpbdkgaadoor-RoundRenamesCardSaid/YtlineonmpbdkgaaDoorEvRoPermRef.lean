/-
  What the reference's check of a permutation gives.
-/
import Derived.WalkKit
import Derived.ProofKit
import Derived.OpenShut
import Derived.ReadAgain
import Derived.ChangeReads
import Derived.Test.YtlineonmpbdkgaaDoorProg
import Derived.Test.YtlineonmpbdkgaaDoorEvPermMath3
import Derived.Test.YtlineonmpbdkgaaDoorEvRoCheck
import Derived.IntWalk
import Derived.Lib.Hide
import Derived.Deep.QuietTactic
import Derived.BigQuiet
namespace Go.Law
open Go Go.RowKit Go.ChangeShapes Go.WideShapes Go.ChangeAt
section
variable {H : Type} {enc : TypeId × Value → H} {P : Program} {w w' : World} {base : Nat} {spare : Nat → Bool} {held : Bool}

theorem trodAll_carry : ∀ {ts : List TypeId} {vs : List Value} {ds : List (DataW H)} {ps : List MemPlace},
    DataW.TrodAll enc P w base spare held ts vs ds ps → (∀ p ∈ ps, w.sameAt w' p) → DataW.TrodAll enc P w' base spare held ts vs ds ps
  | [], [], [], _, h, _ => h
  | _ :: _, _ :: _, _ :: _, _, ⟨p, q, ⟨n, h1⟩, h2, e⟩, hs =>
    ⟨p, q, ⟨n, DataW.trod_carry n _ _ _ h1 (fun x hx => hs x (by rw [e]; exact List.mem_append_left _ hx))⟩, trodAll_carry h2 (fun x hx => hs x (by rw [e]; exact List.mem_append_right _ hx)), e⟩

theorem sameAt_below {W W' : World} (hb : Below W.heap.size W W') {p : MemPlace} (hp : p.block < W.heap.size) : W.sameAt W' p := by
  have h := hb.block p.block hp
  cases p with
  | cell b o => simp only [MemPlace.block] at h; simp only [World.sameAt]; unfold World.cell?; simp only; rw [h]
  | map b => simp only [MemPlace.block] at h; simp only [World.sameAt]; exact h

/-- A law's row: true, the arguments are read as before. -/
theorem post_law {T : TypeId → Prop} (K : Kids P T) (hz : ∀ t e, T t → P.underlying t = some (.slice e) → 0 < P.cellsOf e) {f : Func} {s : ChangeSpec} {apart fresh handsOn again : Bool} {W W' : World} {args : Array Value} {ds gs : List (DataW H)} {before : List MemPlace} {t : TypeId}
    (hT : ∀ t ∈ f.params.toList, T t) (hvars : s.vars = []) (hfn : s.fn H (ds ++ gs) = { results := [.lit (.bool true)], args := ds, vars := [] }) (hr : f.resultTypes = #[t]) (ht : P.underlying t = some .bool)
    (hW : DataW.Whole enc P f.params.toList s.vars apart W args.toList ds gs before) (hb : Below W.heap.size W W')
    (hok : ∀ (j : Nat) (t : TypeId) (r : Value), f.resultTypes[j]? = some t → ((Value.bool true).resultList f.resultTypes.size)[j]? = some r → Value.okWide P W' .any 0 t r) :
    s.post enc P f apart fresh handsOn again W args (.bool true) W' := by
  have hlt : ∀ p ∈ before, p.block < W.heap.size := fun p hp => hW.lt p hp
  have hW0 := hW
  obtain ⟨p, q, hA, hV, rfl, hz', hn⟩ := hW0
  rw [hvars] at hV
  obtain ⟨rfl, rfl⟩ := trodVars_none hV
  simp only [List.append_nil] at *
  have again : ∀ sp : Nat → Bool, (∀ x ∈ p, sp x.block = true) → DataW.TrodAll enc P W' 0 sp true f.params.toList args.toList ds p := fun sp hsp =>
    trodAll_carry (DataW.TrodAll.respare K hz hT hA hsp) (fun x hx => sameAt_below hb (hlt x hx))
  have hres : ∀ (b : Nat) (sp : Nat → Bool) (hd : Bool), DataW.TrodAll enc P W' b sp hd f.resultTypes.toList ((Value.bool true).resultList f.resultTypes.size) [.lit (.bool true)] [] := by
    intro b sp hd
    rw [hr]
    exact trodAll_cons_mk (shut_bool ht _) trodAll_mk0
  have hold : ∀ x ∈ p, (fun b => decide (b < W.heap.size)) x.block = true := fun x hx => by simpa using hlt x hx
  refine ⟨ds, [], p, [], p, [], by simpa using hW, by simpa [hfn] using hres _ _ _, by simpa [hfn] using again _ hold, (by simp only [List.append_nil]; rw [hvars, hfn]; rfl), World.keptBut_mono (fun x hx => ⟨hx, Or.inr (Or.inl hx)⟩) (hb.frame (· ∈ p)), fun _ => ?_⟩
  refine ⟨hok, _, _, ([] ++ p) ++ [], ⟨[] ++ p, [], trodAll_append (by simpa [hfn] using again _ (fun _ _ => rfl)) (by simpa [hfn] using hres _ _ _), (by simp only [List.append_nil]; rw [hvars, hfn]; rfl : DataW.TrodVars enc P W' (fun _ => true) s.vars (s.fn H (ds ++ [])).vars []), rfl, ?_, ?_⟩, ?_⟩
  · intro b off hp
    have hin : MemPlace.cell b off ∈ p := by simpa using hp
    rw [hb.frozen (hlt _ hin)]
    exact hz' b off hin
  · intro ha
    simpa using hn ha
  · intro x hx _
    simpa using hx

/-- A slice of integers, as a walk wants it: nothing is asked of an empty one. -/
def IntsAt (W : World) (k : IntKind) (v : Value) (zs : List Int) : Prop :=
  ∃ a cap, v = .slice a zs.length cap ∧ zs.length ≤ cap ∧ cap ≤ maxLen ∧ (zs = [] ∨ ∃ b off, a = some ⟨b, off, none⟩ ∧ b < W.heap.size ∧ ∀ j, j < zs.length → W.cell? ⟨b, off + j, none⟩ = some (.int k (zs.getD j 0)))
theorem cell_lt {W : World} {b o : Nat} {v : Value} (h : W.cell? ⟨b, o, none⟩ = some v) : b < W.heap.size := by
  by_cases hb : b < W.heap.size
  · exact hb
  · exfalso
    simp only [World.cell?] at h
    rw [Array.getElem?_eq_none (by omega)] at h
    cases h
theorem open_ints {W : World} {base : Nat} {t e : TypeId} {k : IntKind} {v : Value} {d : DataW H} {ps : List MemPlace} {b0 : Nat} {r : Reach} (ht : P.underlying t = some (.slice e)) (he : P.underlying e = some (.int k)) (hc : P.cellsOf e = 1)
    (hval : Value.okWide P W r b0 t v) (h : DataW.Trod enc P W base (fun _ => true) true t v d ps) : ∃ zs : List Int, IntsAt W k v zs ∧ ∀ n ∈ zs, (Lit.int k n).wf = true := by
  obtain ⟨a0, len, cap, rfl⟩ := okWide_slice ht hval
  obtain ⟨fuel, hf⟩ := h
  rcases ChangeShapes.open_ints ht he hc hf with ⟨hcs, _⟩ | ⟨a, len', cap', zs, hcs, _, hle, hmax, hall, _, hcell, hwf⟩
  · simp [Value.cells] at hcs
    obtain ⟨rfl, rfl, rfl⟩ := hcs
    exact ⟨[], ⟨none, 0, rfl, Nat.le_refl _, by simp [maxLen], .inl rfl⟩, fun n hn => by cases hn⟩
  · simp [Value.cells] at hcs
    obtain ⟨rfl, rfl, rfl⟩ := hcs
    simp only [if_true] at hall
    refine ⟨zs.take len, ?_, fun n hn => hwf n (List.mem_of_mem_take hn)⟩
    have hl : (zs.take len).length = len := by rw [List.length_take]; omega
    refine ⟨some a, cap, by rw [hl], by omega, hmax, ?_⟩
    by_cases h0 : len = 0
    · left; rw [h0]; simp
    · right
      obtain ⟨b, off, rfl, hat⟩ := ints_at hcell (by omega)
      refine ⟨b, off, rfl, cell_lt (hat 0 (by omega)), fun j hj => ?_⟩
      rw [hat j (by omega)]
      simp only [List.getD_eq_getElem?_getD]
      rw [List.getElem?_take, if_pos (by omega)]
end
end Go.Law
namespace Go.Proofs.YtlineonmpbdkgaaDoor.Perm
open Go Go.RowKit Go.Perm Go.Law
open Go.Proofs.YtlineonmpbdkgaaDoor.Col (ret_int ret_bool ret_two bit_yes bit_no)

def IdxPost (zs : List Int) (x : Int) (w : World) (e : Ending) (w' : World) : Prop := ∃ r : Int, e = .returned (.int .i64 r) ∧ decide (0 ≤ r) = decide (x ∈ zs) ∧ -1 ≤ r ∧ w = w'
set_option maxHeartbeats 400000 in
theorem index_any (b off len cap : Nat) (zs : List Int) (x : Int) (hz : zs.length = len) (hlen : len ≤ 9223372036854775807) (w : World) (hc : At w b off zs) :
    Calls Tryd.prog 88 #[.slice (some ⟨b, off, none⟩) len cap, .int .i64 x] w (IdxPost zs x w) := by
  have HC := Lib.hid hc
  clear hc
  go_enter Tryd.func88, Tryd.ntmps88
  go_wp2
  go_loop [8] (fun i => ∃ k : Nat, k ≤ len ∧ i = .int .i64 k ∧ x ∉ zs.take k) (fun i => len - (intOf i).toNat)
  case atStart => exact ⟨0, Nat.zero_le _, rfl, by simp⟩
  case round =>
    obtain ⟨k, hk, rfl, hno⟩ := hrel
    have HN := Lib.hid hno
    clear hno
    by_cases hlt : k < len
    · have hcell := HC.out k (by omega)
      generalize hy : zs.getD k 0 = y at hcell
      have HY := Lib.hid hy
      clear hy
      have hmem : y ∈ zs := by rw [← HY.out]; exact getD_mem (by omega)
      by_cases hxy : x = y
      · have hb : (x == y) = true := by simpa using hxy
        have HX := Lib.hid hxy
        clear hxy
        go_wp2
        go_ret
        exact ⟨(k : Int), rfl, by simp [HX.out, hmem], by omega, rfl⟩
      · have hb : (x == y) = false := by simpa using hxy
        go_wp2
        go_round
        case rel => exact ⟨k + 1, by omega, by go_num, by rw [take_snoc (by omega), HY.out]; simp [HN.out, hxy]⟩
        case measure => simp [intOf]; omega
    · go_wp2
      go_ret
      refine ⟨-1, rfl, ?_, by omega, rfl⟩
      have := HN.out
      rw [List.take_of_length_le (by omega)] at this
      simp [this]
theorem index_nil (a : Option Addr) (cap : Nat) (x : Int) (w : World) : Calls Tryd.prog 88 #[.slice a 0 cap, .int .i64 x] w (IdxPost [] x w) := by
  go_enter Tryd.func88, Tryd.ntmps88
  go_wp2
  go_loop [8] (fun i => i = .int .i64 0) (fun _ => 0)
  case atStart => exact rfl
  case round =>
    obtain rfl := hrel
    go_wp2
    go_ret
    exact ⟨-1, rfl, by simp, by omega, rfl⟩
theorem contains_of (v : Value) (zs : List Int) (x : Int) (w : World) (h : Calls Tryd.prog 88 #[v, .int .i64 x] w (IdxPost zs x w)) :
    Calls Tryd.prog 79 #[v, .int .i64 x] w fun e w' => e = .returned (.bool (decide (x ∈ zs))) ∧ w = w' := by
  have HI := Lib.hid h
  clear h
  go_enter Tryd.func79, Tryd.ntmps79
  go_wp2_with (go_at_call 88; refine (HI.out).mono ?_; rintro e w' ⟨r, rfl, hr, hr1, rfl⟩; have HR := Lib.hid hr; clear hr)
  go_ret
  exact ⟨ret_bool HR.out, rfl⟩
theorem contains_any (b off len cap : Nat) (zs : List Int) (x : Int) (hz : zs.length = len) (hlen : len ≤ 9223372036854775807) (w : World) (hc : At w b off zs) :
    Calls Tryd.prog 79 #[.slice (some ⟨b, off, none⟩) len cap, .int .i64 x] w fun e w' => e = .returned (.bool (decide (x ∈ zs))) ∧ w = w' :=
  contains_of _ zs x w (index_any b off len cap zs x hz hlen w hc)

theorem checkN_ok (n : Int) (h1 : 1 ≤ n) (h2 : n ≤ 5) (w : World) : Calls Tryd.prog 78 #[.int .i64 n] w fun e w' => e = .returned (.int .i64 0) ∧ w = w' := by
  go_enter Tryd.func78, Tryd.ntmps78
  go_wp2
  go_ret
  exact ⟨rfl, rfl⟩
theorem checkN_bad (n : Int) (h : n < 1 ∨ 5 < n) (w : World) : Calls Tryd.prog 78 #[.int .i64 n] w fun e w' => e = .returned (.int .i64 2) ∧ w = w' := by
  rcases h with h | h
  · go_enter Tryd.func78, Tryd.ntmps78
    go_wp2
    go_ret
    exact ⟨rfl, rfl⟩
  · have h1 : ¬ n < 1 := by omega
    go_enter Tryd.func78, Tryd.ntmps78
    go_wp2
    go_ret
    exact ⟨rfl, rfl⟩

set_option maxHeartbeats 800000 in
theorem check_any (b off len cap : Nat) (zs : List Int) (hz : zs.length = len) (h1 : 1 ≤ len) (h5 : len ≤ 5) (hcap : len ≤ cap) (w : World) (hc : At w b off zs) :
    Calls Tryd.prog 58 #[.slice (some ⟨b, off, none⟩) len cap] w fun e w' => e = .returned (.int .i64 (check zs)) ∧ w = w' := by
  have HC := Lib.hid hc
  clear hc
  have HK := Lib.hid (check_chk (l := zs) (by omega) (by omega))
  go_enter Tryd.func58, Tryd.ntmps58
  go_wp2_with (go_at_call 78; refine (checkN_ok _ (by omega) (by omega) _).mono ?_; rintro e w' ⟨rfl, rfl⟩)
  go_loop [14] (fun i => ∃ k : Nat, k ≤ len ∧ i = .int .i64 k ∧ chk zs.length zs [] = chk zs.length (zs.drop k) (zs.take k)) (fun i => len - (intOf i).toNat)
  case atStart => exact ⟨0, Nat.zero_le _, rfl, rfl⟩
  case round =>
    obtain ⟨k, hk, rfl, hsc⟩ := hrel
    have HS := Lib.hid hsc
    clear hsc
    by_cases hlt : k < len
    · have hcell := HC.out k (by omega)
      have HD := Lib.hid (drop_cons (l := zs) (k := k) (by omega))
      have HT := Lib.hid (take_snoc (l := zs) (k := k) (by omega))
      generalize hx : zs.getD k 0 = x at *
      have HX := Lib.hid hx
      clear hx
      by_cases h0 : x < 0
      · go_wp2
        go_ret
        exact ⟨ret_int (by rw [HK.out, HS.out, HD.out, chk_range (.inl h0)]), rfl⟩
      · have h0' : 0 ≤ x := by omega
        by_cases hn : (len : Int) ≤ x
        · go_wp2
          go_ret
          exact ⟨ret_int (by rw [HK.out, HS.out, HD.out, chk_range (.inr (by omega))]), rfl⟩
        · by_cases hm : x ∈ zs.take k
          · have HB := Lib.hid (show decide (x ∈ zs.take k) = true by simpa using hm)
            have HM := Lib.hid hm
            clear hm
            go_wp2_with (go_at_call 79; refine (contains_any _ _ _ _ (zs.take k) _ (by rw [List.length_take]; omega) (by omega) _ (HC.out.take k)).mono ?_; rintro e w' ⟨rfl, rfl⟩; rw [HB.out])
            go_ret
            exact ⟨ret_int (by rw [HK.out, HS.out, HD.out, chk_twice h0' (by omega) HM.out]), rfl⟩
          · have HB := Lib.hid (show decide (x ∈ zs.take k) = false by simpa using hm)
            have HM := Lib.hid hm
            clear hm
            go_wp2_with (go_at_call 79; refine (contains_any _ _ _ _ (zs.take k) _ (by rw [List.length_take]; omega) (by omega) _ (HC.out.take k)).mono ?_; rintro e w' ⟨rfl, rfl⟩; rw [HB.out])
            go_round
            case rel => exact ⟨k + 1, by omega, by go_num, by rw [HS.out, HD.out, chk_more h0' (by omega) HM.out, HT.out]⟩
            case measure => simp [intOf]; omega
    · go_wp2
      go_ret
      have hk' : k = zs.length := by omega
      exact ⟨ret_int (by rw [HK.out, HS.out, hk', List.drop_length]; rfl), rfl⟩
theorem check_bad (a : Option Addr) (len cap : Nat) (h : len < 1 ∨ 5 < len) (w : World) : Calls Tryd.prog 58 #[.slice a len cap] w fun e w' => e = .returned (.int .i64 2) ∧ w = w' := by
  go_enter Tryd.func58, Tryd.ntmps58
  go_wp2_with (go_at_call 78; refine (checkN_bad _ (by omega) _).mono ?_; rintro e w' ⟨rfl, rfl⟩)
  go_ret
  exact ⟨rfl, rfl⟩
end Go.Proofs.YtlineonmpbdkgaaDoor.Perm
namespace Go.Proofs.YtlineonmpbdkgaaDoor.Perm
open Go Go.RowKit Go.Perm Go.Law
open Go.Proofs.YtlineonmpbdkgaaDoor.Col (ret_int ret_bool ret_two bit_yes bit_no)

def Quiet (v : Value) (w : World) (e : Ending) (w' : World) : Prop := e = .returned v ∧ ∃ m, w' = w.drewN m
set_option maxHeartbeats 800000 in
theorem rcheck_any (b off len cap : Nat) (zs : List Int) (hz : zs.length = len) (h1 : 1 ≤ len) (h5 : len ≤ 5) (hcap : len ≤ cap) (w : World) (hc : At w b off zs) :
    Calls Tryd.prog 27 #[.slice (some ⟨b, off, none⟩) len cap] w (Quiet (.int .i64 (check zs)) w) := by
  have HC := Lib.hid hc
  clear hc
  have HK := Lib.hid (check_chk (l := zs) (by omega) (by omega))
  go_enter Tryd.func27, Tryd.ntmps27
  go_wp2
  go_loopw [3] (fun i wr => ∃ k m : Nat, k ≤ len ∧ i = .int .i64 k ∧ wr = w.drewN m ∧ chk zs.length zs [] = chk zs.length (zs.drop k) (zs.take k)) (fun i _ => len - (intOf i).toNat)
  case atStart => exact ⟨0, 0, Nat.zero_le _, rfl, rfl, rfl⟩
  case round =>
    obtain ⟨k, m, hk, rfl, rfl, hsc⟩ := hrel
    have HS := Lib.hid hsc
    clear hsc
    by_cases hlt : k < len
    · have hcell := HC.out k (by omega)
      have HD := Lib.hid (drop_cons (l := zs) (k := k) (by omega))
      have HT := Lib.hid (take_snoc (l := zs) (k := k) (by omega))
      generalize hx : zs.getD k 0 = x at *
      have HX := Lib.hid hx
      clear hx
      by_cases h0 : x < 0
      · go_wp2
        go_ret
        exact ⟨ret_int (by rw [HK.out, HS.out, HD.out, chk_range (.inl h0)]), m, rfl⟩
      · have h0' : 0 ≤ x := by omega
        by_cases hn : (len : Int) ≤ x
        · go_wp2
          go_ret
          exact ⟨ret_int (by rw [HK.out, HS.out, HD.out, chk_range (.inr (by omega))]), m, rfl⟩
        · go_wp2
          go_loopw [4] (fun j wr => ∃ t m2 : Nat, t ≤ k ∧ j = .int .i64 t ∧ wr = w.drewN m2 ∧ x ∉ zs.take t) (fun j _ => k - (intOf j).toNat)
          case atStart => exact ⟨0, m, Nat.zero_le _, rfl, rfl, by simp⟩
          case round =>
            obtain ⟨t, m2, ht, rfl, rfl, hno⟩ := hrel
            have HN := Lib.hid hno
            clear hno
            by_cases htk : t < k
            · have hcell2 := HC.out t (by omega)
              have HT2 := Lib.hid (take_snoc (l := zs) (k := t) (by omega))
              have HM := Lib.hid (mem_take (l := zs) (k := k) (x := zs.getD t 0))
              generalize hy : zs.getD t 0 = y at *
              have HY := Lib.hid hy
              clear hy
              by_cases hxy : y = x
              · have hb : (y == x) = true := by simpa using hxy
                have HXY := Lib.hid hxy
                clear hxy
                go_wp2
                go_quiet (fail)
                go_wp2
                go_ret
                refine ⟨ret_int ?_, m2 + nq, by rw [World.drewN_drewN]⟩
                rw [HK.out, HS.out, HD.out, chk_twice h0' (by omega) (by rw [← HXY.out]; exact HM.out.2 ⟨t, htk, by omega, HY.out⟩)]
              · have hb : (y == x) = false := by simpa using hxy
                go_wp2
                go_quiet (fail)
                go_wp2
                exact ⟨⟨t + 1, m2 + nq, by omega, by go_num, rfl, by rw [HT2.out]; simp [HN.out, Ne.symm hxy]⟩, by simp [intOf]; omega⟩
            · go_wp2
              have hxk : x ∉ zs.take k := by rw [show k = t from by omega]; exact HN.out
              exact ⟨⟨k + 1, m2, by omega, by go_num, rfl, by rw [HS.out, HD.out, chk_more h0' (by omega) hxk, HT.out]⟩, by simp [intOf]; omega⟩
    · go_wp2
      go_ret
      have hk' : k = zs.length := by omega
      exact ⟨ret_int (by rw [HK.out, HS.out, hk', List.drop_length]; rfl), m, rfl⟩
theorem rcheck_bad (a : Option Addr) (len cap : Nat) (h : len < 1 ∨ 5 < len) (w : World) : Calls Tryd.prog 27 #[.slice a len cap] w (Quiet (.int .i64 2) w) := by
  rcases h with h | h
  · go_enter Tryd.func27, Tryd.ntmps27
    go_wp2
    go_ret
    exact ⟨rfl, 0, rfl⟩
  · have h1 : ¬ len < 1 := by omega
    go_enter Tryd.func27, Tryd.ntmps27
    go_wp2
    go_ret
    exact ⟨rfl, 0, rfl⟩
end Go.Proofs.YtlineonmpbdkgaaDoor.Perm
