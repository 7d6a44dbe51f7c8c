/-
  Restrict.
-/
import Derived.Test.YtjggeombkbianaaEvSxRJoin
namespace Go.Proofs.Ytjggeombkbianaa.Sx
open Go Go.RowKit Go.Law Go.Sx

/-- A vertex's color is in a set. -/
def resP (s : Int) (p : V) : Bool := bits BinOp.and IntKind.i64 (s / 2 ^ p.1.toNat) 1 == 1
set_option maxRecDepth 100000 in
set_option maxHeartbeats 1000000 in
theorem clos67 (B0 : Nat) (s : Int) (c : Nat) (y : Int) (w : World) (hs : w.cell? ⟨B0, 0, none⟩ = some (.int .i64 s)) (hc : c < 8) :
    Calls Try.prog 67 #[.agg #[.int .i64 c, .int .i64 y], .pointer (some ⟨B0, 0, none⟩)] w fun e w' => e = .returned (.bool (resP s (c, y))) ∧ Below w.heap.size w w' := by
  have T0 := Lib.hid (below_alloc w (.cells #[.int .i64 c, .int .i64 y] 56))
  have c0 := (T0.out.cell (p := ⟨B0, 0, none⟩) (cell_lt hs)).trans hs
  obtain ⟨r0, r1⟩ := row2_new w c y
  clear hs
  have hmin : min c 64 = c := by omega
  go_enter Try.func67, Try.ntmps67
  go_wp2
  go_ret
  exact ⟨rfl, T0.out⟩
set_option maxRecDepth 100000 in
set_option maxHeartbeats 4000000 in
theorem colored_in (a : Option Addr) (n cap b off : Nat) (A : List V) (s : Int) (w : World) (h : VIn w a n cap b off A) (hn : n ≤ 4096) (hcol : ∀ k, k < n → ∃ c : Nat, (vx A k).1 = c ∧ c < 8) :
    Calls Try.prog 68 #[.slice a n cap, .int .i64 s] w fun e w' => ∃ u, e = .returned u ∧ Below w.heap.size w w' ∧ VTop w' u (filTo (resP s) A n) := by
  have HA := Lib.hid (fun (w1 : World) (hb : Below w.heap.size w w1) => (h.below hb).cells)
  have H1 := Lib.hid h.head
  clear h
  have HK := Lib.hid hcol
  clear hcol
  have HS := Lib.hid (fun k => filTo_succ (resP s) A k)
  have HL := Lib.hid (fun k => filTo_length (resP s) A k)
  obtain ⟨i0, hi, hz0, hz1, hz2⟩ := info_parts info56
  have T0 := Lib.hid (Below.refl w.heap.size w)
  obtain ⟨S, hS⟩ : ∃ S, w.heap.size = S := ⟨_, rfl⟩
  have HSZ := Lib.hid hS
  clear hS
  go_enter Try.func68, Try.ntmps68
  go_wp2
  go_loopw [5, 6] (fun u i wr => ∃ k : Nat, k ≤ n ∧ i = .int .i64 k ∧ Below w.heap.size w wr ∧ wr.ownsRow S 56 2 u (filTo (resP s) A k).length (rowV (filTo (resP s) A k))) (fun _ i _ => n - (intOf i).toNat)
  case atStart => exact ⟨0, Nat.zero_le _, rfl, T0.out, rfl, .inl ⟨rfl, rfl⟩⟩
  case round =>
    obtain ⟨k, hk, rfl, hB, hO⟩ := hrel
    have T := Lib.hid hB
    have HO := Lib.hid hO
    clear hB hO
    by_cases hlt : k < n
    · obtain rfl := H1.out (by omega)
      obtain ⟨c0, c1⟩ := HA.out wr T.out k hlt
      have HN := Lib.hid (HS.out k)
      have hlen1 : (filTo (resP s) A k).length ≤ 4096 := by have := HL.out k; omega
      generalize filTo (resP s) A k = L at *
      obtain ⟨c, hc, hc8⟩ := HK.out k hlt
      have hmin : min c 64 = c := by omega
      clear HK
      generalize vx A k = p at *
      obtain ⟨x, t⟩ := p
      simp only at c0 c1 HN hc
      subst hc
      have hq : resP s ((c : Int), t) = (bits BinOp.and IntKind.i64 (s / 2 ^ c) 1 == 1) := rfl
      rw [hq] at HN
      clear hq hc8
      generalize hln : L.length = ln at *
      have HLN := Lib.hid hln
      clear hln
      by_cases hz : bits BinOp.and IntKind.i64 (s / 2 ^ c) 1 = 1
      · rw [if_pos (by rw [hz]; rfl)] at HN
        go_wp2_with (at_builtin; refine wpList_append_own _ rfl _ _ 22 rfl S 56 i0 (.agg #[.int .i64 0, .int .i64 0]) 2 16 Try.underlying22 hi hz0 hz1 hz2 rfl (by decide) _ _ _ rfl (HO.out.alloc _) ⟨_, 0, none⟩ 1 1 [.int .i64 c, .int .i64 t] rfl rfl (cells_at (by first | rfl | rw [World.size_alloc]) _ _) pair_one (by unfold maxLen; omega) (by omega) (by have := HSZ.out; have := T.out.size; simp; omega) ?_; intro vnHN4 wnHN4 hown' hgrow _; have HN4 := Lib.hid hown'; have T4 := Lib.hid ((T.out.alloc (by have := T.out.size; omega) _).grown hgrow (by have := HSZ.out; have := T.out.size; simp; omega) (fun k hk => by rw [HSZ.out]; exact own_block HO.out k hk)); clear hown' hgrow)
        go_roundw
        case rel => exact ⟨k + 1, by omega, by go_num, T4.out, by rw [HN.out, rowV_snoc, List.length_append, HLN.out]; exact HN4.out⟩
        case measure => simp [intOf]; omega
      · have hz2 : (bits BinOp.and IntKind.i64 (s / 2 ^ c) 1 == 1) = false := by simpa using hz
        rw [hz2, if_neg (by simp)] at HN
        go_wp2
        go_roundw
        case rel => exact ⟨k + 1, by omega, by go_num, T.out, by rw [HN.out, HLN.out]; exact HO.out⟩
        case measure => simp [intOf]; omega
    · obtain rfl : k = n := by omega
      go_wp2
      go_ret
      exact ⟨_, rfl, T.out, v_own HO.out⟩
/-- Restrict's list and error. -/
def resR (A L : List V) : List V × Int := if chk A ≠ 0 then ([], chk A) else (L, 0)
set_option maxRecDepth 100000 in
set_option maxHeartbeats 1000000 in
theorem restrict_walk (a : Option Addr) (n cap : Nat) (A L : List V) (s : Int) (w : World)
    (HT : Calls Try.prog 18 #[.slice a n cap] (w.alloc (.cells #[.int .i64 s] 3)) fun e w' => e = .returned (.int .i64 (chk A)) ∧ Below w.heap.size w w' ∧ Below (w.alloc (.cells #[.int .i64 s] 3)).heap.size (w.alloc (.cells #[.int .i64 s] 3)) w')
    (HF : chk A = 0 → ∀ w1, Below w.heap.size w w1 → Below (w.alloc (.cells #[.int .i64 s] 3)).heap.size (w.alloc (.cells #[.int .i64 s] 3)) w1 → Calls Try.prog 55 #[.slice a n cap, .func (.func 67) #[] #[.pointer (some ⟨w.heap.size, 0, none⟩)]] w1 fun e w' => ∃ u, e = .returned u ∧ Below w.heap.size w w' ∧ VTop w' u L) :
    Calls Try.prog 36 #[.slice a n cap, .int .i64 s] w (ResPost (resR A L) w) := by
  obtain ⟨r, hr⟩ : ∃ r, chk A = r := ⟨_, rfl⟩
  have HBad := Lib.hid (fun (h0 : r ≠ 0) => show resR A L = ([], r) by unfold resR; rw [hr, if_pos h0])
  have HGood := Lib.hid (fun (h0 : r = 0) => show resR A L = (L, 0) by unfold resR; rw [hr, if_neg (by simpa using h0)])
  rw [hr] at HT
  replace HT := Lib.hid HT
  replace HF := Lib.hid (HF ∘ hr.trans)
  clear hr
  by_cases h0 : r = 0
  · subst h0
    rw [HGood.out rfl]
    have HF2 := Lib.hid (HF.out rfl)
    clear HBad HGood HF
    go_enter Try.func36, Try.ntmps36
    go_wp2_with fail
    refine (HT.out).mono ?_
    rintro e w1 ⟨he, hb, hb2⟩
    subst he
    have T1 := Lib.hid hb
    have T2 := Lib.hid hb2
    clear hb hb2
    go_wp2_with fail
    refine (HF2.out w1 T1.out T2.out).mono ?_
    rintro e w3 ⟨u, he, hb, hv⟩
    subst he
    have T3 := Lib.hid hb
    have V3 := Lib.hid hv
    clear hb hv
    go_wp2
    go_ret2
    exact ⟨u, rfl, T3.out, V3.out⟩
  · have hb0 : (r != 0) = true := by simpa using h0
    have H0 := Lib.hid h0
    clear h0
    go_enter Try.func36, Try.ntmps36
    go_wp2_with fail
    refine (HT.out).mono ?_
    rintro e w1 ⟨he, hb, hb2⟩
    subst he
    have T1 := Lib.hid hb
    clear hb hb2
    go_wp2
    go_ret2
    have hE := HBad.out H0.out
    exact ⟨.slice none 0 0, by rw [hE]; rfl, T1.out, by rw [hE]; exact v_nil _⟩
set_option maxRecDepth 100000 in
set_option maxHeartbeats 1000000 in
theorem rrestrict_walk (a : Option Addr) (n cap : Nat) (A L : List V) (s : Int) (w : World)
    (HT : Calls Try.prog 19 #[.slice a n cap] w fun e w' => e = .returned (.int .i64 (chk A)) ∧ Below w.heap.size w w' ∧ Below w.heap.size w w')
    (HF : chk A = 0 → ∀ w1, Below w.heap.size w w1 → Below w.heap.size w w1 → Calls Try.prog 68 #[.slice a n cap, .int .i64 s] w1 fun e w' => ∃ u, e = .returned u ∧ Below w.heap.size w w' ∧ VTop w' u L) :
    Calls Try.prog 37 #[.slice a n cap, .int .i64 s] w (ResPost (resR A L) w) := by
  obtain ⟨r, hr⟩ : ∃ r, chk A = r := ⟨_, rfl⟩
  have HBad := Lib.hid (fun (h0 : r ≠ 0) => show resR A L = ([], r) by unfold resR; rw [hr, if_pos h0])
  have HGood := Lib.hid (fun (h0 : r = 0) => show resR A L = (L, 0) by unfold resR; rw [hr, if_neg (by simpa using h0)])
  rw [hr] at HT
  replace HT := Lib.hid HT
  replace HF := Lib.hid (HF ∘ hr.trans)
  clear hr
  by_cases h0 : r = 0
  · subst h0
    rw [HGood.out rfl]
    have HF2 := Lib.hid (HF.out rfl)
    clear HBad HGood HF
    go_enter Try.func37, Try.ntmps37
    go_wp2_with fail
    refine (HT.out).mono ?_
    rintro e w1 ⟨he, hb, hb2⟩
    subst he
    have T1 := Lib.hid hb
    have T2 := Lib.hid hb2
    clear hb hb2
    go_wp2_with fail
    refine (HF2.out w1 T1.out T2.out).mono ?_
    rintro e w3 ⟨u, he, hb, hv⟩
    subst he
    have T3 := Lib.hid hb
    have V3 := Lib.hid hv
    clear hb hv
    go_wp2
    go_ret2
    exact ⟨u, rfl, T3.out, V3.out⟩
  · have hb0 : (r != 0) = true := by simpa using h0
    have H0 := Lib.hid h0
    clear h0
    go_enter Try.func37, Try.ntmps37
    go_wp2_with fail
    refine (HT.out).mono ?_
    rintro e w1 ⟨he, hb, hb2⟩
    subst he
    have T1 := Lib.hid hb
    clear hb hb2
    go_wp2
    go_ret2
    have hE := HBad.out H0.out
    exact ⟨.slice none 0 0, by rw [hE]; rfl, T1.out, by rw [hE]; exact v_nil _⟩
theorem restrict_in (a : Option Addr) (n cap b off : Nat) (A : List V) (s : Int) (w : World) (h : VIn w a n cap b off A) (hn : n ≤ 4096) : Calls Try.prog 36 #[.slice a n cap, .int .i64 s] w (ResPost (resR A (filTo (resP s) A n)) w) := by
  have hB := below_alloc w (.cells #[.int .i64 s] 3)
  have hc0 : (w.alloc (.cells #[.int .i64 s] 3)).cell? ⟨w.heap.size, 0, none⟩ = some (.int .i64 s) := by rw [World.cell?_alloc_at _ _ _ _ rfl]; rfl
  refine restrict_walk a n cap A _ s w ((check_in a n cap b off A _ (h.below hB) hn).mono fun _ _ ⟨he, hb⟩ => ⟨he, hB.trans (bel_le hb hB.size), hb⟩) fun hk w1 hb hb2 => ?_
  have sA := simp_of hk
  refine (filter67_in a n cap b off A (resP s) _ w1 (h.below hb) hn fun p hp w2 hb3 => ?_).mono ?_
  · obtain ⟨j, hj, e⟩ := (mem_vx A p).1 hp
    obtain ⟨c, hc, hc8⟩ := okV_color (sA.ok j hj)
    rw [e] at hc
    obtain ⟨x, y⟩ := p
    simp only at hc
    subst hc
    have h1 := (hb2.cell (p := ⟨w.heap.size, 0, none⟩) (cell_lt hc0)).trans hc0
    exact clos67 w.heap.size s c y w2 ((hb3.cell (p := ⟨w.heap.size, 0, none⟩) (cell_lt h1)).trans h1) hc8
  · rintro e w' ⟨u, he, hb', hv⟩
    exact ⟨u, he, hb.trans (bel_le hb' hb.size), hv⟩
theorem rrestrict_in (a : Option Addr) (n cap b off : Nat) (A : List V) (s : Int) (w : World) (h : VIn w a n cap b off A) (hn : n ≤ 4096) : Calls Try.prog 37 #[.slice a n cap, .int .i64 s] w (ResPost (resR A (filTo (resP s) A n)) w) := by
  refine rrestrict_walk a n cap A _ s w ((rcheck_in a n cap b off A _ h hn).mono fun _ _ ⟨he, hb⟩ => ⟨he, hb, hb⟩) fun hk w1 hb _ => ?_
  have sA := simp_of hk
  refine (colored_in a n cap b off A s w1 (h.below hb) hn fun k hkn => okV_color (sA.ok k (by rw [h.size]; exact hkn))).mono ?_
  rintro e w' ⟨u, he, hb', hv⟩
  exact ⟨u, he, hb.trans (bel_le hb' hb.size), hv⟩
end Go.Proofs.Ytjggeombkbianaa.Sx
