/-
  The law's renamed: the renamed word.
-/
import Derived.Test.YtlineonmpbdkgaaDoorEvRoJoins
import Derived.Test.YtlineonmpbdkgaaDoorEvPermMath4
import Derived.Test.YtlineonmpbdkgaaDoorEvRoPermComp
namespace Go.Graph
/-- π and τ undo each other below n. -/
structure Undo (n : Nat) (π τ : Nat → Nat) : Prop where
  lt : ∀ i, i < n → π i < n
  lt' : ∀ i, i < n → τ i < n
  left : ∀ i, i < n → τ (π i) = i
  right : ∀ i, i < n → π (τ i) = i
theorem Undo.inj {n : Nat} {π τ : Nat → Nat} (h : Undo n π τ) {i j : Nat} (hi : i < n) (hj : j < n) (e : π i = π j) : i = j := by rw [← h.left i hi, ← h.left j hj, e]
theorem WF.ren {n : Nat} {r π τ : Nat → Nat} (h : WF n r) (u : Undo n π τ) : WF n (ren n r π) where
  pos := h.pos
  top := h.top
  low i _ := (accTo_lt u.lt n (Nat.le_refl _)).1 i
  self i hi := by rw [ren_bit]; exact ⟨τ i, u.lt' i hi, τ i, u.lt' i hi, h.self _ (u.lt' i hi), (u.right i hi).symm, (u.right i hi).symm⟩
  out i hi := (accTo_lt u.lt n (Nat.le_refl _)).2 i hi
theorem ren_prod {n : Nat} {a b π τ : Nat → Nat} (u : Undo n π τ) : ren n (prod n a b) π = prod n (ren n a π) (ren n b π) := by
  apply rows_eq
  intro i j
  simp only [prod_bit, ren_bit]
  constructor
  · rintro ⟨x, hx, k, hk, ⟨_, m, hm, h1, h2⟩, rfl, rfl⟩
    exact ⟨u.lt x hx, π m, u.lt m hm, ⟨x, hx, m, hm, h1, rfl, rfl⟩, m, hm, k, hk, h2, rfl, rfl⟩
  · rintro ⟨_, m', _, ⟨x, hx, m, hm, h1, rfl, rfl⟩, y, hy, k, hk, h2, e, rfl⟩
    have := u.inj hm hy e
    subst this
    exact ⟨x, hx, k, hk, ⟨hx, m, hm, h1, h2⟩, rfl, rfl⟩
theorem ren_sil {n : Nat} {π τ : Nat → Nat} (u : Undo n π τ) : ren n (sil n) π = sil n := by
  apply rows_eq
  intro i j
  simp only [sil_bit, ren_bit]
  constructor
  · rintro ⟨x, hx, k, hk, ⟨_, rfl⟩, rfl, rfl⟩
    exact ⟨u.lt x hx, rfl⟩
  · rintro ⟨hi, rfl⟩
    exact ⟨τ i, u.lt' i hi, τ i, u.lt' i hi, ⟨u.lt' i hi, rfl⟩, (u.right i hi).symm, (u.right i hi).symm⟩
theorem ren_comp {n : Nat} {r π ρ σ : Nat → Nat} (hp : ∀ i, i < n → π i < n) (hs : ∀ i, i < n → σ i = ρ (π i)) : ren n (ren n r π) ρ = ren n r σ := by
  apply rows_eq
  intro i j
  simp only [ren_bit]
  constructor
  · rintro ⟨x, hx, k, hk, ⟨y, hy, m, hm, h, rfl, rfl⟩, rfl, rfl⟩
    exact ⟨y, hy, m, hm, h, (hs y hy).symm, (hs m hm).symm⟩
  · rintro ⟨y, hy, m, hm, h, rfl, rfl⟩
    exact ⟨π y, hp y hy, π m, hp m hm, ⟨y, hy, m, hm, h, rfl, rfl⟩, hs y hy, hs m hm⟩
end Go.Graph
namespace Go.Proofs.YtlineonmpbdkgaaDoor.Word
open Go Go.RowKit Go.Graph Go.Law
open Go.Proofs.YtlineonmpbdkgaaDoor.Graph
open Go.Perm (img img_bit img_img img_pop unary check_ok comp comp_getD comp_length comp_ok inv)

theorem inv_length (l : List Int) : (inv l).length = l.length := Go.Perm.inv_len l
theorem undo_of {zs : List Int} (h : Go.Perm.check zs = 0) : Undo zs.length (idx zs) (idx (inv zs)) := by
  have u := unary h
  have hr := (check_ok h).2.2.1
  have hr' := (check_ok u.ok).2.2.1
  rw [inv_length] at hr'
  have b : ∀ i, i < zs.length → idx zs i < zs.length := fun i hi => by have := hr _ (Go.Perm.getD_mem hi); unfold idx; omega
  have b' : ∀ i, i < zs.length → idx (inv zs) i < zs.length := fun i hi => by have := hr' _ (Go.Perm.getD_mem (l := inv zs) (by rw [inv_length]; exact hi)); unfold idx; omega
  refine ⟨b, b', fun i hi => ?_, fun i hi => ?_⟩
  · have e := congrArg (fun l => (l.getD i 0).toNat) u.left
    rw [comp_getD hi, Go.Perm.ids_getD hi] at e
    exact e
  · have e := congrArg (fun l => (l.getD i 0).toNat) u.right
    rw [comp_getD (by rw [inv_length]; exact hi), Go.Perm.ids_getD hi] at e
    exact e
theorem img_at {zs : List Int} (h : Go.Perm.check zs = 0) (S q : Nat) (hq : q < zs.length) : (img S zs 0 0).testBit q = S.testBit (idx (inv zs) q) := by
  have u := undo_of h
  rw [img_bit]
  simp only [Nat.zero_testBit, Bool.false_or, Nat.zero_add]
  rw [Bool.eq_iff_iff]
  simp only [List.any_eq_true, List.mem_range, Bool.and_eq_true, decide_eq_true_eq]
  constructor
  · rintro ⟨p, hp, h1, h2⟩
    have : idx zs p = q := h2
    rw [← this, u.left p hp]; exact h1
  · intro h1
    exact ⟨idx (inv zs) q, u.lt' q hq, h1, u.right q hq⟩
theorem img_far {zs : List Int} (h : Go.Perm.check zs = 0) (S q : Nat) (hq : zs.length ≤ q) : (img S zs 0 0).testBit q = false := by
  have u := undo_of h
  rw [img_bit]
  simp only [Nat.zero_testBit, Bool.false_or, Nat.zero_add]
  rw [Bool.eq_false_iff]
  intro h1
  simp only [List.any_eq_true, List.mem_range, Bool.and_eq_true, decide_eq_true_eq] at h1
  obtain ⟨p, hp, _, h2⟩ := h1
  have : idx zs p = q := h2
  have := u.lt p hp
  omega
theorem img_or {zs : List Int} (h : Go.Perm.check zs = 0) (a b : Nat) : img (a ||| b) zs 0 0 = img a zs 0 0 ||| img b zs 0 0 := by
  apply Nat.eq_of_testBit_eq
  intro q
  rw [Nat.testBit_or]
  by_cases hq : q < zs.length
  · rw [img_at h _ q hq, img_at h _ q hq, img_at h _ q hq, Nat.testBit_or]
  · rw [img_far h _ q (by omega), img_far h _ q (by omega), img_far h _ q (by omega)]; rfl
theorem img_lt {zs : List Int} (h : Go.Perm.check zs = 0) {g : Nat} (hg : g < 2 ^ zs.length) : img g zs 0 0 < 2 ^ zs.length := (img_pop h hg).2
theorem img_compl {zs : List Int} (h : Go.Perm.check zs = 0) {g : Nat} (hg : g < 2 ^ zs.length) : img (2 ^ zs.length - 1 - g) zs 0 0 = 2 ^ zs.length - 1 - img g zs 0 0 := by
  have hi := img_lt h hg
  have u := undo_of h
  apply Nat.eq_of_testBit_eq
  intro q
  rw [show 2 ^ zs.length - 1 - img g zs 0 0 = 2 ^ zs.length - (img g zs 0 0 + 1) by omega, Nat.testBit_two_pow_sub_succ hi]
  by_cases hq : q < zs.length
  · rw [img_at h _ q hq, img_at h _ q hq, show 2 ^ zs.length - 1 - g = 2 ^ zs.length - (g + 1) by omega, Nat.testBit_two_pow_sub_succ hg]
    simp [hq, u.lt' q hq]
  · rw [img_far h _ q (by omega)]; simp [hq]
theorem img_zero {zs : List Int} (h : Go.Perm.check zs = 0) : img 0 zs 0 0 = 0 := by
  apply Nat.eq_of_testBit_eq
  intro q
  rw [Nat.zero_testBit]
  by_cases hq : q < zs.length
  · rw [img_at h _ q hq, Nat.zero_testBit]
  · rw [img_far h _ q (by omega)]

/-- A renamed round. -/
def renR (zs : List Int) (x : Rd) : Rd :=
  ⟨zs.length, (ren zs.length (rowsR x) (idx zs) 0 : Nat), (ren zs.length (rowsR x) (idx zs) 1 : Nat), (ren zs.length (rowsR x) (idx zs) 2 : Nat), (ren zs.length (rowsR x) (idx zs) 3 : Nat), (ren zs.length (rowsR x) (idx zs) 4 : Nat), (img x.f.toNat zs 0 0 : Nat)⟩
/-- A round that fits: of n processes, without a fault. -/
structure Fine (n : Nat) (x : Rd) : Prop where
  wf : WF n (rowsR x)
  size : x.n = n
  e0 : x.r0 = (rowsR x 0 : Nat)
  e1 : x.r1 = (rowsR x 1 : Nat)
  e2 : x.r2 = (rowsR x 2 : Nat)
  e3 : x.r3 = (rowsR x 3 : Nat)
  e4 : x.r4 = (rowsR x 4 : Nat)
  f0 : 0 ≤ x.f
  f1 : x.f.toNat < 2 ^ n
theorem Fine.check {n : Nat} {x : Rd} (h : Fine n x) : rcheck x.n [x.r0, x.r1, x.r2, x.r3, x.r4] x.f = 0 := by
  obtain ⟨m, r0, r1, r2, r3, r4, f⟩ := x
  have hs := h.size
  simp only at hs
  subst hs
  have := h.f0
  have h1 := h.f1
  have hp := h.wf.pos
  have ht := h.wf.top
  simp only at this h1
  have e : Graph.check (n : Int) [r0, r1, r2, r3, r4] = 0 := by
    have a0 := h.e0
    have a1 := h.e1
    have a2 := h.e2
    have a3 := h.e3
    have a4 := h.e4
    simp only at a0 a1 a2 a3 a4
    have hw := h.wf
    unfold Graph.check
    rw [if_neg (by omega), Int.toNat_natCast]
    generalize rowsR (⟨(n : Int), r0, r1, r2, r3, r4, f⟩ : Rd) = q at hw a0 a1 a2 a3 a4
    rw [a0, a1, a2, a3, a4]
    exact wf_rows hw
  unfold rcheck
  simp only
  rw [if_neg (by rw [e]; simp), if_neg]
  rw [Int.toNat_natCast]
  omega
theorem fine_of {n : Nat} {l : List Rd} (h : wordR n l = 0) {j : Nat} (hj : j < l.length) : Fine n (rd l j) := by
  obtain ⟨a, b, c, d, e, f, g⟩ := word_row h hj
  obtain ⟨q, hq, hq'⟩ := before_nat h (j + 1) (by omega)
  have hq : (rd l j).f = q := hq
  exact ⟨a, b, c, d, e, f, g, by omega, by rw [hq]; exact hq'⟩
theorem rowsR_ren {zs : List Int} (hz : Go.Perm.check zs = 0) {x : Rd} (h : Fine zs.length x) : rowsR (renR zs x) = ren zs.length (rowsR x) (idx zs) :=
  rowsR_eq (h.wf.ren (undo_of hz)) rfl rfl rfl rfl rfl
theorem Fine.ren {zs : List Int} (hz : Go.Perm.check zs = 0) {x : Rd} (h : Fine zs.length x) : Fine zs.length (renR zs x) := by
  have e := rowsR_ren hz h
  exact ⟨by rw [e]; exact h.wf.ren (undo_of hz), rfl, by rw [e]; rfl, by rw [e]; rfl, by rw [e]; rfl, by rw [e]; rfl, by rw [e]; rfl, by show (0 : Int) ≤ ((_ : Nat) : Int); omega, by show ((img x.f.toNat zs 0 0 : Nat) : Int).toNat < _; rw [Int.toNat_natCast]; exact img_lt hz h.f1⟩
theorem rd_map {zs : List Int} {l : List Rd} {j : Nat} (hj : j < l.length) : rd (l.map (renR zs)) j = renR zs (rd l j) := by
  unfold rd
  rw [List.getD_eq_getElem?_getD, List.getElem?_map, List.getElem?_eq_getElem hj, List.getD_eq_getElem?_getD, List.getElem?_eq_getElem hj]
  rfl
theorem before_map {zs : List Int} (hz : Go.Perm.check zs = 0) {l : List Rd} : ∀ {j : Nat}, j ≤ l.length → before (l.map (renR zs)) j = (img (before l j).toNat zs 0 0 : Nat)
  | 0, _ => by show (0 : Int) = ((img 0 zs 0 0 : Nat) : Int); rw [img_zero hz]; rfl
  | j + 1, hj => by show (rd (l.map (renR zs)) j).f = ((img (rd l j).f.toNat zs 0 0 : Nat) : Int); rw [rd_map (by omega)]; rfl
theorem word_map {n : Nat} {zs : List Int} (hz : Go.Perm.check zs = 0) (hn : zs.length = n) {l : List Rd} (h : wordR n l = 0) : wordR n (l.map (renR zs)) = 0 := by
  subst hn
  obtain ⟨hb, hl, he⟩ := word_iff.1 h
  refine word_iff.2 ⟨hb, by rw [List.length_map]; exact hl, fun j hj => ?_⟩
  rw [List.length_map] at hj
  have hF := (fine_of h hj).ren hz
  have h32 : 2 ^ zs.length ≤ 32 := Nat.le_trans (Nat.pow_le_pow_right (by omega) (show zs.length ≤ 5 by omega)) (by decide)
  obtain ⟨g1, e1, l1⟩ := before_nat h j (by omega)
  obtain ⟨g2, e2, l2⟩ := before_nat h (j + 1) (by omega)
  have hs := before_step h hj
  rw [e1, e2] at hs
  have ho := andNot_or g1 (by omega) g2 (by omega) hs
  have e2' : (rd l j).f = g2 := e2
  have hm := or_andNot (img g1 zs 0 0) (by have := img_lt hz l1; omega) (img g2 zs 0 0) (by have := img_lt hz l2; omega) (by rw [← img_or hz, ho])
  unfold err
  rw [rd_map hj, before_map hz (by omega)]
  simp only
  rw [if_neg (by simpa using hF.check), if_neg (by simpa using hF.size), e1, Int.toNat_natCast]
  have : (renR zs (rd l j)).f = (img g2 zs 0 0 : Nat) := by show ((img (rd l j).f.toNat zs 0 0 : Nat) : Int) = _; rw [e2', Int.toNat_natCast]
  rw [this, hm]
  rfl
theorem wprod_map {n : Nat} {zs : List Int} (hz : Go.Perm.check zs = 0) (hn : zs.length = n) {l : List Rd} (h : wordR n l = 0) : ∀ j, j ≤ l.length → wprod n (l.map (renR zs)) j = ren n (wprod n l j) (idx zs)
  | 0, _ => by subst hn; exact (ren_sil (undo_of hz)).symm
  | j + 1, hj => by
    have ih := wprod_map hz hn h j (by omega)
    subst hn
    show prod _ (wprod _ _ j) (rowsR (rd (l.map (renR zs)) j)) = ren _ (prod _ (wprod _ l j) (rowsR (rd l j))) (idx zs)
    rw [ih, rd_map (by omega), rowsR_ren hz (fine_of h (by omega)), ren_prod (undo_of hz)]
theorem ren_twice {a b : List Int} (ha : Go.Perm.check a = 0) (hb : Go.Perm.check b = 0) (hl : b.length = a.length) {x : Rd} (h : Fine a.length x) : renR b (renR a x) = renR (comp b a) x := by
  have hlen : (comp b a).length = a.length := comp_length b a
  have e := rowsR_ren ha h
  have ua := undo_of ha
  have hr : ren a.length (ren a.length (rowsR x) (idx a)) (idx b) = ren a.length (rowsR x) (idx (comp b a)) := ren_comp ua.lt fun i hi => by unfold idx; rw [comp_getD hi]
  have hi : img (renR a x).f.toNat b 0 0 = img x.f.toNat (comp b a) 0 0 := by
    show img ((img x.f.toNat a 0 0 : Nat) : Int).toNat b 0 0 = _
    rw [Int.toNat_natCast]; exact img_img hb ha hl.symm
  unfold renR at hi ⊢
  rw [hlen, hl]
  have e' : rowsR ⟨a.length, (ren a.length (rowsR x) (idx a) 0 : Nat), (ren a.length (rowsR x) (idx a) 1 : Nat), (ren a.length (rowsR x) (idx a) 2 : Nat), (ren a.length (rowsR x) (idx a) 3 : Nat), (ren a.length (rowsR x) (idx a) 4 : Nat), (img x.f.toNat a 0 0 : Nat)⟩ = ren a.length (rowsR x) (idx a) := e
  rw [e', hr, hi]
theorem map_twice {n : Nat} {a b : List Int} (ha : Go.Perm.check a = 0) (hb : Go.Perm.check b = 0) (hn : a.length = n) (hl : b.length = n) {l : List Rd} (h : wordR n l = 0) : (l.map (renR a)).map (renR b) = l.map (renR (comp b a)) := by
  subst hn
  rw [List.map_map]
  apply List.ext_getElem
  · simp
  intro j h1 h2
  have hj : j < l.length := by simpa using h1
  have hF := fine_of h hj
  have hx : rd l j = l[j] := by unfold rd; rw [List.getD_eq_getElem?_getD, List.getElem?_eq_getElem hj]; rfl
  rw [hx] at hF
  simp only [List.getElem_map, Function.comp]
  exact ren_twice ha hb hl hF
end Go.Proofs.YtlineonmpbdkgaaDoor.Word
namespace Go.Proofs.YtlineonmpbdkgaaDoor.Word
open Go Go.RowKit Go.Graph Go.Law
open Go.Proofs.YtlineonmpbdkgaaDoor.Graph
open Go.Proofs.YtlineonmpbdkgaaDoor.Perm (check_ints set_ints setR own_block)
open Go.Perm (img check_ok)

theorem perm14_word {zs : List Int} (hz : Go.Perm.check zs = 0) {x : Rd} (h : Fine zs.length x) {pv : Value} {W : World} (hi : IntsAt W .i64 pv zs) :
    Calls Tryd.prog 14 #[x.v, pv] W fun e w' => e = .returned (.tuple #[(renR zs x).v, .int .i64 0]) ∧ Below W.heap.size W w' := by
  have hck := h.check
  obtain ⟨hp1, hp5, _, _⟩ := check_ok hz
  obtain ⟨m, r0, r1, r2, r3, r4, f⟩ := x
  obtain ⟨hw, es, e0, e1, e2, e3, e4, f0, f1⟩ := h
  simp only at es e0 e1 e2 e3 e4 f0 f1 hck
  have h9 := fun w => round_check m r0 r1 r2 r3 r4 f w
  rw [hck] at h9
  unfold Rd.v renR
  simp only
  generalize rowsR (⟨m, r0, r1, r2, r3, r4, f⟩ : Rd) = a at *
  subst es e0 e1 e2 e3 e4
  obtain ⟨q, rfl⟩ := Int.eq_ofNat_of_zero_le f0
  rw [Int.toNat_natCast] at f1 ⊢
  have HK := fun (w : World) (h : IntsAt w .i64 pv zs) => check_ints h
  rw [hz] at HK
  have hi' := hi
  obtain ⟨p, cap, rfl, _⟩ := hi'
  refine perm14_ok _ _ _ _ _ _ _ _ _ _ _ _ _ _ zs h9 (fun w h => ?_) (fun w h => ?_) W hi
  · obtain ⟨b, off, rfl, e1, e2, e3, e4⟩ := ints_form h (by omega)
    refine permute_wf hw b off cap zs e1 hz e2 w e3 e4 fun w' h' => HK w' ?_
    obtain ⟨_, _, e, g1, g2, _⟩ := h
    cases e
    refine ⟨_, _, rfl, by omega, g2, .inr ⟨b, off, rfl, h'.lt (by omega), h'⟩⟩
  · have := set_ints h (q : Int)
    unfold setR at this
    have hlt : ¬ ((q : Int) < 0 ∨ 2 ^ zs.length ≤ (q : Int)) := by
      have : (q : Int) < 2 ^ zs.length := by exact_mod_cast f1
      omega
    rw [if_neg (by omega), if_neg hlt, Int.toNat_natCast] at this
    exact this

/-! A list of rounds that the call made. -/
theorem flat_length (L : List Rd) : (L.flatMap Rd.vs).length = L.length * 7 := by
  induction L with
  | nil => rfl
  | cons x L ih => rw [List.flatMap_cons, List.length_append, ih, List.length_cons]; simp [Rd.vs]; omega
theorem flat_get : ∀ (L : List Rd) (k i : Nat), i < 7 → k < L.length → (L.flatMap Rd.vs)[k * 7 + i]? = some ((rd L k).vs.getD i undef)
  | [], k, i, _, hk => absurd hk (by simp)
  | x :: L, 0, i, hi, _ => by
    rw [List.flatMap_cons, Nat.zero_mul, Nat.zero_add, List.getElem?_append_left (by simpa [Rd.vs] using hi)]
    show x.vs[i]? = some (x.vs.getD i undef)
    rw [List.getD_eq_getElem?_getD, List.getElem?_eq_getElem (by simpa [Rd.vs] using hi)]
    rfl
  | x :: L, k + 1, i, hi, hk => by
    have hx : x.vs.length = 7 := rfl
    rw [List.flatMap_cons, List.getElem?_append_right (by rw [hx]; omega), hx, show (k + 1) * 7 + i - 7 = k * 7 + i by omega, flat_get L k i hi (by simpa using hk)]
    rfl
theorem word_own {w : World} {base : Nat} {v : Value} {L : List Rd} (h : w.ownsRow base 26 7 v L.length (L.flatMap Rd.vs)) : WordAt w v L := by
  rcases h.2 with ⟨rfl, hn⟩ | ⟨g, cap, cur, rfl, hg, hb, hn, hcap, hcs, htake⟩
  · have : L = [] := List.length_eq_zero_iff.1 hn
    subst this
    exact ⟨none, 0, 0, 0, rfl, fun h => absurd h (by simp), fun h => absurd h (by simp), fun k hk => absurd hk (by simp), by simp [maxLen]⟩
  · refine ⟨_, cap, g, 0, rfl, fun _ => rfl, fun _ => ?_, fun k hk i hi => ?_, by omega⟩
    · by_cases hlt : g < w.heap.size
      · exact hlt
      · rw [Array.getElem?_eq_none (by omega)] at hb; cases hb
    · have h1 := flat_get L k i hi hk
      rw [← htake, List.getElem?_take, if_pos (by omega)] at h1
      simp only [World.cell?, hb, Nat.zero_add]
      simpa using h1
theorem owns_below {w w' : World} {base : Nat} {e : TypeId} {size n : Nat} {v : Value} {xs : List Value} (h : w.ownsRow base e size v n xs) (hb : Below w.heap.size w w') : w'.ownsRow base e size v n xs := by
  refine ⟨h.1, ?_⟩
  rcases h.2 with h0 | ⟨g, cap, cur, hv, hg, hh, rest⟩
  · exact .inl h0
  · exact .inr ⟨g, cap, cur, hv, hg, (hb.block g (Array.getElem?_eq_some_iff.1 hh).1).trans hh, rest⟩
theorem cells_new (w : World) (l : List Value) (t : TypeId) : ∀ (j : Nat) (u : Value), l[j]? = some u → (w.alloc (.cells ⟨l⟩ t)).cell? ((⟨w.heap.size, 0, none⟩ : Addr).add j) = some u := by
  intro j u h
  rw [Go.WideShapes.add_plain, Nat.zero_add, World.cell?_alloc_at _ _ _ _ rfl]
  simpa using h
theorem cells_at {w : World} {B : Nat} (hB : B = w.heap.size) (l : List Value) (t : TypeId) : ∀ (j : Nat) (u : Value), l[j]? = some u → (w.alloc (.cells ⟨l⟩ t)).cell? ((⟨B, 0, none⟩ : Addr).add j) = some u := by
  subst hB; exact cells_new w l t
theorem info26 : (Tryd.prog.info? 26).map (fun i => (i.zero, i.size, i.bytes)) = some (some (.agg #[.int .i64 0, .int .i64 0, .int .i64 0, .int .i64 0, .int .i64 0, .int .i64 0, .int .i64 0]), 7, 56) := by kernel_rfl
theorem take_map {l : List Rd} {zs : List Int} {j : Nat} (hj : j < l.length) : (l.take (j + 1)).map (renR zs) = (l.take j).map (renR zs) ++ [renR zs (rd l j)] := by
  have hx : rd l j = l[j] := by unfold rd; rw [List.getD_eq_getElem?_getD, List.getElem?_eq_getElem hj]; rfl
  rw [← List.take_append_getElem hj, List.map_append, hx]; rfl
set_option maxRecDepth 100000 in
set_option maxHeartbeats 4000000 in
theorem renamed_any {n : Nat} {zs : List Int} (hz : Go.Perm.check zs = 0) (hn : zs.length = n) {l : List Rd} (h0 : wordR n l = 0) {W : World} {v pv : Value} (hv : WordAt W v l) (hi : IntsAt W .i64 pv zs) :
    Calls Tryd.prog 28 #[v, pv] W fun e w' => ∃ u, e = .returned (.tuple #[u, .bool true]) ∧ Below W.heap.size W w' ∧ WordAt w' u (l.map (renR zs)) := by
  obtain ⟨a, cap, b, off, rfl, ha, hb, hc, _⟩ := hv
  have hlen := word_len h0
  have HX := Lib.hid (fun (w1 : World) (hb1 : Below W.heap.size W w1) j (hj : j < l.length) => perm14_word hz (by rw [hn]; exact fine_of h0 hj : Fine zs.length (rd l j)) (hi.below hb1))
  have HC := Lib.hid (fun (w1 : World) (hb1 : Below W.heap.size W w1) j (hj : j < l.length) i (hi : i < 7) => (hb1.cell (p := ⟨b, off + j * 7 + i, none⟩) (hb (by omega))).trans (hc j hj i hi))
  have HA := Lib.hid ha
  have HT := Lib.hid (fun j (hj : j < l.length) => take_map (zs := zs) hj)
  have HE := Lib.hid (show (l.take l.length).map (renR zs) = l.map (renR zs) by rw [List.take_length])
  have HL := Lib.hid (fun j (hj : j ≤ l.length) => show ((l.take j).map (renR zs)).length = j by rw [List.length_map, List.length_take]; omega)
  clear hi hn hz hc hb ha h0
  generalize l.length = len at *
  obtain ⟨i0, hi, hz0, hz1, hz2⟩ := info_parts info26
  have HN : Hid (W.ownsRow W.heap.size 26 7 (.slice none 0 0) 0 (((l.take 0).map (renR zs)).flatMap Rd.vs)) := Lib.hid ⟨rfl, .inl ⟨rfl, rfl⟩⟩
  have T0 := Lib.hid (Below.refl W.heap.size W)
  go_enter Tryd.func28, Tryd.ntmps28
  go_wp2
  go_loopw [6, 13] (fun u i wr => ∃ j : Nat, j ≤ len ∧ i = .int .i64 j ∧ Below W.heap.size W wr ∧ wr.ownsRow W.heap.size 26 7 u j (((l.take j).map (renR zs)).flatMap Rd.vs)) (fun _ i _ => len - (intOf i).toNat)
  case atStart => exact ⟨0, Nat.zero_le _, rfl, T0.out, HN.out⟩
  case round =>
    obtain ⟨j, hj, rfl, hB, hO⟩ := hrel
    have HB := Lib.hid hB
    have HO := Lib.hid hO
    clear hB hO
    by_cases hlt : j < len
    · obtain rfl := HA.out (by omega)
      have hcx := HC.out wr HB.out j hlt
      have HP := Lib.hid (fun w1 (hb1 : Below W.heap.size W w1) => HX.out w1 hb1 j hlt)
      have HS := Lib.hid (HT.out j hlt)
      obtain ⟨x, hx⟩ : ∃ x, rd l j = x := ⟨_, rfl⟩
      rw [hx] at hcx HP HS
      clear hx
      obtain ⟨y, hy⟩ : ∃ y, renR zs x = y := ⟨_, rfl⟩
      rw [hy] at HP HS
      clear hy
      have c0 := hcx 0 (by omega)
      have c1 := hcx 1 (by omega)
      have c2 := hcx 2 (by omega)
      have c3 := hcx 3 (by omega)
      have c4 := hcx 4 (by omega)
      have c5 := hcx 5 (by omega)
      have c6 := hcx 6 (by omega)
      simp only [Rd.vs, List.getD_cons_zero, List.getD_cons_succ, Nat.add_zero] at c0 c1 c2 c3 c4 c5 c6
      clear hcx
      simp only [Rd.v] at HP
      have HY : Hid (((l.take (j + 1)).map (renR zs)).flatMap Rd.vs = ((l.take j).map (renR zs)).flatMap Rd.vs ++ [.int .i64 y.n, .int .i64 y.r0, .int .i64 y.r1, .int .i64 y.r2, .int .i64 y.r3, .int .i64 y.r4, .int .i64 y.f]) := Lib.hid (by rw [HS.out, List.flatMap_append]; rfl)
      generalize ((l.take j).map (renR zs)).flatMap Rd.vs = xs at *
      obtain ⟨xn, x0, x1, x2, x3, x4, xf⟩ := x
      obtain ⟨yn, y0, y1, y2, y3, y4, yf⟩ := y
      simp only at c0 c1 c2 c3 c4 c5 c6 HP HY
      have HB1 := Lib.hid (HB.out.alloc HB.out.size (.cells #[.int .i64 xn, .int .i64 x0, .int .i64 x1, .int .i64 x2, .int .i64 x3, .int .i64 x4, .int .i64 xf] 26))
      have HO1 := Lib.hid (HO.out.alloc (.cells #[.int .i64 xn, .int .i64 x0, .int .i64 x1, .int .i64 x2, .int .i64 x3, .int .i64 x4, .int .i64 xf] 26))
      obtain ⟨g0, g1, g2, g3, g4, g5, g6⟩ := row7_new wr xn x0 x1 x2 x3 x4 xf
      go_wp2_with first
        | (go_at_call 14; refine (HP.out _ HB1.out).mono ?_; rintro e w4 ⟨rfl, hb4⟩; have HB4 := Lib.hid (HB1.out.trans (bel_le hb4 HB1.out.size)); have HO4 := Lib.hid (owns_below HO1.out hb4); have HB5 := Lib.hid (HB4.out.alloc HB4.out.size (.cells #[.int .i64 yn, .int .i64 y0, .int .i64 y1, .int .i64 y2, .int .i64 y3, .int .i64 y4, .int .i64 yf] 26)); have HO5 := Lib.hid (HO4.out.alloc (.cells #[.int .i64 yn, .int .i64 y0, .int .i64 y1, .int .i64 y2, .int .i64 y3, .int .i64 y4, .int .i64 yf] 26)); obtain ⟨k0, k1, k2, k3, k4, k5, k6⟩ := row7_new w4 yn y0 y1 y2 y3 y4 yf; clear hb4)
        | (at_builtin; refine wpList_append_own _ rfl _ _ 39 rfl W.heap.size 26 i0 (.agg #[.int .i64 0, .int .i64 0, .int .i64 0, .int .i64 0, .int .i64 0, .int .i64 0, .int .i64 0]) 7 56 Tryd.underlying39 hi hz0 hz1 hz2 rfl (by decide) _ _ _ rfl (HO5.out.alloc _) ⟨_, 0, none⟩ 1 1 [.int .i64 yn, .int .i64 y0, .int .i64 y1, .int .i64 y2, .int .i64 y3, .int .i64 y4, .int .i64 yf] rfl rfl (cells_at (by rw [World.size_alloc]) _ _) (fun x hx => by simp at hx; rcases hx with rfl | rfl | rfl | rfl | rfl | rfl | rfl <;> rfl) (by unfold maxLen; omega) (by omega) ((HB5.out.alloc HB5.out.size _).size) ?_; intro v' w6 hown' hgrow _; have HO6 := Lib.hid hown'; have HG6 := Lib.hid hgrow; clear hown' hgrow)
      go_roundw
      case rel => exact ⟨j + 1, by omega, by go_num, (HB5.out.alloc HB5.out.size _).grown HG6.out ((HB5.out.alloc HB5.out.size _).size) (own_block HO5.out), by rw [HY.out]; exact HO6.out⟩
      case measure => simp [intOf]; omega
    · obtain rfl : j = len := by omega
      have HM := Lib.hid (HL.out j (Nat.le_refl _))
      go_wp2
      go_ret2
      refine ⟨_, rfl, HB.out, word_own (base := W.heap.size) ?_⟩
      rw [← HE.out, HM.out]
      exact HO.out
end Go.Proofs.YtlineonmpbdkgaaDoor.Word
