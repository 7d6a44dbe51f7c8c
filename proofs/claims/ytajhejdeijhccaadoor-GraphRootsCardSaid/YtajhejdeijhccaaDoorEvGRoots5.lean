/-
  GraphRoots answers true.
-/
import Derived.Test.YtajhejdeijhccaaDoorEvGKernel
import Derived.Test.YtajhejdeijhccaaDoorEvGThree
import Derived.Test.YtajhejdeijhccaaDoorEvGRoots
import Derived.Test.YtajhejdeijhccaaDoorEvGNonsplit
import Derived.Deep.CutRange
import Derived.Deep.RegionHeld3
import Derived.RegionTactic
namespace Go.Graph

/-- The union of the rows that a set names. -/
def act (n : Nat) (g : Nat → Nat) (S : Nat) : Nat := uni g S n
theorem act_bit (n : Nat) (g : Nat → Nat) (S j : Nat) : (act n g S).testBit j = true ↔ ∃ m, m < n ∧ S.testBit m = true ∧ (g m).testBit j = true := uni_bit g S j n
theorem bits_eq {a b : Nat} (h : ∀ j, a.testBit j = true ↔ b.testBit j = true) : a = b := by
  apply Nat.eq_of_testBit_eq
  intro j
  rw [Bool.eq_iff_iff]; exact h j
theorem act_lt {n : Nat} {g : Nat → Nat} (h : WF n g) (S : Nat) : act n g S < 2 ^ n := uni_lt h.low S n (Nat.le_refl _)
theorem act_prod (n : Nat) (a b : Nat → Nat) (S : Nat) : act n (prod n a b) S = act n a (act n b S) := by
  apply bits_eq
  intro j
  simp only [act_bit, prod_bit]
  constructor
  · rintro ⟨m, hm, h1, _, l, hl, h2, h3⟩; exact ⟨l, hl, ⟨m, hm, h1, h2⟩, h3⟩
  · rintro ⟨l, hl, ⟨m, hm, h1, h2⟩, h3⟩; exact ⟨m, hm, h1, hm, l, hl, h2, h3⟩
theorem act_sil {n S : Nat} (h : S < 2 ^ n) : act n (sil n) S = S := by
  apply bits_eq
  intro j
  simp only [act_bit, sil_bit]
  constructor
  · rintro ⟨m, _, h1, _, rfl⟩; exact h1
  · intro hj
    have := lt_bit h hj
    exact ⟨j, this, hj, this, rfl⟩
theorem act_one {n : Nat} {g : Nat → Nat} {p : Nat} (hp : p < n) : act n g (2 ^ p) = g p := by
  apply bits_eq
  intro j
  simp only [act_bit, Nat.testBit_two_pow]
  constructor
  · rintro ⟨m, _, h1, h2⟩
    have : p = m := by simpa using h1
    subst this; exact h2
  · intro h; exact ⟨p, hp, by simp, h⟩
theorem act_grow {n : Nat} {g : Nat → Nat} (h : WF n g) {S : Nat} (hS : S < 2 ^ n) {j : Nat} (hj : S.testBit j = true) : (act n g S).testBit j = true := by
  rw [act_bit]
  have := lt_bit hS hj
  exact ⟨j, this, hj, h.self j this⟩
theorem act_join (n : Nat) (g : Nat → Nat) (S T : Nat) : act n g (S ||| T) = act n g S ||| act n g T := by
  apply bits_eq
  intro j
  simp only [act_bit, Nat.testBit_or, Bool.or_eq_true]
  constructor
  · rintro ⟨m, hm, h1 | h1, h2⟩
    · exact .inl ⟨m, hm, h1, h2⟩
    · exact .inr ⟨m, hm, h1, h2⟩
  · rintro (⟨m, hm, h1, h2⟩ | ⟨m, hm, h1, h2⟩)
    · exact ⟨m, hm, .inl h1, h2⟩
    · exact ⟨m, hm, .inr h1, h2⟩
/-- Sub: all bits of a are bits of b. -/
def Sub (a b : Nat) : Prop := ∀ j, a.testBit j = true → b.testBit j = true
theorem sub_or {a b : Nat} (h : Sub a b) : a ||| b = b := by
  apply bits_eq
  intro j
  rw [Nat.testBit_or, Bool.or_eq_true]
  exact ⟨fun x => x.elim (h j) id, .inr⟩
theorem pc_grow0 : ∀ a < 32, ∀ b < 32, (a ||| b = b ∧ a ≠ b → pc a < pc b) := by decide +kernel
theorem pc_grow {a b : Nat} (ha : a < 32) (hb : b < 32) (h : Sub a b) (hne : a ≠ b) : pc a < pc b := pc_grow0 a ha b hb ⟨sub_or h, hne⟩
theorem pc_top : ∀ n < 6, ∀ a < 32, (a < 2 ^ n → pc a ≤ n) := by decide +kernel
theorem pc_apart : ∀ a < 32, ∀ b < 32, (a &&& b = 0 → pc a + pc b = pc (a ||| b)) := by decide +kernel
theorem pc_one : ∀ p < 5, pc (2 ^ p) = 1 := by decide +kernel
/-- k rounds of g. -/
def it (n : Nat) (g : Nat → Nat) : Nat → Nat → Nat
  | 0, S => S
  | k + 1, S => it n g k (act n g S)
theorem it_act (n : Nat) (g : Nat → Nat) : ∀ k S, it n g k (act n g S) = act n g (it n g k S)
  | 0, _ => rfl
  | k + 1, S => it_act n g k (act n g S)
theorem it_lt {n : Nat} {g : Nat → Nat} (h : WF n g) : ∀ k S, S < 2 ^ n → it n g k S < 2 ^ n
  | 0, _, hS => hS
  | k + 1, S, _ => it_lt h k _ (act_lt h S)
theorem it_fix {n : Nat} {g : Nat → Nat} {S : Nat} (h : act n g S = S) : ∀ k, it n g k S = S
  | 0 => rfl
  | k + 1 => by show it n g k (act n g S) = S; rw [h]; exact it_fix h k
theorem it_add (n : Nat) (g : Nat → Nat) : ∀ i j S, it n g (i + j) S = it n g j (it n g i S)
  | 0, j, S => by rw [Nat.zero_add]; rfl
  | i + 1, j, S => by rw [show i + 1 + j = (i + j) + 1 by omega]; exact it_add n g i j (act n g S)
/-- Either the k rounds stand still somewhere, or the set has grown k times. -/
theorem it_size {n : Nat} {g : Nat → Nat} (h : WF n g) {S : Nat} (hS : S < 2 ^ n) : ∀ k, (∃ i, i < k ∧ act n g (it n g i S) = it n g i S) ∨ pc S + k ≤ pc (it n g k S)
  | 0 => .inr (Nat.le_refl _)
  | k + 1 => by
    have h32 : 2 ^ n ≤ 32 := Nat.pow_le_pow_right (by omega) h.top
    rcases it_size h hS k with ⟨i, hi, e⟩ | hle
    · exact .inl ⟨i, by omega, e⟩
    · by_cases e : act n g (it n g k S) = it n g k S
      · exact .inl ⟨k, by omega, e⟩
      · have hl := it_lt h k S hS
        have hl2 := act_lt h (it n g k S)
        have := pc_grow (Nat.lt_of_lt_of_le hl h32) (Nat.lt_of_lt_of_le hl2 h32) (fun j hj => act_grow h hl hj) (Ne.symm e)
        refine .inr ?_
        show pc S + (k + 1) ≤ pc (it n g k (act n g S))
        rw [it_act]; omega
theorem it_stable {n : Nat} {g : Nat → Nat} (h : WF n g) {p : Nat} (hp : p < n) (m : Nat) (hm : n - 1 ≤ m) : it n g m (2 ^ p) = it n g (n - 1) (2 ^ p) := by
  have h32 : 2 ^ n ≤ 32 := Nat.pow_le_pow_right (by omega) h.top
  have h5 := h.top
  have hS : 2 ^ p < 2 ^ n := Nat.pow_lt_pow_right (by omega) hp
  rcases it_size h hS n with ⟨i, hi, e⟩ | hle
  · have key : ∀ d, it n g (i + d) (2 ^ p) = it n g i (2 ^ p) := fun d => by rw [it_add]; exact it_fix e d
    have e1 := key (m - i)
    have e2 := key (n - 1 - i)
    rw [show i + (m - i) = m by omega] at e1
    rw [show i + (n - 1 - i) = n - 1 by omega] at e2
    rw [e1, e2]
  · have hl := it_lt h n _ hS
    have := pc_top n (by omega) _ (Nat.lt_of_lt_of_le hl h32) hl
    rw [pc_one p (by omega)] at hle
    omega
/-- Powers from the graph without edges. -/
def pow0 (n : Nat) (g : Nat → Nat) : Nat → Nat → Nat
  | 0 => sil n
  | k + 1 => prod n (pow0 n g k) g
theorem WF.pow0 {n : Nat} {g : Nat → Nat} (h : WF n g) : ∀ k, WF n (pow0 n g k)
  | 0 => WF.sil h.pos h.top
  | k + 1 => (h.pow0 k).prod h
theorem pow0_act {n : Nat} {g : Nat → Nat} (h : WF n g) : ∀ k S, S < 2 ^ n → act n (pow0 n g k) S = it n g k S
  | 0, S, hS => act_sil hS
  | k + 1, S, _ => by
    show act n (prod n (pow0 n g k) g) S = _
    rw [act_prod]; exact pow0_act h k _ (act_lt h S)
theorem pw_pow0 {n : Nat} {g : Nat → Nat} (h : WF n g) : ∀ k, pw n g k = pow0 n g (k + 1)
  | 0 => (sil_prod h).symm
  | k + 1 => by show prod n (pw n g k) g = prod n (pow0 n g (k + 1)) g; rw [pw_pow0 h k]
theorem kern_congr {n : Nat} {r s : Nat → Nat} (h : ∀ i, i < n → r i = s i) : ∀ k, k ≤ n → kernTo n r k = kernTo n s k
  | 0, _ => rfl
  | k + 1, hk => by unfold kernTo; rw [kern_congr h k (by omega), h k (by omega)]
/-- The roots are the kernel of n - 1 rounds. -/
theorem roots_kernel {n : Nat} {g : Nat → Nat} (h : WF n g) : kern n (pw n g n) = kern n (pow0 n g (n - 1)) := by
  refine kern_congr (fun p hp => ?_) n (Nat.le_refl _)
  have hS : 2 ^ p < 2 ^ n := Nat.pow_lt_pow_right (by omega) hp
  rw [pw_pow0 h, ← act_one hp (g := pow0 n g (n + 1)), ← act_one hp (g := pow0 n g (n - 1)), pow0_act h _ _ hS, pow0_act h _ _ hS]
  exact it_stable h hp (n + 1) (by omega)
theorem kernTo_bit (n : Nat) (r : Nat → Nat) (j : Nat) : ∀ k, (kernTo n r k).testBit j = true → ∀ p, p < k → (r p).testBit j = true
  | 0, _, p, hp => by omega
  | k + 1, h, p, hp => by
    unfold kernTo at h
    rw [Nat.testBit_and, Bool.and_eq_true] at h
    by_cases e : p = k
    · subst e; exact h.2
    · exact kernTo_bit n r j k h.1 p (by omega)
theorem some_bit {x : Nat} (h : x ≠ 0) : ∃ j, x.testBit j = true := by
  by_cases hx : ∃ j, x.testBit j = true
  · exact hx
  · exfalso
    apply h
    apply Nat.eq_of_testBit_eq
    intro j
    have : ¬ x.testBit j = true := fun e => hx ⟨j, e⟩
    simpa using this
/-- A set that hears nobody else holds all that its members hear of in any number of rounds. -/
theorem closed_pw {n : Nat} {g : Nat → Nat} (h : WF n g) {C : Nat} (hC : act n g C = C) : ∀ k p, C.testBit p = true → p < n → Sub (pw n g k p) C
  | 0, p, hp, hn => fun j hj => by rw [← hC, act_bit]; exact ⟨p, hn, hp, hj⟩
  | k + 1, p, hp, hn => fun j hj => by
    have hj' : (prod n (pw n g k) g p).testBit j = true := hj
    rw [prod_bit] at hj'
    obtain ⟨_, m, hm, h1, h2⟩ := hj'
    have hmC : C.testBit m = true := by rw [← hC, act_bit]; exact ⟨p, hn, hp, h1⟩
    exact closed_pw h hC k m hmC hm j h2
/-- Two sets apart, in a graph with a root: one of them grows. -/
theorem grows {n : Nat} {g : Nat → Nat} (h : WF n g) (hr : kern n (pw n g n) ≠ 0) {S T : Nat} (hS : S < 2 ^ n) (hT : T < 2 ^ n) (hS0 : S ≠ 0) (hT0 : T ≠ 0) (hap : S &&& T = 0) : act n g S ≠ S ∨ act n g T ≠ T := by
  by_cases e1 : act n g S = S
  · by_cases e2 : act n g T = T
    · exfalso
      obtain ⟨r, hrb⟩ := some_bit hr
      have hall := kernTo_bit n _ r n hrb
      obtain ⟨p, hp⟩ := some_bit hS0
      obtain ⟨q, hq⟩ := some_bit hT0
      have hpn := lt_bit hS hp
      have hqn := lt_bit hT hq
      have h1 := closed_pw h e1 n p hp hpn r (hall p hpn)
      have h2 := closed_pw h e2 n q hq hqn r (hall q hqn)
      have : (S &&& T).testBit r = true := by rw [Nat.testBit_and, h1, h2]; rfl
      rw [hap] at this; simp at this
    · exact .inr e2
  · exact .inl e1
/-- The product of the first k graphs. -/
def prodOf (n : Nat) (G : Nat → Nat → Nat) : Nat → Nat → Nat
  | 0 => sil n
  | k + 1 => prod n (prodOf n G k) (G k)
theorem WF.prodOf {n : Nat} {G : Nat → Nat → Nat} (h1 : 1 ≤ n) (h5 : n ≤ 5) : ∀ k, (∀ i, i < k → WF n (G i)) → WF n (prodOf n G k)
  | 0, _ => WF.sil h1 h5
  | k + 1, h => (WF.prodOf h1 h5 k (fun i hi => h i (by omega))).prod (h k (by omega))
theorem act_sub {n : Nat} {g : Nat → Nat} {S : Nat} {j : Nat} (h : (act n g S).testBit j = true) : S ≠ 0 := by
  rintro rfl
  rw [act_bit] at h
  obtain ⟨m, _, h1, _⟩ := h
  simp at h1
/-- In k rounds with roots two sets meet, or have grown k times together. -/
theorem meet {n : Nat} {G : Nat → Nat → Nat} (h1 : 1 ≤ n) (h5 : n ≤ 5) : ∀ k, (∀ i, i < k → WF n (G i)) → (∀ i, i < k → kern n (pw n (G i) n) ≠ 0) → ∀ S T, S < 2 ^ n → T < 2 ^ n → S ≠ 0 → T ≠ 0 → n < pc S + pc T + k → act n (prodOf n G k) S &&& act n (prodOf n G k) T ≠ 0
  | 0, _, _, S, T, hS, hT, _, _, hsz => by
    have h32 : 2 ^ n ≤ 32 := Nat.pow_le_pow_right (by omega) h5
    show act n (sil n) S &&& act n (sil n) T ≠ 0
    rw [act_sil hS, act_sil hT]
    intro hap
    have := pc_apart S (by omega) T (by omega) hap
    have hl : S ||| T < 2 ^ n := Nat.or_lt_two_pow hS hT
    have := pc_top n (by omega) _ (Nat.lt_of_lt_of_le hl h32) hl
    omega
  | k + 1, hw, hr, S, T, hS, hT, hS0, hT0, hsz => by
    have h32 : 2 ^ n ≤ 32 := Nat.pow_le_pow_right (by omega) h5
    have hg := hw k (by omega)
    show act n (prod n (prodOf n G k) (G k)) S &&& act n (prod n (prodOf n G k) (G k)) T ≠ 0
    rw [act_prod, act_prod]
    have a1 := act_lt hg S
    have a2 := act_lt hg T
    have sub1 : Sub S (act n (G k) S) := fun j hj => act_grow hg hS hj
    have sub2 : Sub T (act n (G k) T) := fun j hj => act_grow hg hT hj
    have n1 : act n (G k) S ≠ 0 := by
      obtain ⟨j, hj⟩ := some_bit hS0
      intro e; have := sub1 j hj; rw [e] at this; simp at this
    have n2 : act n (G k) T ≠ 0 := by
      obtain ⟨j, hj⟩ := some_bit hT0
      intro e; have := sub2 j hj; rw [e] at this; simp at this
    have wf := WF.prodOf (G := G) h1 h5 k (fun i hi => hw i (by omega))
    by_cases hap : S &&& T = 0
    · have big : pc S + pc T < pc (act n (G k) S) + pc (act n (G k) T) := by
        have le : ∀ {a b : Nat}, a < 2 ^ n → b < 2 ^ n → Sub a b → pc a ≤ pc b := by
          intro a b ha hb hs
          by_cases e : a = b
          · rw [e]; exact Nat.le_refl _
          · exact Nat.le_of_lt (pc_grow (by omega) (by omega) hs e)
        rcases grows hg (hr k (by omega)) hS hT hS0 hT0 hap with e | e
        · have := pc_grow (by omega) (by omega) sub1 (Ne.symm e)
          have := le hT a2 sub2
          omega
        · have := pc_grow (by omega) (by omega) sub2 (Ne.symm e)
          have := le hS a1 sub1
          omega
      exact meet h1 h5 k (fun i hi => hw i (by omega)) (fun i hi => hr i (by omega)) _ _ a1 a2 n1 n2 (by omega)
    · obtain ⟨j, hj⟩ := some_bit hap
      rw [Nat.testBit_and, Bool.and_eq_true] at hj
      have j1 := act_grow wf a1 (sub1 j hj.1)
      have j2 := act_grow wf a2 (sub2 j hj.2)
      intro e
      have : (act n (prodOf n G k) (act n (G k) S) &&& act n (prodOf n G k) (act n (G k) T)).testBit j = true := by rw [Nat.testBit_and, j1, j2]; rfl
      rw [e] at this; simp at this
/-- A product of n - 1 graphs that have roots is nonsplit. -/
theorem nonsplit_of {n : Nat} {G : Nat → Nat → Nat} (h1 : 1 ≤ n) (h5 : n ≤ 5) (hw : ∀ i, i < n - 1 → WF n (G i)) (hr : ∀ i, i < n - 1 → kern n (pw n (G i) n) ≠ 0) : nsp (prodOf n G (n - 1)) n = true := by
  unfold nsp
  rw [decide_eq_true_eq]
  intro p hp q hq
  have := meet h1 h5 (n - 1) hw hr (2 ^ p) (2 ^ q) (Nat.pow_lt_pow_right (by omega) hp) (Nat.pow_lt_pow_right (by omega) (by omega)) (Nat.ne_of_gt (Nat.pow_pos (by omega))) (Nat.ne_of_gt (Nat.pow_pos (by omega))) (by rw [pc_one p (by omega), pc_one q (by omega)]; omega)
  rw [act_one hp, act_one (by omega : q < n)] at this
  exact this
end Go.Graph
namespace Go.Proofs.YtajhejdeijhccaaDoor.Graph
open Go Go.RowKit Go.Graph Go.Law
open Go.Proofs.YtajhejdeijhccaaDoor.Col

theorem idx4 (F : Nat → Nat → Int) : ∀ k : Nat, k < 4 → ∀ w : World, (Instr.index 73 (.agg #[.int .i64 (F 0 0), .int .i64 (F 0 1), .int .i64 (F 0 2), .int .i64 (F 0 3), .int .i64 (F 0 4), .int .i64 (F 0 5), .int .i64 (F 1 0), .int .i64 (F 1 1), .int .i64 (F 1 2), .int .i64 (F 1 3), .int .i64 (F 1 4), .int .i64 (F 1 5), .int .i64 (F 2 0), .int .i64 (F 2 1), .int .i64 (F 2 2), .int .i64 (F 2 3), .int .i64 (F 2 4), .int .i64 (F 2 5), .int .i64 (F 3 0), .int .i64 (F 3 1), .int .i64 (F 3 2), .int .i64 (F 3 3), .int .i64 (F 3 4), .int .i64 (F 3 5)]) (.int .i64 (k : Int))).run Tryd.prog w = .ok (.agg #[.int .i64 (F k 0), .int .i64 (F k 1), .int .i64 (F k 2), .int .i64 (F k 3), .int .i64 (F k 4), .int .i64 (F k 5)]) w
  | 0, _ => fun _ => by kernel_rfl
  | 1, _ => fun _ => by kernel_rfl
  | 2, _ => fun _ => by kernel_rfl
  | 3, _ => fun _ => by kernel_rfl
theorem idx4g (n : Int) (G : Nat → Nat → Nat) : ∀ k : Nat, k < 4 → ∀ w : World, (Instr.index 73 (.agg #[.int .i64 n, .int .i64 (G 0 0), .int .i64 (G 0 1), .int .i64 (G 0 2), .int .i64 (G 0 3), .int .i64 (G 0 4), .int .i64 n, .int .i64 (G 1 0), .int .i64 (G 1 1), .int .i64 (G 1 2), .int .i64 (G 1 3), .int .i64 (G 1 4), .int .i64 n, .int .i64 (G 2 0), .int .i64 (G 2 1), .int .i64 (G 2 2), .int .i64 (G 2 3), .int .i64 (G 2 4), .int .i64 n, .int .i64 (G 3 0), .int .i64 (G 3 1), .int .i64 (G 3 2), .int .i64 (G 3 3), .int .i64 (G 3 4)]) (.int .i64 (k : Int))).run Tryd.prog w = .ok (.agg #[.int .i64 n, .int .i64 (G k 0), .int .i64 (G k 1), .int .i64 (G k 2), .int .i64 (G k 3), .int .i64 (G k 4)]) w
  | 0, _ => fun _ => by kernel_rfl
  | 1, _ => fun _ => by kernel_rfl
  | 2, _ => fun _ => by kernel_rfl
  | 3, _ => fun _ => by kernel_rfl
/-- The k-th graph is well-formed, and of the first one's size. -/
def Good (F : Nat → Nat → Int) (k : Nat) : Prop := ∃ (m : Nat) (r : Nat → Nat), WF m r ∧ F k 0 = m ∧ F k 1 = r 0 ∧ F k 2 = r 1 ∧ F k 3 = r 2 ∧ F k 4 = r 3 ∧ F k 5 = r 4 ∧ F k 0 = F 0 0
theorem good_or (F : Nat → Nat → Int) (k : Nat) : (Good F k ∧ ∀ w : World, Calls Tryd.prog 17 #[.agg #[.int .i64 (F k 0), .int .i64 (F k 1), .int .i64 (F k 2), .int .i64 (F k 3), .int .i64 (F k 4), .int .i64 (F k 5)]] w fun e w' => e = .returned (.int .i64 0) ∧ Below w.heap.size w w') ∨
    (F k 0 ≠ F 0 0 ∧ ∀ w : World, Calls Tryd.prog 17 #[.agg #[.int .i64 (F k 0), .int .i64 (F k 1), .int .i64 (F k 2), .int .i64 (F k 3), .int .i64 (F k 4), .int .i64 (F k 5)]] w fun e w' => e = .returned (.int .i64 0) ∧ Below w.heap.size w w') ∨ ∃ c : Int, c ≠ 0 ∧ ∀ w : World, Calls Tryd.prog 17 #[.agg #[.int .i64 (F k 0), .int .i64 (F k 1), .int .i64 (F k 2), .int .i64 (F k 3), .int .i64 (F k 4), .int .i64 (F k 5)]] w fun e w' => e = .returned (.int .i64 c) ∧ Below w.heap.size w w' := by
  rcases wf_or (F k 0) (F k 1) (F k 2) (F k 3) (F k 4) (F k 5) with ⟨m, r, hr, e0, e1, e2, e3, e4, e5⟩ | ⟨c, hc, _, h⟩
  · have hcall : ∀ w : World, Calls Tryd.prog 17 #[.agg #[.int .i64 (F k 0), .int .i64 (F k 1), .int .i64 (F k 2), .int .i64 (F k 3), .int .i64 (F k 4), .int .i64 (F k 5)]] w fun e w' => e = .returned (.int .i64 0) ∧ Below w.heap.size w w' := by
      rw [e0, e1, e2, e3, e4, e5]; exact rcheck_wf hr
    by_cases h : F k 0 = F 0 0
    · exact .inl ⟨⟨m, r, hr, e0, e1, e2, e3, e4, e5, h⟩, hcall⟩
    · exact .inr (.inl ⟨h, hcall⟩)
  · exact .inr (.inr ⟨c, hc, h⟩)
set_option maxRecDepth 100000 in
set_option maxHeartbeats 4000000 in
theorem roots_bad (F : Nat → Nat → Int) (hbad : ¬ ∀ i, i < 4 → Good F i) (w : World) : Calls Tryd.prog 10 #[.agg #[.int .i64 (F 0 0), .int .i64 (F 0 1), .int .i64 (F 0 2), .int .i64 (F 0 3), .int .i64 (F 0 4), .int .i64 (F 0 5), .int .i64 (F 1 0), .int .i64 (F 1 1), .int .i64 (F 1 2), .int .i64 (F 1 3), .int .i64 (F 1 4), .int .i64 (F 1 5), .int .i64 (F 2 0), .int .i64 (F 2 1), .int .i64 (F 2 2), .int .i64 (F 2 3), .int .i64 (F 2 4), .int .i64 (F 2 5), .int .i64 (F 3 0), .int .i64 (F 3 1), .int .i64 (F 3 2), .int .i64 (F 3 3), .int .i64 (F 3 4), .int .i64 (F 3 5)]] w fun e w' => e = .returned (.bool true) ∧ Below w.heap.size w w' := by
  have HBAD := Lib.hid hbad
  clear hbad
  have T0 := Lib.hid (below_alloc w (.cells #[.int .i64 (F 0 0), .int .i64 (F 0 1), .int .i64 (F 0 2), .int .i64 (F 0 3), .int .i64 (F 0 4), .int .i64 (F 0 5), .int .i64 (F 1 0), .int .i64 (F 1 1), .int .i64 (F 1 2), .int .i64 (F 1 3), .int .i64 (F 1 4), .int .i64 (F 1 5), .int .i64 (F 2 0), .int .i64 (F 2 1), .int .i64 (F 2 2), .int .i64 (F 2 3), .int .i64 (F 2 4), .int .i64 (F 2 5), .int .i64 (F 3 0), .int .i64 (F 3 1), .int .i64 (F 3 2), .int .i64 (F 3 3), .int .i64 (F 3 4), .int .i64 (F 3 5)] 73))
  have O0 := Lib.hid (own_new w [.int .i64 (F 0 0), .int .i64 (F 0 1), .int .i64 (F 0 2), .int .i64 (F 0 3), .int .i64 (F 0 4), .int .i64 (F 0 5), .int .i64 (F 1 0), .int .i64 (F 1 1), .int .i64 (F 1 2), .int .i64 (F 1 3), .int .i64 (F 1 4), .int .i64 (F 1 5), .int .i64 (F 2 0), .int .i64 (F 2 1), .int .i64 (F 2 2), .int .i64 (F 2 3), .int .i64 (F 2 4), .int .i64 (F 2 5), .int .i64 (F 3 0), .int .i64 (F 3 1), .int .i64 (F 3 2), .int .i64 (F 3 3), .int .i64 (F 3 4), .int .i64 (F 3 5)] 73)
  have HIX := Lib.hid (idx4 F)
  have HGO := Lib.hid (good_or F)
  go_enter Tryd.func10, Tryd.ntmps10
  go_upto_region 2 with (fail)
  refine wp_region_lit ?_
  refine wpList_load_mid rfl 73 (.tmp 1) rfl w.heap.size 0 rfl [.int .i64 (F 0 0), .int .i64 (F 0 1), .int .i64 (F 0 2), .int .i64 (F 0 3), .int .i64 (F 0 4), .int .i64 (F 0 5), .int .i64 (F 1 0), .int .i64 (F 1 1), .int .i64 (F 1 2), .int .i64 (F 1 3), .int .i64 (F 1 4), .int .i64 (F 1 5), .int .i64 (F 2 0), .int .i64 (F 2 1), .int .i64 (F 2 2), .int .i64 (F 2 3), .int .i64 (F 2 4), .int .i64 (F 2 5), .int .i64 (F 3 0), .int .i64 (F 3 1), .int .i64 (F 3 2), .int .i64 (F 3 3), .int .i64 (F 3 4), .int .i64 (F 3 5)] _ O0.out.range Tryd.underlying73 rfl (by kernel_rfl) ?_
  go_wp2
  generalize World.alloc w _ = W1 at *
  go_loopw [26] (fun i wr => ∃ k : Nat, k ≤ 4 ∧ i = .int .i64 k ∧ (∀ i, i < k → Good F i) ∧ Below w.heap.size w wr) (fun i _ => 4 - (intOf i).toNat)
  case atStart => exact ⟨0, by omega, rfl, fun i hi => by omega, T0.out⟩
  case round =>
    obtain ⟨k, hk, rfl, hgood, hbl⟩ := hrel
    have HBL := Lib.hid hbl
    have HGD := Lib.hid hgood
    clear hbl hgood
    by_cases hlt : k < 4
    · have hix := HIX.out k hlt
      have TB := Lib.hid (HBL.out.alloc HBL.out.size (.cells #[.int .i64 (F k 0), .int .i64 (F k 1), .int .i64 (F k 2), .int .i64 (F k 3), .int .i64 (F k 4), .int .i64 (F k 5)] 24))
      have RN := Lib.hid (row_new wr (F k 0) (F k 1) (F k 2) (F k 3) (F k 4) (F k 5))
      rcases HGO.out k with ⟨hg, hc⟩ | ⟨hne, hc⟩ | ⟨c, hne, hc⟩
      · have HG := Lib.hid hg
        have HC := Lib.hid hc
        have heq : (F k 0 != F 0 0) = false := by obtain ⟨_, _, _, _, _, _, _, _, _, e⟩ := HG.out; simp [e]
        clear hg hc
        go_wp2_with (go_at_call 17; refine (HC.out _).mono ?_; rintro e w2 ⟨rfl, hb2⟩; have T2 := Lib.hid (TB.out.trans (bel_le hb2 TB.out.size)); have hn2 := (row_below RN.out hb2).1; clear hb2)
        exact ⟨⟨k + 1, by omega, by go_num, fun i hi => by rcases (by omega : i < k ∨ i = k) with h | rfl; exact HGD.out i h; exact HG.out, T2.out⟩, by simp [intOf]; omega⟩
      · have HC := Lib.hid hc
        have heq : (F k 0 != F 0 0) = true := bne_iff_ne.2 hne
        clear hne hc
        go_wp2_with first
          | (go_at_call 20; refine (Go.Proofs.YtajhejdeijhccaaDoor.Ev.awake _).mono ?_; rintro e w20 ⟨rfl, hb20⟩)
          | (go_at_call 17; refine (HC.out _).mono ?_; rintro e w2 ⟨rfl, hb2⟩; have T2 := Lib.hid (TB.out.trans (bel_le hb2 TB.out.size)); have hn2 := (row_below RN.out hb2).1; clear hb2)
        go_ret
        exact ⟨rfl, T2.out.trans (bel_le hb20 T2.out.size)⟩
      · have HC := Lib.hid hc
        have heq : (c != 0) = true := bne_iff_ne.2 hne
        clear hne hc
        go_wp2_with first
          | (go_at_call 20; refine (Go.Proofs.YtajhejdeijhccaaDoor.Ev.awake _).mono ?_; rintro e w20 ⟨rfl, hb20⟩)
          | (go_at_call 17; refine (HC.out _).mono ?_; rintro e w2 ⟨rfl, hb2⟩; have T2 := Lib.hid (TB.out.trans (bel_le hb2 TB.out.size)); clear hb2)
        go_ret
        exact ⟨rfl, T2.out.trans (bel_le hb20 T2.out.size)⟩
    · have hk' : k = 4 := by omega
      subst hk'
      exact absurd HGD.out HBAD.out
end Go.Proofs.YtajhejdeijhccaaDoor.Graph
namespace Go.Proofs.YtajhejdeijhccaaDoor.Graph
open Go Go.RowKit Go.Graph Go.Law
open Go.Proofs.YtajhejdeijhccaaDoor.Col

/-- A graph that lies in block A from offset o on. -/
@[reducible] def RowAt (w : World) (A o : Nat) (n r0 r1 r2 r3 r4 : Int) : Prop := w.cell? ⟨A, o, none⟩ = some (.int .i64 n) ∧ w.cell? ⟨A, o + 1, none⟩ = some (.int .i64 r0) ∧ w.cell? ⟨A, o + 2, none⟩ = some (.int .i64 r1) ∧ w.cell? ⟨A, o + 3, none⟩ = some (.int .i64 r2) ∧ w.cell? ⟨A, o + 4, none⟩ = some (.int .i64 r3) ∧ w.cell? ⟨A, o + 5, none⟩ = some (.int .i64 r4)
def cells4 (n : Int) (G : Nat → Nat → Nat) : List Value := [.int .i64 n, .int .i64 (G 0 0), .int .i64 (G 0 1), .int .i64 (G 0 2), .int .i64 (G 0 3), .int .i64 (G 0 4), .int .i64 n, .int .i64 (G 1 0), .int .i64 (G 1 1), .int .i64 (G 1 2), .int .i64 (G 1 3), .int .i64 (G 1 4), .int .i64 n, .int .i64 (G 2 0), .int .i64 (G 2 1), .int .i64 (G 2 2), .int .i64 (G 2 3), .int .i64 (G 2 4), .int .i64 n, .int .i64 (G 3 0), .int .i64 (G 3 1), .int .i64 (G 3 2), .int .i64 (G 3 3), .int .i64 (G 3 4)]
theorem row4 {w : World} {A : Nat} {n : Int} {G : Nat → Nat → Nat} (h : Own w A 73 (cells4 n G)) : ∀ k : Nat, k < 4 → RowAt w A (k * 6) n (G k 0) (G k 1) (G k 2) (G k 3) (G k 4)
  | 0, _ => ⟨h.cell (j := 0) rfl, h.cell (j := 1) rfl, h.cell (j := 2) rfl, h.cell (j := 3) rfl, h.cell (j := 4) rfl, h.cell (j := 5) rfl⟩
  | 1, _ => ⟨h.cell (j := 6) rfl, h.cell (j := 7) rfl, h.cell (j := 8) rfl, h.cell (j := 9) rfl, h.cell (j := 10) rfl, h.cell (j := 11) rfl⟩
  | 2, _ => ⟨h.cell (j := 12) rfl, h.cell (j := 13) rfl, h.cell (j := 14) rfl, h.cell (j := 15) rfl, h.cell (j := 16) rfl, h.cell (j := 17) rfl⟩
  | 3, _ => ⟨h.cell (j := 18) rfl, h.cell (j := 19) rfl, h.cell (j := 20) rfl, h.cell (j := 21) rfl, h.cell (j := 22) rfl, h.cell (j := 23) rfl⟩
theorem row6_of {w : World} {B : Nat} {t : TypeId} {n : Int} {r : Nat → Nat} (h : Own w B t [.int .i64 n, .int .i64 (r 0), .int .i64 (r 1), .int .i64 (r 2), .int .i64 (r 3), .int .i64 (r 4)]) : Row6 w B n (r 0) (r 1) (r 2) (r 3) (r 4) :=
  ⟨h.cell (j := 0) rfl, h.cell (j := 1) rfl, h.cell (j := 2) rfl, h.cell (j := 3) rfl, h.cell (j := 4) rfl, h.cell (j := 5) rfl⟩
def rooted (n : Nat) (G : Nat → Nat → Nat) (k : Nat) : Bool := decide (∀ i, i < k → kern n (pw n (G i) n) ≠ 0)
theorem rooted_zero (n : Nat) (G : Nat → Nat → Nat) : rooted n G 0 = true := by unfold rooted; rw [decide_eq_true_eq]; intro i hi; omega
theorem rooted_yes {n : Nat} {G : Nat → Nat → Nat} {k : Nat} (h : kern n (pw n (G k) n) ≠ 0) : rooted n G (k + 1) = rooted n G k := by
  unfold rooted; rw [decide_eq_decide]
  exact ⟨fun a i hi => a i (by omega), fun a i hi => by rcases (by omega : i < k ∨ i = k) with e | rfl; exact a i e; exact h⟩
theorem rooted_no {n : Nat} {G : Nat → Nat → Nat} {k : Nat} (h : kern n (pw n (G k) n) = 0) : rooted n G (k + 1) = false := by
  unfold rooted; rw [decide_eq_false_iff_not]; exact fun a => a k (by omega) h
theorem rooted_all {n : Nat} {G : Nat → Nat → Nat} {k : Nat} (h : rooted n G k = true) : ∀ i, i < k → kern n (pw n (G i) n) ≠ 0 := by unfold rooted at h; simpa using h
theorem rowat_bel {w w' : World} {A o B : Nat} {n r0 r1 r2 r3 r4 : Int} (h : RowAt w A o n r0 r1 r2 r3 r4) (hb : Below B w w') (hl : A < B) : RowAt w' A o n r0 r1 r2 r3 r4 :=
  ⟨(hb.cell hl).trans h.1, (hb.cell hl).trans h.2.1, (hb.cell hl).trans h.2.2.1, (hb.cell hl).trans h.2.2.2.1, (hb.cell hl).trans h.2.2.2.2.1, (hb.cell hl).trans h.2.2.2.2.2⟩
theorem keepRS {w w' : World} {A o B : Nat} {n r0 r1 r2 r3 r4 m s0 s1 s2 s3 s4 : Int} (h : Row6 w B m s0 s1 s2 s3 s4 ∧ RowAt w A o n r0 r1 r2 r3 r4) (hb : Below w.heap.size w w') : Row6 w' B m s0 s1 s2 s3 s4 ∧ RowAt w' A o n r0 r1 r2 r3 r4 :=
  ⟨row_below h.1 hb, rowat_bel h.2 hb (cell_lt h.2.1)⟩
theorem keepDrew {w : World} {A o B : Nat} {n r0 r1 r2 r3 r4 m s0 s1 s2 s3 s4 : Int} (h : Row6 w B m s0 s1 s2 s3 s4 ∧ RowAt w A o n r0 r1 r2 r3 r4) : Row6 w.drew B m s0 s1 s2 s3 s4 ∧ RowAt w.drew A o n r0 r1 r2 r3 r4 := h
theorem keepSet {w : World} {A o B p : Nat} {n r0 r1 r2 r3 r4 m s0 s1 s2 s3 s4 : Int} (h : Row6 w B m s0 s1 s2 s3 s4 ∧ RowAt w A o n r0 r1 r2 r3 r4) (hB : B < p) (hA : A < p) (y0 y1 y2 y3 y4 y5 : Value) :
    Row6 ((((((w.setCell ⟨p, 0, none⟩ y0).setCell ⟨p, 1, none⟩ y1).setCell ⟨p, 2, none⟩ y2).setCell ⟨p, 3, none⟩ y3).setCell ⟨p, 4, none⟩ y4).setCell ⟨p, 5, none⟩ y5) B m s0 s1 s2 s3 s4 ∧ RowAt ((((((w.setCell ⟨p, 0, none⟩ y0).setCell ⟨p, 1, none⟩ y1).setCell ⟨p, 2, none⟩ y2).setCell ⟨p, 3, none⟩ y3).setCell ⟨p, 4, none⟩ y4).setCell ⟨p, 5, none⟩ y5) A o n r0 r1 r2 r3 r4 :=
  ⟨row_bel (B := p) h.1 (below_set6 (Below.refl _ _) (Nat.le_refl _) _ _ _ _ _ _) hB, rowat_bel (B := p) h.2 (below_set6 (Below.refl _ _) (Nat.le_refl _) _ _ _ _ _ _) hA⟩
/-- A box with a graph, and an error that is none. -/
def Boxed (n : Nat) (r : Nat → Nat) (W : World) (s13 s14 : Value) (wx : World) : Prop := ∃ p : Nat, s13 = .pointer (some ⟨p, 0, none⟩) ∧ s14 = .int .i64 0 ∧ Own wx p 24 (gl n r) ∧ W.heap.size ≤ p ∧ Below W.heap.size W wx
theorem own_far6 {w : World} {B p : Nat} {t : TypeId} {cs : List Value} (h : Own w B t cs) (hp : p ≠ B) (y0 y1 y2 y3 y4 y5 : Value) :
    Own ((((((w.setCell ⟨p, 0, none⟩ y0).setCell ⟨p, 1, none⟩ y1).setCell ⟨p, 2, none⟩ y2).setCell ⟨p, 3, none⟩ y3).setCell ⟨p, 4, none⟩ y4).setCell ⟨p, 5, none⟩ y5) B t cs :=
  (((((h.set_far hp y0).set_far hp y1).set_far hp y2).set_far hp y3).set_far hp y4).set_far hp y5
set_option maxRecDepth 100000 in
set_option maxHeartbeats 8000000 in
theorem roots_ok {n : Nat} {G : Nat → Nat → Nat} (hG : ∀ i, i < 4 → WF n (G i)) (w : World) : Calls Tryd.prog 10 #[.agg #[.int .i64 n, .int .i64 (G 0 0), .int .i64 (G 0 1), .int .i64 (G 0 2), .int .i64 (G 0 3), .int .i64 (G 0 4), .int .i64 n, .int .i64 (G 1 0), .int .i64 (G 1 1), .int .i64 (G 1 2), .int .i64 (G 1 3), .int .i64 (G 1 4), .int .i64 n, .int .i64 (G 2 0), .int .i64 (G 2 1), .int .i64 (G 2 2), .int .i64 (G 2 3), .int .i64 (G 2 4), .int .i64 n, .int .i64 (G 3 0), .int .i64 (G 3 1), .int .i64 (G 3 2), .int .i64 (G 3 3), .int .i64 (G 3 4)]] w fun e w' => e = .returned (.bool true) ∧ Below w.heap.size w w' := by
  have h1 := (hG 0 (by omega)).pos
  have h5 := (hG 0 (by omega)).top
  have HG := Lib.hid hG
  have HC15 := Lib.hid (fun k => (product_wf ((hG 0 (by omega)).pow0 k) (hG 0 (by omega))))
  have HWP := Lib.hid (fun k (hk : k ≤ 4) => WF.prodOf h1 h5 k (fun i hi => hG i (by omega)))
  have HC16 := Lib.hid (fun k (hk : k < 4) => product_wf (WF.prodOf h1 h5 k (fun i hi => hG i (by omega))) (hG k hk))
  have HC17 := Lib.hid (fun k (hk : k < 4) => roots35_wf (hG k hk))
  unfold pairV at HC15 HC16
  clear hG
  have T0 := Lib.hid (below_alloc w (.cells #[.int .i64 n, .int .i64 (G 0 0), .int .i64 (G 0 1), .int .i64 (G 0 2), .int .i64 (G 0 3), .int .i64 (G 0 4), .int .i64 n, .int .i64 (G 1 0), .int .i64 (G 1 1), .int .i64 (G 1 2), .int .i64 (G 1 3), .int .i64 (G 1 4), .int .i64 n, .int .i64 (G 2 0), .int .i64 (G 2 1), .int .i64 (G 2 2), .int .i64 (G 2 3), .int .i64 (G 2 4), .int .i64 n, .int .i64 (G 3 0), .int .i64 (G 3 1), .int .i64 (G 3 2), .int .i64 (G 3 3), .int .i64 (G 3 4)] 73))
  have O0 := Lib.hid (own_new w [.int .i64 n, .int .i64 (G 0 0), .int .i64 (G 0 1), .int .i64 (G 0 2), .int .i64 (G 0 3), .int .i64 (G 0 4), .int .i64 n, .int .i64 (G 1 0), .int .i64 (G 1 1), .int .i64 (G 1 2), .int .i64 (G 1 3), .int .i64 (G 1 4), .int .i64 n, .int .i64 (G 2 0), .int .i64 (G 2 1), .int .i64 (G 2 2), .int .i64 (G 2 3), .int .i64 (G 2 4), .int .i64 n, .int .i64 (G 3 0), .int .i64 (G 3 1), .int .i64 (G 3 2), .int .i64 (G 3 3), .int .i64 (G 3 4)] 73)
  have HIX := Lib.hid (idx4g n G)
  have HSIL := Lib.hid (sil_fun n h1 h5)
  unfold pairV at HSIL
  go_enter Tryd.func10, Tryd.ntmps10
  go_upto_region 2 with (fail)
  refine wp_region_lit ?_
  refine wpList_load_mid rfl 73 (.tmp 1) rfl w.heap.size 0 rfl [.int .i64 n, .int .i64 (G 0 0), .int .i64 (G 0 1), .int .i64 (G 0 2), .int .i64 (G 0 3), .int .i64 (G 0 4), .int .i64 n, .int .i64 (G 1 0), .int .i64 (G 1 1), .int .i64 (G 1 2), .int .i64 (G 1 3), .int .i64 (G 1 4), .int .i64 n, .int .i64 (G 2 0), .int .i64 (G 2 1), .int .i64 (G 2 2), .int .i64 (G 2 3), .int .i64 (G 2 4), .int .i64 n, .int .i64 (G 3 0), .int .i64 (G 3 1), .int .i64 (G 3 2), .int .i64 (G 3 3), .int .i64 (G 3 4)] _ O0.out.range Tryd.underlying73 rfl (by kernel_rfl) ?_
  go_wp2
  have OW := Lib.hid (show Own _ _ 73 (cells4 n G) from O0.out)
  generalize hA : w.heap.size = A at *
  clear O0
  generalize World.alloc w _ = W1 at *
  go_loopw [26] (fun i wr => ∃ k : Nat, k ≤ 4 ∧ i = .int .i64 k ∧ Below A w wr ∧ Own wr A 73 (cells4 n G)) (fun i _ => 4 - (intOf i).toNat)
  case atStart => exact ⟨0, by omega, rfl, T0.out, OW.out⟩
  case round =>
    obtain ⟨k, hk, rfl, hbl, hown⟩ := hrel
    have HBL := Lib.hid hbl
    have HOW := Lib.hid hown
    have hAs := Lib.hid hown.lt
    clear hbl hown
    by_cases hlt : k < 4
    · have hix := HIX.out k hlt
      have TB := Lib.hid (HBL.out.alloc (by have := hAs.out; omega) (.cells #[.int .i64 n, .int .i64 (G k 0), .int .i64 (G k 1), .int .i64 (G k 2), .int .i64 (G k 3), .int .i64 (G k 4)] 24))
      have RN := Lib.hid (row_new wr n (G k 0) (G k 1) (G k 2) (G k 3) (G k 4))
      have OB := Lib.hid (HOW.out.alloc (.cells #[.int .i64 n, .int .i64 (G k 0), .int .i64 (G k 1), .int .i64 (G k 2), .int .i64 (G k 3), .int .i64 (G k 4)] 24))
      have HC := Lib.hid (rcheck_wf (HG.out k hlt))
      go_wp2_with (go_at_call 17; refine (HC.out _).mono ?_; rintro e w2 ⟨rfl, hb2⟩; have T2 := Lib.hid (TB.out.trans (bel_le hb2 (by rw [size_alloc]; have := hAs.out; omega))); have O2 := Lib.hid (OB.out.below hb2 OB.out.lt); have hn2 := (row_below RN.out hb2).1; clear hb2)
      exact ⟨⟨k + 1, by omega, by go_num, T2.out, O2.out⟩, by simp [intOf]; omega⟩
    · have hk' : k = 4 := by omega
      subst hk'
      clear hlt hk
      go_wp2_with (go_at_call 14; refine (HSIL.out _).mono ?_; rintro e w2 ⟨rfl, hb2⟩; have T2 := Lib.hid (HBL.out.trans (bel_le hb2 (by have := hAs.out; omega))); have O2 := Lib.hid (HOW.out.below hb2 HOW.out.lt); clear hb2)
      have O6 := Lib.hid ((own_new w2 (gl n (sil n)) 24).alloc (.cells ⟨gl n (sil n)⟩ 24))
      have O8 := Lib.hid (own_new (w2.alloc (.cells ⟨gl n (sil n)⟩ 24)) (gl n (sil n)) 24)
      have OA := Lib.hid ((O2.out.alloc (.cells ⟨gl n (sil n)⟩ 24)).alloc (.cells ⟨gl n (sil n)⟩ 24))
      have g0 := O2.out.lt
      have T3 := Lib.hid ((T2.out.alloc (by omega) (.cells ⟨gl n (sil n)⟩ 24)).alloc (by rw [size_alloc]; omega) (.cells ⟨gl n (sil n)⟩ 24))
      rw [size_alloc] at O8
      unfold gl at O6 O8 OA T3
      clear T2 O2 HOW HBL
      generalize World.alloc (World.alloc w2 _) _ = W3 at *
      generalize hB : w2.heap.size = B at *
      clear hB
      go_loopw [9, 50] (fun s9 i wr => ∃ k : Nat, k ≤ n - 1 ∧ i = .int .i64 k ∧ s9 = .bool (rooted n G k) ∧ Below A w wr ∧ Own wr A 73 (cells4 n G) ∧ Own wr B 24 (gl n (pow0 n (G 0) k)) ∧ Own wr (B + 1) 24 (gl n (prodOf n G k))) (fun _ i _ => n - 1 - (intOf i).toNat)
      case atStart => exact ⟨0, Nat.zero_le _, rfl, by rw [rooted_zero], T3.out, OA.out, O6.out, O8.out⟩
      case round =>
        obtain ⟨k, hk, rfl, rfl, hbl, hoa, ho6, ho8⟩ := hrel
        have HBL := Lib.hid hbl
        have HOA := Lib.hid hoa
        have HO6 := Lib.hid ho6
        have HO8 := Lib.hid ho8
        clear hbl hoa ho6 ho8
        have q0 := HOA.out.cell (j := 0) (v := .int .i64 n) rfl
        have q1 := HOA.out.cell (j := 1) (v := .int .i64 (G 0 0)) rfl
        have q2 := HOA.out.cell (j := 2) (v := .int .i64 (G 0 1)) rfl
        have q3 := HOA.out.cell (j := 3) (v := .int .i64 (G 0 2)) rfl
        have q4 := HOA.out.cell (j := 4) (v := .int .i64 (G 0 3)) rfl
        have q5 := HOA.out.cell (j := 5) (v := .int .i64 (G 0 4)) rfl
        unfold gl at HO6 HO8
        have c0 := HO6.out.cell (j := 0) (v := .int .i64 n) rfl
        have c1 := HO6.out.cell (j := 1) (v := .int .i64 (pow0 n (G 0) k 0 : Nat)) rfl
        have c2 := HO6.out.cell (j := 2) (v := .int .i64 (pow0 n (G 0) k 1 : Nat)) rfl
        have c3 := HO6.out.cell (j := 3) (v := .int .i64 (pow0 n (G 0) k 2 : Nat)) rfl
        have c4 := HO6.out.cell (j := 4) (v := .int .i64 (pow0 n (G 0) k 3 : Nat)) rfl
        have c5 := HO6.out.cell (j := 5) (v := .int .i64 (pow0 n (G 0) k 4 : Nat)) rfl
        by_cases hlt : k < n - 1
        · have hk4 : k < 4 := by omega
          have hkz : (0 : Int) ≤ (k : Int) := by omega
          have hk4i : (k : Int) < 4 := by omega
          have hk4j : (k : Int) < ((4 : Nat) : Int) := by omega
          have C15 := Lib.hid (HC15.out k)
          have C16 := Lib.hid (HC16.out k hk4)
          have C17 := Lib.hid (HC17.out k hk4)
          have hlt' : (k : Int) < (n : Int) - 1 := by omega
          have gA := HOA.out.lt
          have g6 := HO6.out.lt
          have g8 := HO8.out.lt
          go_wp2_with (go_at_call 21; refine (C15.out _).mono ?_; rintro e w3 ⟨rfl, hb3⟩; have T4 := Lib.hid ((HBL.out.trans (bel_le hb3 (by omega))).alloc (by have := hb3.size; omega) (.cells #[.int .i64 n, .int .i64 (prod n (pow0 n (G 0) k) (G 0) 0 : Nat), .int .i64 (prod n (pow0 n (G 0) k) (G 0) 1 : Nat), .int .i64 (prod n (pow0 n (G 0) k) (G 0) 2 : Nat), .int .i64 (prod n (pow0 n (G 0) k) (G 0) 3 : Nat), .int .i64 (prod n (pow0 n (G 0) k) (G 0) 4 : Nat)] 24)); have OA4 := Lib.hid ((HOA.out.below hb3 gA).alloc (.cells #[.int .i64 n, .int .i64 (prod n (pow0 n (G 0) k) (G 0) 0 : Nat), .int .i64 (prod n (pow0 n (G 0) k) (G 0) 1 : Nat), .int .i64 (prod n (pow0 n (G 0) k) (G 0) 2 : Nat), .int .i64 (prod n (pow0 n (G 0) k) (G 0) 3 : Nat), .int .i64 (prod n (pow0 n (G 0) k) (G 0) 4 : Nat)] 24)); have O64 := Lib.hid ((HO6.out.below hb3 g6).alloc (.cells #[.int .i64 n, .int .i64 (prod n (pow0 n (G 0) k) (G 0) 0 : Nat), .int .i64 (prod n (pow0 n (G 0) k) (G 0) 1 : Nat), .int .i64 (prod n (pow0 n (G 0) k) (G 0) 2 : Nat), .int .i64 (prod n (pow0 n (G 0) k) (G 0) 3 : Nat), .int .i64 (prod n (pow0 n (G 0) k) (G 0) 4 : Nat)] 24)); have O84 := Lib.hid ((HO8.out.below hb3 g8).alloc (.cells #[.int .i64 n, .int .i64 (prod n (pow0 n (G 0) k) (G 0) 0 : Nat), .int .i64 (prod n (pow0 n (G 0) k) (G 0) 1 : Nat), .int .i64 (prod n (pow0 n (G 0) k) (G 0) 2 : Nat), .int .i64 (prod n (pow0 n (G 0) k) (G 0) 3 : Nat), .int .i64 (prod n (pow0 n (G 0) k) (G 0) 4 : Nat)] 24)); have O11 := Lib.hid (own_new w3 [.int .i64 n, .int .i64 (prod n (pow0 n (G 0) k) (G 0) 0 : Nat), .int .i64 (prod n (pow0 n (G 0) k) (G 0) 1 : Nat), .int .i64 (prod n (pow0 n (G 0) k) (G 0) 2 : Nat), .int .i64 (prod n (pow0 n (G 0) k) (G 0) 3 : Nat), .int .i64 (prod n (pow0 n (G 0) k) (G 0) 4 : Nat)] 24); have g3 := hb3.size; clear hb3)
          clear q0 q1 q2 q3 q4 q5 c0 c1 c2 c3 c4 c5
          generalize World.alloc w3 _ = W5 at *
          generalize hB11 : w3.heap.size = B11 at *
          clear hB11
          have hsd := And.intro (row6_of O84.out) (row4 OA4.out k hk4)
          have hsdd := keepDrew hsd
          have HO0 := Lib.hid (fun (w4 : World) (h : Below (World.alloc W5 (.cells #[.int .i64 0, .int .i64 0, .int .i64 0, .int .i64 0, .int .i64 0, .int .i64 0] 24)).drew.heap.size (World.alloc W5 (.cells #[.int .i64 0, .int .i64 0, .int .i64 0, .int .i64 0, .int .i64 0, .int .i64 0] 24)).drew w4) => Own.below (Own.drew (own_new W5 [.int .i64 0, .int .i64 0, .int .i64 0, .int .i64 0, .int .i64 0, .int .i64 0] 24)) h (Own.lt (Own.drew (own_new W5 [.int .i64 0, .int .i64 0, .int .i64 0, .int .i64 0, .int .i64 0, .int .i64 0] 24))))
          have k8 := O84.out.lt
          have kA := OA4.out.lt
          go_cut [13, 14] from 52 to 88 (fun s13 s14 wx => Boxed n (prod n (prodOf n G k) (G k)) W5 s13 s14 wx)
          case first =>
            have hsa := keepRS hsd (below_alloc W5 (.cells #[.int .i64 0, .int .i64 0, .int .i64 0, .int .i64 0, .int .i64 0, .int .i64 0] 24))
            obtain ⟨⟨u0, u1, u2, u3, u4, u5⟩, v0, v1, v2, v3, v4, v5⟩ := hsd
            obtain ⟨⟨s0, s1, s2, s3, s4, s5⟩, t0, t1, t2, t3, t4, t5⟩ := hsa
            refine wp_region_any (by kernel_rfl) ?_
            change wpAny _ _ _ _ _ _ _ (World.drew _)
            refine wpAny_take (i := 1) (v := .int .i64 k) rfl (by kernel_rfl) (by kernel_rfl) (by kernel_rfl) (fun _ _ _ h => h) (Or.inl ⟨by kernel_rfl, fun w => by go_simp⟩) ?_
            (try go_simp)
            refine wpAny_take (i := 2) (v := .pointer (some ⟨A, k * 6, none⟩)) rfl (by kernel_rfl) (by kernel_rfl) (by kernel_rfl) (fun _ _ _ h => h) (Or.inl ⟨by kernel_rfl, fun w => by go_simp⟩) ?_
            (try go_simp)
            refine wpAny_ready (rs := [0, 3, 8]) (by kernel_rfl) (by simp) ?_
            refine AllReady.cons rfl (fun K hK => ?_) (AllReady.cons rfl (fun K hK => ?_) (AllReady.cons rfl (fun K hK => ?_) AllReady.nil))
            · go_simp
              (refine hK _ _ ?_; clear hK K)
              refine wpAny_ready (rs := [3, 8]) (by kernel_rfl) (by simp) ?_
              refine AllReady.cons rfl (fun K hK => ?_) (AllReady.cons rfl (fun K hK => ?_) AllReady.nil)
              · go_simp
                (refine hK _ _ ?_; clear hK K)
                refine wpAny_ready (rs := [4, 8]) (by kernel_rfl) (by simp) ?_
                refine AllReady.cons rfl (fun K hK => ?_) (AllReady.cons rfl (fun K hK => ?_) AllReady.nil)
                · go_simp
                  go_wp2_with (go_at_call 21; refine (C16.out _).mono ?_; rintro e w4 ⟨rfl, hb21⟩)
                  refine wpAny_take (i := 5) (v := .tuple #[.agg #[.int .i64 n, .int .i64 (prod n (prodOf n G k) (G k) 0 : Nat), .int .i64 (prod n (prodOf n G k) (G k) 1 : Nat), .int .i64 (prod n (prodOf n G k) (G k) 2 : Nat), .int .i64 (prod n (prodOf n G k) (G k) 3 : Nat), .int .i64 (prod n (prodOf n G k) (G k) 4 : Nat)], .int .i64 0]) rfl (by kernel_rfl) (by kernel_rfl) (by kernel_rfl) (fun _ _ _ h => h) (Or.inl ⟨by kernel_rfl, fun w => by go_simp⟩) ?_
                  (try go_simp)
                  refine wpAny_take (i := 6) (v := .agg #[.int .i64 n, .int .i64 (prod n (prodOf n G k) (G k) 0 : Nat), .int .i64 (prod n (prodOf n G k) (G k) 1 : Nat), .int .i64 (prod n (prodOf n G k) (G k) 2 : Nat), .int .i64 (prod n (prodOf n G k) (G k) 3 : Nat), .int .i64 (prod n (prodOf n G k) (G k) 4 : Nat)]) rfl (by kernel_rfl) (by kernel_rfl) (by kernel_rfl) (fun _ _ _ h => h) (Or.inl ⟨by kernel_rfl, fun w => by go_simp⟩) ?_
                  (try go_simp)
                  refine wpAny_take (i := 7) (v := .int .i64 0) rfl (by kernel_rfl) (by kernel_rfl) (by kernel_rfl) (fun _ _ _ h => h) (Or.inl ⟨by kernel_rfl, fun w => by go_simp⟩) ?_
                  (try go_simp)
                  refine wpAny_ready (rs := [8]) (by kernel_rfl) (by simp) ?_
                  refine AllReady.cons rfl (fun K hK => ?_) AllReady.nil
                  go_simp
                  (refine hK _ _ ?_; clear hK K)
                  refine wpAny_ready (rs := [9]) (by kernel_rfl) (by simp) ?_
                  refine AllReady.cons rfl (fun K hK => ?_) AllReady.nil
                  go_simp
                  (refine hK _ _ ?_; clear hK K)
                  refine wpAny_ready (rs := [10]) (by kernel_rfl) (by simp) ?_
                  refine AllReady.cons rfl (fun K hK => ?_) AllReady.nil
                  go_simp
                  (refine hK _ _ ?_; clear hK K)
                  refine wpAny_done (by kernel_rfl) ?_ _
                  go_wp2_with fail
                  go_meet
                  have b := (Below.refl W5.heap.size W5).drew.trans hb21
                  exact ⟨_, rfl, rfl, own_new w4 _ 24, b.size, b.alloc b.size _⟩
                · go_simp
                  (refine hK _ _ ?_; clear hK K)
                  refine wpAny_ready (rs := [4]) (by kernel_rfl) (by simp) ?_
                  refine AllReady.cons rfl (fun K hK => ?_) AllReady.nil
                  go_simp
                  go_wp2_with (go_at_call 21; refine (C16.out _).mono ?_; rintro e w4 ⟨rfl, hb21⟩; have OO := HO0.out _ hb21; have x0 := OO.cell (j := 0) (v := .int .i64 0) rfl; have x1 := OO.cell (j := 1) (v := .int .i64 0) rfl; have x2 := OO.cell (j := 2) (v := .int .i64 0) rfl; have x3 := OO.cell (j := 3) (v := .int .i64 0) rfl; have x4 := OO.cell (j := 4) (v := .int .i64 0) rfl; have x5 := OO.cell (j := 5) (v := .int .i64 0) rfl; have y0 := OO.free 0; have y1 := OO.free 1; have y2 := OO.free 2; have y3 := OO.free 3; have y4 := OO.free 4; have y5 := OO.free 5)
                  refine wpAny_take (i := 5) (v := .tuple #[.agg #[.int .i64 n, .int .i64 (prod n (prodOf n G k) (G k) 0 : Nat), .int .i64 (prod n (prodOf n G k) (G k) 1 : Nat), .int .i64 (prod n (prodOf n G k) (G k) 2 : Nat), .int .i64 (prod n (prodOf n G k) (G k) 3 : Nat), .int .i64 (prod n (prodOf n G k) (G k) 4 : Nat)], .int .i64 0]) rfl (by kernel_rfl) (by kernel_rfl) (by kernel_rfl) (fun _ _ _ h => h) (Or.inl ⟨by kernel_rfl, fun w => by go_simp⟩) ?_
                  (try go_simp)
                  refine wpAny_take (i := 6) (v := .agg #[.int .i64 n, .int .i64 (prod n (prodOf n G k) (G k) 0 : Nat), .int .i64 (prod n (prodOf n G k) (G k) 1 : Nat), .int .i64 (prod n (prodOf n G k) (G k) 2 : Nat), .int .i64 (prod n (prodOf n G k) (G k) 3 : Nat), .int .i64 (prod n (prodOf n G k) (G k) 4 : Nat)]) rfl (by kernel_rfl) (by kernel_rfl) (by kernel_rfl) (fun _ _ _ h => h) (Or.inl ⟨by kernel_rfl, fun w => by go_simp⟩) ?_
                  (try go_simp)
                  refine wpAny_take (i := 7) (v := .int .i64 0) rfl (by kernel_rfl) (by kernel_rfl) (by kernel_rfl) (fun _ _ _ h => h) (Or.inl ⟨by kernel_rfl, fun w => by go_simp⟩) ?_
                  (try go_simp)
                  refine wpAny_ready (rs := [9]) (by kernel_rfl) (by simp) ?_
                  refine AllReady.cons rfl (fun K hK => ?_) AllReady.nil
                  go_simp
                  (refine hK _ _ ?_; clear hK K)
                  refine wpAny_ready (rs := [10]) (by kernel_rfl) (by simp) ?_
                  refine AllReady.cons rfl (fun K hK => ?_) AllReady.nil
                  go_simp
                  (refine hK _ _ ?_; clear hK K)
                  refine wpAny_done (by kernel_rfl) ?_ _
                  go_wp2_with fail
                  go_meet
                  have b := (below_alloc W5 (.cells #[.int .i64 0, .int .i64 0, .int .i64 0, .int .i64 0, .int .i64 0, .int .i64 0] 24)).drew
                  have b2 := b.trans (bel_le hb21 b.size)
                  exact ⟨_, rfl, rfl, own_set6 OO _ _ _ _ _ _, Nat.le_refl _, below_set6 b2 (Nat.le_refl _) _ _ _ _ _ _⟩
              · go_simp
                (refine hK _ _ ?_; clear hK K)
                refine wpAny_ready (rs := [3]) (by kernel_rfl) (by simp) ?_
                refine AllReady.cons rfl (fun K hK => ?_) AllReady.nil
                go_simp
                (refine hK _ _ ?_; clear hK K)
                refine wpAny_ready (rs := [4]) (by kernel_rfl) (by simp) ?_
                refine AllReady.cons rfl (fun K hK => ?_) AllReady.nil
                go_simp
                go_wp2_with (go_at_call 21; refine (C16.out _).mono ?_; rintro e w4 ⟨rfl, hb21⟩; have OO := HO0.out _ hb21; have x0 := OO.cell (j := 0) (v := .int .i64 0) rfl; have x1 := OO.cell (j := 1) (v := .int .i64 0) rfl; have x2 := OO.cell (j := 2) (v := .int .i64 0) rfl; have x3 := OO.cell (j := 3) (v := .int .i64 0) rfl; have x4 := OO.cell (j := 4) (v := .int .i64 0) rfl; have x5 := OO.cell (j := 5) (v := .int .i64 0) rfl; have y0 := OO.free 0; have y1 := OO.free 1; have y2 := OO.free 2; have y3 := OO.free 3; have y4 := OO.free 4; have y5 := OO.free 5)
                refine wpAny_take (i := 5) (v := .tuple #[.agg #[.int .i64 n, .int .i64 (prod n (prodOf n G k) (G k) 0 : Nat), .int .i64 (prod n (prodOf n G k) (G k) 1 : Nat), .int .i64 (prod n (prodOf n G k) (G k) 2 : Nat), .int .i64 (prod n (prodOf n G k) (G k) 3 : Nat), .int .i64 (prod n (prodOf n G k) (G k) 4 : Nat)], .int .i64 0]) rfl (by kernel_rfl) (by kernel_rfl) (by kernel_rfl) (fun _ _ _ h => h) (Or.inl ⟨by kernel_rfl, fun w => by go_simp⟩) ?_
                (try go_simp)
                refine wpAny_take (i := 6) (v := .agg #[.int .i64 n, .int .i64 (prod n (prodOf n G k) (G k) 0 : Nat), .int .i64 (prod n (prodOf n G k) (G k) 1 : Nat), .int .i64 (prod n (prodOf n G k) (G k) 2 : Nat), .int .i64 (prod n (prodOf n G k) (G k) 3 : Nat), .int .i64 (prod n (prodOf n G k) (G k) 4 : Nat)]) rfl (by kernel_rfl) (by kernel_rfl) (by kernel_rfl) (fun _ _ _ h => h) (Or.inl ⟨by kernel_rfl, fun w => by go_simp⟩) ?_
                (try go_simp)
                refine wpAny_take (i := 7) (v := .int .i64 0) rfl (by kernel_rfl) (by kernel_rfl) (by kernel_rfl) (fun _ _ _ h => h) (Or.inl ⟨by kernel_rfl, fun w => by go_simp⟩) ?_
                (try go_simp)
                refine wpAny_ready (rs := [9]) (by kernel_rfl) (by simp) ?_
                refine AllReady.cons rfl (fun K hK => ?_) AllReady.nil
                go_simp
                (refine hK _ _ ?_; clear hK K)
                refine wpAny_ready (rs := [10]) (by kernel_rfl) (by simp) ?_
                refine AllReady.cons rfl (fun K hK => ?_) AllReady.nil
                go_simp
                (refine hK _ _ ?_; clear hK K)
                refine wpAny_done (by kernel_rfl) ?_ _
                go_wp2_with fail
                go_meet
                have b := (below_alloc W5 (.cells #[.int .i64 0, .int .i64 0, .int .i64 0, .int .i64 0, .int .i64 0, .int .i64 0] 24)).drew
                have b2 := b.trans (bel_le hb21 b.size)
                exact ⟨_, rfl, rfl, own_set6 OO _ _ _ _ _ _, Nat.le_refl _, below_set6 b2 (Nat.le_refl _) _ _ _ _ _ _⟩
            · go_simp
              (refine hK _ _ ?_; clear hK K)
              refine wpAny_ready (rs := [0, 8]) (by kernel_rfl) (by simp) ?_
              refine AllReady.cons rfl (fun K hK => ?_) (AllReady.cons rfl (fun K hK => ?_) AllReady.nil)
              · go_simp
                (refine hK _ _ ?_; clear hK K)
                refine wpAny_ready (rs := [4, 8]) (by kernel_rfl) (by simp) ?_
                refine AllReady.cons rfl (fun K hK => ?_) (AllReady.cons rfl (fun K hK => ?_) AllReady.nil)
                · go_simp
                  go_wp2_with (go_at_call 21; refine (C16.out _).mono ?_; rintro e w4 ⟨rfl, hb21⟩)
                  refine wpAny_take (i := 5) (v := .tuple #[.agg #[.int .i64 n, .int .i64 (prod n (prodOf n G k) (G k) 0 : Nat), .int .i64 (prod n (prodOf n G k) (G k) 1 : Nat), .int .i64 (prod n (prodOf n G k) (G k) 2 : Nat), .int .i64 (prod n (prodOf n G k) (G k) 3 : Nat), .int .i64 (prod n (prodOf n G k) (G k) 4 : Nat)], .int .i64 0]) rfl (by kernel_rfl) (by kernel_rfl) (by kernel_rfl) (fun _ _ _ h => h) (Or.inl ⟨by kernel_rfl, fun w => by go_simp⟩) ?_
                  (try go_simp)
                  refine wpAny_take (i := 6) (v := .agg #[.int .i64 n, .int .i64 (prod n (prodOf n G k) (G k) 0 : Nat), .int .i64 (prod n (prodOf n G k) (G k) 1 : Nat), .int .i64 (prod n (prodOf n G k) (G k) 2 : Nat), .int .i64 (prod n (prodOf n G k) (G k) 3 : Nat), .int .i64 (prod n (prodOf n G k) (G k) 4 : Nat)]) rfl (by kernel_rfl) (by kernel_rfl) (by kernel_rfl) (fun _ _ _ h => h) (Or.inl ⟨by kernel_rfl, fun w => by go_simp⟩) ?_
                  (try go_simp)
                  refine wpAny_take (i := 7) (v := .int .i64 0) rfl (by kernel_rfl) (by kernel_rfl) (by kernel_rfl) (fun _ _ _ h => h) (Or.inl ⟨by kernel_rfl, fun w => by go_simp⟩) ?_
                  (try go_simp)
                  refine wpAny_ready (rs := [8]) (by kernel_rfl) (by simp) ?_
                  refine AllReady.cons rfl (fun K hK => ?_) AllReady.nil
                  go_simp
                  (refine hK _ _ ?_; clear hK K)
                  refine wpAny_ready (rs := [9]) (by kernel_rfl) (by simp) ?_
                  refine AllReady.cons rfl (fun K hK => ?_) AllReady.nil
                  go_simp
                  (refine hK _ _ ?_; clear hK K)
                  refine wpAny_ready (rs := [10]) (by kernel_rfl) (by simp) ?_
                  refine AllReady.cons rfl (fun K hK => ?_) AllReady.nil
                  go_simp
                  (refine hK _ _ ?_; clear hK K)
                  refine wpAny_done (by kernel_rfl) ?_ _
                  go_wp2_with fail
                  go_meet
                  have b := (Below.refl W5.heap.size W5).drew.trans hb21
                  exact ⟨_, rfl, rfl, own_new w4 _ 24, b.size, b.alloc b.size _⟩
                · go_simp
                  (refine hK _ _ ?_; clear hK K)
                  refine wpAny_ready (rs := [4]) (by kernel_rfl) (by simp) ?_
                  refine AllReady.cons rfl (fun K hK => ?_) AllReady.nil
                  go_simp
                  go_wp2_with (go_at_call 21; refine (C16.out _).mono ?_; rintro e w4 ⟨rfl, hb21⟩; have OO := HO0.out _ hb21; have x0 := OO.cell (j := 0) (v := .int .i64 0) rfl; have x1 := OO.cell (j := 1) (v := .int .i64 0) rfl; have x2 := OO.cell (j := 2) (v := .int .i64 0) rfl; have x3 := OO.cell (j := 3) (v := .int .i64 0) rfl; have x4 := OO.cell (j := 4) (v := .int .i64 0) rfl; have x5 := OO.cell (j := 5) (v := .int .i64 0) rfl; have y0 := OO.free 0; have y1 := OO.free 1; have y2 := OO.free 2; have y3 := OO.free 3; have y4 := OO.free 4; have y5 := OO.free 5)
                  refine wpAny_take (i := 5) (v := .tuple #[.agg #[.int .i64 n, .int .i64 (prod n (prodOf n G k) (G k) 0 : Nat), .int .i64 (prod n (prodOf n G k) (G k) 1 : Nat), .int .i64 (prod n (prodOf n G k) (G k) 2 : Nat), .int .i64 (prod n (prodOf n G k) (G k) 3 : Nat), .int .i64 (prod n (prodOf n G k) (G k) 4 : Nat)], .int .i64 0]) rfl (by kernel_rfl) (by kernel_rfl) (by kernel_rfl) (fun _ _ _ h => h) (Or.inl ⟨by kernel_rfl, fun w => by go_simp⟩) ?_
                  (try go_simp)
                  refine wpAny_take (i := 6) (v := .agg #[.int .i64 n, .int .i64 (prod n (prodOf n G k) (G k) 0 : Nat), .int .i64 (prod n (prodOf n G k) (G k) 1 : Nat), .int .i64 (prod n (prodOf n G k) (G k) 2 : Nat), .int .i64 (prod n (prodOf n G k) (G k) 3 : Nat), .int .i64 (prod n (prodOf n G k) (G k) 4 : Nat)]) rfl (by kernel_rfl) (by kernel_rfl) (by kernel_rfl) (fun _ _ _ h => h) (Or.inl ⟨by kernel_rfl, fun w => by go_simp⟩) ?_
                  (try go_simp)
                  refine wpAny_take (i := 7) (v := .int .i64 0) rfl (by kernel_rfl) (by kernel_rfl) (by kernel_rfl) (fun _ _ _ h => h) (Or.inl ⟨by kernel_rfl, fun w => by go_simp⟩) ?_
                  (try go_simp)
                  refine wpAny_ready (rs := [9]) (by kernel_rfl) (by simp) ?_
                  refine AllReady.cons rfl (fun K hK => ?_) AllReady.nil
                  go_simp
                  (refine hK _ _ ?_; clear hK K)
                  refine wpAny_ready (rs := [10]) (by kernel_rfl) (by simp) ?_
                  refine AllReady.cons rfl (fun K hK => ?_) AllReady.nil
                  go_simp
                  (refine hK _ _ ?_; clear hK K)
                  refine wpAny_done (by kernel_rfl) ?_ _
                  go_wp2_with fail
                  go_meet
                  have b := (below_alloc W5 (.cells #[.int .i64 0, .int .i64 0, .int .i64 0, .int .i64 0, .int .i64 0, .int .i64 0] 24)).drew
                  have b2 := b.trans (bel_le hb21 b.size)
                  exact ⟨_, rfl, rfl, own_set6 OO _ _ _ _ _ _, Nat.le_refl _, below_set6 b2 (Nat.le_refl _) _ _ _ _ _ _⟩
              · go_simp
                (refine hK _ _ ?_; clear hK K)
                refine wpAny_ready (rs := [0]) (by kernel_rfl) (by simp) ?_
                refine AllReady.cons rfl (fun K hK => ?_) AllReady.nil
                go_simp
                (refine hK _ _ ?_; clear hK K)
                refine wpAny_ready (rs := [4]) (by kernel_rfl) (by simp) ?_
                refine AllReady.cons rfl (fun K hK => ?_) AllReady.nil
                go_simp
                go_wp2_with (go_at_call 21; refine (C16.out _).mono ?_; rintro e w4 ⟨rfl, hb21⟩; have OO := HO0.out _ hb21; have x0 := OO.cell (j := 0) (v := .int .i64 0) rfl; have x1 := OO.cell (j := 1) (v := .int .i64 0) rfl; have x2 := OO.cell (j := 2) (v := .int .i64 0) rfl; have x3 := OO.cell (j := 3) (v := .int .i64 0) rfl; have x4 := OO.cell (j := 4) (v := .int .i64 0) rfl; have x5 := OO.cell (j := 5) (v := .int .i64 0) rfl; have y0 := OO.free 0; have y1 := OO.free 1; have y2 := OO.free 2; have y3 := OO.free 3; have y4 := OO.free 4; have y5 := OO.free 5)
                refine wpAny_take (i := 5) (v := .tuple #[.agg #[.int .i64 n, .int .i64 (prod n (prodOf n G k) (G k) 0 : Nat), .int .i64 (prod n (prodOf n G k) (G k) 1 : Nat), .int .i64 (prod n (prodOf n G k) (G k) 2 : Nat), .int .i64 (prod n (prodOf n G k) (G k) 3 : Nat), .int .i64 (prod n (prodOf n G k) (G k) 4 : Nat)], .int .i64 0]) rfl (by kernel_rfl) (by kernel_rfl) (by kernel_rfl) (fun _ _ _ h => h) (Or.inl ⟨by kernel_rfl, fun w => by go_simp⟩) ?_
                (try go_simp)
                refine wpAny_take (i := 6) (v := .agg #[.int .i64 n, .int .i64 (prod n (prodOf n G k) (G k) 0 : Nat), .int .i64 (prod n (prodOf n G k) (G k) 1 : Nat), .int .i64 (prod n (prodOf n G k) (G k) 2 : Nat), .int .i64 (prod n (prodOf n G k) (G k) 3 : Nat), .int .i64 (prod n (prodOf n G k) (G k) 4 : Nat)]) rfl (by kernel_rfl) (by kernel_rfl) (by kernel_rfl) (fun _ _ _ h => h) (Or.inl ⟨by kernel_rfl, fun w => by go_simp⟩) ?_
                (try go_simp)
                refine wpAny_take (i := 7) (v := .int .i64 0) rfl (by kernel_rfl) (by kernel_rfl) (by kernel_rfl) (fun _ _ _ h => h) (Or.inl ⟨by kernel_rfl, fun w => by go_simp⟩) ?_
                (try go_simp)
                refine wpAny_ready (rs := [9]) (by kernel_rfl) (by simp) ?_
                refine AllReady.cons rfl (fun K hK => ?_) AllReady.nil
                go_simp
                (refine hK _ _ ?_; clear hK K)
                refine wpAny_ready (rs := [10]) (by kernel_rfl) (by simp) ?_
                refine AllReady.cons rfl (fun K hK => ?_) AllReady.nil
                go_simp
                (refine hK _ _ ?_; clear hK K)
                refine wpAny_done (by kernel_rfl) ?_ _
                go_wp2_with fail
                go_meet
                have b := (below_alloc W5 (.cells #[.int .i64 0, .int .i64 0, .int .i64 0, .int .i64 0, .int .i64 0, .int .i64 0] 24)).drew
                have b2 := b.trans (bel_le hb21 b.size)
                exact ⟨_, rfl, rfl, own_set6 OO _ _ _ _ _ _, Nat.le_refl _, below_set6 b2 (Nat.le_refl _) _ _ _ _ _ _⟩
            · go_simp
              (refine hK _ _ ?_; clear hK K)
              refine wpAny_ready (rs := [0, 3]) (by kernel_rfl) (by simp) ?_
              refine AllReady.cons rfl (fun K hK => ?_) (AllReady.cons rfl (fun K hK => ?_) AllReady.nil)
              · go_simp
                (refine hK _ _ ?_; clear hK K)
                refine wpAny_ready (rs := [3]) (by kernel_rfl) (by simp) ?_
                refine AllReady.cons rfl (fun K hK => ?_) AllReady.nil
                go_simp
                (refine hK _ _ ?_; clear hK K)
                refine wpAny_ready (rs := [4]) (by kernel_rfl) (by simp) ?_
                refine AllReady.cons rfl (fun K hK => ?_) AllReady.nil
                go_simp
                go_wp2_with (go_at_call 21; refine (C16.out _).mono ?_; rintro e w4 ⟨rfl, hb21⟩; have OO := HO0.out _ hb21; have x0 := OO.cell (j := 0) (v := .int .i64 0) rfl; have x1 := OO.cell (j := 1) (v := .int .i64 0) rfl; have x2 := OO.cell (j := 2) (v := .int .i64 0) rfl; have x3 := OO.cell (j := 3) (v := .int .i64 0) rfl; have x4 := OO.cell (j := 4) (v := .int .i64 0) rfl; have x5 := OO.cell (j := 5) (v := .int .i64 0) rfl; have y0 := OO.free 0; have y1 := OO.free 1; have y2 := OO.free 2; have y3 := OO.free 3; have y4 := OO.free 4; have y5 := OO.free 5)
                refine wpAny_take (i := 5) (v := .tuple #[.agg #[.int .i64 n, .int .i64 (prod n (prodOf n G k) (G k) 0 : Nat), .int .i64 (prod n (prodOf n G k) (G k) 1 : Nat), .int .i64 (prod n (prodOf n G k) (G k) 2 : Nat), .int .i64 (prod n (prodOf n G k) (G k) 3 : Nat), .int .i64 (prod n (prodOf n G k) (G k) 4 : Nat)], .int .i64 0]) rfl (by kernel_rfl) (by kernel_rfl) (by kernel_rfl) (fun _ _ _ h => h) (Or.inl ⟨by kernel_rfl, fun w => by go_simp⟩) ?_
                (try go_simp)
                refine wpAny_take (i := 6) (v := .agg #[.int .i64 n, .int .i64 (prod n (prodOf n G k) (G k) 0 : Nat), .int .i64 (prod n (prodOf n G k) (G k) 1 : Nat), .int .i64 (prod n (prodOf n G k) (G k) 2 : Nat), .int .i64 (prod n (prodOf n G k) (G k) 3 : Nat), .int .i64 (prod n (prodOf n G k) (G k) 4 : Nat)]) rfl (by kernel_rfl) (by kernel_rfl) (by kernel_rfl) (fun _ _ _ h => h) (Or.inl ⟨by kernel_rfl, fun w => by go_simp⟩) ?_
                (try go_simp)
                refine wpAny_take (i := 7) (v := .int .i64 0) rfl (by kernel_rfl) (by kernel_rfl) (by kernel_rfl) (fun _ _ _ h => h) (Or.inl ⟨by kernel_rfl, fun w => by go_simp⟩) ?_
                (try go_simp)
                refine wpAny_ready (rs := [9]) (by kernel_rfl) (by simp) ?_
                refine AllReady.cons rfl (fun K hK => ?_) AllReady.nil
                go_simp
                (refine hK _ _ ?_; clear hK K)
                refine wpAny_ready (rs := [10]) (by kernel_rfl) (by simp) ?_
                refine AllReady.cons rfl (fun K hK => ?_) AllReady.nil
                go_simp
                (refine hK _ _ ?_; clear hK K)
                refine wpAny_done (by kernel_rfl) ?_ _
                go_wp2_with fail
                go_meet
                have b := (below_alloc W5 (.cells #[.int .i64 0, .int .i64 0, .int .i64 0, .int .i64 0, .int .i64 0, .int .i64 0] 24)).drew
                have b2 := b.trans (bel_le hb21 b.size)
                exact ⟨_, rfl, rfl, own_set6 OO _ _ _ _ _ _, Nat.le_refl _, below_set6 b2 (Nat.le_refl _) _ _ _ _ _ _⟩
              · go_simp
                (refine hK _ _ ?_; clear hK K)
                refine wpAny_ready (rs := [0]) (by kernel_rfl) (by simp) ?_
                refine AllReady.cons rfl (fun K hK => ?_) AllReady.nil
                go_simp
                (refine hK _ _ ?_; clear hK K)
                refine wpAny_ready (rs := [4]) (by kernel_rfl) (by simp) ?_
                refine AllReady.cons rfl (fun K hK => ?_) AllReady.nil
                go_simp
                go_wp2_with (go_at_call 21; refine (C16.out _).mono ?_; rintro e w4 ⟨rfl, hb21⟩; have OO := HO0.out _ hb21; have x0 := OO.cell (j := 0) (v := .int .i64 0) rfl; have x1 := OO.cell (j := 1) (v := .int .i64 0) rfl; have x2 := OO.cell (j := 2) (v := .int .i64 0) rfl; have x3 := OO.cell (j := 3) (v := .int .i64 0) rfl; have x4 := OO.cell (j := 4) (v := .int .i64 0) rfl; have x5 := OO.cell (j := 5) (v := .int .i64 0) rfl; have y0 := OO.free 0; have y1 := OO.free 1; have y2 := OO.free 2; have y3 := OO.free 3; have y4 := OO.free 4; have y5 := OO.free 5)
                refine wpAny_take (i := 5) (v := .tuple #[.agg #[.int .i64 n, .int .i64 (prod n (prodOf n G k) (G k) 0 : Nat), .int .i64 (prod n (prodOf n G k) (G k) 1 : Nat), .int .i64 (prod n (prodOf n G k) (G k) 2 : Nat), .int .i64 (prod n (prodOf n G k) (G k) 3 : Nat), .int .i64 (prod n (prodOf n G k) (G k) 4 : Nat)], .int .i64 0]) rfl (by kernel_rfl) (by kernel_rfl) (by kernel_rfl) (fun _ _ _ h => h) (Or.inl ⟨by kernel_rfl, fun w => by go_simp⟩) ?_
                (try go_simp)
                refine wpAny_take (i := 6) (v := .agg #[.int .i64 n, .int .i64 (prod n (prodOf n G k) (G k) 0 : Nat), .int .i64 (prod n (prodOf n G k) (G k) 1 : Nat), .int .i64 (prod n (prodOf n G k) (G k) 2 : Nat), .int .i64 (prod n (prodOf n G k) (G k) 3 : Nat), .int .i64 (prod n (prodOf n G k) (G k) 4 : Nat)]) rfl (by kernel_rfl) (by kernel_rfl) (by kernel_rfl) (fun _ _ _ h => h) (Or.inl ⟨by kernel_rfl, fun w => by go_simp⟩) ?_
                (try go_simp)
                refine wpAny_take (i := 7) (v := .int .i64 0) rfl (by kernel_rfl) (by kernel_rfl) (by kernel_rfl) (fun _ _ _ h => h) (Or.inl ⟨by kernel_rfl, fun w => by go_simp⟩) ?_
                (try go_simp)
                refine wpAny_ready (rs := [9]) (by kernel_rfl) (by simp) ?_
                refine AllReady.cons rfl (fun K hK => ?_) AllReady.nil
                go_simp
                (refine hK _ _ ?_; clear hK K)
                refine wpAny_ready (rs := [10]) (by kernel_rfl) (by simp) ?_
                refine AllReady.cons rfl (fun K hK => ?_) AllReady.nil
                go_simp
                (refine hK _ _ ?_; clear hK K)
                refine wpAny_done (by kernel_rfl) ?_ _
                go_wp2_with fail
                go_meet
                have b := (below_alloc W5 (.cells #[.int .i64 0, .int .i64 0, .int .i64 0, .int .i64 0, .int .i64 0, .int .i64 0] 24)).drew
                have b2 := b.trans (bel_le hb21 b.size)
                exact ⟨_, rfl, rfl, own_set6 OO _ _ _ _ _ _, Nat.le_refl _, below_set6 b2 (Nat.le_refl _) _ _ _ _ _ _⟩
          case rest =>
            obtain ⟨p, rfl, rfl, ho13, hp, hb5⟩ := hcut
            have T6 := Lib.hid (T4.out.trans (bel_le hb5 (by omega)))
            have OA6 := Lib.hid (OA4.out.below hb5 kA)
            have O66 := Lib.hid (O64.out.below hb5 O64.out.lt)
            have O86 := Lib.hid (O84.out.below hb5 k8)
            have O116 := Lib.hid (O11.out.below hb5 O11.out.lt)
            have O136 := Lib.hid ho13
            have k11 := O11.out.lt
            unfold gl at O136
            clear ho13 hb5 hsd hsdd HO0
            obtain ⟨r0, r1, r2, r3, r4, r5⟩ := row4 OA6.out k hk4
            have OAX := Lib.hid OA6.out
            go_wp2_with (go_at_call 35; refine (C17.out _).mono ?_; rintro e w7 ⟨rfl, hb7⟩; have T7 := Lib.hid (T6.out.trans (bel_le hb7 (by have := OA6.out.lt; omega))); have OA7 := Lib.hid (OA6.out.below hb7 OA6.out.lt); have O67 := Lib.hid (O66.out.below hb7 O66.out.lt); have O87 := Lib.hid (O86.out.below hb7 O86.out.lt); have O117 := Lib.hid (O116.out.below hb7 O116.out.lt); have O137 := Lib.hid (O136.out.below hb7 O136.out.lt); clear hb7)
            clear r0 r1 r2 r3 r4 r5
            have e0 := O117.out.cell (j := 0) (v := .int .i64 n) rfl
            have e1 := O117.out.cell (j := 1) (v := .int .i64 (prod n (pow0 n (G 0) k) (G 0) 0 : Nat)) rfl
            have e2 := O117.out.cell (j := 2) (v := .int .i64 (prod n (pow0 n (G 0) k) (G 0) 1 : Nat)) rfl
            have e3 := O117.out.cell (j := 3) (v := .int .i64 (prod n (pow0 n (G 0) k) (G 0) 2 : Nat)) rfl
            have e4 := O117.out.cell (j := 4) (v := .int .i64 (prod n (pow0 n (G 0) k) (G 0) 3 : Nat)) rfl
            have e5 := O117.out.cell (j := 5) (v := .int .i64 (prod n (pow0 n (G 0) k) (G 0) 4 : Nat)) rfl
            have f0 := O137.out.cell (j := 0) (v := .int .i64 n) rfl
            have f1 := O137.out.cell (j := 1) (v := .int .i64 (prod n (prodOf n G k) (G k) 0 : Nat)) rfl
            have f2 := O137.out.cell (j := 2) (v := .int .i64 (prod n (prodOf n G k) (G k) 1 : Nat)) rfl
            have f3 := O137.out.cell (j := 3) (v := .int .i64 (prod n (prodOf n G k) (G k) 2 : Nat)) rfl
            have f4 := O137.out.cell (j := 4) (v := .int .i64 (prod n (prodOf n G k) (G k) 3 : Nat)) rfl
            have f5 := O137.out.cell (j := 5) (v := .int .i64 (prod n (prodOf n G k) (G k) 4 : Nat)) rfl
            have s0 := O67.out.cell (j := 0) (v := .int .i64 n) rfl
            have s1 := O67.out.cell (j := 1) (v := .int .i64 (pow0 n (G 0) k 0 : Nat)) rfl
            have s2 := O67.out.cell (j := 2) (v := .int .i64 (pow0 n (G 0) k 1 : Nat)) rfl
            have s3 := O67.out.cell (j := 3) (v := .int .i64 (pow0 n (G 0) k 2 : Nat)) rfl
            have s4 := O67.out.cell (j := 4) (v := .int .i64 (pow0 n (G 0) k 3 : Nat)) rfl
            have s5 := O67.out.cell (j := 5) (v := .int .i64 (pow0 n (G 0) k 4 : Nat)) rfl
            have t0 := O87.out.cell (j := 0) (v := .int .i64 n) rfl
            have t1 := O87.out.cell (j := 1) (v := .int .i64 (prodOf n G k 0 : Nat)) rfl
            have t2 := O87.out.cell (j := 2) (v := .int .i64 (prodOf n G k 1 : Nat)) rfl
            have t3 := O87.out.cell (j := 3) (v := .int .i64 (prodOf n G k 2 : Nat)) rfl
            have t4 := O87.out.cell (j := 4) (v := .int .i64 (prodOf n G k 3 : Nat)) rfl
            have t5 := O87.out.cell (j := 5) (v := .int .i64 (prodOf n G k 4 : Nat)) rfl
            have y0 := O67.out.free 0
            have z0 := O87.out.free 0
            have y1 := O67.out.free 1
            have z1 := O87.out.free 1
            have y2 := O67.out.free 2
            have z2 := O87.out.free 2
            have y3 := O67.out.free 3
            have z3 := O87.out.free 3
            have y4 := O67.out.free 4
            have z4 := O87.out.free 4
            have y5 := O67.out.free 5
            have z5 := O87.out.free 5
            by_cases hker : kern n (pw n (G k) n) = 0
            · have HRN := Lib.hid (rooted_no hker)
              have hk0 : (((kern n (pw n (G k) n) : Nat) : Int) != 0) = false := by simp [hker]
              have HRD := Lib.hid (rfl : rooted n G k = rooted n G k)
              generalize hrb : rooted n G k = rb at *
              clear hrb hker
              generalize kern n (pw n (G k) n) = kv at *
              rcases rb with _ | _
              · refine wp_region_any (by kernel_rfl) ?_
                change wpAny _ _ _ _ _ _ _ (World.drew _)
                refine wpAny_take (i := 2) (v := .bool false) rfl (by kernel_rfl) (by kernel_rfl) (by kernel_rfl) (fun _ _ _ h => h) (Or.inl ⟨by kernel_rfl, fun w => by go_simp⟩) ?_
                (try go_simp)
                refine wpAny_take (i := 3) (v := .bool false) rfl (by kernel_rfl) (by kernel_rfl) (by kernel_rfl) (fun _ _ _ h => h) (Or.inl ⟨by kernel_rfl, fun w => by go_simp⟩) ?_
                (try go_simp)
                refine wpAny_take (i := 4) (v := undef) rfl (by kernel_rfl) (by kernel_rfl) (by kernel_rfl) (fun _ _ _ h => h) (Or.inr ⟨by kernel_rfl, rfl⟩) ?_
                (try go_simp)
                refine wpAny_take (i := 5) (v := undef) rfl (by kernel_rfl) (by kernel_rfl) (by kernel_rfl) (fun _ _ _ h => h) (Or.inr ⟨by kernel_rfl, rfl⟩) ?_
                (try go_simp)
                refine wpAny_take (i := 6) (v := .bool false) rfl (by kernel_rfl) (by kernel_rfl) (by kernel_rfl) (fun _ _ _ h => h) (Or.inl ⟨by kernel_rfl, fun w => by go_simp⟩) ?_
                (try go_simp)
                refine wpAny_ready (rs := [0, 1]) (by kernel_rfl) (by simp) ?_
                refine AllReady.cons rfl (fun K hK => ?_) (AllReady.cons rfl (fun K hK => ?_) AllReady.nil)
                · go_simp
                  (refine hK _ _ ?_; clear hK K)
                  refine wpAny_ready (rs := [1, 7]) (by kernel_rfl) (by simp) ?_
                  refine AllReady.cons rfl (fun K hK => ?_) (AllReady.cons rfl (fun K hK => ?_) AllReady.nil)
                  · go_simp
                    (refine hK _ _ ?_; clear hK K)
                    refine wpAny_ready (rs := [7]) (by kernel_rfl) (by simp) ?_
                    refine AllReady.cons rfl (fun K hK => ?_) AllReady.nil
                    go_simp
                    (refine hK _ _ ?_; clear hK K)
                    refine wpAny_ready (rs := [8]) (by kernel_rfl) (by simp) ?_
                    refine AllReady.cons rfl (fun K hK => ?_) AllReady.nil
                    go_simp
                    (refine hK _ _ ?_; clear hK K)
                    refine wpAny_ready (rs := [9]) (by kernel_rfl) (by simp) ?_
                    refine AllReady.cons rfl (fun K hK => ?_) AllReady.nil
                    go_simp
                    (refine hK _ _ ?_; clear hK K)
                    refine wpAny_done (by kernel_rfl) ?_ _
                    go_wp2
                    exact ⟨⟨k + 1, by omega, by go_num, by rw [HRN.out], (below_set6 (below_set6 T7.out (by omega) _ _ _ _ _ _) (by omega) _ _ _ _ _ _).drew, (own_far6 (own_far6 OA7.out (by omega) _ _ _ _ _ _) (by omega) _ _ _ _ _ _).drew, (own_far6 (own_set6 O67.out _ _ _ _ _ _) (by omega) _ _ _ _ _ _).drew, (own_set6 (own_far6 O87.out (by omega) _ _ _ _ _ _) _ _ _ _ _ _).drew⟩, by simp [intOf]; omega⟩
                  · go_simp
                    (refine hK _ _ ?_; clear hK K)
                    refine wpAny_ready (rs := [1]) (by kernel_rfl) (by simp) ?_
                    refine AllReady.cons rfl (fun K hK => ?_) AllReady.nil
                    go_simp
                    (refine hK _ _ ?_; clear hK K)
                    refine wpAny_ready (rs := [8]) (by kernel_rfl) (by simp) ?_
                    refine AllReady.cons rfl (fun K hK => ?_) AllReady.nil
                    go_simp
                    (refine hK _ _ ?_; clear hK K)
                    refine wpAny_ready (rs := [9]) (by kernel_rfl) (by simp) ?_
                    refine AllReady.cons rfl (fun K hK => ?_) AllReady.nil
                    go_simp
                    (refine hK _ _ ?_; clear hK K)
                    refine wpAny_done (by kernel_rfl) ?_ _
                    go_wp2
                    exact ⟨⟨k + 1, by omega, by go_num, by rw [HRN.out], (below_set6 (below_set6 T7.out (by omega) _ _ _ _ _ _) (by omega) _ _ _ _ _ _).drew, (own_far6 (own_far6 OA7.out (by omega) _ _ _ _ _ _) (by omega) _ _ _ _ _ _).drew, (own_far6 (own_set6 O67.out _ _ _ _ _ _) (by omega) _ _ _ _ _ _).drew, (own_set6 (own_far6 O87.out (by omega) _ _ _ _ _ _) _ _ _ _ _ _).drew⟩, by simp [intOf]; omega⟩
                · go_simp
                  (refine hK _ _ ?_; clear hK K)
                  refine wpAny_ready (rs := [0]) (by kernel_rfl) (by simp) ?_
                  refine AllReady.cons rfl (fun K hK => ?_) AllReady.nil
                  go_simp
                  (refine hK _ _ ?_; clear hK K)
                  refine wpAny_ready (rs := [7]) (by kernel_rfl) (by simp) ?_
                  refine AllReady.cons rfl (fun K hK => ?_) AllReady.nil
                  go_simp
                  (refine hK _ _ ?_; clear hK K)
                  refine wpAny_ready (rs := [8]) (by kernel_rfl) (by simp) ?_
                  refine AllReady.cons rfl (fun K hK => ?_) AllReady.nil
                  go_simp
                  (refine hK _ _ ?_; clear hK K)
                  refine wpAny_ready (rs := [9]) (by kernel_rfl) (by simp) ?_
                  refine AllReady.cons rfl (fun K hK => ?_) AllReady.nil
                  go_simp
                  (refine hK _ _ ?_; clear hK K)
                  refine wpAny_done (by kernel_rfl) ?_ _
                  go_wp2
                  exact ⟨⟨k + 1, by omega, by go_num, by rw [HRN.out], (below_set6 (below_set6 T7.out (by omega) _ _ _ _ _ _) (by omega) _ _ _ _ _ _).drew, (own_far6 (own_far6 OA7.out (by omega) _ _ _ _ _ _) (by omega) _ _ _ _ _ _).drew, (own_far6 (own_set6 O67.out _ _ _ _ _ _) (by omega) _ _ _ _ _ _).drew, (own_set6 (own_far6 O87.out (by omega) _ _ _ _ _ _) _ _ _ _ _ _).drew⟩, by simp [intOf]; omega⟩
              · refine wp_region_any (by kernel_rfl) ?_
                change wpAny _ _ _ _ _ _ _ (World.drew _)
                refine wpAny_take (i := 2) (v := .bool true) rfl (by kernel_rfl) (by kernel_rfl) (by kernel_rfl) (fun _ _ _ h => h) (Or.inl ⟨by kernel_rfl, fun w => by go_simp⟩) ?_
                (try go_simp)
                refine wpAny_take (i := 3) (v := .bool true) rfl (by kernel_rfl) (by kernel_rfl) (by kernel_rfl) (fun _ _ _ h => h) (Or.inl ⟨by kernel_rfl, fun w => by go_simp⟩) ?_
                (try go_simp)
                refine wpAny_take (i := 4) (v := .int .i64 kv) rfl (by kernel_rfl) (by kernel_rfl) (by kernel_rfl) (fun _ _ _ h => h) (Or.inl ⟨by kernel_rfl, fun w => by go_simp⟩) ?_
                (try go_simp)
                refine wpAny_take (i := 5) (v := .bool false) rfl (by kernel_rfl) (by kernel_rfl) (by kernel_rfl) (fun _ _ _ h => h) (Or.inl ⟨by kernel_rfl, fun w => by go_simp⟩) ?_
                (try go_simp)
                refine wpAny_take (i := 6) (v := .bool false) rfl (by kernel_rfl) (by kernel_rfl) (by kernel_rfl) (fun _ _ _ h => h) (Or.inl ⟨by kernel_rfl, fun w => by go_simp⟩) ?_
                (try go_simp)
                refine wpAny_ready (rs := [0, 1]) (by kernel_rfl) (by simp) ?_
                refine AllReady.cons rfl (fun K hK => ?_) (AllReady.cons rfl (fun K hK => ?_) AllReady.nil)
                · go_simp
                  (refine hK _ _ ?_; clear hK K)
                  refine wpAny_ready (rs := [1, 7]) (by kernel_rfl) (by simp) ?_
                  refine AllReady.cons rfl (fun K hK => ?_) (AllReady.cons rfl (fun K hK => ?_) AllReady.nil)
                  · go_simp
                    (refine hK _ _ ?_; clear hK K)
                    refine wpAny_ready (rs := [7]) (by kernel_rfl) (by simp) ?_
                    refine AllReady.cons rfl (fun K hK => ?_) AllReady.nil
                    go_simp
                    (refine hK _ _ ?_; clear hK K)
                    refine wpAny_ready (rs := [8]) (by kernel_rfl) (by simp) ?_
                    refine AllReady.cons rfl (fun K hK => ?_) AllReady.nil
                    go_simp
                    (refine hK _ _ ?_; clear hK K)
                    refine wpAny_ready (rs := [9]) (by kernel_rfl) (by simp) ?_
                    refine AllReady.cons rfl (fun K hK => ?_) AllReady.nil
                    go_simp
                    (refine hK _ _ ?_; clear hK K)
                    refine wpAny_done (by kernel_rfl) ?_ _
                    go_wp2
                    exact ⟨⟨k + 1, by omega, by go_num, by rw [HRN.out], (below_set6 (below_set6 T7.out (by omega) _ _ _ _ _ _) (by omega) _ _ _ _ _ _).drew, (own_far6 (own_far6 OA7.out (by omega) _ _ _ _ _ _) (by omega) _ _ _ _ _ _).drew, (own_far6 (own_set6 O67.out _ _ _ _ _ _) (by omega) _ _ _ _ _ _).drew, (own_set6 (own_far6 O87.out (by omega) _ _ _ _ _ _) _ _ _ _ _ _).drew⟩, by simp [intOf]; omega⟩
                  · go_simp
                    (refine hK _ _ ?_; clear hK K)
                    refine wpAny_ready (rs := [1]) (by kernel_rfl) (by simp) ?_
                    refine AllReady.cons rfl (fun K hK => ?_) AllReady.nil
                    go_simp
                    (refine hK _ _ ?_; clear hK K)
                    refine wpAny_ready (rs := [8]) (by kernel_rfl) (by simp) ?_
                    refine AllReady.cons rfl (fun K hK => ?_) AllReady.nil
                    go_simp
                    (refine hK _ _ ?_; clear hK K)
                    refine wpAny_ready (rs := [9]) (by kernel_rfl) (by simp) ?_
                    refine AllReady.cons rfl (fun K hK => ?_) AllReady.nil
                    go_simp
                    (refine hK _ _ ?_; clear hK K)
                    refine wpAny_done (by kernel_rfl) ?_ _
                    go_wp2
                    exact ⟨⟨k + 1, by omega, by go_num, by rw [HRN.out], (below_set6 (below_set6 T7.out (by omega) _ _ _ _ _ _) (by omega) _ _ _ _ _ _).drew, (own_far6 (own_far6 OA7.out (by omega) _ _ _ _ _ _) (by omega) _ _ _ _ _ _).drew, (own_far6 (own_set6 O67.out _ _ _ _ _ _) (by omega) _ _ _ _ _ _).drew, (own_set6 (own_far6 O87.out (by omega) _ _ _ _ _ _) _ _ _ _ _ _).drew⟩, by simp [intOf]; omega⟩
                · go_simp
                  (refine hK _ _ ?_; clear hK K)
                  refine wpAny_ready (rs := [0]) (by kernel_rfl) (by simp) ?_
                  refine AllReady.cons rfl (fun K hK => ?_) AllReady.nil
                  go_simp
                  (refine hK _ _ ?_; clear hK K)
                  refine wpAny_ready (rs := [7]) (by kernel_rfl) (by simp) ?_
                  refine AllReady.cons rfl (fun K hK => ?_) AllReady.nil
                  go_simp
                  (refine hK _ _ ?_; clear hK K)
                  refine wpAny_ready (rs := [8]) (by kernel_rfl) (by simp) ?_
                  refine AllReady.cons rfl (fun K hK => ?_) AllReady.nil
                  go_simp
                  (refine hK _ _ ?_; clear hK K)
                  refine wpAny_ready (rs := [9]) (by kernel_rfl) (by simp) ?_
                  refine AllReady.cons rfl (fun K hK => ?_) AllReady.nil
                  go_simp
                  (refine hK _ _ ?_; clear hK K)
                  refine wpAny_done (by kernel_rfl) ?_ _
                  go_wp2
                  exact ⟨⟨k + 1, by omega, by go_num, by rw [HRN.out], (below_set6 (below_set6 T7.out (by omega) _ _ _ _ _ _) (by omega) _ _ _ _ _ _).drew, (own_far6 (own_far6 OA7.out (by omega) _ _ _ _ _ _) (by omega) _ _ _ _ _ _).drew, (own_far6 (own_set6 O67.out _ _ _ _ _ _) (by omega) _ _ _ _ _ _).drew, (own_set6 (own_far6 O87.out (by omega) _ _ _ _ _ _) _ _ _ _ _ _).drew⟩, by simp [intOf]; omega⟩
            · have HRY := Lib.hid (rooted_yes hker)
              have hk0 : (((kern n (pw n (G k) n) : Nat) : Int) != 0) = true := by simp [hker]
              generalize hrb : rooted n G k = rb at *
              clear hrb hker
              generalize kern n (pw n (G k) n) = kv at *
              rcases rb with _ | _
              · refine wp_region_any (by kernel_rfl) ?_
                change wpAny _ _ _ _ _ _ _ (World.drew _)
                refine wpAny_take (i := 2) (v := .bool false) rfl (by kernel_rfl) (by kernel_rfl) (by kernel_rfl) (fun _ _ _ h => h) (Or.inl ⟨by kernel_rfl, fun w => by go_simp⟩) ?_
                (try go_simp)
                refine wpAny_take (i := 3) (v := .bool false) rfl (by kernel_rfl) (by kernel_rfl) (by kernel_rfl) (fun _ _ _ h => h) (Or.inl ⟨by kernel_rfl, fun w => by go_simp⟩) ?_
                (try go_simp)
                refine wpAny_take (i := 4) (v := undef) rfl (by kernel_rfl) (by kernel_rfl) (by kernel_rfl) (fun _ _ _ h => h) (Or.inr ⟨by kernel_rfl, rfl⟩) ?_
                (try go_simp)
                refine wpAny_take (i := 5) (v := undef) rfl (by kernel_rfl) (by kernel_rfl) (by kernel_rfl) (fun _ _ _ h => h) (Or.inr ⟨by kernel_rfl, rfl⟩) ?_
                (try go_simp)
                refine wpAny_take (i := 6) (v := .bool false) rfl (by kernel_rfl) (by kernel_rfl) (by kernel_rfl) (fun _ _ _ h => h) (Or.inl ⟨by kernel_rfl, fun w => by go_simp⟩) ?_
                (try go_simp)
                refine wpAny_ready (rs := [0, 1]) (by kernel_rfl) (by simp) ?_
                refine AllReady.cons rfl (fun K hK => ?_) (AllReady.cons rfl (fun K hK => ?_) AllReady.nil)
                · go_simp
                  (refine hK _ _ ?_; clear hK K)
                  refine wpAny_ready (rs := [1, 7]) (by kernel_rfl) (by simp) ?_
                  refine AllReady.cons rfl (fun K hK => ?_) (AllReady.cons rfl (fun K hK => ?_) AllReady.nil)
                  · go_simp
                    (refine hK _ _ ?_; clear hK K)
                    refine wpAny_ready (rs := [7]) (by kernel_rfl) (by simp) ?_
                    refine AllReady.cons rfl (fun K hK => ?_) AllReady.nil
                    go_simp
                    (refine hK _ _ ?_; clear hK K)
                    refine wpAny_ready (rs := [8]) (by kernel_rfl) (by simp) ?_
                    refine AllReady.cons rfl (fun K hK => ?_) AllReady.nil
                    go_simp
                    (refine hK _ _ ?_; clear hK K)
                    refine wpAny_ready (rs := [9]) (by kernel_rfl) (by simp) ?_
                    refine AllReady.cons rfl (fun K hK => ?_) AllReady.nil
                    go_simp
                    (refine hK _ _ ?_; clear hK K)
                    refine wpAny_done (by kernel_rfl) ?_ _
                    go_wp2
                    exact ⟨⟨k + 1, by omega, by go_num, by rw [HRY.out], (below_set6 (below_set6 T7.out (by omega) _ _ _ _ _ _) (by omega) _ _ _ _ _ _).drew, (own_far6 (own_far6 OA7.out (by omega) _ _ _ _ _ _) (by omega) _ _ _ _ _ _).drew, (own_far6 (own_set6 O67.out _ _ _ _ _ _) (by omega) _ _ _ _ _ _).drew, (own_set6 (own_far6 O87.out (by omega) _ _ _ _ _ _) _ _ _ _ _ _).drew⟩, by simp [intOf]; omega⟩
                  · go_simp
                    (refine hK _ _ ?_; clear hK K)
                    refine wpAny_ready (rs := [1]) (by kernel_rfl) (by simp) ?_
                    refine AllReady.cons rfl (fun K hK => ?_) AllReady.nil
                    go_simp
                    (refine hK _ _ ?_; clear hK K)
                    refine wpAny_ready (rs := [8]) (by kernel_rfl) (by simp) ?_
                    refine AllReady.cons rfl (fun K hK => ?_) AllReady.nil
                    go_simp
                    (refine hK _ _ ?_; clear hK K)
                    refine wpAny_ready (rs := [9]) (by kernel_rfl) (by simp) ?_
                    refine AllReady.cons rfl (fun K hK => ?_) AllReady.nil
                    go_simp
                    (refine hK _ _ ?_; clear hK K)
                    refine wpAny_done (by kernel_rfl) ?_ _
                    go_wp2
                    exact ⟨⟨k + 1, by omega, by go_num, by rw [HRY.out], (below_set6 (below_set6 T7.out (by omega) _ _ _ _ _ _) (by omega) _ _ _ _ _ _).drew, (own_far6 (own_far6 OA7.out (by omega) _ _ _ _ _ _) (by omega) _ _ _ _ _ _).drew, (own_far6 (own_set6 O67.out _ _ _ _ _ _) (by omega) _ _ _ _ _ _).drew, (own_set6 (own_far6 O87.out (by omega) _ _ _ _ _ _) _ _ _ _ _ _).drew⟩, by simp [intOf]; omega⟩
                · go_simp
                  (refine hK _ _ ?_; clear hK K)
                  refine wpAny_ready (rs := [0]) (by kernel_rfl) (by simp) ?_
                  refine AllReady.cons rfl (fun K hK => ?_) AllReady.nil
                  go_simp
                  (refine hK _ _ ?_; clear hK K)
                  refine wpAny_ready (rs := [7]) (by kernel_rfl) (by simp) ?_
                  refine AllReady.cons rfl (fun K hK => ?_) AllReady.nil
                  go_simp
                  (refine hK _ _ ?_; clear hK K)
                  refine wpAny_ready (rs := [8]) (by kernel_rfl) (by simp) ?_
                  refine AllReady.cons rfl (fun K hK => ?_) AllReady.nil
                  go_simp
                  (refine hK _ _ ?_; clear hK K)
                  refine wpAny_ready (rs := [9]) (by kernel_rfl) (by simp) ?_
                  refine AllReady.cons rfl (fun K hK => ?_) AllReady.nil
                  go_simp
                  (refine hK _ _ ?_; clear hK K)
                  refine wpAny_done (by kernel_rfl) ?_ _
                  go_wp2
                  exact ⟨⟨k + 1, by omega, by go_num, by rw [HRY.out], (below_set6 (below_set6 T7.out (by omega) _ _ _ _ _ _) (by omega) _ _ _ _ _ _).drew, (own_far6 (own_far6 OA7.out (by omega) _ _ _ _ _ _) (by omega) _ _ _ _ _ _).drew, (own_far6 (own_set6 O67.out _ _ _ _ _ _) (by omega) _ _ _ _ _ _).drew, (own_set6 (own_far6 O87.out (by omega) _ _ _ _ _ _) _ _ _ _ _ _).drew⟩, by simp [intOf]; omega⟩
              · refine wp_region_any (by kernel_rfl) ?_
                change wpAny _ _ _ _ _ _ _ (World.drew _)
                refine wpAny_take (i := 2) (v := .bool true) rfl (by kernel_rfl) (by kernel_rfl) (by kernel_rfl) (fun _ _ _ h => h) (Or.inl ⟨by kernel_rfl, fun w => by go_simp⟩) ?_
                (try go_simp)
                refine wpAny_take (i := 3) (v := .bool true) rfl (by kernel_rfl) (by kernel_rfl) (by kernel_rfl) (fun _ _ _ h => h) (Or.inl ⟨by kernel_rfl, fun w => by go_simp⟩) ?_
                (try go_simp)
                refine wpAny_take (i := 4) (v := .int .i64 kv) rfl (by kernel_rfl) (by kernel_rfl) (by kernel_rfl) (fun _ _ _ h => h) (Or.inl ⟨by kernel_rfl, fun w => by go_simp⟩) ?_
                (try go_simp)
                refine wpAny_take (i := 5) (v := .bool true) rfl (by kernel_rfl) (by kernel_rfl) (by kernel_rfl) (fun _ _ _ h => h) (Or.inl ⟨by kernel_rfl, fun w => by go_simp⟩) ?_
                (try go_simp)
                refine wpAny_take (i := 6) (v := .bool true) rfl (by kernel_rfl) (by kernel_rfl) (by kernel_rfl) (fun _ _ _ h => h) (Or.inl ⟨by kernel_rfl, fun w => by go_simp⟩) ?_
                (try go_simp)
                refine wpAny_ready (rs := [0, 1]) (by kernel_rfl) (by simp) ?_
                refine AllReady.cons rfl (fun K hK => ?_) (AllReady.cons rfl (fun K hK => ?_) AllReady.nil)
                · go_simp
                  (refine hK _ _ ?_; clear hK K)
                  refine wpAny_ready (rs := [1, 7]) (by kernel_rfl) (by simp) ?_
                  refine AllReady.cons rfl (fun K hK => ?_) (AllReady.cons rfl (fun K hK => ?_) AllReady.nil)
                  · go_simp
                    (refine hK _ _ ?_; clear hK K)
                    refine wpAny_ready (rs := [7]) (by kernel_rfl) (by simp) ?_
                    refine AllReady.cons rfl (fun K hK => ?_) AllReady.nil
                    go_simp
                    (refine hK _ _ ?_; clear hK K)
                    refine wpAny_ready (rs := [8]) (by kernel_rfl) (by simp) ?_
                    refine AllReady.cons rfl (fun K hK => ?_) AllReady.nil
                    go_simp
                    (refine hK _ _ ?_; clear hK K)
                    refine wpAny_ready (rs := [9]) (by kernel_rfl) (by simp) ?_
                    refine AllReady.cons rfl (fun K hK => ?_) AllReady.nil
                    go_simp
                    (refine hK _ _ ?_; clear hK K)
                    refine wpAny_done (by kernel_rfl) ?_ _
                    go_wp2
                    exact ⟨⟨k + 1, by omega, by go_num, by rw [HRY.out], (below_set6 (below_set6 T7.out (by omega) _ _ _ _ _ _) (by omega) _ _ _ _ _ _).drew, (own_far6 (own_far6 OA7.out (by omega) _ _ _ _ _ _) (by omega) _ _ _ _ _ _).drew, (own_far6 (own_set6 O67.out _ _ _ _ _ _) (by omega) _ _ _ _ _ _).drew, (own_set6 (own_far6 O87.out (by omega) _ _ _ _ _ _) _ _ _ _ _ _).drew⟩, by simp [intOf]; omega⟩
                  · go_simp
                    (refine hK _ _ ?_; clear hK K)
                    refine wpAny_ready (rs := [1]) (by kernel_rfl) (by simp) ?_
                    refine AllReady.cons rfl (fun K hK => ?_) AllReady.nil
                    go_simp
                    (refine hK _ _ ?_; clear hK K)
                    refine wpAny_ready (rs := [8]) (by kernel_rfl) (by simp) ?_
                    refine AllReady.cons rfl (fun K hK => ?_) AllReady.nil
                    go_simp
                    (refine hK _ _ ?_; clear hK K)
                    refine wpAny_ready (rs := [9]) (by kernel_rfl) (by simp) ?_
                    refine AllReady.cons rfl (fun K hK => ?_) AllReady.nil
                    go_simp
                    (refine hK _ _ ?_; clear hK K)
                    refine wpAny_done (by kernel_rfl) ?_ _
                    go_wp2
                    exact ⟨⟨k + 1, by omega, by go_num, by rw [HRY.out], (below_set6 (below_set6 T7.out (by omega) _ _ _ _ _ _) (by omega) _ _ _ _ _ _).drew, (own_far6 (own_far6 OA7.out (by omega) _ _ _ _ _ _) (by omega) _ _ _ _ _ _).drew, (own_far6 (own_set6 O67.out _ _ _ _ _ _) (by omega) _ _ _ _ _ _).drew, (own_set6 (own_far6 O87.out (by omega) _ _ _ _ _ _) _ _ _ _ _ _).drew⟩, by simp [intOf]; omega⟩
                · go_simp
                  (refine hK _ _ ?_; clear hK K)
                  refine wpAny_ready (rs := [0]) (by kernel_rfl) (by simp) ?_
                  refine AllReady.cons rfl (fun K hK => ?_) AllReady.nil
                  go_simp
                  (refine hK _ _ ?_; clear hK K)
                  refine wpAny_ready (rs := [7]) (by kernel_rfl) (by simp) ?_
                  refine AllReady.cons rfl (fun K hK => ?_) AllReady.nil
                  go_simp
                  (refine hK _ _ ?_; clear hK K)
                  refine wpAny_ready (rs := [8]) (by kernel_rfl) (by simp) ?_
                  refine AllReady.cons rfl (fun K hK => ?_) AllReady.nil
                  go_simp
                  (refine hK _ _ ?_; clear hK K)
                  refine wpAny_ready (rs := [9]) (by kernel_rfl) (by simp) ?_
                  refine AllReady.cons rfl (fun K hK => ?_) AllReady.nil
                  go_simp
                  (refine hK _ _ ?_; clear hK K)
                  refine wpAny_done (by kernel_rfl) ?_ _
                  go_wp2
                  exact ⟨⟨k + 1, by omega, by go_num, by rw [HRY.out], (below_set6 (below_set6 T7.out (by omega) _ _ _ _ _ _) (by omega) _ _ _ _ _ _).drew, (own_far6 (own_far6 OA7.out (by omega) _ _ _ _ _ _) (by omega) _ _ _ _ _ _).drew, (own_far6 (own_set6 O67.out _ _ _ _ _ _) (by omega) _ _ _ _ _ _).drew, (own_set6 (own_far6 O87.out (by omega) _ _ _ _ _ _) _ _ _ _ _ _).drew⟩, by simp [intOf]; omega⟩
        · have hk' : k = n - 1 := by omega
          subst hk'
          have HR0 := Lib.hid (roots35_wf (HG.out 0 (by omega)))
          have HKE := Lib.hid (ker33_wf ((HG.out 0 (by omega)).pow0 (n - 1)))
          have HNS := Lib.hid (nonsplit37_wf (HWP.out (n - 1) (by omega)))
          have HEQ := Lib.hid (roots_kernel (HG.out 0 (by omega)))
          have HALL := Lib.hid (fun h => nonsplit_of (n := n) (G := G) h1 h5 (fun i hi => HG.out i (by omega)) (rooted_all h))
          rw [HEQ.out] at HR0
          generalize kern n (pow0 n (G 0) (n - 1)) = kv at *
          have gA := HOA.out.lt
          have g6 := HO6.out.lt
          have g8 := HO8.out.lt
          have hlt' : ¬ ((n - 1 : Nat) : Int) < (n : Int) - 1 := by omega
          generalize hrb : rooted n G (n - 1) = rb at *
          generalize hns : nsp (prodOf n G (n - 1)) n = ns at *
          have hor : rb = true → ns = true := HALL.out
          clear hrb hns HALL
          rcases rb with _ | _
          rotate_left 1
          · obtain rfl : ns = true := hor rfl
            clear hor
            go_wp2_with first
              | (go_at_call 20; refine (Go.Proofs.YtajhejdeijhccaaDoor.Ev.awake _).mono ?_; rintro e w20 ⟨rfl, hb20⟩)
              | (go_at_call 37; refine (HNS.out _).mono ?_; rintro e wz ⟨rfl, hbz⟩; have Tz := Lib.hid (Ty.out.trans (bel_le hbz (by omega))); clear hbz)
              | (go_at_call 33; refine (HKE.out _).mono ?_; rintro e wy ⟨rfl, hby⟩; have Ty := Lib.hid (Tx.out.trans (bel_le hby (by omega))); have gy := hby.size; obtain ⟨m0, m1, m2, m3, m4, m5⟩ := row_below (row6_of O8x.out) hby; clear hby)
              | (go_at_call 35; refine (HR0.out _).mono ?_; rintro e wx ⟨rfl, hbx⟩; have Tx := Lib.hid (HBL.out.trans (bel_le hbx (by omega))); have gx := hbx.size; have O8x := Lib.hid (HO8.out.below hbx g8); obtain ⟨l0, l1, l2, l3, l4, l5⟩ := row_below (row6_of HO6.out) hbx; clear hbx)
            go_ret
            exact ⟨rfl, by rw [hA]; exact Tz.out.trans (bel_le hb20 (by have := Tz.out.size; omega))⟩
          · clear hor
            cases ns
            all_goals
              go_wp2_with first
                | (go_at_call 20; refine (Go.Proofs.YtajhejdeijhccaaDoor.Ev.awake _).mono ?_; rintro e w20 ⟨rfl, hb20⟩)
                | (go_at_call 37; refine (HNS.out _).mono ?_; rintro e wz ⟨rfl, hbz⟩; have Tz := Lib.hid (Ty.out.trans (bel_le hbz (by omega))); clear hbz)
                | (go_at_call 33; refine (HKE.out _).mono ?_; rintro e wy ⟨rfl, hby⟩; have Ty := Lib.hid (Tx.out.trans (bel_le hby (by omega))); have gy := hby.size; obtain ⟨m0, m1, m2, m3, m4, m5⟩ := row_below (row6_of O8x.out) hby; clear hby)
                | (go_at_call 35; refine (HR0.out _).mono ?_; rintro e wx ⟨rfl, hbx⟩; have Tx := Lib.hid (HBL.out.trans (bel_le hbx (by omega))); have gx := hbx.size; have O8x := Lib.hid (HO8.out.below hbx g8); obtain ⟨l0, l1, l2, l3, l4, l5⟩ := row_below (row6_of HO6.out) hbx; clear hbx)
              go_ret
              exact ⟨rfl, by rw [hA]; exact Tz.out.trans (bel_le hb20 (by have := Tz.out.size; omega))⟩
theorem graphRoots_walk {W : World} (a0 a1 a2 a3 a4 a5 a6 a7 a8 a9 a10 a11 a12 a13 a14 a15 a16 a17 a18 a19 a20 a21 a22 a23 : Int) : Calls Tryd.prog 10 #[.agg #[.int .i64 a0, .int .i64 a1, .int .i64 a2, .int .i64 a3, .int .i64 a4, .int .i64 a5, .int .i64 a6, .int .i64 a7, .int .i64 a8, .int .i64 a9, .int .i64 a10, .int .i64 a11, .int .i64 a12, .int .i64 a13, .int .i64 a14, .int .i64 a15, .int .i64 a16, .int .i64 a17, .int .i64 a18, .int .i64 a19, .int .i64 a20, .int .i64 a21, .int .i64 a22, .int .i64 a23]] W fun e w' => e = .returned (.bool true) ∧ Below W.heap.size W w' := by
  let F : Nat → Nat → Int := fun i j => [a0, a1, a2, a3, a4, a5, a6, a7, a8, a9, a10, a11, a12, a13, a14, a15, a16, a17, a18, a19, a20, a21, a22, a23].getD (i * 6 + j) 0
  show Calls Tryd.prog 10 #[.agg #[.int .i64 (F 0 0), .int .i64 (F 0 1), .int .i64 (F 0 2), .int .i64 (F 0 3), .int .i64 (F 0 4), .int .i64 (F 0 5), .int .i64 (F 1 0), .int .i64 (F 1 1), .int .i64 (F 1 2), .int .i64 (F 1 3), .int .i64 (F 1 4), .int .i64 (F 1 5), .int .i64 (F 2 0), .int .i64 (F 2 1), .int .i64 (F 2 2), .int .i64 (F 2 3), .int .i64 (F 2 4), .int .i64 (F 2 5), .int .i64 (F 3 0), .int .i64 (F 3 1), .int .i64 (F 3 2), .int .i64 (F 3 3), .int .i64 (F 3 4), .int .i64 (F 3 5)]] W _
  by_cases h : ∀ i, i < 4 → Good F i
  · obtain ⟨n, r0, h0, e0, _⟩ := h 0 (by omega)
    have hc : ∀ i, i < 4 → ∃ r : Nat → Nat, WF n r ∧ F i 0 = n ∧ F i 1 = r 0 ∧ F i 2 = r 1 ∧ F i 3 = r 2 ∧ F i 4 = r 3 ∧ F i 5 = r 4 := by
      intro i hi
      obtain ⟨m, r, hr, f0, f1, f2, f3, f4, f5, f6⟩ := h i hi
      have hm : m = n := by omega
      subst hm
      exact ⟨r, hr, f0, f1, f2, f3, f4, f5⟩
    obtain ⟨G0, w0, a0, a1, a2, a3, a4, a5⟩ := hc 0 (by omega)
    obtain ⟨G1, w1, b0, b1, b2, b3, b4, b5⟩ := hc 1 (by omega)
    obtain ⟨G2, w2, c0, c1, c2, c3, c4, c5⟩ := hc 2 (by omega)
    obtain ⟨G3, w3, d0, d1, d2, d3, d4, d5⟩ := hc 3 (by omega)
    rw [a0, a1, a2, a3, a4, a5, b0, b1, b2, b3, b4, b5, c0, c1, c2, c3, c4, c5, d0, d1, d2, d3, d4, d5]
    exact roots_ok (n := n) (G := fun i => match i with | 0 => G0 | 1 => G1 | 2 => G2 | _ => G3) (fun i hi => by
      rcases (by omega : i = 0 ∨ i = 1 ∨ i = 2 ∨ i = 3) with rfl | rfl | rfl | rfl
      · exact w0
      · exact w1
      · exact w2
      · exact w3) W
  · exact roots_bad F h W
end Go.Proofs.YtajhejdeijhccaaDoor.Graph
