/-
  What the evaluator's memory says of the machine's: abstract values and objects related to values and blocks; and what stays of it behind a store, a new block, an append.
-/
import Derived.Test.YtkhcodfngnaokaaEvB
import Derived.Below
import Derived.Laws.AppendOwn
set_option linter.unusedSimpArgs false
set_option linter.unusedVariables false
set_option linter.unusedSectionVars false
namespace Go.Ev
open Go Go.RowKit

theorem Tr.get_lf {α : Type} (m : Nat) : (Tr.lf : Tr α).get m = none := rfl
theorem Tr.get_nd0 {α : Type} (l : Tr α) (v : Option α) (r : Tr α) : (Tr.nd l v r).get 0 = v := rfl
theorem Tr.get_nds {α : Type} (l : Tr α) (v : Option α) (r : Tr α) (n : Nat) : (Tr.nd l v r).get (n + 1) = if n % 2 = 0 then l.get (n / 2) else r.get (n / 2) := by
  show Bool.rec (motive := fun _ => Option α) (r.get (n / 2)) (l.get (n / 2)) (Nat.beq (n % 2) 0) = _
  cases hb : Nat.beq (n % 2) 0 with
  | true => rw [if_pos (Nat.eq_of_beq_eq_true hb)]
  | false => rw [if_neg (Nat.ne_of_beq_eq_false hb)]
theorem Tr.one_0 {α : Type} (x : α) (f : Nat) : Tr.one x (f + 1) 0 = .nd .lf (some x) .lf := rfl
theorem Tr.one_s {α : Type} (x : α) (f n : Nat) : Tr.one x (f + 1) (n + 1) = if n % 2 = 0 then .nd (Tr.one x f (n / 2)) none .lf else .nd .lf none (Tr.one x f (n / 2)) := by
  show Bool.rec (motive := fun _ => Tr α) (.nd .lf none (Tr.one x f (n / 2))) (.nd (Tr.one x f (n / 2)) none .lf) (Nat.beq (n % 2) 0) = _
  cases hb : Nat.beq (n % 2) 0 with
  | true => rw [if_pos (Nat.eq_of_beq_eq_true hb)]
  | false => rw [if_neg (Nat.ne_of_beq_eq_false hb)]
theorem Tr.set_lf {α : Type} (n : Nat) (x : α) : (Tr.lf : Tr α).set n x = Tr.one x (n + 1) n := rfl
theorem Tr.set_nd0 {α : Type} (l : Tr α) (v : Option α) (r : Tr α) (x : α) : (Tr.nd l v r).set 0 x = .nd l (some x) r := rfl
theorem Tr.set_nds {α : Type} (l : Tr α) (v : Option α) (r : Tr α) (n : Nat) (x : α) : (Tr.nd l v r).set (n + 1) x = if n % 2 = 0 then .nd (l.set (n / 2) x) v r else .nd l v (r.set (n / 2) x) := by
  show Bool.rec (motive := fun _ => Tr α) (.nd l v (r.set (n / 2) x)) (.nd (l.set (n / 2) x) v r) (Nat.beq (n % 2) 0) = _
  cases hb : Nat.beq (n % 2) 0 with
  | true => rw [if_pos (Nat.eq_of_beq_eq_true hb)]
  | false => rw [if_neg (Nat.ne_of_beq_eq_false hb)]
theorem Tr.get_one {α : Type} (x : α) : ∀ (f n m : Nat), n < f → (Tr.one x f n).get m = if m = n then some x else none := by
  intro f
  induction f with
  | zero => intro n m h; omega
  | succ f ih =>
    intro n m h
    cases n with
    | zero => cases m with
      | zero => rw [Tr.one_0, Tr.get_nd0, if_pos rfl]
      | succ m => rw [Tr.one_0, Tr.get_nds, Tr.get_lf, ite_self, if_neg (by omega)]
    | succ n =>
      rw [Tr.one_s]
      by_cases hb : n % 2 = 0
      · rw [if_pos hb]
        cases m with
        | zero => rw [Tr.get_nd0, if_neg (by omega)]
        | succ m =>
          rw [Tr.get_nds, ih _ _ (by omega), Tr.get_lf]
          by_cases hm : m % 2 = 0
          · rw [if_pos hm]
            by_cases e : m = n
            · simp [e]
            · rw [if_neg (by omega), if_neg (by omega)]
          · rw [if_neg hm, if_neg (by omega)]
      · rw [if_neg hb]
        cases m with
        | zero => rw [Tr.get_nd0, if_neg (by omega)]
        | succ m =>
          rw [Tr.get_nds, ih _ _ (by omega), Tr.get_lf]
          by_cases hm : m % 2 = 0
          · rw [if_pos hm, if_neg (by omega)]
          · rw [if_neg hm]
            by_cases e : m = n
            · simp [e]
            · rw [if_neg (by omega), if_neg (by omega)]
theorem Tr.get_set {α : Type} : ∀ (t : Tr α) (n m : Nat) (x : α), (t.set n x).get m = if m = n then some x else t.get m := by
  intro t
  induction t with
  | lf => intro n m x; rw [Tr.set_lf, Tr.get_one x _ n m (Nat.lt_succ_self n), Tr.get_lf]
  | nd l v r ihl ihr =>
    intro n m x
    cases n with
    | zero => cases m with
      | zero => rw [Tr.set_nd0, Tr.get_nd0, if_pos rfl]
      | succ m => rw [Tr.set_nd0, Tr.get_nds, Tr.get_nds, if_neg (show ¬ m + 1 = 0 by omega)]
    | succ n =>
      rw [Tr.set_nds]
      by_cases hb : n % 2 = 0
      · rw [if_pos hb]
        cases m with
        | zero => rw [Tr.get_nd0, Tr.get_nd0, if_neg (by omega)]
        | succ m =>
          rw [Tr.get_nds, Tr.get_nds, ihl]
          by_cases hm : m % 2 = 0
          · rw [if_pos hm, if_pos hm]
            by_cases e : m = n
            · simp [e]
            · rw [if_neg (by omega), if_neg (by omega)]
          · rw [if_neg hm, if_neg hm, if_neg (by omega)]
      · rw [if_neg hb]
        cases m with
        | zero => rw [Tr.get_nd0, Tr.get_nd0, if_neg (by omega)]
        | succ m =>
          rw [Tr.get_nds, Tr.get_nds, ihr]
          by_cases hm : m % 2 = 0
          · rw [if_pos hm, if_pos hm, if_neg (by omega)]
          · rw [if_neg hm, if_neg hm]
            by_cases e : m = n
            · simp [e]
            · rw [if_neg (by omega), if_neg (by omega)]

/-- Where an abstract object lies: its block, the first cell there, how many cells are its own. -/
structure Loc where
  blk : Nat
  base : Nat
  lim : Nat
/-- What must stay as it is, and what no abstract object may lie in. -/
structure Kp where
  keep : Nat → Prop
  avoid : Nat → Prop
  sub : ∀ k, avoid k → keep k
/-- The blocks of K are as they were; the streams too; no block has gone. -/
structure Keep (K : Nat → Prop) (w w' : World) : Prop where
  os : w'.os = w.os
  tape : w'.tape = w.tape
  output : w'.output = w.output
  size : w.heap.size ≤ w'.heap.size
  block : ∀ k, K k → w'.heap[k]? = w.heap[k]?
theorem Keep.refl (K : Nat → Prop) (w : World) : Keep K w w := ⟨rfl, rfl, rfl, Nat.le_refl _, fun _ _ => rfl⟩
theorem Keep.trans {K : Nat → Prop} {a b c : World} (h : Keep K a b) (k : Keep K b c) : Keep K a c :=
  ⟨k.os.trans h.os, k.tape.trans h.tape, k.output.trans h.output, Nat.le_trans h.size k.size, fun i hi => (k.block i hi).trans (h.block i hi)⟩
theorem Keep.mono {K K' : Nat → Prop} {w w' : World} (h : Keep K w w') (hK : ∀ k, K' k → K k) : Keep K' w w' := ⟨h.os, h.tape, h.output, h.size, fun k hk => h.block k (hK k hk)⟩
theorem Keep.drew {K : Nat → Prop} {a w : World} (h : Keep K a w) : Keep K a w.drew := ⟨h.os, h.tape, h.output, h.size, h.block⟩
theorem Keep.alloc {K : Nat → Prop} {a w : World} (h : Keep K a w) (hK : ∀ k, K k → k < w.heap.size) (o : Obj) : Keep K a (w.alloc o) :=
  h.trans ⟨rfl, rfl, rfl, by simp, fun k hk => Below.heap_alloc _ _ _ (hK k hk)⟩
theorem Keep.of_below {B : Nat} {w w' : World} (h : Below B w w') : Keep (· < B) w w' := ⟨h.os, h.tape, h.output, h.size, fun k hk => h.block k hk⟩
theorem Keep.below {B : Nat} {w w' : World} (h : Keep (· < B) w w') : Below B w w' := ⟨h.os, h.tape, h.output, h.size, fun k hk => h.block k hk⟩
/-- All below a number, and nothing to be avoided. -/
def Kp.low (B : Nat) : Kp := ⟨(· < B), fun _ => False, fun _ h => h.elim⟩
abbrev Ctx := Nat → Option Loc
def Ctx.le (c d : Ctx) : Prop := ∀ i L, c i = some L → d i = some L
theorem Ctx.le_refl (c : Ctx) : Ctx.le c c := fun _ _ h => h
theorem Ctx.le_trans {a b c : Ctx} (h : Ctx.le a b) (k : Ctx.le b c) : Ctx.le a c := fun i L e => k i L (h i L e)
noncomputable def Ctx.ext (c : Ctx) (n : Nat) (L : Loc) : Ctx := fun i => if i = n then some L else c i
theorem Ctx.le_ext {c : Ctx} {n : Nat} {L : Loc} (h : c n = none) : Ctx.le c (c.ext n L) := fun i M e => by
  unfold Ctx.ext
  split
  · rename_i hi; rw [hi, h] at e; cases e
  · exact e
theorem Ctx.ext_same (c : Ctx) (n : Nat) (L : Loc) : c.ext n L n = some L := by simp [Ctx.ext]

def one (v : Value) : Prop := v.oneCell' = true

mutual
inductive VR (c : Ctx) : AV → Value → Prop
  | bool (b : Bool) : VR c (.bool b) (.bool b)
  | int (k : IntKind) (n : Int) : VR c (.int k n) (.int k n)
  | str (l : List UInt8) : VR c (.str l) (.string ⟨⟨l⟩⟩)
  | nilp : VR c .nilp (.pointer none)
  | ptr {r : Nat} {L : Loc} (off : Nat) (h : c r = some L) : VR c (.ptr r off) (.pointer (some ⟨L.blk, L.base + off, none⟩))
  | nils : VR c .nils (.slice none 0 0)
  | esl (a : Addr) (cap : Nat) : VR c .esl (.slice (some a) 0 cap)
  | slice {r off len cap esz : Nat} {ex : Bool} {L : Loc} (cap' : Nat) (h : c r = some L) (h1 : len ≤ cap) (h2 : cap ≤ cap') (h3 : ex = true → cap' = cap) (h4 : off + cap' * esz ≤ L.lim) :
      VR c (.slice r off len cap esz ex) (.slice (some ⟨L.blk, L.base + off, none⟩) len cap')
  | nilm : VR c .nilm (.map none)
  | map {r : Nat} {L : Loc} (h : c r = some L) : VR c (.map r) (.map (some L.blk))
  | fn (f : FuncId) {a b : List AV} {a' b' : List Value} (ha : VRs c a a') (hb : VRs c b b') : VR c (.fn f a b) (.func (.func f) ⟨a'⟩ ⟨b'⟩)
  | yld {l : Nat} {L : Loc} (h : c l = some L) : VR c (.yld l) (.func (.yield L.blk) #[] #[])
  | nilf : VR c .nilf .nilFunc
  | nili : VR c .nili .nilIface
  | iface (t : TypeId) {v : AV} {v' : Value} (h : VR c v v') : VR c (.iface t v) (.iface t v')
  | agg {cs : List AV} {cs' : List Value} (h : VRs c cs cs') : VR c (.agg cs) (.agg ⟨cs'⟩)
  | tup {cs : List AV} {cs' : List Value} (h : VRs c cs cs') : VR c (.tup cs) (.tuple ⟨cs'⟩)
  | unk (v : Value) (h : v.oneCell' = true) : VR c .unk v
inductive VRs (c : Ctx) : List AV → List Value → Prop
  | nil : VRs c [] []
  | cons {a : AV} {v : Value} {as : List AV} {vs : List Value} (h : VR c a v) (t : VRs c as vs) : VRs c (a :: as) (v :: vs)
end

mutual
theorem VR.mono {c d : Ctx} (hcd : Ctx.le c d) : ∀ {a : AV} {v : Value}, VR c a v → VR d a v
  | _, _, .bool b => .bool b
  | _, _, .int k n => .int k n
  | _, _, .str l => .str l
  | _, _, .nilp => .nilp
  | _, _, .ptr off h => .ptr off (hcd _ _ h)
  | _, _, .nils => .nils
  | _, _, .esl a cap => .esl a cap
  | _, _, .slice cap' h h1 h2 h3 h4 => .slice cap' (hcd _ _ h) h1 h2 h3 h4
  | _, _, .nilm => .nilm
  | _, _, .map h => .map (hcd _ _ h)
  | _, _, .fn f ha hb => .fn f (VRs.mono hcd ha) (VRs.mono hcd hb)
  | _, _, .yld h => .yld (hcd _ _ h)
  | _, _, .nilf => .nilf
  | _, _, .nili => .nili
  | _, _, .iface t h => .iface t (VR.mono hcd h)
  | _, _, .agg h => .agg (VRs.mono hcd h)
  | _, _, .tup h => .tup (VRs.mono hcd h)
  | _, _, .unk v h => .unk v h
theorem VRs.mono {c d : Ctx} (hcd : Ctx.le c d) : ∀ {a : List AV} {v : List Value}, VRs c a v → VRs d a v
  | _, _, .nil => .nil
  | _, _, .cons h t => .cons (VR.mono hcd h) (VRs.mono hcd t)
end

theorem VRs.length {c : Ctx} : ∀ {a : List AV} {v : List Value}, VRs c a v → a.length = v.length
  | _, _, .nil => rfl
  | _, _, .cons _ t => by simp [VRs.length t]
theorem VRs.get {c : Ctx} : ∀ {a : List AV} {v : List Value}, VRs c a v → ∀ (i : Nat) (x : AV), a[i]? = some x → ∃ y, v[i]? = some y ∧ VR c x y
  | _, _, .nil, _, _, h => by simp at h
  | _, _, .cons h t, 0, x, e => by
    simp only [List.getElem?_cons_zero, Option.some.injEq] at e
    subst e
    exact ⟨_, by simp, h⟩
  | _, _, .cons h t, i + 1, x, e => by
    simp only [List.getElem?_cons_succ] at e
    obtain ⟨y, hy, hr⟩ := VRs.get t i x e
    exact ⟨y, by simpa using hy, hr⟩
theorem VRs.append {c : Ctx} : ∀ {a : List AV} {v : List Value}, VRs c a v → ∀ {b : List AV} {u : List Value}, VRs c b u → VRs c (a ++ b) (v ++ u)
  | _, _, .nil, _, _, h => h
  | _, _, .cons h t, _, _, k => .cons h (VRs.append t k)
theorem VRs.take {c : Ctx} : ∀ {a : List AV} {v : List Value}, VRs c a v → ∀ n, VRs c (a.take n) (v.take n)
  | _, _, .nil, n => by simp; exact .nil
  | _, _, .cons h t, 0 => by simp; exact .nil
  | _, _, .cons h t, n + 1 => by simp only [List.take_succ_cons]; exact .cons h (VRs.take t n)
theorem VRs.drop {c : Ctx} : ∀ {a : List AV} {v : List Value}, VRs c a v → ∀ n, VRs c (a.drop n) (v.drop n)
  | _, _, .nil, n => by simp; exact .nil
  | _, _, .cons h t, 0 => .cons h t
  | _, _, .cons h t, n + 1 => by simp only [List.drop_succ_cons]; exact VRs.drop t n
theorem VRs.of_get {c : Ctx} : ∀ (a : List AV) (v : List Value), a.length = v.length → (∀ (i : Nat) (x : AV), a[i]? = some x → ∃ y, v[i]? = some y ∧ VR c x y) → VRs c a v
  | [], [], _, _ => .nil
  | [], _ :: _, h, _ => by simp at h
  | _ :: _, [], h, _ => by simp at h
  | x :: as, y :: vs, h, k => .cons (by obtain ⟨z, hz, hr⟩ := k 0 x (by simp); simp at hz; subst hz; exact hr)
      (VRs.of_get as vs (by simpa using h) fun i z hz => by obtain ⟨u, hu, hr⟩ := k (i + 1) z (by simpa using hz); exact ⟨u, by simpa using hu, hr⟩)
theorem VR.one {c : Ctx} {a : AV} {v : Value} (h : VR c a v) (h1 : a.one = true) : v.oneCell' = true := by
  cases h <;> first | rfl | (simp [AV.one] at h1; done) | assumption
theorem cells_one {v : Value} (h : v.oneCell' = true) : v.cells = #[v] := by
  cases v <;> first | rfl | (simp [Value.oneCell'] at h)
theorem VR.cells {c : Ctx} {a : AV} {v : Value} (h : VR c a v) (hu : a.cells.all AV.one = true) : VRs c a.cells v.cells.toList := by
  cases h with
  | agg h => exact h
  | tup h => simp [AV.cells, AV.one] at hu
  | unk v h => rw [cells_one h]; exact .cons (.unk _ h) .nil
  | bool b => exact .cons (.bool b) .nil
  | int k n => exact .cons (.int k n) .nil
  | str l => exact .cons (.str l) .nil
  | nilp => exact .cons .nilp .nil
  | ptr off h => exact .cons (.ptr off h) .nil
  | nils => exact .cons .nils .nil
  | esl a cap => exact .cons (.esl a cap) .nil
  | slice cap' h h1 h2 h3 h4 => exact .cons (.slice cap' h h1 h2 h3 h4) .nil
  | nilm => exact .cons .nilm .nil
  | map h => exact .cons (.map h) .nil
  | fn f ha hb => exact .cons (.fn f ha hb) .nil
  | yld h => exact .cons (.yld h) .nil
  | nilf => exact .cons .nilf .nil
  | nili => exact .cons .nili .nil
  | iface t h => exact .cons (.iface t h) .nil
end Go.Ev
