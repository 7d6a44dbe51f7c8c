/-
  What the evaluator's memory says of the machine's: abstract values and objects related to values and blocks; and what stays of it behind a store, a new block, an append.
-/
import Derived.Test.YtjggeombkbianaaEvB
import Derived.Below
import Derived.Laws.AppendOwn
set_option linter.unusedSimpArgs false
set_option linter.unusedVariables false
set_option linter.unusedSectionVars false
namespace Go.Ev
open Go Go.RowKit

theorem pthF_s (f n : Nat) : pthF (f + 1) (n + 1) = if n % 2 = 0 then .o (pthF f (n / 2)) else .i (pthF f (n / 2)) := by
  show Bool.rec (motive := fun _ => Pth) (.i (pthF f (n / 2))) (.o (pthF f (n / 2))) (Nat.beq (n % 2) 0) = _
  cases hb : Nat.beq (n % 2) 0 with
  | true => rw [if_pos (Nat.eq_of_beq_eq_true hb)]
  | false => rw [if_neg (Nat.ne_of_beq_eq_false hb)]
theorem pthF_inj : ∀ (f g n m : Nat), n < f → m < g → pthF f n = pthF g m → n = m := by
  intro f
  induction f with
  | zero => intro g n m h; omega
  | succ f ih =>
    intro g n m hn hm e
    cases g with
    | zero => omega
    | succ g =>
      cases n with
      | zero => cases m with
        | zero => rfl
        | succ m =>
          rw [pthF_s] at e
          split at e <;> cases e
      | succ n => cases m with
        | zero =>
          rw [pthF_s] at e
          split at e <;> cases e
        | succ m =>
          rw [pthF_s, pthF_s] at e
          split at e
          · split at e
            · injection e with e
              have := ih g (n / 2) (m / 2) (by omega) (by omega) e
              omega
            · cases e
          · split at e
            · cases e
            · injection e with e
              have := ih g (n / 2) (m / 2) (by omega) (by omega) e
              omega
theorem pth_inj {n m : Nat} (h : pth n = pth m) : n = m := pthF_inj _ _ _ _ (Nat.lt_succ_self n) (Nat.lt_succ_self m) h
theorem Tr.getP_lf {α : Type} (p : Pth) : (Tr.lf : Tr α).getP p = none := by cases p <;> rfl
theorem Tr.getP_setP_same {α : Type} (x : α) : ∀ (p : Pth) (t : Tr α), (t.setP p x).getP p = some x
  | .e, .lf => rfl
  | .e, .nd _ _ _ => rfl
  | .o p, .lf => Tr.getP_setP_same x p .lf
  | .o p, .nd l _ _ => Tr.getP_setP_same x p l
  | .i p, .lf => Tr.getP_setP_same x p .lf
  | .i p, .nd _ _ r => Tr.getP_setP_same x p r
theorem Tr.getP_setP_other {α : Type} (x : α) : ∀ (p q : Pth) (t : Tr α), q ≠ p → (t.setP p x).getP q = t.getP q
  | .e, .e, _, h => absurd rfl h
  | .e, .o q, .lf, _ => Tr.getP_lf q
  | .e, .i q, .lf, _ => Tr.getP_lf q
  | .e, .o _, .nd _ _ _, _ => rfl
  | .e, .i _, .nd _ _ _, _ => rfl
  | .o _, .e, .lf, _ => rfl
  | .o _, .e, .nd _ _ _, _ => rfl
  | .i _, .e, .lf, _ => rfl
  | .i _, .e, .nd _ _ _, _ => rfl
  | .o p, .o q, .lf, h => (Tr.getP_setP_other x p q .lf fun e => h (by rw [e])).trans (Tr.getP_lf q)
  | .o p, .o q, .nd l _ _, h => Tr.getP_setP_other x p q l fun e => h (by rw [e])
  | .i p, .i q, .lf, h => (Tr.getP_setP_other x p q .lf fun e => h (by rw [e])).trans (Tr.getP_lf q)
  | .i p, .i q, .nd _ _ r, h => Tr.getP_setP_other x p q r fun e => h (by rw [e])
  | .o _, .i q, .lf, _ => Tr.getP_lf q
  | .o _, .i _, .nd _ _ _, _ => rfl
  | .i _, .o q, .lf, _ => Tr.getP_lf q
  | .i _, .o _, .nd _ _ _, _ => rfl
theorem Tr.get_lf {α : Type} (m : Nat) : (Tr.lf : Tr α).get m = none := Tr.getP_lf _
theorem Tr.get_set {α : Type} (t : Tr α) (n m : Nat) (x : α) : (t.set n x).get m = if m = n then some x else t.get m := by
  by_cases h : m = n
  · subst h
    rw [if_pos rfl]
    exact Tr.getP_setP_same x _ t
  · rw [if_neg h]
    exact Tr.getP_setP_other x _ _ t fun e => h (pth_inj e)

/-- Where an abstract object lies: its block, the first cell there, how many cells are its own. -/
structure Loc where
  blk : Nat
  base : Nat
  lim : Nat
/-- What must stay as it is, and what no abstract object may lie in. -/
structure Kp where
  keep : Nat → Prop
  avoid : Nat → Prop
  sub : ∀ k, avoid k → keep k
/-- The blocks of K are as they were; the streams too; no block has gone. -/
structure Keep (K : Nat → Prop) (w w' : World) : Prop where
  os : w'.os = w.os
  tape : w'.tape = w.tape
  output : w'.output = w.output
  size : w.heap.size ≤ w'.heap.size
  block : ∀ k, K k → w'.heap[k]? = w.heap[k]?
theorem Keep.refl (K : Nat → Prop) (w : World) : Keep K w w := ⟨rfl, rfl, rfl, Nat.le_refl _, fun _ _ => rfl⟩
theorem Keep.trans {K : Nat → Prop} {a b c : World} (h : Keep K a b) (k : Keep K b c) : Keep K a c :=
  ⟨k.os.trans h.os, k.tape.trans h.tape, k.output.trans h.output, Nat.le_trans h.size k.size, fun i hi => (k.block i hi).trans (h.block i hi)⟩
theorem Keep.mono {K K' : Nat → Prop} {w w' : World} (h : Keep K w w') (hK : ∀ k, K' k → K k) : Keep K' w w' := ⟨h.os, h.tape, h.output, h.size, fun k hk => h.block k (hK k hk)⟩
theorem Keep.drew {K : Nat → Prop} {a w : World} (h : Keep K a w) : Keep K a w.drew := ⟨h.os, h.tape, h.output, h.size, h.block⟩
theorem Keep.alloc {K : Nat → Prop} {a w : World} (h : Keep K a w) (hK : ∀ k, K k → k < w.heap.size) (o : Obj) : Keep K a (w.alloc o) :=
  h.trans ⟨rfl, rfl, rfl, by simp, fun k hk => Below.heap_alloc _ _ _ (hK k hk)⟩
theorem Keep.of_below {B : Nat} {w w' : World} (h : Below B w w') : Keep (· < B) w w' := ⟨h.os, h.tape, h.output, h.size, fun k hk => h.block k hk⟩
theorem Keep.below {B : Nat} {w w' : World} (h : Keep (· < B) w w') : Below B w w' := ⟨h.os, h.tape, h.output, h.size, fun k hk => h.block k hk⟩
/-- All below a number, and nothing to be avoided. -/
def Kp.low (B : Nat) : Kp := ⟨(· < B), fun _ => False, fun _ h => h.elim⟩
abbrev Ctx := Nat → Option Loc
def Ctx.le (c d : Ctx) : Prop := ∀ i L, c i = some L → d i = some L
theorem Ctx.le_refl (c : Ctx) : Ctx.le c c := fun _ _ h => h
theorem Ctx.le_trans {a b c : Ctx} (h : Ctx.le a b) (k : Ctx.le b c) : Ctx.le a c := fun i L e => k i L (h i L e)
noncomputable def Ctx.ext (c : Ctx) (n : Nat) (L : Loc) : Ctx := fun i => if i = n then some L else c i
theorem Ctx.le_ext {c : Ctx} {n : Nat} {L : Loc} (h : c n = none) : Ctx.le c (c.ext n L) := fun i M e => by
  unfold Ctx.ext
  split
  · rename_i hi; rw [hi, h] at e; cases e
  · exact e
theorem Ctx.ext_same (c : Ctx) (n : Nat) (L : Loc) : c.ext n L n = some L := by simp [Ctx.ext]

def one (v : Value) : Prop := v.oneCell' = true

mutual
inductive VR (c : Ctx) : AV → Value → Prop
  | bool (b : Bool) : VR c (.bool b) (.bool b)
  | int (k : IntKind) (n : Int) : VR c (.int k n) (.int k n)
  | str (l : List UInt8) : VR c (.str l) (.string ⟨⟨l⟩⟩)
  | nilp : VR c .nilp (.pointer none)
  | ptr {r : Nat} {L : Loc} (off : Nat) (h : c r = some L) : VR c (.ptr r off) (.pointer (some ⟨L.blk, L.base + off, none⟩))
  | nils : VR c .nils (.slice none 0 0)
  | esl (a : Addr) (cap : Nat) : VR c .esl (.slice (some a) 0 cap)
  | slice {r off len cap esz : Nat} {ex : Bool} {L : Loc} (cap' : Nat) (h : c r = some L) (h1 : len ≤ cap) (h2 : cap ≤ cap') (h3 : ex = true → cap' = cap) (h4 : off + cap' * esz ≤ L.lim) :
      VR c (.slice r off len cap esz ex) (.slice (some ⟨L.blk, L.base + off, none⟩) len cap')
  | nilm : VR c .nilm (.map none)
  | map {r : Nat} {L : Loc} (h : c r = some L) : VR c (.map r) (.map (some L.blk))
  | fn (f : FuncId) {a b : List AV} {a' b' : List Value} (ha : VRs c a a') (hb : VRs c b b') : VR c (.fn f a b) (.func (.func f) ⟨a'⟩ ⟨b'⟩)
  | yld {l : Nat} {L : Loc} (h : c l = some L) : VR c (.yld l) (.func (.yield L.blk) #[] #[])
  | nilf : VR c .nilf .nilFunc
  | nili : VR c .nili .nilIface
  | iface (t : TypeId) {v : AV} {v' : Value} (h : VR c v v') : VR c (.iface t v) (.iface t v')
  | agg {cs : List AV} {cs' : List Value} (h : VRs c cs cs') : VR c (.agg cs) (.agg ⟨cs'⟩)
  | tup {cs : List AV} {cs' : List Value} (h : VRs c cs cs') : VR c (.tup cs) (.tuple ⟨cs'⟩)
  | unk (v : Value) (h : v.oneCell' = true) : VR c .unk v
  | big {lo : Nat} (n : Int) (h : Int.ofNat lo ≤ n) : VR c (.big lo) (.int .i64 n)
  | cong {k : IntKind} {m r : Nat} (x : Nat) (h : x % m = r) (hb : x < 256) : VR c (.cong k m r) (.int k (Int.ofNat x))
inductive VRs (c : Ctx) : List AV → List Value → Prop
  | nil : VRs c [] []
  | cons {a : AV} {v : Value} {as : List AV} {vs : List Value} (h : VR c a v) (t : VRs c as vs) : VRs c (a :: as) (v :: vs)
end

mutual
theorem VR.mono {c d : Ctx} (hcd : Ctx.le c d) : ∀ {a : AV} {v : Value}, VR c a v → VR d a v
  | _, _, .bool b => .bool b
  | _, _, .int k n => .int k n
  | _, _, .str l => .str l
  | _, _, .nilp => .nilp
  | _, _, .ptr off h => .ptr off (hcd _ _ h)
  | _, _, .nils => .nils
  | _, _, .esl a cap => .esl a cap
  | _, _, .slice cap' h h1 h2 h3 h4 => .slice cap' (hcd _ _ h) h1 h2 h3 h4
  | _, _, .nilm => .nilm
  | _, _, .map h => .map (hcd _ _ h)
  | _, _, .fn f ha hb => .fn f (VRs.mono hcd ha) (VRs.mono hcd hb)
  | _, _, .yld h => .yld (hcd _ _ h)
  | _, _, .nilf => .nilf
  | _, _, .nili => .nili
  | _, _, .iface t h => .iface t (VR.mono hcd h)
  | _, _, .agg h => .agg (VRs.mono hcd h)
  | _, _, .tup h => .tup (VRs.mono hcd h)
  | _, _, .unk v h => .unk v h
  | _, _, .big n h => .big n h
  | _, _, .cong x h hb => .cong x h hb
theorem VRs.mono {c d : Ctx} (hcd : Ctx.le c d) : ∀ {a : List AV} {v : List Value}, VRs c a v → VRs d a v
  | _, _, .nil => .nil
  | _, _, .cons h t => .cons (VR.mono hcd h) (VRs.mono hcd t)
end

theorem VRs.length {c : Ctx} : ∀ {a : List AV} {v : List Value}, VRs c a v → a.length = v.length
  | _, _, .nil => rfl
  | _, _, .cons _ t => by simp [VRs.length t]
theorem VRs.get {c : Ctx} : ∀ {a : List AV} {v : List Value}, VRs c a v → ∀ (i : Nat) (x : AV), a[i]? = some x → ∃ y, v[i]? = some y ∧ VR c x y
  | _, _, .nil, _, _, h => by simp at h
  | _, _, .cons h t, 0, x, e => by
    simp only [List.getElem?_cons_zero, Option.some.injEq] at e
    subst e
    exact ⟨_, by simp, h⟩
  | _, _, .cons h t, i + 1, x, e => by
    simp only [List.getElem?_cons_succ] at e
    obtain ⟨y, hy, hr⟩ := VRs.get t i x e
    exact ⟨y, by simpa using hy, hr⟩
theorem VRs.append {c : Ctx} : ∀ {a : List AV} {v : List Value}, VRs c a v → ∀ {b : List AV} {u : List Value}, VRs c b u → VRs c (a ++ b) (v ++ u)
  | _, _, .nil, _, _, h => h
  | _, _, .cons h t, _, _, k => .cons h (VRs.append t k)
theorem VRs.take {c : Ctx} : ∀ {a : List AV} {v : List Value}, VRs c a v → ∀ n, VRs c (a.take n) (v.take n)
  | _, _, .nil, n => by simp; exact .nil
  | _, _, .cons h t, 0 => by simp; exact .nil
  | _, _, .cons h t, n + 1 => by simp only [List.take_succ_cons]; exact .cons h (VRs.take t n)
theorem VRs.drop {c : Ctx} : ∀ {a : List AV} {v : List Value}, VRs c a v → ∀ n, VRs c (a.drop n) (v.drop n)
  | _, _, .nil, n => by simp; exact .nil
  | _, _, .cons h t, 0 => .cons h t
  | _, _, .cons h t, n + 1 => by simp only [List.drop_succ_cons]; exact VRs.drop t n
theorem VRs.of_get {c : Ctx} : ∀ (a : List AV) (v : List Value), a.length = v.length → (∀ (i : Nat) (x : AV), a[i]? = some x → ∃ y, v[i]? = some y ∧ VR c x y) → VRs c a v
  | [], [], _, _ => .nil
  | [], _ :: _, h, _ => by simp at h
  | _ :: _, [], h, _ => by simp at h
  | x :: as, y :: vs, h, k => .cons (by obtain ⟨z, hz, hr⟩ := k 0 x (by simp); simp at hz; subst hz; exact hr)
      (VRs.of_get as vs (by simpa using h) fun i z hz => by obtain ⟨u, hu, hr⟩ := k (i + 1) z (by simpa using hz); exact ⟨u, by simpa using hu, hr⟩)
theorem VR.one {c : Ctx} {a : AV} {v : Value} (h : VR c a v) (h1 : a.one = true) : v.oneCell' = true := by
  cases h <;> first | rfl | (simp [AV.one] at h1; done) | assumption
theorem cells_one {v : Value} (h : v.oneCell' = true) : v.cells = #[v] := by
  cases v <;> first | rfl | (simp [Value.oneCell'] at h)
theorem VR.cells {c : Ctx} {a : AV} {v : Value} (h : VR c a v) (hu : a.cells.all AV.one = true) : VRs c a.cells v.cells.toList := by
  cases h with
  | agg h => exact h
  | tup h => simp [AV.cells, AV.one] at hu
  | unk v h => rw [cells_one h]; exact .cons (.unk _ h) .nil
  | bool b => exact .cons (.bool b) .nil
  | int k n => exact .cons (.int k n) .nil
  | str l => exact .cons (.str l) .nil
  | nilp => exact .cons .nilp .nil
  | ptr off h => exact .cons (.ptr off h) .nil
  | nils => exact .cons .nils .nil
  | esl a cap => exact .cons (.esl a cap) .nil
  | slice cap' h h1 h2 h3 h4 => exact .cons (.slice cap' h h1 h2 h3 h4) .nil
  | nilm => exact .cons .nilm .nil
  | map h => exact .cons (.map h) .nil
  | fn f ha hb => exact .cons (.fn f ha hb) .nil
  | yld h => exact .cons (.yld h) .nil
  | nilf => exact .cons .nilf .nil
  | nili => exact .cons .nili .nil
  | iface t h => exact .cons (.iface t h) .nil
  | big n h => exact .cons (.big n h) .nil
  | cong x h hb => exact .cons (.cong x h hb) .nil
end Go.Ev
