/-
  The evaluator over this seat's program; the awake of its laws.
-/
import Derived.Test.YtjggeombkbianaaEvU
import Derived.Test.YtjggeombkbianaaRows
namespace Go.Proofs.Ytjggeombkbianaa.Ev
open Go Go.Ev Go.RowKit

noncomputable def cfg (pr : FuncId → Option (List AV → Hp → Option (AV × Hp))) : Cfg := { P := Try.prog, glob := fun _ => none, prim := pr, ext := fun _ => none, lim := 10000 }
variable {pr : FuncId → Option (List AV → Hp → Option (AV × Hp))}
theorem numg : (Try.prog.funcs.toList.all fun fn => fn.body.isNone || !(fn.name == "runtime.NumGoroutine")) = true := by kernel_rfl
theorem cfg_ok {B : Kp} {w0 : World} (hp : PrimOK (cfg pr) B w0) : CfgOK (cfg pr) B w0 := ⟨by kernel_rfl, hp, fun f g h => (by cases h), fun f fn hf hb hn => by
  have h := numg
  rw [List.all_eq_true] at h
  have hf' : Try.prog.funcs[f]? = some fn := hf
  have := h fn (List.mem_of_getElem? (i := f) (by simpa using hf'))
  cases hbody : fn.body with
  | none => rw [hbody] at hb; cases hb
  | some b => rw [hbody, hn] at this; cases this⟩
theorem glob_ok : ∀ g r, (cfg pr).glob g = some r → ∃ t, ([] : List Tab)[r]? = some t ∧ t.blk = g := fun g r h => by cases h
theorem held (W : World) : Held W [] := fun t ht => by cases ht
noncomputable def tT : Tr TypeInfo := fillT 0 Try.prog.types.toList .lf
noncomputable def tF : Tr Func := fillT 0 Try.prog.funcs.toList .lf
noncomputable def fast (pr : FuncId → Option (List AV → Hp → Option (AV × Hp))) : FC := FC.of (cfg pr) (TT.fast Try.prog tT tF)
theorem fast_eq (pr : FuncId → Option (List AV → Hp → Option (AV × Hp))) (d : Nat) : F.evRec (fast pr) d = evRec (cfg pr) d := F.eq (C := cfg pr) (TT.fast_eq Try.prog) d

theorem awake_ev : isTrue ((F.evRec (fast fun _ => none) 50).call 11 [] (tabHp [])) = true := by kernel_rfl
/-- The laws' awake is true in every world. -/
theorem awake (W : World) : Calls Try.prog 11 #[] W fun e w' => e = .returned (.bool true) ∧ Below W.heap.size W w' :=
  call_true (cfg_ok (pr := fun _ => none) fun _ _ _ f g h => (by cases h)) glob_ok (args := []) (args' := []) .nil (by rw [← fast_eq]; exact awake_ev) (held W)

/-! With awake known by itself. -/
noncomputable def pr1 : FuncId → Option (List AV → Hp → Option (AV × Hp)) | 11 => some primTrue | _ => none
theorem nameA : (Try.f11.name == "runtime.NumGoroutine") = false := by kernel_rfl
theorem bodyA : Try.f11.body.isSome = true := by kernel_rfl
theorem prim_ok (w0 : World) : PrimOK (cfg pr1) (Kp.low w0.heap.size) w0 := by
  intro B' w1 s f g hg args h v h' e w c args' G H hA
  unfold cfg at hg
  simp only at hg
  unfold pr1 at hg
  split at hg
  · cases hg
    obtain ⟨code, hb⟩ := Option.isSome_iff_exists.1 bodyA
    exact prim_true Try.func11 hb (by simpa using nameA) (held w0) (fun w _ => awake w) e s H hA
  · cases hg
/-- A law's call that the evaluator carries out. -/
theorem law {f : FuncId} {args : List AV} {args' : List Value} (hA : ∀ c, VRs c args args') (e : isTrue ((F.evRec (fast pr1) 50).call f args (tabHp [])) = true) (W : World) :
    Calls Try.prog f ⟨args'⟩ W fun e w' => e = .returned (.bool true) ∧ Below W.heap.size W w' :=
  call_true (cfg_ok (prim_ok W)) glob_ok (hA _) (by rw [← fast_eq]; exact e) (held W)
theorem ints2 (a b : Int) (c : Ctx) : VRs c [.int .i64 a, .int .i64 b] [.int .i64 a, .int .i64 b] := .cons (.int _ _) (.cons (.int _ _) .nil)
#print axioms law
end Go.Proofs.Ytjggeombkbianaa.Ev
