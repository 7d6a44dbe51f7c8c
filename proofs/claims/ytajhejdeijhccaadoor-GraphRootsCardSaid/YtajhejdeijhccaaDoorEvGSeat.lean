/-
  The evaluator over this seat's program: its tables, its functions without a Go body; the awake of its laws.
-/
import Derived.Test.YtajhejdeijhccaaDoorEvU
import Derived.Test.YtajhejdeijhccaaDoorRows
namespace Go.Proofs.YtajhejdeijhccaaDoor.Ev
open Go Go.Ev Go.RowKit

noncomputable def gl : Nat → Option Nat := fun _ => none
noncomputable def ex : FuncId → Option (List AV → Hp → Option (AV × Hp)) | 98 => some extNoEscape | 99 => some (extMakeNoZero 5) | 102 => some extCountString | 109 => some extIndexByteString | _ => none
noncomputable def cfg (pr : FuncId → Option (List AV → Hp → Option (AV × Hp))) : Cfg := { P := Tryd.prog, glob := gl, prim := pr, ext := ex, lim := 10000 }
variable {pr : FuncId → Option (List AV → Hp → Option (AV × Hp))}

theorem numg : (Tryd.prog.funcs.toList.all fun fn => fn.body.isNone || !(fn.name == "runtime.NumGoroutine")) = true := by kernel_rfl
theorem ext_ok : ExtOK (cfg pr) := by
  intro f g hg
  unfold cfg at hg ⊢
  simp only at hg ⊢
  unfold ex at hg
  split at hg
  · cases hg; exact ext_same Tryd.func98 (by kernel_rfl) (by kernel_rfl) (by kernel_rfl) (by kernel_rfl)
  · cases hg; exact ext_makeNoZero (ps := Tryd.f99.params) (t := 94) Tryd.func99 (by kernel_rfl) (by kernel_rfl) (by kernel_rfl) (by kernel_rfl) Tryd.underlying94
  · cases hg; exact ext_count Tryd.func102 (by kernel_rfl) (by kernel_rfl) (by kernel_rfl) (by kernel_rfl)
  · cases hg; exact ext_indexByte Tryd.func109 (by kernel_rfl) (by kernel_rfl) (by kernel_rfl) (by kernel_rfl)
  · cases hg
theorem cfg_ok {B : Kp} {w0 : World} (hp : PrimOK (cfg pr) B w0) : CfgOK (cfg pr) B w0 := ⟨by kernel_rfl, hp, ext_ok, fun f fn hf hb hn => by
  have h := numg
  rw [List.all_eq_true] at h
  have hf' : Tryd.prog.funcs[f]? = some fn := hf
  have := h fn (List.mem_of_getElem? (i := f) (by simpa using hf'))
  cases hbody : fn.body with
  | none => rw [hbody] at hb; cases hb
  | some b => rw [hbody, hn] at this; cases this⟩

theorem glob_ok : ∀ g r, (cfg pr).glob g = some r → ∃ t, ([] : List Tab)[r]? = some t ∧ t.blk = g := fun g r h => by cases h
theorem held (W : World) : Held W [] := fun t ht => by cases ht
noncomputable def tT : Tr TypeInfo := fillT 0 Tryd.prog.types.toList .lf
noncomputable def tF : Tr Func := fillT 0 Tryd.prog.funcs.toList .lf
noncomputable def fast (pr : FuncId → Option (List AV → Hp → Option (AV × Hp))) : FC := FC.of (cfg pr) (TT.fast Tryd.prog tT tF)
theorem fast_eq (pr : FuncId → Option (List AV → Hp → Option (AV × Hp))) (d : Nat) : F.evRec (fast pr) d = evRec (cfg pr) d := F.eq (C := cfg pr) (TT.fast_eq Tryd.prog) d
theorem awake_ev : isTrue ((F.evRec (fast fun _ => none) 50).call 20 [] (tabHp [])) = true := by kernel_rfl
/-- The laws' awake is true in every world. -/
theorem awake (W : World) : Calls Tryd.prog 20 #[] W fun e w' => e = .returned (.bool true) ∧ Below W.heap.size W w' :=
  call_true (cfg_ok (pr := fun _ => none) fun _ _ _ f g h => (by cases h)) glob_ok (args := []) (args' := []) .nil (by rw [← fast_eq]; exact awake_ev) (held W)
#print axioms awake
end Go.Proofs.YtajhejdeijhccaaDoor.Ev
