/-
  The evaluator over this seat's program: its tables, its functions without a Go body; the awake of its laws.
-/
import Derived.Test.YtlineonmpbdkgaaDoorEvPrim
import Derived.Test.YtlineonmpbdkgaaDoorEvRoIndex
import Derived.Test.YtlineonmpbdkgaaDoorRows
namespace Go.Proofs.YtlineonmpbdkgaaDoor.Ev
open Go Go.Ev Go.RowKit

noncomputable def gl : Nat → Option Nat | 1 => some 0 | 2 => some 1 | _ => none
noncomputable def ex : FuncId → Option (List AV → Hp → Option (AV × Hp)) | 101 => some extNoEscape | 102 => some (extMakeNoZero 5) | 105 => some extCountString | 114 => some extIndexByteString | _ => none
noncomputable def cfg (pr : FuncId → Option (List AV → Hp → Option (AV × Hp))) : Cfg := { P := Tryd.prog, glob := gl, prim := pr, ext := ex, lim := 10000 }
variable {pr : FuncId → Option (List AV → Hp → Option (AV × Hp))}

theorem numg : (Tryd.prog.funcs.toList.all fun fn => fn.body.isNone || !(fn.name == "runtime.NumGoroutine")) = true := by kernel_rfl
theorem ext_ok : ExtOK (cfg pr) := by
  intro f g hg
  unfold cfg at hg ⊢
  simp only at hg ⊢
  unfold ex at hg
  split at hg
  · cases hg; exact ext_same Tryd.func101 (by kernel_rfl) (by kernel_rfl) (by kernel_rfl) (by kernel_rfl)
  · cases hg; exact ext_makeNoZero (ps := Tryd.f102.params) (t := 105) Tryd.func102 (by kernel_rfl) (by kernel_rfl) (by kernel_rfl) (by kernel_rfl) Tryd.underlying105
  · cases hg; exact ext_count Tryd.func105 (by kernel_rfl) (by kernel_rfl) (by kernel_rfl) (by kernel_rfl)
  · cases hg; exact ext_indexByte Tryd.func114 (by kernel_rfl) (by kernel_rfl) (by kernel_rfl) (by kernel_rfl)
  · cases hg
theorem cfg_ok {B : Kp} {w0 : World} (hp : PrimOK (cfg pr) B w0) : CfgOK (cfg pr) B w0 := ⟨by kernel_rfl, hp, ext_ok, fun f fn hf hb hn => by
  have h := numg
  rw [List.all_eq_true] at h
  have hf' : Tryd.prog.funcs[f]? = some fn := hf
  have := h fn (List.mem_of_getElem? (i := f) (by simpa using hf'))
  cases hbody : fn.body with
  | none => rw [hbody] at hb; cases hb
  | some b => rw [hbody, hn] at this; cases this⟩

/-! The tables. -/
noncomputable def z0 : List Int := [0, 1, 28, 2, 29, 14, 24, 3, 30, 22, 20, 15, 25, 17, 4, 8, 31, 27, 13, 23, 21, 19, 16, 7, 26, 12, 18, 6, 11, 5, 10, 9]
noncomputable def z1 : List Int := [0, 1, 56, 2, 57, 49, 28, 3, 61, 58, 42, 50, 38, 29, 17, 4, 62, 47, 59, 36, 45, 43, 51, 22, 53, 39, 33, 30, 24, 18, 12, 5, 63, 55, 48, 27, 60, 41, 37, 16, 46, 35, 44, 21, 52, 32, 23, 11, 54, 26, 40, 15, 34, 20, 31, 10, 25, 14, 19, 9, 13, 8, 7, 6]
noncomputable def tabs (e0 e1 : TypeId) : List Tab := [⟨1, e0, z0.map (.int .u8)⟩, ⟨2, e1, z1.map (.int .u8)⟩]
theorem glob_ok (e0 e1 : TypeId) : ∀ g r, (cfg pr).glob g = some r → ∃ t, (tabs e0 e1)[r]? = some t ∧ t.blk = g := by
  intro g r h
  unfold cfg gl at h
  simp only at h
  split at h
  · cases h; exact ⟨_, rfl, rfl⟩
  · cases h; exact ⟨_, rfl, rfl⟩
  · cases h

theorem ofVs_ints (k : IntKind) : ∀ zs : List Int, ofVs (zs.map (Value.int k)) = some (zs.map (AV.int k))
  | [] => rfl
  | z :: zs => by simp [ofVs, ofV, ofVs_ints k zs]
theorem tab_head {P : Program} {W : World} {name : String} {k : IntKind} {zs : List Int} {rest : List (String × DataW Unit)} {g : Nat} {t e : TypeId} {n : Nat} {ps : List MemPlace}
    (hg : P.globalNamed name = some g) (hty : (P.globals[g]?).map (·.type) = some t) (ht : P.underlying t = some (.array n e)) (he : P.underlying e = some (.int k)) (hce : P.cellsOf e = 1) (hct : P.cellsOf t = n)
    (h : DataW.LaidVars P W ((name, Lib.tabData k zs) :: rest) ps) : (∃ el fz, W.heap[g]? = some (.cells ⟨zs.map (Value.int k)⟩ el fz)) ∧ ∃ q, DataW.LaidVars P W rest q := by
  obtain ⟨g', t', cs, fuel, p, q, hg', ht', hvar, hd, hr, _⟩ := h
  obtain rfl := Option.some.inj (hg.symm.trans hg')
  obtain rfl := Option.some.inj (hty.symm.trans ht')
  refine ⟨?_, q, hr⟩
  have hcs := Lib.cells_of_tab ht he hce hct hd
  unfold World.var? at hvar
  rw [hg, Option.bind_some] at hvar
  split at hvar
  · rename_i cs' el fz hb
    cases hvar
    exact ⟨el, fz, by rw [hb, ← hcs]⟩
  · cases hvar
theorem held_of {W : World} {g : Nat} {k : IntKind} {zs : List Int} {el : TypeId} {fz : Nat × Nat} (h : W.heap[g]? = some (.cells ⟨zs.map (Value.int k)⟩ el fz)) :
    ∃ (cs : List Value) (fz : Nat × Nat), W.heap[g]? = some (.cells ⟨cs⟩ el fz) ∧ ofVs cs = some (zs.map (AV.int k)) ∧ ∀ v ∈ cs, v.oneCell' = true :=
  ⟨_, fz, h, ofVs_ints k zs, fun v hv => by obtain ⟨z, _, rfl⟩ := List.mem_map.1 hv; rfl⟩

/-- What the rows' list gives. -/
theorem held {W : World} (h : laidMetH Tryd.prog Rows.roundOrdersRow.laid W) : ∃ e0 e1, Held W (tabs e0 e1) := by
  have h' : laidMet Tryd.prog Rows.roundOrdersRow.laid W := h
  obtain ⟨ps, hl, _⟩ := h'
  obtain ⟨⟨e0, f0, h0⟩, q0, hl⟩ := tab_head (name := "math/bits.deBruijn32tab") (k := .u8) (zs := z0) (g := 1) (t := 140) (e := 5) (n := 32) (by kernel_rfl) (by kernel_rfl) Tryd.underlying140 Tryd.underlying5 (by kernel_rfl) (by kernel_rfl) hl
  obtain ⟨⟨e1, f1, h1⟩, q1, hl⟩ := tab_head (name := "math/bits.deBruijn64tab") (k := .u8) (zs := z1) (g := 2) (t := 141) (e := 5) (n := 64) (by kernel_rfl) (by kernel_rfl) Tryd.underlying141 Tryd.underlying5 (by kernel_rfl) (by kernel_rfl) hl
  refine ⟨e0, e1, fun t ht => ?_⟩
  rcases List.mem_cons.1 ht with rfl | ht
  · exact held_of h0
  rcases List.mem_cons.1 ht with rfl | ht
  · exact held_of h1
  · cases ht

/-! strings.Index reads how long a text it may take at once: whatever that number is. -/
def Len (W : World) : Prop := ∃ m, W.cell? ⟨0, 0, none⟩ = some (.int .i64 m)
theorem len_of {W : World} (h : W.ShapedOpen Tryd.prog) : Len W :=
  Go.Proofs.Tryd.laysM219.s1_3 W h
theorem block0 {W : World} (h : Len W) : 0 < W.heap.size := by
  obtain ⟨m, hm⟩ := h
  by_cases hb : 0 < W.heap.size
  · exact hb
  · exfalso
    simp only [World.cell?] at hm
    rw [Array.getElem?_eq_none (by omega)] at hm
    cases hm
noncomputable def prI : FuncId → Option (List AV → Hp → Option (AV × Hp)) | 106 => some primIndex | _ => none
theorem name106 : (Tryd.f106.name == "runtime.NumGoroutine") = false := by kernel_rfl
theorem body106 : Tryd.f106.body.isSome = true := by kernel_rfl
theorem index_ok {w0 : World} (hm : Len w0) : PrimOK (cfg prI) (Kp.low w0.heap.size) w0 := by
  intro B' w1 s f g hg args h v h' e w c args' G H hA
  unfold cfg at hg
  simp only at hg
  unfold prI at hg
  split at hg
  · cases hg
    obtain ⟨code, hb⟩ := Option.isSome_iff_exists.1 body106
    refine prim_index Tryd.func106 hb (by simpa using name106) (block0 hm) (fun w hw s t hs => ?_) e s H hA
    obtain ⟨m, hm⟩ := hm
    have hc : w.cell? ⟨0, 0, none⟩ = some (.int .i64 m) := by rw [World.cell?_of_block (w := w0) hw]; exact hm
    exact Go.Proofs.Any.stringslite_Index { Go.Proofs.Tryd.laysM219 with } s t m w hs hc
  · cases hg
noncomputable def tT : Tr TypeInfo := fillT 0 Tryd.prog.types.toList .lf
noncomputable def tF : Tr Func := fillT 0 Tryd.prog.funcs.toList .lf
noncomputable def fast (pr : FuncId → Option (List AV → Hp → Option (AV × Hp))) : FC := FC.of (cfg pr) (TT.fast Tryd.prog tT tF)
theorem fast_eq (pr : FuncId → Option (List AV → Hp → Option (AV × Hp))) (d : Nat) : F.evRec (fast pr) d = evRec (cfg pr) d := F.eq (C := cfg pr) (TT.fast_eq Tryd.prog) d
theorem awake_ev (e0 e1 : TypeId) : isTrue ((F.evRec (fast prI) 50).call 13 [] (tabHp (tabs e0 e1))) = true := by kernel_rfl
/-- The laws' awake is true in every world that holds the tables. -/
theorem awake {W : World} {e0 e1 : TypeId} (H : Held W (tabs e0 e1)) (hm : Len W) : Calls Tryd.prog 13 #[] W fun e w' => e = .returned (.bool true) ∧ Below W.heap.size W w' :=
  call_true (cfg_ok (index_ok hm)) (glob_ok e0 e1) (args := []) (args' := []) .nil (by rw [← fast_eq]; exact awake_ev e0 e1) H
#print axioms awake
end Go.Proofs.YtlineonmpbdkgaaDoor.Ev
