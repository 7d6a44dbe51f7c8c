/-
  The evaluator's comparisons, conversions and built-in functions, and the machine's.
-/
import Derived.Test.YtpdlnijdcgcfbaaDoorEvI
namespace Go.Ev
open Go Go.RowKit

section
variable {C : Cfg} {B : Nat} {w0 w : World} {c : Ctx} {h : Hp}

noncomputable def plainPair : Value → Value → Bool
  | .nilIface, .nilIface => false
  | .agg _, .agg _ => false
  | _, _ => true
theorem eqGuard_run (P : Program) (op : BinOp) (t : TypeId) (x y : Operand) (a b : Value) (hp : plainPair a b = true) (w : World) : (eqGuard op t x y a b).run P w = .ok () w := by
  unfold eqGuard
  split
  · rw [if_neg (by decide)]
    split
    · simp [plainPair] at hp
    · simp [plainPair] at hp
    · rfl
  · rw [if_neg (by decide)]
    split
    · simp [plainPair] at hp
    · simp [plainPair] at hp
    · rfl
  · rw [if_pos (by decide)]
    rfl

def EqR (P : Program) (t : TypeId) (x y : Value) (b : Bool) : Prop := ∀ (d : Nat) (w : World), (Op.equalIn (d + 1) t x y).run P w = .ok b w
theorem EqR.equal {P : Program} {t : TypeId} {x y : Value} {b : Bool} (h : EqR P t x y b) (w : World) : (Op.equal t x y).run P w = .ok b w := h 9999 w

theorem aEqAll_eq {t : TypeId} {x y : AV} {xv yv : Value} (hx : VR c x xv) (hy : VR c y yv) {b : Bool} (e : aEqAll C t x y = some b) : EqR C.P t xv yv b := by
  unfold aEqAll at e
  split at e
  · rename_i el hu; cases e; cases hx; cases hy; intro d w; simp only [Op.equalIn, Sem.run_bind, run_underlying hu, Result.andThen_ok]; rfl
  · rename_i el r off hu; cases e; cases hx; cases hy; intro d w; simp only [Op.equalIn, Sem.run_bind, run_underlying hu, Result.andThen_ok]; rfl
  · rename_i el r off hu; cases e; cases hx; cases hy; intro d w; simp only [Op.equalIn, Sem.run_bind, run_underlying hu, Result.andThen_ok]; rfl
  · rename_i el r a r' b' hu
    split at e
    · rename_i n hs
      split at e
      · rename_i hr
        cases e; subst hr
        cases hx with
        | ptr _ h1 => cases hy with
          | ptr _ h2 =>
            rw [h1] at h2; cases h2
            intro d w
            simp only [Op.equalIn, Sem.run_bind, run_underlying hu, Result.andThen_ok, sizeB_run hs]
            rename_i L
            have h0 : (n + 1 ≠ 0) = True := by simp
            simp only [h0, if_true, sameAddr, beq_self_eq_true]
            show Result.ok _ w = _
            congr 1
            rw [Bool.eq_iff_iff]; simp
      · cases e
    · cases e
  · rename_i el hu; cases e; cases hx; cases hy; intro d w; simp only [Op.equalIn, Sem.run_bind, run_underlying hu, Result.andThen_ok]; rfl
  · rename_i el hu; cases e; cases hx; cases hy; intro d w; simp only [Op.equalIn, Sem.run_bind, run_underlying hu, Result.andThen_ok]; rfl
  · rename_i el hu; cases e; cases hx; cases hy; intro d w; simp only [Op.equalIn, Sem.run_bind, run_underlying hu, Result.andThen_ok]; rfl
  · rename_i el hu; cases e; cases hx; cases hy; intro d w; simp only [Op.equalIn, Sem.run_bind, run_underlying hu, Result.andThen_ok]; rfl
  · rename_i el hu; cases e; cases hx; cases hy; intro d w; simp only [Op.equalIn, Sem.run_bind, run_underlying hu, Result.andThen_ok]; rfl
  · rename_i k el hu; cases e; cases hx; cases hy; intro d w; simp only [Op.equalIn, Sem.run_bind, run_underlying hu, Result.andThen_ok]; rfl
  · rename_i k el m hu; cases e; cases hx; cases hy; intro d w; simp only [Op.equalIn, Sem.run_bind, run_underlying hu, Result.andThen_ok]; rfl
  · rename_i k el m hu; cases e; cases hx; cases hy; intro d w; simp only [Op.equalIn, Sem.run_bind, run_underlying hu, Result.andThen_ok]; rfl
  · rename_i hu; cases e; cases hx; cases hy; intro d w; simp only [Op.equalIn, Sem.run_bind, run_underlying hu, Result.andThen_ok]; rfl
  · rename_i hu; cases e; cases hx; cases hy; intro d w; simp only [Op.equalIn, Sem.run_bind, run_underlying hu, Result.andThen_ok]; rfl
  · rename_i hu; cases e; cases hx; cases hy; intro d w; simp only [Op.equalIn, Sem.run_bind, run_underlying hu, Result.andThen_ok]; rfl
  · cases e
theorem aEqAll_pair {t : TypeId} {x y : AV} {xv yv : Value} (hx : VR c x xv) (hy : VR c y yv) {b : Bool} (e : aEqAll C t x y = some b) : plainPair xv yv = true ∧
    Go.binOp .eql t xv yv = (do pure (.bool (← Op.equal t xv yv)) : Sem Value) ∧ Go.binOp .neq t xv yv = (do pure (.bool (!(← Op.equal t xv yv))) : Sem Value) := by
  unfold aEqAll at e
  split at e <;> first | (cases hx <;> cases hy <;> exact ⟨rfl, rfl, rfl⟩) | cases e

theorem aBinAll_run {op : BinOp} {t : TypeId} {x y a : AV} {xv yv : Value} (hx : VR c x xv) (hy : VR c y yv) (e : aBinAll C op t x y = some a) (xo yo : Operand) (w : World) :
    ∃ u, (do eqGuard op t xo yo xv yv; Go.binOp op t xv yv : Sem Value).run C.P w = .ok u w ∧ VR c a u := by
  unfold aBinAll at e
  split at e
  · rename_i v hv
    cases e
    unfold aBin at hv
    split at hv
    · cases hx; cases hy
      obtain ⟨u, hr, hu⟩ := aInt_run hv c w
      exact ⟨u, by rw [Sem.run_bind, eqGuard_run _ _ _ _ _ _ _ rfl]; simpa using hr, hu⟩
    · rename_i s1 s2
      cases hx with
      | str _ => cases hy with
        | str _ =>
          have hg := eqGuard_run C.P op t xo yo (.string ⟨⟨s1⟩⟩) (.string ⟨⟨s2⟩⟩) rfl w
          have heq : ((⟨⟨s1⟩⟩ : ByteArray).toList == (⟨⟨s2⟩⟩ : ByteArray).toList) = (s1 == s2) := by rw [ba_toList, ba_toList]
          have hlt : Op.bytesLess (⟨⟨s1⟩⟩ : ByteArray).toList (⟨⟨s2⟩⟩ : ByteArray).toList = strLess s1 s2 := by rw [ba_toList, ba_toList, strLess_eq]
          have hbin : Go.binOp op t (.string ⟨⟨s1⟩⟩) (.string ⟨⟨s2⟩⟩) = Op.stringOp op ⟨⟨s1⟩⟩ ⟨⟨s2⟩⟩ := by cases op <;> rfl
          rw [Sem.run_bind, hg, Result.andThen_ok, hbin]
          cases op with
          | add =>
            simp only at hv
            split at hv
            · rename_i hl
              cases hv
              refine ⟨.string ⟨⟨s1 ++ s2⟩⟩, ?_, .str _⟩
              have hsz : ¬ ((((⟨⟨s1⟩⟩ : ByteArray).size + (⟨⟨s2⟩⟩ : ByteArray).size : Nat) : Int) > IntKind.i64.max) := by
                have e1 : (⟨⟨s1⟩⟩ : ByteArray).size = s1.length := rfl
                have e2 : (⟨⟨s2⟩⟩ : ByteArray).size = s2.length := rfl
                have e3 : IntKind.i64.max = 9223372036854775807 := rfl
                rw [e1, e2, e3]; omega
              have happ : (⟨⟨s1⟩⟩ : ByteArray) ++ (⟨⟨s2⟩⟩ : ByteArray) = ⟨⟨s1 ++ s2⟩⟩ := by
                apply ByteArray.ext
                rw [ByteArray.data_append]
                apply Array.ext'
                simp
              simp only [Op.stringOp, hsz, if_false, happ]
              rfl
            · cases hv
          | eql => cases hv; exact ⟨.bool (s1 == s2), by simp only [Op.stringOp, heq]; rfl, .bool _⟩
          | neq => cases hv; exact ⟨.bool (!(s1 == s2)), by simp only [Op.stringOp, heq]; rfl, .bool _⟩
          | lss => cases hv; exact ⟨.bool (strLess s1 s2), by simp only [Op.stringOp, hlt]; rfl, .bool _⟩
          | leq => cases hv; exact ⟨.bool (strLess s1 s2 || s1 == s2), by simp only [Op.stringOp, hlt, heq]; rfl, .bool _⟩
          | gtr => cases hv; exact ⟨.bool (!(strLess s1 s2 || s1 == s2)), by simp only [Op.stringOp, hlt, heq]; rfl, .bool _⟩
          | geq => cases hv; exact ⟨.bool (!strLess s1 s2), by simp only [Op.stringOp, hlt]; rfl, .bool _⟩
          | _ => simp at hv
    · rename_i b1 b2
      cases hx; cases hy
      have hg := eqGuard_run C.P op t xo yo (.bool b1) (.bool b2) rfl w
      rw [Sem.run_bind, hg, Result.andThen_ok]
      split at hv
      · rename_i hu; cases hv; exact ⟨_, run_eql_bool (P := C.P) w t b1 b2 hu, .bool _⟩
      · rename_i hu; cases hv; exact ⟨_, run_neq_bool (P := C.P) w t b1 b2 hu, .bool _⟩
      · cases hv
    · cases hv
  · split at e
    · simp only [Option.map_eq_some_iff] at e
      obtain ⟨b, hb, rfl⟩ := e
      obtain ⟨hp, h1, _⟩ := aEqAll_pair hx hy hb
      refine ⟨.bool b, ?_, .bool b⟩
      rw [Sem.run_bind, eqGuard_run C.P _ _ _ _ _ _ hp, Result.andThen_ok, h1, Sem.run_bind, (aEqAll_eq hx hy hb).equal]
      rfl
    · simp only [Option.map_eq_some_iff] at e
      obtain ⟨b, hb, rfl⟩ := e
      obtain ⟨hp, _, h2⟩ := aEqAll_pair hx hy hb
      refine ⟨.bool !b, ?_, .bool _⟩
      rw [Sem.run_bind, eqGuard_run C.P _ _ _ _ _ _ hp, Result.andThen_ok, h2, Sem.run_bind, (aEqAll_eq hx hy hb).equal]
      rfl
    · cases e
end
end Go.Ev
