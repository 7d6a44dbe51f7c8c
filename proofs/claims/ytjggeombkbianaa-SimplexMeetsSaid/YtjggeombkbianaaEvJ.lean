/-
  The evaluator's comparisons, conversions and built-in functions, and the machine's.
-/
import Derived.Test.YtjggeombkbianaaEvI
import Derived.Laws.StructEq
import Derived.ChangeKeysEq
set_option linter.unusedSimpArgs false
namespace Go.Ev
open Go Go.RowKit

section
variable {C : Cfg} {B : Kp} {w0 w : World} {c : Ctx} {h : Hp}

noncomputable def plainPair : Value → Value → Bool
  | .nilIface, .nilIface => false
  | .agg _, .agg _ => false
  | _, _ => true
theorem eqGuard_run (P : Program) (op : BinOp) (t : TypeId) (x y : Operand) (a b : Value) (hp : plainPair a b = true) (w : World) : (eqGuard op t x y a b).run P w = .ok () w := by
  unfold eqGuard
  split
  · rw [if_neg (by decide)]
    split
    · simp [plainPair] at hp
    · simp [plainPair] at hp
    · rfl
  · rw [if_neg (by decide)]
    split
    · simp [plainPair] at hp
    · simp [plainPair] at hp
    · rfl
  · rw [if_pos (by decide)]
    rfl

def EqR (P : Program) (t : TypeId) (x y : Value) (b : Bool) : Prop := ∀ (d : Nat) (w : World), (Op.equalIn (d + 1) t x y).run P w = .ok b w
theorem EqR.equal {P : Program} {t : TypeId} {x y : Value} {b : Bool} (h : EqR P t x y b) (w : World) : (Op.equal t x y).run P w = .ok b w := h 9999 w

theorem aEqAll_eq {t : TypeId} {x y : AV} {xv yv : Value} (hx : VR c x xv) (hy : VR c y yv) {b : Bool} (e : aEqAll C t x y = some b) : EqR C.P t xv yv b := by
  unfold aEqAll at e
  split at e
  · rename_i el hu; cases e; cases hx; cases hy; intro d w; simp only [Op.equalIn, Sem.run_bind, run_underlying hu, Result.andThen_ok]; rfl
  · rename_i el r off hu; cases e; cases hx; cases hy; intro d w; simp only [Op.equalIn, Sem.run_bind, run_underlying hu, Result.andThen_ok]; rfl
  · rename_i el r off hu; cases e; cases hx; cases hy; intro d w; simp only [Op.equalIn, Sem.run_bind, run_underlying hu, Result.andThen_ok]; rfl
  · rename_i el r a r' b' hu
    split at e
    · rename_i n hs
      split at e
      · rename_i hr
        cases e; subst hr
        cases hx with
        | ptr _ h1 => cases hy with
          | ptr _ h2 =>
            rw [h1] at h2; cases h2
            intro d w
            simp only [Op.equalIn, Sem.run_bind, run_underlying hu, Result.andThen_ok, sizeB_run hs]
            rename_i L
            have h0 : (n + 1 ≠ 0) = True := by simp
            simp only [h0, if_true, sameAddr, beq_self_eq_true]
            show Result.ok _ w = _
            congr 1
            rw [Bool.eq_iff_iff]; simp
      · cases e
    · cases e
  · rename_i el hu; cases e; cases hx; cases hy; intro d w; simp only [Op.equalIn, Sem.run_bind, run_underlying hu, Result.andThen_ok]; rfl
  · rename_i el hu; cases e; cases hx; cases hy; intro d w; simp only [Op.equalIn, Sem.run_bind, run_underlying hu, Result.andThen_ok]; rfl
  · rename_i el hu; cases e; cases hx; cases hy; intro d w; simp only [Op.equalIn, Sem.run_bind, run_underlying hu, Result.andThen_ok]; rfl
  · rename_i el hu; cases e; cases hx; cases hy; intro d w; simp only [Op.equalIn, Sem.run_bind, run_underlying hu, Result.andThen_ok]; rfl
  · rename_i el hu; cases e; cases hx; cases hy; intro d w; simp only [Op.equalIn, Sem.run_bind, run_underlying hu, Result.andThen_ok]; rfl
  · rename_i k el hu; cases e; cases hx; cases hy; intro d w; simp only [Op.equalIn, Sem.run_bind, run_underlying hu, Result.andThen_ok]; rfl
  · rename_i k el m hu; cases e; cases hx; cases hy; intro d w; simp only [Op.equalIn, Sem.run_bind, run_underlying hu, Result.andThen_ok]; rfl
  · rename_i k el m hu; cases e; cases hx; cases hy; intro d w; simp only [Op.equalIn, Sem.run_bind, run_underlying hu, Result.andThen_ok]; rfl
  · rename_i hu; cases e; cases hx; cases hy; intro d w; simp only [Op.equalIn, Sem.run_bind, run_underlying hu, Result.andThen_ok]; rfl
  · rename_i hu; cases e; cases hx; cases hy; intro d w; simp only [Op.equalIn, Sem.run_bind, run_underlying hu, Result.andThen_ok]; rfl
  · rename_i hu; cases e; cases hx; cases hy; intro d w; simp only [Op.equalIn, Sem.run_bind, run_underlying hu, Result.andThen_ok]; rfl
  · cases e
theorem aEqAll_pair {t : TypeId} {x y : AV} {xv yv : Value} (hx : VR c x xv) (hy : VR c y yv) {b : Bool} (e : aEqAll C t x y = some b) : plainPair xv yv = true ∧
    Go.binOp .eql t xv yv = (do pure (.bool (← Op.equal t xv yv)) : Sem Value) ∧ Go.binOp .neq t xv yv = (do pure (.bool (!(← Op.equal t xv yv))) : Sem Value) := by
  unfold aEqAll at e
  split at e <;> first | (cases hx <;> cases hy <;> exact ⟨rfl, rfl, rfl⟩) | cases e

theorem eqFs_run {P : Program} {g : TypeId → AV → AV → Option Bool} {d : Nat} {xs ys : List AV} {xv yv : List Value} (hx : VRs c xs xv) (hy : VRs c ys yv)
    (hg : ∀ t a b r, g t a b = some r → ∀ av bv, VR c a av → VR c b bv → ∀ w, (Op.equalIn d t av bv).run P w = .ok r w) : ∀ (fs : List Field) (b : Bool), eqFs g (aPart P) xs ys fs = some b → ∀ w, (Op.eqFields d ⟨xv⟩ ⟨yv⟩ fs).run P w = .ok b w
  | [], b, e, w => by cases e; simp [Op.eqFields]
  | f :: fs, b, e, w => by
    unfold eqFs at e
    unfold Op.eqFields
    split at e
    · rename_i hn
      rw [if_pos hn]
      split at e
      · rename_i a a' ha ha'
        obtain ⟨u, hu, hru⟩ := aPart_run hx ha w
        obtain ⟨u', hu', hru'⟩ := aPart_run hy ha' w
        simp only [Sem.run_bind, hu, hu', Result.andThen_ok]
        split at e
        · rename_i hr
          rw [hg _ _ _ _ hr _ _ hru hru' w]
          simp only [Result.andThen_ok, Bool.not_true, Bool.false_eq_true, if_false]
          exact eqFs_run hx hy hg fs b e w
        · rename_i hr
          cases e
          rw [hg _ _ _ _ hr _ _ hru hru' w]
          simp
        · cases e
      · cases e
    · rename_i hn
      rw [if_neg hn]
      exact eqFs_run hx hy hg fs b e w
theorem eqIs_run {P : Program} {g : TypeId → AV → AV → Option Bool} {d : Nat} {el : TypeId} {xs ys : List AV} {xv yv : List Value} (hx : VRs c xs xv) (hy : VRs c ys yv)
    (hg : ∀ t a b r, g t a b = some r → ∀ av bv, VR c a av → VR c b bv → ∀ w, (Op.equalIn d t av bv).run P w = .ok r w) : ∀ (n i : Nat) (b : Bool), eqIs g (aPart P) el (P.cellsOf el) xs ys n i = some b → ∀ w, (Op.eqItems d el (P.cellsOf el) ⟨xv⟩ ⟨yv⟩ (List.range' i n)).run P w = .ok b w
  | 0, i, b, e, w => by cases e; simp [Op.eqItems]
  | n + 1, i, b, e, w => by
    unfold eqIs at e
    rw [List.range'_succ]
    unfold Op.eqItems
    split at e
    · rename_i a a' ha ha'
      obtain ⟨u, hu, hru⟩ := aPart_run hx ha w
      obtain ⟨u', hu', hru'⟩ := aPart_run hy ha' w
      simp only [Sem.run_bind, hu, hu', Result.andThen_ok]
      split at e
      · rename_i hr
        rw [hg _ _ _ _ hr _ _ hru hru' w]
        simp only [Result.andThen_ok, Bool.not_true, Bool.false_eq_true, if_false]
        exact eqIs_run hx hy hg n (i + 1) b e w
      · rename_i hr
        cases e
        rw [hg _ _ _ _ hr _ _ hru hru' w]
        simp
      · cases e
    · cases e
theorem aEqIn_run : ∀ (d : Nat) (t : TypeId) (x y : AV) (b : Bool), aEqIn C d t x y = some b → ∀ xv yv, VR c x xv → VR c y yv → ∀ (k : Nat) (w : World), (Op.equalIn (d + k) t xv yv).run C.P w = .ok b w
  | 0, t, x, y, b, e, xv, yv, hx, hy, k, w => by cases e
  | d + 1, t, x, y, b, e, xv, yv, hx, hy, k, w => by
    have hg : ∀ t a b r, aEqIn C d t a b = some r → ∀ av bv, VR c a av → VR c b bv → ∀ w, (Op.equalIn (d + k) t av bv).run C.P w = .ok r w := fun t a b r h av bv h1 h2 w => aEqIn_run d t a b r h av bv h1 h2 k w
    rw [show d + 1 + k = (d + k) + 1 from by omega]
    unfold aEqIn at e
    split at e
    · rename_i hu; cases e; cases hx; cases hy
      exact run_equalIn_bool w _ t _ _ hu
    · rename_i k1 k2 a k3 b2 hu
      cases hx; cases hy
      cases hk : keq k2 k3 with
      | false => rw [hk] at e; cases e
      | true =>
        rw [hk] at e
        have := keq_eq hk
        subst this
        simp only [cond_true, Option.some.injEq] at e
        subst e
        rw [ieq_eq]
        exact run_equalIn_int w _ t _ _ _ _ hu
    · rename_i a b2 hu; cases e
      cases hx with
      | str _ => cases hy with
        | str _ =>
          have h1 := run_equalIn_string (P := C.P) w (d + k) t ⟨⟨a⟩⟩ ⟨⟨b2⟩⟩ hu
          rw [ba_toList, ba_toList] at h1
          exact h1
    · rename_i fs xs ys hu
      cases hs : C.P.stoodInHeld t with
      | true => rw [hs] at e; cases e
      | false =>
        rw [hs] at e
        simp only [cond_false] at e
        have hf : C.P.fieldsOf t = fs := by simp [Program.fieldsOf, hu]
        cases hx with
        | agg hx => cases hy with
          | agg hy =>
            rw [run_equalIn_struct w (d + k) t _ _ (by rw [hf]; exact hu) hs, hf]
            exact eqFs_run hx hy hg fs.toList b e w
    · rename_i n el xs ys hu
      split at e
      · rename_i i hi
        cases hx with
        | agg hx => cases hy with
          | agg hy =>
            rw [run_equalIn_array w (d + k) _ _ hu hi]
            have hc : C.P.cellsOf el = i.size := by simp [Program.cellsOf, hi]
            rw [List.range_eq_range']
            exact eqIs_run hx hy hg n 0 b (by rw [hc]; exact e) w
      · cases e
    · cases e
theorem aEqAgg_run {t : TypeId} {x y : AV} {xv yv : Value} (hx : VR c x xv) (hy : VR c y yv) {b : Bool} (e : aEqAgg C t x y = some b) (xo yo : Operand) (w : World) :
    (do eqGuard .eql t xo yo xv yv; Go.binOp .eql t xv yv : Sem Value).run C.P w = .ok (.bool b) w ∧ (do eqGuard .neq t xo yo xv yv; Go.binOp .neq t xv yv : Sem Value).run C.P w = .ok (.bool !b) w := by
  unfold aEqAgg at e
  split at e
  · cases hm : C.P.eqGuardType C.P.depth t with
    | true => rw [hm] at e; cases e
    | false =>
      rw [hm] at e
      simp only [cond_false] at e
      have h1 := aEqIn_run 8 _ _ _ _ e _ _ hx hy 9992 w
      cases hx with
      | agg hx => cases hy with
        | agg hy =>
          refine ⟨?_, ?_⟩
          · rw [Sem.run_bind, run_eqGuard_agg w .eql t xo yo _ _ hm, Result.andThen_ok, run_eql_struct]
            rw [show (10000 : Nat) = 8 + 9992 from rfl, h1]; rfl
          · rw [Sem.run_bind, run_eqGuard_agg w .neq t xo yo _ _ hm, Result.andThen_ok, run_neq_struct]
            rw [show (10000 : Nat) = 8 + 9992 from rfl, h1]; rfl
  · cases e

theorem aBig_int {op : BinOp} {t : TypeId} {x y r : AV} {xv yv : Value} (hx : VR c x xv) (hy : VR c y yv) (e : aBig op x y = some r) : ∃ a b, xv = .int .i64 a ∧ yv = .int .i64 b ∧ aInt C.P op t .i64 a .i64 b = some r := by
  have lt : ∀ {a b : Int} {lo : Nat}, ilt a (.ofNat lo) = true → Int.ofNat lo ≤ b → ilt a b = true ∧ ilt b a = false ∧ ieq a b = false ∧ ieq b a = false := fun {a b lo} h1 h2 => by
    rw [ilt_eq] at h1
    have h1 := of_decide_eq_true h1
    simp only [Int.ofNat_eq_natCast] at h1 h2
    refine ⟨by rw [ilt_eq]; exact decide_eq_true (by omega), by rw [ilt_eq]; exact decide_eq_false (by omega), ?_, ?_⟩
    · rw [ieq_eq]; exact beq_false_of_ne (by omega)
    · rw [ieq_eq]; exact beq_false_of_ne (by omega)
  unfold aBig at e
  split at e
  · rename_i a lo
    cases hl : ilt a (.ofNat lo) with
    | false => rw [hl] at e; cases e
    | true =>
      rw [hl] at e
      cases hx
      cases hy with
      | big n hn =>
        obtain ⟨h1, h2, h3, h4⟩ := lt hl hn
        refine ⟨_, _, rfl, rfl, ?_⟩
        unfold aInt
        cases op <;> simp only [cond_true] at e <;> first
          | (cases e; done)
          | (cases e; simp only [keq, cond_true, h1, h2, h3, h4, Bool.not_true, Bool.not_false])
  · rename_i lo b
    cases hl : ilt b (.ofNat lo) with
    | false => rw [hl] at e; cases e
    | true =>
      rw [hl] at e
      cases hy
      cases hx with
      | big n hn =>
        obtain ⟨h1, h2, h3, h4⟩ := lt hl hn
        refine ⟨_, _, rfl, rfl, ?_⟩
        unfold aInt
        cases op <;> simp only [cond_true] at e <;> first
          | (cases e; done)
          | (cases e; simp only [keq, cond_true, h1, h2, h3, h4, Bool.not_true, Bool.not_false])
  · cases e

theorem aCong_run {op : BinOp} {t : TypeId} {x y r : AV} {xv yv : Value} (hx : VR c x xv) (hy : VR c y yv) (e : aCong op x y = some r) (xo yo : Operand) (w : World) :
    ∃ u, (do eqGuard op t xo yo xv yv; Go.binOp op t xv yv : Sem Value).run C.P w = .ok u w ∧ VR c r u := by
  unfold aCong at e
  split at e
  · rename_i k m r0 k' d
    cases hk : (keq k k' && (Nat.beq d m && Nat.ble 1 m)) with
    | false => rw [hk] at e; cases e
    | true =>
      rw [hk] at e
      simp only [cond_true] at e
      rw [Bool.and_eq_true, Bool.and_eq_true] at hk
      obtain ⟨h1, h2, h3⟩ := hk
      have := keq_eq h1
      subst this
      have hd := Nat.eq_of_beq_eq_true h2
      subst hd
      have hp := Nat.le_of_ble_eq_true h3
      cases hy
      cases hx with
      | cong x hr hb =>
        cases op <;> simp only at e <;> first | (cases e; done) | skip
        cases e
        refine ⟨.int k (Int.ofNat r0), ?_, .int _ _⟩
        rw [Sem.run_bind, eqGuard_run _ _ _ _ _ _ _ rfl, Result.andThen_ok, binOp_rem]
        unfold Op.intDiv
        rw [if_neg (by simp only [Int.ofNat_eq_natCast]; omega)]
        simp only [Sem.run_pure]
        rw [← hr]
        rfl
  · cases e

theorem aBinAll_run {op : BinOp} {t : TypeId} {x y a : AV} {xv yv : Value} (hx : VR c x xv) (hy : VR c y yv) (e : aBinAll C op t x y = some a) (xo yo : Operand) (w : World) :
    ∃ u, (do eqGuard op t xo yo xv yv; Go.binOp op t xv yv : Sem Value).run C.P w = .ok u w ∧ VR c a u := by
  unfold aBinAll at e
  split at e
  · rename_i v hv
    cases e
    unfold aBin at hv
    split at hv
    · cases hx; cases hy
      obtain ⟨u, hr, hu⟩ := aInt_run hv c w
      exact ⟨u, by rw [Sem.run_bind, eqGuard_run _ _ _ _ _ _ _ rfl]; simpa using hr, hu⟩
    · rename_i s1 s2
      cases hx with
      | str _ => cases hy with
        | str _ =>
          have hg := eqGuard_run C.P op t xo yo (.string ⟨⟨s1⟩⟩) (.string ⟨⟨s2⟩⟩) rfl w
          have heq : ((⟨⟨s1⟩⟩ : ByteArray).toList == (⟨⟨s2⟩⟩ : ByteArray).toList) = (s1 == s2) := by rw [ba_toList, ba_toList]
          have hlt : Op.bytesLess (⟨⟨s1⟩⟩ : ByteArray).toList (⟨⟨s2⟩⟩ : ByteArray).toList = strLess s1 s2 := by rw [ba_toList, ba_toList, strLess_eq]
          have hbin : Go.binOp op t (.string ⟨⟨s1⟩⟩) (.string ⟨⟨s2⟩⟩) = Op.stringOp op ⟨⟨s1⟩⟩ ⟨⟨s2⟩⟩ := by cases op <;> rfl
          rw [Sem.run_bind, hg, Result.andThen_ok, hbin]
          cases op with
          | add =>
            simp only at hv
            split at hv
            · rename_i hl
              cases hv
              refine ⟨.string ⟨⟨s1 ++ s2⟩⟩, ?_, .str _⟩
              have hsz : ¬ ((((⟨⟨s1⟩⟩ : ByteArray).size + (⟨⟨s2⟩⟩ : ByteArray).size : Nat) : Int) > IntKind.i64.max) := by
                have e1 : (⟨⟨s1⟩⟩ : ByteArray).size = s1.length := rfl
                have e2 : (⟨⟨s2⟩⟩ : ByteArray).size = s2.length := rfl
                have e3 : IntKind.i64.max = 9223372036854775807 := rfl
                rw [e1, e2, e3]; omega
              have happ : (⟨⟨s1⟩⟩ : ByteArray) ++ (⟨⟨s2⟩⟩ : ByteArray) = ⟨⟨s1 ++ s2⟩⟩ := by
                apply ByteArray.ext
                rw [ByteArray.data_append]
                apply Array.ext'
                simp
              simp only [Op.stringOp, hsz, if_false, happ]
              rfl
            · cases hv
          | eql => cases hv; exact ⟨.bool (s1 == s2), by simp only [Op.stringOp, heq]; rfl, .bool _⟩
          | neq => cases hv; exact ⟨.bool (!(s1 == s2)), by simp only [Op.stringOp, heq]; rfl, .bool _⟩
          | lss => cases hv; exact ⟨.bool (strLess s1 s2), by simp only [Op.stringOp, hlt]; rfl, .bool _⟩
          | leq => cases hv; exact ⟨.bool (strLess s1 s2 || s1 == s2), by simp only [Op.stringOp, hlt, heq]; rfl, .bool _⟩
          | gtr => cases hv; exact ⟨.bool (!(strLess s1 s2 || s1 == s2)), by simp only [Op.stringOp, hlt, heq]; rfl, .bool _⟩
          | geq => cases hv; exact ⟨.bool (!strLess s1 s2), by simp only [Op.stringOp, hlt]; rfl, .bool _⟩
          | _ => simp at hv
    · rename_i b1 b2
      cases hx; cases hy
      have hg := eqGuard_run C.P op t xo yo (.bool b1) (.bool b2) rfl w
      rw [Sem.run_bind, hg, Result.andThen_ok]
      split at hv
      · rename_i hu; cases hv; exact ⟨_, run_eql_bool (P := C.P) w t b1 b2 hu, .bool _⟩
      · rename_i hu; cases hv; exact ⟨_, run_neq_bool (P := C.P) w t b1 b2 hu, .bool _⟩
      · cases hv
    · cases hv
  · split at e
    · rename_i v hv
      cases e
      obtain ⟨a1, b1, rfl, rfl, hi⟩ := aBig_int (C := C) (t := t) hx hy hv
      obtain ⟨u, hr, hu⟩ := aInt_run hi c w
      exact ⟨u, by rw [Sem.run_bind, eqGuard_run _ _ _ _ _ _ _ rfl]; simpa using hr, hu⟩
    split at e
    · rename_i v hv
      cases e
      exact aCong_run hx hy hv xo yo w
    split at e
    · split at e
      · rename_i b hb
        cases e
        exact ⟨_, (aEqAgg_run hx hy hb xo yo w).1, .bool b⟩
      simp only [Option.map_eq_some_iff] at e
      obtain ⟨b, hb, rfl⟩ := e
      obtain ⟨hp, h1, _⟩ := aEqAll_pair hx hy hb
      refine ⟨.bool b, ?_, .bool b⟩
      rw [Sem.run_bind, eqGuard_run C.P _ _ _ _ _ _ hp, Result.andThen_ok, h1, Sem.run_bind, (aEqAll_eq hx hy hb).equal]
      rfl
    · split at e
      · rename_i b hb
        cases e
        exact ⟨_, (aEqAgg_run hx hy hb xo yo w).2, .bool _⟩
      simp only [Option.map_eq_some_iff] at e
      obtain ⟨b, hb, rfl⟩ := e
      obtain ⟨hp, _, h2⟩ := aEqAll_pair hx hy hb
      refine ⟨.bool !b, ?_, .bool _⟩
      rw [Sem.run_bind, eqGuard_run C.P _ _ _ _ _ _ hp, Result.andThen_ok, h2, Sem.run_bind, (aEqAll_eq hx hy hb).equal]
      rfl
    · cases e
end
end Go.Ev
