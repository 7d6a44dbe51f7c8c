/-
  The evaluator's arithmetic, comparisons, conversions, lengths, and the machine's.
-/
import Derived.Test.YtlineonmpbdkgaaDoorEvG
import Derived.IntWalk
import Derived.Laws.Strings
namespace Go.Ev
open Go Go.RowKit

section
variable {P : Program} {B : Kp} {w0 w : World} {c : Ctx} {h : Hp}

theorem aIndexAddr_run {t : TypeId} {x i a : AV} {xv iv : Value} (hx : VR c x xv) (hi : VR c i iv) (e : aIndexAddr P t x i = some a) (w : World) :
    ∃ u, (Instr.indexAt t xv iv).run P w = .ok u w ∧ VR c a u := by
  unfold aIndexAddr at e
  split at e
  · rename_i elem r off len cap esz ex k hu hk
    split at e
    · rename_i size hs
      split at e
      · rename_i hlt
        cases e
        obtain ⟨kk, rfl⟩ := natOf_int hi hk
        cases hx with
        | slice cap' hL h1 h2 h3 h4 =>
          rename_i L
          refine ⟨_, ?_, VR.ptr (off + k * size) hL⟩
          have h0 : (0 : Int) ≤ Int.ofNat k ∧ Int.ofNat k < (len : Int) := ⟨Int.natCast_nonneg _, by simpa using hlt⟩
          simp [Instr.indexAt, asIntOf, run_underlying hu, sizeB_run hs, hlt, add_spot, Nat.add_assoc]
      · cases e
    · cases e
  · rename_i len elem r off k hu hk
    split at e
    · rename_i size hs
      split at e
      · rename_i hlt
        cases e
        obtain ⟨kk, rfl⟩ := natOf_int hi hk
        cases hx with
        | ptr _ hL =>
          rename_i L
          refine ⟨_, ?_, VR.ptr (off + k * size) hL⟩
          simp [Instr.indexAt, Instr.sureAddr, asIntOf, run_underlying hu, sizeB_run hs, hlt, add_spot, Nat.add_assoc]
      · cases e
    · cases e
  · cases e

theorem bytes_get (s : List UInt8) (k : Nat) : (⟨⟨s⟩⟩ : ByteArray)[k]? = s[k]? := by
  by_cases hk : k < s.length
  · have h1 : k < (⟨⟨s⟩⟩ : ByteArray).size := hk
    rw [getElem?_pos (⟨⟨s⟩⟩ : ByteArray) k h1, List.getElem?_eq_getElem hk]
    rfl
  · have h1 : ¬ k < (⟨⟨s⟩⟩ : ByteArray).size := hk
    rw [getElem?_neg (⟨⟨s⟩⟩ : ByteArray) k h1, List.getElem?_eq_none (by omega)]

theorem aIndex_run {t : TypeId} {x i a : AV} {xv iv : Value} (hx : VR c x xv) (hi : VR c i iv) (e : aIndex P t x i = some a) (w : World) :
    ∃ u, (Instr.index t xv iv).run P w = .ok u w ∧ VR c a u := by
  unfold aIndex at e
  split at e
  · rename_i len elem cs k hu hk
    split at e
    · rename_i size hs
      split at e
      · rename_i hlt
        obtain ⟨kk, rfl⟩ := natOf_int hi hk
        cases hx with
        | agg hcs =>
          obtain ⟨u, hr, hv⟩ := aPart_run hcs e w
          refine ⟨u, ?_, hv⟩
          simp [Instr.index, asIntOf, run_underlying hu, sizeB_run hs, hlt, hr]
      · cases e
    · cases e
  · rename_i s k hu hk
    split at e
    · rename_i b hb
      cases e
      obtain ⟨kk, rfl⟩ := natOf_int hi hk
      cases hx with
      | str _ =>
        refine ⟨.int .u8 (Int.ofNat b.toNat), ?_, .int _ _⟩
        have h0 : (0 : Int) ≤ Int.ofNat k := Int.natCast_nonneg _
        simp [Instr.index, asIntOf, run_underlying hu, bytes_get, hb]
    · cases e
  · cases e

/-- A bound of a slice expression. -/
inductive BRs (c : Ctx) : Option AV → Option Value → Prop
  | none : BRs c none none
  | some {a : AV} {v : Value} (h : VR c a v) : BRs c (some a) (some v)

theorem bound_run {a : AV} {v : Value} (hv : VR c a v) {n y : Nat} (e : natOf a = some n) (hn : n ≤ y) (code : BoundsCode) (w : World) : (Instr.sliceBound v y code).run P w = .ok n w := by
  obtain ⟨k, rfl⟩ := natOf_int hv e
  simp [Instr.sliceBound, asIntOf, hn]

theorem bounds_run {lo hi mx : Option AV} {lo' hi' mx' : Option Value} (hlo : BRs c lo lo') (hhi : BRs c hi hi') (hmx : BRs c mx mx') {len cap cap' l k m : Nat} (el : boundOf 0 lo = some l) (ek : boundOf len hi = some k)
    (em : boundOf cap mx = some m) (h1 : l ≤ k) (h2 : k ≤ m) (h3 : m ≤ cap) (h4 : cap ≤ cap') (hmm : mx.isSome = true → hi.isSome = true) (b : Bool) (w : World) :
    (Instr.sliceBounds b len cap' lo' hi' mx').run P w = .ok (l, k, if mx.isSome then m else cap') w := by
  cases hmx with
  | none =>
    simp only [boundOf, Option.some.injEq] at em
    cases hhi with
    | none =>
      simp only [boundOf, Option.some.injEq] at ek
      subst ek
      cases hlo with
      | none => simp only [boundOf, Option.some.injEq] at el; subst el; simp [Instr.sliceBounds]
      | some hl => simp only [boundOf] at el; simp [Instr.sliceBounds, bound_run hl el h1]
    | some hh =>
      simp only [boundOf] at ek
      have hkc : k ≤ cap' := by omega
      cases hlo with
      | none => simp only [boundOf, Option.some.injEq] at el; subst el; simp [Instr.sliceBounds, bound_run hh ek hkc]
      | some hl => simp only [boundOf] at el; simp [Instr.sliceBounds, bound_run hh ek hkc, bound_run hl el h1]
  | some hm =>
    simp only [boundOf] at em
    have hmc : m ≤ cap' := by omega
    cases hhi with
    | none => simp at hmm
    | some hh =>
      simp only [boundOf] at ek
      cases hlo with
      | none => simp only [boundOf, Option.some.injEq] at el; subst el; simp [Instr.sliceBounds, bound_run hm em hmc, bound_run hh ek h2]
      | some hl => simp only [boundOf] at el; simp [Instr.sliceBounds, bound_run hm em hmc, bound_run hh ek h2, bound_run hl el h1]

theorem ba_extract (s : List UInt8) (l k : Nat) : (⟨⟨s⟩⟩ : ByteArray).extract l k = ⟨⟨(s.drop l).take (k - l)⟩⟩ := by
  apply ByteArray.ext
  rw [ByteArray.data_extract]
  apply Array.ext'
  simp

theorem aSlice_run (H : HR B w0 c h w) {t : TypeId} {x a : AV} {xv : Value} {lo hi mx : Option AV} {lo' hi' mx' : Option Value} (hx : VR c x xv) (hlo : BRs c lo lo') (hhi : BRs c hi hi') (hmx : BRs c mx mx')
    (e : aSlice P h t x lo hi mx = some a) : ∃ u, (Instr.sliceAt t xv lo' hi' mx').run P w = .ok u w ∧ VR c a u := by
  unfold aSlice at e
  split at e
  · -- a string
    rename_i s hu
    split at e
    · rename_i l k hl hk
      split at e
      · rename_i hle
        cases e
        cases hmx
        cases hx with
        | str _ =>
          have hb := bounds_run hlo hhi (BRs.none (c := c)) hl hk (em := rfl) hle.1 hle.2 (Nat.le_refl _) (Nat.le_refl _) (by simp) false w (P := P)
          refine ⟨.string ⟨⟨(s.drop l).take (k - l)⟩⟩, ?_, .str _⟩
          have hsz : (⟨⟨s⟩⟩ : ByteArray).size = s.length := rfl
          simp [Instr.sliceAt, Instr.slice, run_underlying hu, hsz, hb, ba_extract]
      · cases e
    · cases e
  · -- nil
    rename_i el hu
    split at e
    · rename_i n hs hl hk
      cases e
      cases hmx
      cases hx with
      | nils =>
        have hb := bounds_run hlo hhi (BRs.none (c := c)) hl hk (em := rfl) (Nat.le_refl 0) (Nat.le_refl 0) (Nat.le_refl 0) (Nat.le_refl 0) (by simp) true w (P := P)
        refine ⟨.slice none 0 0, ?_, .nils⟩
        simp [Instr.sliceAt, Instr.slice, run_underlying hu, hb, sizeB_run hs]
    · cases e
  · -- a slice
    rename_i el r off len cap esz ex hu
    split at e
    · rename_i size l k m hs hl hk hm
      split at e
      · rename_i hle
        cases hx with
        | slice cap' hL h1 h2 h3 h4 =>
          rename_i L
          have hb := bounds_run hlo hhi hmx hl hk hm hle.1 hle.2.1 hle.2.2.1 h2 hle.2.2.2.2 true w (P := P)
          have hes : size = esz := hle.2.2.2.1
          subst hes
          -- the new capacity
          obtain ⟨M, hM, hMle, hmM, hMex⟩ : ∃ M, (if mx.isSome = true then m else cap') = M ∧ M ≤ cap' ∧ m ≤ M ∧ ((ex || mx.isSome) = true → M = m) := by
            cases hmx' : mx.isSome with
            | true => exact ⟨m, by simp, by omega, Nat.le_refl _, fun _ => rfl⟩
            | false =>
              refine ⟨cap', by simp, Nat.le_refl _, by omega, fun hex => ?_⟩
              simp only [Bool.or_false] at hex
              have hcm : cap = m := by
                cases mx with
                | none => simpa [boundOf] using hm
                | some _ => simp at hmx'
              rw [h3 hex]; exact hcm
          rw [hM] at hb
          have hrun : (Instr.sliceAt t (.slice (some ⟨L.blk, L.base + off, none⟩) len cap') lo' hi' mx').run P w =
              .ok (.slice (if M = l then some ⟨L.blk, L.base + off, none⟩ else some ⟨L.blk, L.base + off + l * size, none⟩) (k - l) (M - l)) w := by
            simp [Instr.sliceAt, Instr.slice, run_underlying hu, hb, sizeB_run hs, add_spot]
          split at e
          · rename_i h0
            cases e
            subst h0
            refine ⟨_, hrun, ?_⟩
            have := VR.slice (c := c) (r := r) (off := off) (len := k) (cap := m) (esz := size) (ex := (ex || mx.isSome)) (L := L) M hL hle.2.1 hmM hMex (Nat.le_trans (Nat.add_le_add_left (Nat.mul_le_mul_right _ hMle) _) h4)
            simpa using this
          · rename_i h0
            split at e
            · rename_i hlm
              cases e
              refine ⟨_, hrun, ?_⟩
              have hne : M ≠ l := by omega
              have hbound : off + l * size + (M - l) * size ≤ L.lim := by
                have e1 : l * size + (M - l) * size = M * size := by rw [← Nat.add_mul]; congr 1; omega
                have e2 : M * size ≤ cap' * size := Nat.mul_le_mul_right _ hMle
                omega
              have := VR.slice (c := c) (r := r) (off := off + l * size) (len := k - l) (cap := m - l) (esz := size) (ex := (ex || mx.isSome)) (L := L) (M - l) hL (by omega) (by omega) (fun hh => by rw [hMex hh]) hbound
              simpa [hne, Nat.add_assoc] using this
            · rename_i hlm
              cases e
              refine ⟨_, hrun, ?_⟩
              have hkl : k - l = 0 := by omega
              rw [hkl]
              split
              · exact .esl _ _
              · exact .esl _ _
      · cases e
    · cases e
  · -- an array's address
    rename_i n el r off hu
    split at e
    · rename_i size l k m elem cells fam wr hs hl hk hm hr
      split at e
      · rename_i hle
        cases hx with
        | ptr _ hL =>
          rename_i L
          obtain ⟨L', hL', cs, fz, hbk, hsz, hlen, hc, hw⟩ := H.obj _ _ hr
          rw [hL] at hL'; cases hL'
          have hb := bounds_run hlo hhi hmx hl hk hm hle.1 hle.2.1 hle.2.2.1 (Nat.le_refl n) hle.2.2.2.2 false w (P := P)
          obtain ⟨M, hM, hMle, hmM, hMex⟩ : ∃ M, (if mx.isSome = true then m else n) = M ∧ M ≤ n ∧ m ≤ M ∧ (true = true → M = m) := by
            cases hmx' : mx.isSome with
            | true => exact ⟨m, by simp, by omega, Nat.le_refl _, fun _ => rfl⟩
            | false =>
              have hcm : n = m := by
                cases mx with
                | none => simpa [boundOf] using hm
                | some _ => simp at hmx'
              exact ⟨n, by simp, Nat.le_refl _, by omega, fun _ => hcm⟩
          rw [hM] at hb
          have hrun : (Instr.sliceAt t (.pointer (some ⟨L.blk, L.base + off, none⟩)) lo' hi' mx').run P w =
              .ok (.slice (some (if M = l then ⟨L.blk, L.base + off, none⟩ else ⟨L.blk, L.base + off + l * size, none⟩)) (k - l) (M - l)) w := by
            simp [Instr.sliceAt, Instr.sureAddr, run_underlying hu, hb, sizeB_run hs, add_spot]
          have hlim : off + n * size ≤ L.lim := by have := hle.2.2.2.1; omega
          split at e
          · rename_i h0
            cases e
            subst h0
            refine ⟨_, hrun, ?_⟩
            have := VR.slice (c := c) (r := r) (off := off) (len := k) (cap := m) (esz := size) (ex := true) (L := L) M hL hle.2.1 hmM hMex (Nat.le_trans (Nat.add_le_add_left (Nat.mul_le_mul_right _ hMle) _) hlim)
            simpa using this
          · rename_i h0
            split at e
            · rename_i hlm
              cases e
              refine ⟨_, hrun, ?_⟩
              have hne : M ≠ l := by omega
              have hbound : off + l * size + (M - l) * size ≤ L.lim := by
                have e1 : l * size + (M - l) * size = M * size := by rw [← Nat.add_mul]; congr 1; omega
                have e2 : M * size ≤ n * size := Nat.mul_le_mul_right _ hMle
                omega
              have := VR.slice (c := c) (r := r) (off := off + l * size) (len := k - l) (cap := m - l) (esz := size) (ex := true) (L := L) (M - l) hL (by omega) (by omega) (fun hh => by rw [hMex hh]) hbound
              simpa [hne, Nat.add_assoc] using this
            · rename_i hlm
              cases e
              refine ⟨_, hrun, ?_⟩
              have hkl : k - l = 0 := by omega
              rw [hkl]
              exact .esl _ _
      · cases e
    · cases e
  · cases e

theorem aFieldAddr_run {t : TypeId} {x a : AV} {xv : Value} (hx : VR c x xv) {f : Nat} (e : aFieldAddr P t x f = some a) (w : World) :
    ∃ u, (Instr.fieldAt t xv f).run P w = .ok u w ∧ VR c a u := by
  unfold aFieldAddr at e
  split at e
  · rename_i fields r off hu
    split at e
    · rename_i fd hf
      split at e
      · rename_i n hs
        cases e
        cases hx with
        | ptr _ hL =>
          refine ⟨_, ?_, VR.ptr (off + fd.offset) hL⟩
          have hf' : fields[f]? = some fd := by simpa using hf
          simp [Instr.fieldAt, Instr.sureAddr, run_underlying hu, hf', fieldPlace, sizeB_run hs, add_spot, Nat.add_assoc]
      · cases e
    · cases e
  · cases e

theorem aField_run {t : TypeId} {x a : AV} {xv : Value} (hx : VR c x xv) {f : Nat} (e : aField P t x f = some a) (w : World) :
    ∃ u, (Instr.field t xv f).run P w = .ok u w ∧ VR c a u := by
  unfold aField at e
  split at e
  · rename_i fields cs hu
    split at e
    · rename_i fd hf
      cases hx with
      | agg hcs =>
        obtain ⟨u, hr, hv⟩ := aPart_run hcs e w
        refine ⟨u, ?_, hv⟩
        have hf' : fields[f]? = some fd := by simpa using hf
        simp [Instr.field, run_underlying hu, hf', asAgg, hr]
    · cases e
  · cases e
end
end Go.Ev
namespace Go.Ev
open Go Go.RowKit

section
variable {P : Program} {B : Kp} {w0 w : World} {c : Ctx} {h : Hp}

theorem le_i64 (m : Nat) (hb : Nat.ble m 9223372036854775807 = true) : m ≤ 9223372036854775807 := Nat.le_of_ble_eq_true hb
theorem le_u64 (m : Nat) (hb : Nat.ble m 18446744073709551615 = true) : m ≤ 18446744073709551615 := Nat.le_of_ble_eq_true hb
theorem in_i64 (m : Nat) (hm : m ≤ 9223372036854775807) : IntKind.i64.wrap (Int.ofNat m) = Int.ofNat m := IntWalk.i64_in (Int.ofNat m) ⟨by simp only [Int.ofNat_eq_natCast]; omega, by simp only [Int.ofNat_eq_natCast]; omega⟩
theorem in_i64n (m : Nat) (hm : m ≤ 9223372036854775807) : IntKind.i64.wrap (Int.negSucc m) = Int.negSucc m := IntWalk.i64_in (Int.negSucc m) ⟨by omega, by omega⟩
theorem in_u64 (m : Nat) (hm : m ≤ 18446744073709551615) : IntKind.u64.wrap (Int.ofNat m) = Int.ofNat m := IntWalk.u64_in (Int.ofNat m) ⟨by simp only [Int.ofNat_eq_natCast]; omega, by simp only [Int.ofNat_eq_natCast]; omega⟩
theorem in_u8 (m : Nat) (hm : m ≤ 255) : IntKind.u8.wrap (Int.ofNat m) = Int.ofNat m := IntWalk.u8_in (Int.ofNat m) ⟨by simp only [Int.ofNat_eq_natCast]; omega, by simp only [Int.ofNat_eq_natCast]; omega⟩
theorem bif_eq {b : Bool} {x y z : Int} (h : b = true → x = z) (h' : y = z) : (bif b then x else y) = z := by
  cases b with
  | true => exact h rfl
  | false => exact h'
theorem fwrap_eq (k : IntKind) (n : Int) : fwrap k n = k.wrap n := by
  unfold fwrap
  split
  · exact bif_eq (fun h => (in_i64 _ (le_i64 _ h)).symm) rfl
  · exact bif_eq (fun h => (in_i64n _ (le_i64 _ h)).symm) rfl
  · exact bif_eq (fun h => (in_u64 _ (le_u64 _ h)).symm) rfl
  · exact bif_eq (fun h => (in_u8 _ (Nat.le_of_ble_eq_true h)).symm) rfl
  · rfl
theorem ieq_eq (a b : Int) : ieq a b = (a == b) := by
  cases a with
  | ofNat m => cases b with
    | ofNat n => simp only [ieq]; rw [Bool.eq_iff_iff]; simp; omega
    | negSucc n => simp only [ieq]; symm; rw [beq_eq_false_iff_ne]; simp
  | negSucc m => cases b with
    | ofNat n => simp only [ieq]; symm; rw [beq_eq_false_iff_ne]; simp
    | negSucc n => simp only [ieq]; rw [Bool.eq_iff_iff]; simp
theorem ilt_eq (a b : Int) : ilt a b = decide (a < b) := by
  cases a with
  | ofNat m => cases b with
    | ofNat n => simp only [ilt]; rw [Bool.eq_iff_iff]; simp [Nat.blt_eq]
    | negSucc n => simp only [ilt]; symm; simp; omega
  | negSucc m => cases b with
    | ofNat n => simp only [ilt]; symm; simp; omega
    | negSucc n => simp only [ilt]; rw [Bool.eq_iff_iff]; simp [Nat.blt_eq]; omega
theorem keq_eq {a b : IntKind} (h : keq a b = true) : a = b := by cases a <;> cases b <;> first | rfl | (simp [keq] at h)

theorem ofIntV_run {e : Sem Value} {a : AV} (h : ofIntV (runPure P e) = some a) (c : Ctx) (w : World) : ∃ u, e.run P w = .ok u w ∧ VR c a u := by
  cases hr : runPure P e with
  | none => simp [hr, ofIntV] at h
  | some v =>
    rw [hr] at h
    refine ⟨v, runPure_run hr w, ?_⟩
    cases v <;> simp [ofIntV] at h <;> subst h
    · exact .bool _
    · exact .int _ _

theorem wrap_small (k : IntKind) (n : Nat) (hn : n ≤ 127) : k.wrap (n : Int) = n := by
  cases k <;> (simp [IntKind.wrap, IntKind.bits, IntKind.signed]; omega)
theorem bits_ge (k : IntKind) : 8 ≤ k.bits := by cases k <;> simp [IntKind.bits]
theorem ofInt_small (k : IntKind) (n : Nat) (hn : n ≤ 127) : (BitVec.ofInt k.bits (n : Int)).toNat = n := by
  rw [BitVec.ofInt_natCast, BitVec.toNat_ofNat]
  apply Nat.mod_eq_of_lt
  have h1 := bits_ge k
  have h2 : 2 ^ 8 ≤ 2 ^ k.bits := Nat.pow_le_pow_right (by omega) h1
  omega

theorem aInt_run {op : BinOp} {t : TypeId} {k k' : IntKind} {a b : Int} {r : AV} (e : aInt P op t k a k' b = some r) (c : Ctx) (w : World) :
    ∃ u, (Go.binOp op t (.int k a) (.int k' b)).run P w = .ok u w ∧ VR c r u := by
  have slow : aInt.slow P op t k a k' b = some r → ∃ u, (Go.binOp op t (.int k a) (.int k' b)).run P w = .ok u w ∧ VR c r u := fun h => ofIntV_run h c w
  unfold aInt at e
  cases hk : keq k k' with
  | false => rw [hk] at e; exact slow e
  | true =>
    have := keq_eq hk
    subst this
    rw [hk] at e
    simp only [cond_true] at e
    cases op with
    | add => cases e; exact ⟨.int k (k.wrap (a + b)), by simp [Go.binOp, Op.intArith], by rw [fwrap_eq]; exact .int _ _⟩
    | sub => cases e; exact ⟨.int k (k.wrap (a - b)), by simp [Go.binOp, Op.intArith], by rw [fwrap_eq]; exact .int _ _⟩
    | mul => cases e; exact ⟨.int k (k.wrap (a * b)), by simp [Go.binOp, Op.intArith], by rw [fwrap_eq]; exact .int _ _⟩
    | eql => cases e; exact ⟨.bool (a == b), by simp [Go.binOp, Op.intCmp], by rw [ieq_eq]; exact .bool _⟩
    | neq => cases e; exact ⟨.bool (!(a == b)), by simp [Go.binOp, Op.intCmp, bne], by rw [ieq_eq]; exact .bool _⟩
    | lss => cases e; exact ⟨.bool (decide (a < b)), by simp [Go.binOp, Op.intCmp], by rw [ilt_eq]; exact .bool _⟩
    | gtr => cases e; exact ⟨.bool (decide (b < a)), by simp [Go.binOp, Op.intCmp], by rw [ilt_eq]; exact .bool _⟩
    | leq =>
      cases e
      refine ⟨.bool (decide (a ≤ b)), by simp [Go.binOp, Op.intCmp], ?_⟩
      have : (!ilt b a) = decide (a ≤ b) := by rw [ilt_eq, Bool.eq_iff_iff]; simp
      rw [this]; exact .bool _
    | geq =>
      cases e
      refine ⟨.bool (decide (b ≤ a)), by simp [Go.binOp, Op.intCmp], ?_⟩
      have : (!ilt a b) = decide (b ≤ a) := by rw [ilt_eq, Bool.eq_iff_iff]; simp
      rw [this]; exact .bool _
    | and =>
      simp only at e
      split at e
      · rename_i m n
        cases hb : (Nat.ble m 127 && Nat.ble n 127) with
        | false => rw [hb] at e; exact slow e
        | true =>
          rw [hb] at e
          cases e
          rw [Bool.and_eq_true] at hb
          have h1 := Nat.le_of_ble_eq_true hb.1
          have h2 := Nat.le_of_ble_eq_true hb.2
          refine ⟨_, ?_, .int _ _⟩
          have hl : Nat.land m n ≤ m := Nat.and_le_left
          have hw := wrap_small k (Nat.land m n) (by omega)
          have e3 : (BitVec.ofInt k.bits (m : Int) &&& BitVec.ofInt k.bits (n : Int)).toNat = Nat.land m n := by
            rw [BitVec.toNat_and, ofInt_small k m h1, ofInt_small k n h2]; rfl
          simp only [Go.binOp, ne_eq, not_true_eq_false, if_false, Op.intBits, Int.ofNat_eq_natCast]
          rw [e3, hw]; rfl
      · exact slow e
    | or =>
      simp only at e
      split at e
      · rename_i m n
        cases hb : (Nat.ble m 127 && Nat.ble n 127) with
        | false => rw [hb] at e; exact slow e
        | true =>
          rw [hb] at e
          cases e
          rw [Bool.and_eq_true] at hb
          have h1 := Nat.le_of_ble_eq_true hb.1
          have h2 := Nat.le_of_ble_eq_true hb.2
          refine ⟨_, ?_, .int _ _⟩
          have hl : Nat.lor m n < 2 ^ 7 := Nat.or_lt_two_pow (by omega) (by omega)
          have hw := wrap_small k (Nat.lor m n) (by omega)
          have e3 : (BitVec.ofInt k.bits (m : Int) ||| BitVec.ofInt k.bits (n : Int)).toNat = Nat.lor m n := by
            rw [BitVec.toNat_or, ofInt_small k m h1, ofInt_small k n h2]; rfl
          simp only [Go.binOp, ne_eq, not_true_eq_false, if_false, Op.intBits, Int.ofNat_eq_natCast]
          rw [e3, hw]; rfl
      · exact slow e
    | quo => exact slow e
    | rem => exact slow e
    | xor => exact slow e
    | shl => exact slow e
    | shr => exact slow e
    | andNot => exact slow e

theorem strLess_eq : ∀ a b : List UInt8, strLess a b = Op.bytesLess a b
  | a, [] => by cases a <;> rfl
  | [], _ :: _ => rfl
  | a :: x, b :: y => by simp [strLess, Op.bytesLess, strLess_eq x y]
theorem ba_toList (l : List UInt8) : (⟨⟨l⟩⟩ : ByteArray).toList = l := by
  rw [ByteArray.toList_eq]
end
end Go.Ev
