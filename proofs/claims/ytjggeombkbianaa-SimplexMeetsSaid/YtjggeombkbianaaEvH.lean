/-
  The evaluator's indexing, slicing, fields, comparisons, and the machine's.
-/
import Derived.Test.YtjggeombkbianaaEvG
namespace Go.Ev
open Go Go.RowKit

section
variable {P : Program} {B : Kp} {w0 w : World} {c : Ctx} {h : Hp}

theorem aIndexAddr_run {t : TypeId} {x i a : AV} {xv iv : Value} (hx : VR c x xv) (hi : VR c i iv) (e : aIndexAddr P t x i = some a) (w : World) :
    ∃ u, (Instr.indexAt t xv iv).run P w = .ok u w ∧ VR c a u := by
  unfold aIndexAddr at e
  split at e
  · rename_i elem r off len cap esz ex k hu hk
    split at e
    · rename_i size hs
      split at e
      · rename_i hlt
        cases e
        obtain ⟨kk, rfl⟩ := natOf_int hi hk
        cases hx with
        | slice cap' hL h1 h2 h3 h4 =>
          rename_i L
          refine ⟨_, ?_, VR.ptr (off + k * size) hL⟩
          have h0 : (0 : Int) ≤ Int.ofNat k ∧ Int.ofNat k < (len : Int) := ⟨Int.natCast_nonneg _, by simpa using hlt⟩
          simp [Instr.indexAt, asIntOf, run_underlying hu, sizeB_run hs, hlt, add_spot, Nat.add_assoc]
      · cases e
    · cases e
  · rename_i len elem r off k hu hk
    split at e
    · rename_i size hs
      split at e
      · rename_i hlt
        cases e
        obtain ⟨kk, rfl⟩ := natOf_int hi hk
        cases hx with
        | ptr _ hL =>
          rename_i L
          refine ⟨_, ?_, VR.ptr (off + k * size) hL⟩
          simp [Instr.indexAt, Instr.sureAddr, asIntOf, run_underlying hu, sizeB_run hs, hlt, add_spot, Nat.add_assoc]
      · cases e
    · cases e
  · cases e

theorem bytes_get (s : List UInt8) (k : Nat) : (⟨⟨s⟩⟩ : ByteArray)[k]? = s[k]? := by
  by_cases hk : k < s.length
  · have h1 : k < (⟨⟨s⟩⟩ : ByteArray).size := hk
    rw [getElem?_pos (⟨⟨s⟩⟩ : ByteArray) k h1, List.getElem?_eq_getElem hk]
    rfl
  · have h1 : ¬ k < (⟨⟨s⟩⟩ : ByteArray).size := hk
    rw [getElem?_neg (⟨⟨s⟩⟩ : ByteArray) k h1, List.getElem?_eq_none (by omega)]

theorem aIndex_run {t : TypeId} {x i a : AV} {xv iv : Value} (hx : VR c x xv) (hi : VR c i iv) (e : aIndex P t x i = some a) (w : World) :
    ∃ u, (Instr.index t xv iv).run P w = .ok u w ∧ VR c a u := by
  unfold aIndex at e
  split at e
  · rename_i len elem cs k hu hk
    split at e
    · rename_i size hs
      split at e
      · rename_i hlt
        obtain ⟨kk, rfl⟩ := natOf_int hi hk
        cases hx with
        | agg hcs =>
          obtain ⟨u, hr, hv⟩ := aPart_run hcs e w
          refine ⟨u, ?_, hv⟩
          simp [Instr.index, asIntOf, run_underlying hu, sizeB_run hs, hlt, hr]
      · cases e
    · cases e
  · rename_i s k hu hk
    split at e
    · rename_i b hb
      cases e
      obtain ⟨kk, rfl⟩ := natOf_int hi hk
      cases hx with
      | str _ =>
        refine ⟨.int .u8 (Int.ofNat b.toNat), ?_, .int _ _⟩
        have h0 : (0 : Int) ≤ Int.ofNat k := Int.natCast_nonneg _
        simp [Instr.index, asIntOf, run_underlying hu, bytes_get, hb]
    · cases e
  · cases e

/-- A bound of a slice expression. -/
inductive BRs (c : Ctx) : Option AV → Option Value → Prop
  | none : BRs c none none
  | some {a : AV} {v : Value} (h : VR c a v) : BRs c (some a) (some v)

theorem bound_run {a : AV} {v : Value} (hv : VR c a v) {n y : Nat} (e : natOf a = some n) (hn : n ≤ y) (code : BoundsCode) (w : World) : (Instr.sliceBound v y code).run P w = .ok n w := by
  obtain ⟨k, rfl⟩ := natOf_int hv e
  simp [Instr.sliceBound, asIntOf, hn]

theorem bounds_run {lo hi mx : Option AV} {lo' hi' mx' : Option Value} (hlo : BRs c lo lo') (hhi : BRs c hi hi') (hmx : BRs c mx mx') {len cap cap' l k m : Nat} (el : boundOf 0 lo = some l) (ek : boundOf len hi = some k)
    (em : boundOf cap mx = some m) (h1 : l ≤ k) (h2 : k ≤ m) (h3 : m ≤ cap) (h4 : cap ≤ cap') (hmm : mx.isSome = true → hi.isSome = true) (b : Bool) (w : World) :
    (Instr.sliceBounds b len cap' lo' hi' mx').run P w = .ok (l, k, if mx.isSome then m else cap') w := by
  cases hmx with
  | none =>
    simp only [boundOf, Option.some.injEq] at em
    cases hhi with
    | none =>
      simp only [boundOf, Option.some.injEq] at ek
      subst ek
      cases hlo with
      | none => simp only [boundOf, Option.some.injEq] at el; subst el; simp [Instr.sliceBounds]
      | some hl => simp only [boundOf] at el; simp [Instr.sliceBounds, bound_run hl el h1]
    | some hh =>
      simp only [boundOf] at ek
      have hkc : k ≤ cap' := by omega
      cases hlo with
      | none => simp only [boundOf, Option.some.injEq] at el; subst el; simp [Instr.sliceBounds, bound_run hh ek hkc]
      | some hl => simp only [boundOf] at el; simp [Instr.sliceBounds, bound_run hh ek hkc, bound_run hl el h1]
  | some hm =>
    simp only [boundOf] at em
    have hmc : m ≤ cap' := by omega
    cases hhi with
    | none => simp at hmm
    | some hh =>
      simp only [boundOf] at ek
      cases hlo with
      | none => simp only [boundOf, Option.some.injEq] at el; subst el; simp [Instr.sliceBounds, bound_run hm em hmc, bound_run hh ek h2]
      | some hl => simp only [boundOf] at el; simp [Instr.sliceBounds, bound_run hm em hmc, bound_run hh ek h2, bound_run hl el h1]

theorem ba_extract (s : List UInt8) (l k : Nat) : (⟨⟨s⟩⟩ : ByteArray).extract l k = ⟨⟨(s.drop l).take (k - l)⟩⟩ := by
  apply ByteArray.ext
  rw [ByteArray.data_extract]
  apply Array.ext'
  simp

theorem aSlice_run (H : HR B w0 c h w) {t : TypeId} {x a : AV} {xv : Value} {lo hi mx : Option AV} {lo' hi' mx' : Option Value} (hx : VR c x xv) (hlo : BRs c lo lo') (hhi : BRs c hi hi') (hmx : BRs c mx mx')
    (e : aSlice P h t x lo hi mx = some a) : ∃ u, (Instr.sliceAt t xv lo' hi' mx').run P w = .ok u w ∧ VR c a u := by
  unfold aSlice at e
  split at e
  · -- a string
    rename_i s hu
    split at e
    · rename_i l k hl hk
      split at e
      · rename_i hle
        cases e
        cases hmx
        cases hx with
        | str _ =>
          have hb := bounds_run hlo hhi (BRs.none (c := c)) hl hk (em := rfl) hle.1 hle.2 (Nat.le_refl _) (Nat.le_refl _) (by simp) false w (P := P)
          refine ⟨.string ⟨⟨(s.drop l).take (k - l)⟩⟩, ?_, .str _⟩
          have hsz : (⟨⟨s⟩⟩ : ByteArray).size = s.length := rfl
          simp [Instr.sliceAt, Instr.slice, run_underlying hu, hsz, hb, ba_extract]
      · cases e
    · cases e
  · -- nil
    rename_i el hu
    split at e
    · rename_i n hs hl hk hm
      split at e
      · rename_i hle
        cases e
        cases hx with
        | nils =>
          have hb := bounds_run hlo hhi hmx hl hk hm (Nat.le_refl 0) (Nat.le_refl 0) (Nat.le_refl 0) (Nat.le_refl 0) hle true w (P := P)
          refine ⟨.slice none 0 0, ?_, .nils⟩
          simp [Instr.sliceAt, Instr.slice, run_underlying hu, hb, sizeB_run hs]
      · cases e
    · cases e
  · -- a slice
    rename_i el r off len cap esz ex hu
    split at e
    · rename_i size l k m hs hl hk hm
      split at e
      · rename_i hle
        cases hx with
        | slice cap' hL h1 h2 h3 h4 =>
          rename_i L
          have hb := bounds_run hlo hhi hmx hl hk hm hle.1 hle.2.1 hle.2.2.1 h2 hle.2.2.2.2 true w (P := P)
          have hes : size = esz := hle.2.2.2.1
          subst hes
          -- the new capacity
          obtain ⟨M, hM, hMle, hmM, hMex⟩ : ∃ M, (if mx.isSome = true then m else cap') = M ∧ M ≤ cap' ∧ m ≤ M ∧ ((ex || mx.isSome) = true → M = m) := by
            cases hmx' : mx.isSome with
            | true => exact ⟨m, by simp, by omega, Nat.le_refl _, fun _ => rfl⟩
            | false =>
              refine ⟨cap', by simp, Nat.le_refl _, by omega, fun hex => ?_⟩
              simp only [Bool.or_false] at hex
              have hcm : cap = m := by
                cases mx with
                | none => simpa [boundOf] using hm
                | some _ => simp at hmx'
              rw [h3 hex]; exact hcm
          rw [hM] at hb
          have hrun : (Instr.sliceAt t (.slice (some ⟨L.blk, L.base + off, none⟩) len cap') lo' hi' mx').run P w =
              .ok (.slice (if M = l then some ⟨L.blk, L.base + off, none⟩ else some ⟨L.blk, L.base + off + l * size, none⟩) (k - l) (M - l)) w := by
            simp [Instr.sliceAt, Instr.slice, run_underlying hu, hb, sizeB_run hs, add_spot]
          split at e
          · rename_i h0
            cases e
            subst h0
            refine ⟨_, hrun, ?_⟩
            have := VR.slice (c := c) (r := r) (off := off) (len := k) (cap := m) (esz := size) (ex := (ex || mx.isSome)) (L := L) M hL hle.2.1 hmM hMex (Nat.le_trans (Nat.add_le_add_left (Nat.mul_le_mul_right _ hMle) _) h4)
            simpa using this
          · rename_i h0
            split at e
            · rename_i hlm
              cases e
              refine ⟨_, hrun, ?_⟩
              have hne : M ≠ l := by omega
              have hbound : off + l * size + (M - l) * size ≤ L.lim := by
                have e1 : l * size + (M - l) * size = M * size := by rw [← Nat.add_mul]; congr 1; omega
                have e2 : M * size ≤ cap' * size := Nat.mul_le_mul_right _ hMle
                omega
              have := VR.slice (c := c) (r := r) (off := off + l * size) (len := k - l) (cap := m - l) (esz := size) (ex := (ex || mx.isSome)) (L := L) (M - l) hL (by omega) (by omega) (fun hh => by rw [hMex hh]) hbound
              simpa [hne, Nat.add_assoc] using this
            · rename_i hlm
              cases e
              refine ⟨_, hrun, ?_⟩
              have hkl : k - l = 0 := by omega
              rw [hkl]
              split
              · exact .esl _ _
              · exact .esl _ _
      · cases e
    · cases e
  · -- an array's address
    rename_i n el r off hu
    split at e
    · rename_i size l k m elem cells fam wr hs hl hk hm hr
      split at e
      · rename_i hle
        cases hx with
        | ptr _ hL =>
          rename_i L
          obtain ⟨L', hL', cs, fz, hbk, hsz, hlen, hc, hw⟩ := H.obj _ _ hr
          rw [hL] at hL'; cases hL'
          have hb := bounds_run hlo hhi hmx hl hk hm hle.1 hle.2.1 hle.2.2.1 (Nat.le_refl n) hle.2.2.2.2 false w (P := P)
          obtain ⟨M, hM, hMle, hmM, hMex⟩ : ∃ M, (if mx.isSome = true then m else n) = M ∧ M ≤ n ∧ m ≤ M ∧ (true = true → M = m) := by
            cases hmx' : mx.isSome with
            | true => exact ⟨m, by simp, by omega, Nat.le_refl _, fun _ => rfl⟩
            | false =>
              have hcm : n = m := by
                cases mx with
                | none => simpa [boundOf] using hm
                | some _ => simp at hmx'
              exact ⟨n, by simp, Nat.le_refl _, by omega, fun _ => hcm⟩
          rw [hM] at hb
          have hrun : (Instr.sliceAt t (.pointer (some ⟨L.blk, L.base + off, none⟩)) lo' hi' mx').run P w =
              .ok (.slice (some (if M = l then ⟨L.blk, L.base + off, none⟩ else ⟨L.blk, L.base + off + l * size, none⟩)) (k - l) (M - l)) w := by
            simp [Instr.sliceAt, Instr.sureAddr, run_underlying hu, hb, sizeB_run hs, add_spot]
          have hlim : off + n * size ≤ L.lim := by have := hle.2.2.2.1; omega
          split at e
          · rename_i h0
            cases e
            subst h0
            refine ⟨_, hrun, ?_⟩
            have := VR.slice (c := c) (r := r) (off := off) (len := k) (cap := m) (esz := size) (ex := true) (L := L) M hL hle.2.1 hmM hMex (Nat.le_trans (Nat.add_le_add_left (Nat.mul_le_mul_right _ hMle) _) hlim)
            simpa using this
          · rename_i h0
            split at e
            · rename_i hlm
              cases e
              refine ⟨_, hrun, ?_⟩
              have hne : M ≠ l := by omega
              have hbound : off + l * size + (M - l) * size ≤ L.lim := by
                have e1 : l * size + (M - l) * size = M * size := by rw [← Nat.add_mul]; congr 1; omega
                have e2 : M * size ≤ n * size := Nat.mul_le_mul_right _ hMle
                omega
              have := VR.slice (c := c) (r := r) (off := off + l * size) (len := k - l) (cap := m - l) (esz := size) (ex := true) (L := L) (M - l) hL (by omega) (by omega) (fun hh => by rw [hMex hh]) hbound
              simpa [hne, Nat.add_assoc] using this
            · rename_i hlm
              cases e
              refine ⟨_, hrun, ?_⟩
              have hkl : k - l = 0 := by omega
              rw [hkl]
              exact .esl _ _
      · cases e
    · cases e
  · cases e

theorem aFieldAddr_run {t : TypeId} {x a : AV} {xv : Value} (hx : VR c x xv) {f : Nat} (e : aFieldAddr P t x f = some a) (w : World) :
    ∃ u, (Instr.fieldAt t xv f).run P w = .ok u w ∧ VR c a u := by
  unfold aFieldAddr at e
  split at e
  · rename_i fields r off hu
    split at e
    · rename_i fd hf
      split at e
      · rename_i n hs
        cases e
        cases hx with
        | ptr _ hL =>
          refine ⟨_, ?_, VR.ptr (off + fd.offset) hL⟩
          have hf' : fields[f]? = some fd := by simpa using hf
          simp [Instr.fieldAt, Instr.sureAddr, run_underlying hu, hf', fieldPlace, sizeB_run hs, add_spot, Nat.add_assoc]
      · cases e
    · cases e
  · cases e

theorem aField_run {t : TypeId} {x a : AV} {xv : Value} (hx : VR c x xv) {f : Nat} (e : aField P t x f = some a) (w : World) :
    ∃ u, (Instr.field t xv f).run P w = .ok u w ∧ VR c a u := by
  unfold aField at e
  split at e
  · rename_i fields cs hu
    split at e
    · rename_i fd hf
      cases hx with
      | agg hcs =>
        obtain ⟨u, hr, hv⟩ := aPart_run hcs e w
        refine ⟨u, ?_, hv⟩
        have hf' : fields[f]? = some fd := by simpa using hf
        simp [Instr.field, run_underlying hu, hf', asAgg, hr]
    · cases e
  · cases e
end
end Go.Ev
