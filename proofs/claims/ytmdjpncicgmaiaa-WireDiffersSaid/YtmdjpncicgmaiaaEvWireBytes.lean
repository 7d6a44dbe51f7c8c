/-
  A row of bytes of the call's own: made out of a string, written, read back.
-/
import Derived.Test.YtmdjpncicgmaiaaEvWireWalks
import Derived.Laws.IdiomStrings
import Derived.Laws.BitsAllLaws
import Derived.WideShapes
namespace Go.Proofs.Ytmdjpncicgmaiaa.Wire
open Go Go.RowKit Go.Law Go.Wire

/-- Block B begins with these bytes, which may be written. -/
def Byt (w : World) (B : Nat) (l : List UInt8) : Prop := ∀ j, j < l.length → w.cell? ⟨B, j, none⟩ = some (.int .u8 ((l.getD j 0).toNat : Int)) ∧ w.frozen? ⟨B, j, none⟩ = false
theorem Byt.drew {w : World} {B : Nat} {l : List UInt8} (h : Byt w B l) : Byt w.drew B l := h
theorem frozen_setCell (w : World) (p a : Addr) (v : Value) : (w.setCell p v).frozen? a = w.frozen? a := by
  unfold World.setCell World.frozen?
  simp only [Array.getElem?_modify]
  by_cases h : p.block = a.block
  · rw [if_pos h]
    cases hx : w.heap[a.block]? with
    | none => rfl
    | some o => cases o <;> rfl
  · rw [if_neg h]
theorem Byt.set {w : World} {B : Nat} {l : List UInt8} (h : Byt w B l) {k : Nat} (hk : k < l.length) (x : UInt8) : Byt (w.setCell ⟨B, k, none⟩ (.int .u8 (x.toNat : Int))) B (l.set k x) := by
  intro j hj
  rw [List.length_set] at hj
  refine ⟨?_, by rw [frozen_setCell]; exact (h j hj).2⟩
  by_cases hjk : j = k
  · subst hjk
    rw [World.cell?_setCell_same _ _ _ (h j hk).1]
    simp [List.getD, hk]
  · rw [World.cell?_setCell_other _ _ _ _ (by simp; first | done | omega), (h j hj).1]
    simp [List.getD, List.getElem?_set_ne (fun e => hjk e.symm)]
theorem Byt.made (w : World) (s : ByteArray) (cap : Nat) : Byt (w.drew.alloc (.cells (bytesRow s cap) 5 ((bytesRow s cap).size, (bytesRow s cap).size + 1))) w.heap.size s.data.toList := by
  intro j hj
  have hj' : j < s.data.size := by simpa using hj
  have hs : j < (bytesRow s cap).size := by
    have := (Array.getElem?_eq_some_iff.1 (bytesRow_at s cap j hj')).1
    exact this
  refine ⟨?_, ?_⟩
  · have := World.cell?_alloc_mark w.drew (bytesRow s cap) 5 ((bytesRow s cap).size, (bytesRow s cap).size + 1) j
    have e : w.drew.heap.size = w.heap.size := rfl
    rw [e] at this
    rw [this, bytesRow_at s cap j hj']
    simp [List.getD, show j < s.size from hj']
  · have := World.frozen?_alloc_mark w.drew (bytesRow s cap) 5 (bytesRow s cap).size ((bytesRow s cap).size + 1) j
    have e : w.drew.heap.size = w.heap.size := rfl
    rw [e] at this
    rw [this]
    have : ¬ (bytesRow s cap).size ≤ j := by omega
    simp [this]
/-- '[]byte(s)'. -/
theorem made (w : World) (s : ByteArray) : ∃ cap w', (convert 9 27 (.string s)).run Try.prog w = .ok (.slice (some ⟨w.heap.size, 0, none⟩) s.size cap) w' ∧ Byt w' w.heap.size s.data.toList ∧ Below w.heap.size w w' ∧ w.heap.size < w'.heap.size :=
  ⟨_, _, run_bytes_of_string (P := Try.prog) w 9 27 5 s Try.underlying9 Try.underlying27 Try.underlying5, Byt.made w s _, (Below.drew (Below.refl _ _)).alloc (Nat.le_refl _) _, by
    show w.heap.size < (w.heap.push _).size
    rw [Array.size_push]; omega⟩
/-- 'string(b)'. -/
theorem Byt.back {w : World} {B : Nat} {l : List UInt8} (h : Byt w B l) (cap : Nat) : (convert 27 9 (.slice (some ⟨B, 0, none⟩) l.length cap)).run Try.prog w = .ok (.string ⟨l.toArray⟩) w :=
  run_convert_bytes_back (P := Try.prog) w 27 9 5 ⟨B, 0, none⟩ cap l Try.underlying27 Try.underlying5 Try.underlying9 (fun j hj => by
    have := (h j hj).1
    rw [WideShapes.add_plain, Nat.zero_add, this]
    simp [List.getD, hj])
theorem Byt.lt {w : World} {B : Nat} {l : List UInt8} (h : Byt w B l) (hl : 0 < l.length) : B < w.heap.size := by
  have := (h 0 hl).1
  by_cases hb : B < w.heap.size
  · exact hb
  · exfalso
    unfold World.cell? at this
    simp only [Array.getElem?_eq_none (show w.heap.size ≤ B by omega)] at this
    cases this
/-- A byte and a byte, exclusive or. -/
theorem xor_byte (x y : UInt8) : bits BinOp.xor IntKind.u8 (x.toNat : Int) (y.toNat : Int) = ((x ^^^ y).toNat : Int) := by
  rw [u8_xor_nat _ _ (byte_lt x) (byte_lt y), UInt8.toNat_xor]
theorem xor_same (x y : UInt8) : x ^^^ y = x ↔ y = 0 := by
  constructor
  · intro h
    have : (x ^^^ x) ^^^ y = 0 := by rw [UInt8.xor_assoc, h, UInt8.xor_self]
    rwa [UInt8.xor_self, UInt8.zero_xor] at this
  · rintro rfl
    exact UInt8.xor_zero
end Go.Proofs.Ytmdjpncicgmaiaa.Wire
