/-
  Partitions of at most five elements: their classes as sets; those of the meet; of a coarser one. By trial of all.
-/
import Derived.Test.YtlacohjecehpiaaEvPaCaseSets
namespace Go.Part
open Go.Col
open Go.Proofs.Ytlacohjecehpiaa.Part (mask sets clsAll cls)

def wfB (l : List Int) : Bool := decide (labs (fn l) l.length = l)
/-- All lists of k numbers below n. -/
def lists (n : Nat) : Nat → List (List Int)
  | 0 => [[]]
  | k + 1 => (lists n k).flatMap fun l => (List.range n).map fun x : Nat => (x : Int) :: l
theorem mem_lists (n : Nat) : ∀ (k : Nat) (l : List Int), l.length = k → (∀ x ∈ l, ∃ y : Nat, y < n ∧ x = (y : Int)) → l ∈ lists n k
  | 0, l, h, _ => by
    have : l = [] := List.length_eq_zero_iff.1 h
    subst this; simp [lists]
  | k + 1, [], h, _ => by simp at h
  | k + 1, x :: l, h, hx => by
    obtain ⟨y, hy, rfl⟩ := hx x (by simp)
    simp only [lists, List.mem_flatMap, List.mem_map, List.mem_range]
    exact ⟨l, mem_lists n k l (by simpa using h) (fun z hz => hx z (by simp [hz])), y, hy, rfl⟩
def parts (n : Nat) : List (List Int) := (lists n n).filter wfB
def maskN (n : Nat) (c : List Int) : Nat := (mask n c).toNat
def okSets (n : Nat) (l : List Int) : Bool := (clsAll l).all fun c => (scan n c 0).2 == 0 && mask n c == ((maskN n c : Nat) : Int) && decide (maskN n c < 2 ^ n)
def okSum (n : Nat) (l : List Int) : Bool := ((clsAll l).map (maskN n)).sum == 2 ^ n - 1
def wantOf (n : Nat) (a b : List Int) : List Nat := (clsAll a).flatMap fun c => ((clsAll b).map fun d => maskN n c &&& maskN n d).filter fun x => x != 0
def okMeet (n : Nat) (a b : List Int) : Bool := (wantOf n a b).isPerm ((clsAll (labs (fun i => (a.getD i 0, b.getD i 0)) n)).map (maskN n))
def finerB (n : Nat) (a j : List Int) : Bool := (List.range n).all fun p => (List.range n).all fun q => !(a.getD p 0 == a.getD q 0) || j.getD p 0 == j.getD q 0
def okIn (n : Nat) (a j : List Int) : Bool := !finerB n a j || (clsAll j).all fun s => (clsAll a).all fun c => maskN n c &&& maskN n s == 0 || maskN n c &&& maskN n s == maskN n c
theorem one_all : ∀ n, n < 6 → (parts n).all (fun l => okSets n l && okSum n l) = true := by decide +kernel
theorem two_all : ∀ n, n < 6 → (parts n).all (fun a => (parts n).all fun b => okMeet n a b && okIn n a b) = true := by decide +kernel
end Go.Part
