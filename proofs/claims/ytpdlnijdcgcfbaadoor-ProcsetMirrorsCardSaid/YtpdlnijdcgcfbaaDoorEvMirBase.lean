/-
  ProcsetMirrors: what is asked of the kernel.
-/
import Derived.Test.YtpdlnijdcgcfbaaDoorEvSeat
namespace Go.Proofs.YtpdlnijdcgcfbaaDoor.procsetMirrors
open Go Go.Ev Go.RowKit
open Go.Proofs.YtpdlnijdcgcfbaaDoor.Ev
noncomputable def run (a b k : Int) (e0 e1 e2 : TypeId) : Bool := isTrue ((evRec (cfg pr1) 50).call 9 [.int .i64 a, .int .i64 b, .int .i64 k] (tabHp (tabs e0 e1 e2)))
theorem ks {a b : Int} {m : Nat} {e0 e1 e2 : TypeId} (hD : ∀ j, run a b (.negSucc j) e0 e1 e2 = true) (hE : ∀ j, run a b (.ofNat (j + m)) e0 e1 e2 = true) (hF : ∀ s, s < m → run a b (.ofNat s) e0 e1 e2 = true) : ∀ k, run a b k e0 e1 e2 = true
  | .negSucc j => hD j
  | .ofNat s => by
    rcases Nat.lt_or_ge s m with h | h
    · exact hF s h
    · obtain ⟨j, rfl⟩ : ∃ j, s = j + m := ⟨s - m, by omega⟩
      exact hE j
theorem sets {a k : Int} {m : Nat} {e0 e1 e2 : TypeId} (hD : ∀ j, run a (.negSucc j) k e0 e1 e2 = true) (hE : ∀ j, run a (.ofNat (j + m)) k e0 e1 e2 = true) (hF : ∀ s, s < m → run a (.ofNat s) k e0 e1 e2 = true) : ∀ b, run a b k e0 e1 e2 = true
  | .negSucc j => hD j
  | .ofNat s => by
    rcases Nat.lt_or_ge s m with h | h
    · exact hF s h
    · obtain ⟨j, rfl⟩ : ∃ j, s = j + m := ⟨s - m, by omega⟩
      exact hE j
end Go.Proofs.YtpdlnijdcgcfbaaDoor.procsetMirrors
