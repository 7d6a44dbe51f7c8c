/-
  A struct or an array of integers, as it comes in.
-/
import Derived.WideShapes
namespace Go.Law
open Go

/-- The number in a cell. -/
def valOf : Value → Int
  | .int _ n => n
  | _ => 0
theorem open_agg {P : Program} {w : World} {r : Reach} {base : Nat} {t e : TypeId} {v : Value} {k : IntKind} {m : Nat} (hu : (∃ fs, P.underlying t = some (.struct fs)) ∨ ∃ n e, P.underlying t = some (.array n e))
    (hc : P.cellsOf t = m) (ht : P.cellTypes P.depth t = some (List.replicate m e)) (he : P.underlying e = some (.int k)) (h : Value.okWide P w r base t v) : ∃ zs : List Int, zs.length = m ∧ v = .agg ⟨zs.map (Value.int k)⟩ := by
  have h' : ∃ cs, v = .agg cs ∧ cs.size = P.cellsOf t ∧ Row.okWide P w r base t cs := by
    rcases hu with ⟨fs, hu⟩ | ⟨n, e, hu⟩ <;> (unfold Value.okWide at h; rw [hu] at h; exact h)
  obtain ⟨cs, rfl, hsz, ts, hts, _, hcell⟩ := h'
  rw [ht] at hts
  cases hts
  rw [hc] at hsz
  refine ⟨cs.toList.map valOf, by simpa using hsz, ?_⟩
  congr 1
  apply Array.ext'
  show cs.toList = (cs.toList.map valOf).map (Value.int k)
  apply List.ext_getElem
  · simp
  intro i h1 h2
  have hi : i < cs.size := by simpa using h1
  obtain ⟨u, hu1, hu2⟩ := hcell i cs[i] (Array.getElem?_eq_getElem hi)
  rw [List.length_replicate, Nat.mod_eq_of_lt (by omega), List.getElem?_replicate] at hu1
  rw [if_pos (by omega)] at hu1
  cases hu1
  have hcv : ∃ n, cs[i] = .int k n := by
    simp only [Cell.okWide, he] at hu2
    generalize cs[i] = x at *
    cases x <;> simp_all [Cell.ok]
  obtain ⟨n, hn⟩ := hcv
  simp [hn, valOf]
theorem open_agg2 {P : Program} {w : World} {r : Reach} {base : Nat} {t e : TypeId} {v : Value} {k : IntKind} (hu : (∃ fs, P.underlying t = some (.struct fs)) ∨ ∃ n e, P.underlying t = some (.array n e))
    (hc : P.cellsOf t = 2) (ht : P.cellTypes P.depth t = some (List.replicate 2 e)) (he : P.underlying e = some (.int k)) (h : Value.okWide P w r base t v) :
    ∃ a b : Int, v = .agg #[.int k a, .int k b] := by
  obtain ⟨zs, hl, rfl⟩ := open_agg hu hc ht he h
  match zs, hl with
  | [a, b], _ => exact ⟨a, b, rfl⟩
theorem open_agg6 {P : Program} {w : World} {r : Reach} {base : Nat} {t e : TypeId} {v : Value} {k : IntKind} (hu : (∃ fs, P.underlying t = some (.struct fs)) ∨ ∃ n e, P.underlying t = some (.array n e))
    (hc : P.cellsOf t = 6) (ht : P.cellTypes P.depth t = some (List.replicate 6 e)) (he : P.underlying e = some (.int k)) (h : Value.okWide P w r base t v) :
    ∃ a b c d f g : Int, v = .agg #[.int k a, .int k b, .int k c, .int k d, .int k f, .int k g] := by
  obtain ⟨zs, hl, rfl⟩ := open_agg hu hc ht he h
  match zs, hl with
  | [a, b, c, d, f, g], _ => exact ⟨a, b, c, d, f, g, rfl⟩
end Go.Law
