/-
  A list of vertices, as it comes in.
-/
import Derived.Test.YtjggeombkbianaaEvSxCmp
import Derived.Test.YtjggeombkbianaaEvAggs
namespace Go.Proofs.Ytjggeombkbianaa.Sx
open Go Go.RowKit Go.Law Go.Sx

def toV (row : List Value) : V := (valOf (row.getD 0 undef), valOf (row.getD 1 undef))
theorem toV_cells : ∀ {row : List Value}, Fits (List.replicate 2 (.int .i64)) row → row = [.int .i64 (toV row).1, .int .i64 (toV row).2]
  | [_, _], h => by
    obtain ⟨⟨n0, rfl, _⟩, ⟨n1, rfl, _⟩, _⟩ := h
    rfl
  | [], h => h.elim
  | [_], h => h.2.elim
  | _ :: _ :: _ :: _, h => h.2.2.elim
set_option maxRecDepth 100000 in
theorem open_vs {H : Type} {enc : TypeId × Value → H} {W : World} {base : Nat} {b0 : Nat} {r : Reach} {v : Value} {d : DataW H} {ps : List MemPlace} (hval : Value.okWide Try.prog W r b0 22 v) (h : DataW.Trod enc Try.prog W base (fun _ => true) true 22 v d ps) : ∃ l : List V, VTop W v l := by
  obtain ⟨a, len, cap, rows, rfl, hle, hmax, hl, hfit, hat⟩ := open_rows (P := Try.prog) Try.underlying22 5 (List.replicate 2 (.int .i64)) (by kernel_rfl) (by kernel_rfl) (by decide) hval h
  have hlen : (rows.map toV).length = len := by rw [List.length_map, hl]
  by_cases h0 : 0 < len
  · obtain ⟨b, off, rfl, hb, hc⟩ := hat h0
    refine ⟨rows.map toV, some ⟨b, off, none⟩, len, cap, b, off, rfl, hlen, fun _ => rfl, fun _ => hb, fun k hk => ?_, hle, hmax⟩
    have hk' : k < rows.length := by omega
    have hr : vx (rows.map toV) k = toV rows[k] := by
      unfold vx
      rw [List.getD_eq_getElem?_getD, List.getElem?_map, List.getElem?_eq_getElem hk']
      rfl
    have hv := toV_cells (hfit rows[k] (List.getElem_mem hk'))
    have e0 := hc k hk 0 (by simp)
    have e1 := hc k hk 1 (by simp)
    rw [List.length_replicate, List.getD_eq_getElem?_getD, List.getElem?_eq_getElem hk', Option.getD_some] at e0 e1
    rw [hr]
    generalize toV rows[k] = x at hv ⊢
    rw [hv] at e0 e1
    exact ⟨e0, e1⟩
  · exact ⟨rows.map toV, a, len, cap, 0, 0, rfl, hlen, fun h => absurd h (by omega), fun h => absurd h (by omega), fun k hk => absurd hk (by omega), hle, hmax⟩
end Go.Proofs.Ytjggeombkbianaa.Sx
