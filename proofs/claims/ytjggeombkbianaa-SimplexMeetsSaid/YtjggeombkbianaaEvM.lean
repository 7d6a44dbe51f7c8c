/-
  The evaluator's strings over memory, its builtins and its operations, and the machine's.
-/
import Derived.Test.YtjggeombkbianaaEvL
import Derived.Lib.UnsafeStr
namespace Go.Ev
open Go Go.RowKit

section
variable {C : Cfg} {P : Program} {B : Kp} {w0 w : World} {c : Ctx} {h : Hp}

theorem minmax_run (mx : Bool) : ∀ {rest : List AV} {rest' : List Value} {x a : AV} {xv : Value}, VR c x xv → VRs c rest rest' → minmax mx x rest = some a → ∀ w : World,
    ∃ u, (rest'.foldlM (if mx then Builtin.max2 else Builtin.min2) xv).run P w = .ok u w ∧ VR c a u
  | [], _, x, a, xv, hx, .nil, e, w => by
    simp only [minmax, Option.some.injEq] at e
    subst e
    exact ⟨xv, by simp, hx⟩
  | y :: rest, _, x, a, xv, hx, .cons hy ht, e, w => by
    cases x with
    | int k n =>
      cases y with
      | int k' m =>
        cases hx; cases hy
        simp only [minmax] at e
        obtain ⟨u, hu, hr⟩ := minmax_run mx (.int k _) ht e w
        refine ⟨u, ?_, hr⟩
        rw [List.foldlM_cons, Sem.run_bind]
        cases mx
        · exact hu
        · exact hu
      | _ => simp [minmax] at e
    | _ => simp [minmax] at e

theorem loadBytes_ints : ∀ (ns : List Int) (a : Addr) (acc : ByteArray), (∀ j v, (ns.map (Value.int .u8))[j]? = some v → w.cell? (a.add j) = some v) →
    (loadBytes a acc ns.length).run P w = .ok ⟨acc.data ++ (ns.map fun n => n.toNat.toUInt8).toArray⟩ w
  | [], a, acc, _ => by simp [loadBytes]
  | n :: l, a, acc, h => by
    have h0 : w.cell? a = some (.int .u8 n) := by
      have := h 0 _ rfl
      simpa [Addr.add] using this
    have ih := loadBytes_ints l (a.add 1) (acc.push n.toNat.toUInt8) (fun j y hy => by
      have := h (j + 1) y (by simpa using hy)
      have e : (a.add 1).add j = a.add (j + 1) := by
        unfold Addr.add
        by_cases hj : j = 0
        · subst hj; simp
        · simp [hj]; omega
      rw [e]; exact this)
    simp only [List.length_cons, loadBytes, Sem.run_bind, run_load, h0, Result.andThen]
    rw [ih]
    congr 1
    apply ByteArray.ext
    simp [ByteArray.push]

theorem lies_any {e : TypeId} (hc : P.cellsOf e = 1) (count off n : Nat) (hn : off + n ≤ count) : liesAt P P.depth e count off e n = true := by
  have hd : P.depth = (2 * (P.types.size + Made.depth) + 1) + 1 := rfl
  rw [hd]
  simp only [liesAt, Bool.or_eq_true]
  left
  rw [hd]
  simp [rowAt, hc, hn, sameLayout, Nat.mod_one]

theorem cellsOf_size {t : TypeId} {n : Nat} (e : sizeB P t = some n) : P.cellsOf t = n := by
  unfold sizeB at e
  unfold Program.cellsOf
  rw [e]; rfl

theorem ustr_none (ts : Array TypeId) (ty t0 : TypeId) (hts : ts[0]? = some t0) (p : Option Addr) (k : IntKind) (w : World) : (Builtin.unsafeString_ ts ty #[.pointer p, .int k 0]).run P w = .ok (.string ⟨⟨[]⟩⟩) w := by
  obtain ⟨l⟩ := ts
  cases l with
  | nil => simp at hts
  | cons x r => cases p <;> rfl

theorem ustr_row (ts : Array TypeId) (ty pt e : TypeId) (hts : ts[0]? = some pt) (hp : P.underlying pt = some (.pointer e)) (hc : P.cellsOf e = 1) (g off cells : Nat) (hsh : w.shape? g = some (e, cells)) (ns : List Int) (k : IntKind) (h0 : ns.length ≠ 0) (hn : off + ns.length ≤ cells) (h63 : ns.length < 2147483648)
    (hcell : ∀ j v, (ns.map (Value.int .u8))[j]? = some v → w.cell? ((⟨g, off, none⟩ : Addr).add j) = some v) :
    (Builtin.unsafeString_ ts ty #[.pointer (some ⟨g, off, none⟩), .int k (Int.ofNat ns.length)]).run P w = .ok (.string ⟨⟨ns.map fun n => n.toNat.toUInt8⟩⟩) (w.freeze ⟨g, off, none⟩ ns.length) := by
  have hlb := loadBytes_ints (P := P) (w := w) ns ⟨g, off, none⟩ .empty hcell
  have hlies := lies_any (P := P) hc (cells / P.cellsOf e) off ns.length (by rw [hc]; simpa using hn)
  have h63' : ¬ (9223372036854775807 : Int) < (ns.length : Int) := by omega
  have hdef : Builtin.unsafeString_ ts ty #[.pointer (some ⟨g, off, none⟩), .int k (Int.ofNat ns.length)] = (bind (asInt (.int k (Int.ofNat ns.length))) _ : Sem Value) := rfl
  rw [hdef]
  have hmax : IntKind.i64.max = 9223372036854775807 := rfl
  have hneg : ¬ (ns.length : Int) < 0 := by omega
  have h0' : ns ≠ [] := fun e => h0 (by rw [e]; rfl)
  simp [asInt, asIntOf, hmax, h63', hneg, h0', variablesAt, hsh, elemOf, run_underlying hp, hlies, hlb, hts]

theorem bytes_ints {cs : List AV} {s : List UInt8} {vs : List Value} (e : bytesA cs = some s) (h : VRs c cs vs) : ∃ ns : List Int, vs = ns.map (Value.int .u8) ∧ s = ns.map (fun n => n.toNat.toUInt8) := bytesA_cells e h

theorem freeze_heap_same {w : World} {g off n : Nat} {cs : Array Value} {t : TypeId} {fz : Nat × Nat} (hn : n ≠ 0) (hg : w.heap[g]? = some (.cells cs t fz)) :
    ∃ fz', (w.freeze ⟨g, off, none⟩ n).heap[g]? = some (.cells cs t fz') := by
  unfold World.freeze
  rw [if_neg hn]
  have hlt : g < w.heap.size := by
    rcases Nat.lt_or_ge g w.heap.size with h | h
    · exact h
    · rw [Array.getElem?_eq_none h] at hg; cases hg
  simp only [Array.getElem?_modify, if_true, hg, Option.map_some]
  exact ⟨_, rfl⟩
theorem freeze_heap_other (w : World) (g off n k : Nat) (h : k ≠ g) : (w.freeze ⟨g, off, none⟩ n).heap[k]? = w.heap[k]? := by
  unfold World.freeze
  split
  · rfl
  · simp only [Array.getElem?_modify]
    rw [if_neg (fun e => h e.symm)]
theorem freeze_size (w : World) (a : Addr) (n : Nat) : (w.freeze a n).heap.size = w.heap.size := by
  unfold World.freeze
  split
  · rfl
  · simp

theorem aUnsafeString_run (H : HR B w0 c h w) {ts : Array TypeId} {ty : TypeId} {p n a : AV} {pv nv : Value} (hp : VR c p pv) (hn : VR c n nv) {h' : Hp} {t0 : TypeId} (ht0 : ts[0]? = some t0)
    (e : aUnsafeString P h ts p n = some (a, h')) : Val P B w0 c (Builtin.unsafeString_ ts ty #[pv, nv]) w a h' := by
  unfold aUnsafeString at e
  split at e
  · rename_i hnn
    cases e
    obtain ⟨k, rfl⟩ := natOf_int hn hnn
    cases hp
    exact Val.pure H ⟨_, ustr_none ts ty t0 ht0 none k w, .str []⟩
  · rename_i r off m hnn
    obtain ⟨k, rfl⟩ := natOf_int hn hnn
    cases hp with
    | ptr off hL =>
      rename_i L
      split at e
      · rename_i h0
        cases e
        subst h0
        exact Val.pure H ⟨_, ustr_none ts ty t0 ht0 _ k w, .str []⟩
      · rename_i h0
        split at e
        · rename_i hbig
          split at e
          · rename_i elem cells fam pe hr htu
            obtain ⟨t, ht, htu⟩ := Option.bind_eq_some_iff.1 htu
            have hts0 : ts[0]? = some t := by simpa using ht
            split at e
            · rename_i hc
              obtain ⟨rfl, hby, hsz, hfit⟩ := hc
              split at e
              · rename_i s ms hs hms
                cases e
                obtain ⟨vs, hvs, hone, hcell⟩ := H.cells hr hL off m hfit
                obtain ⟨ns, rfl, rfl⟩ := bytesA_cells hs hvs
                have hlen : ns.length = m := by
                  have := hvs.length
                  simp only [List.length_take, List.length_drop, List.length_map] at this
                  omega
                obtain ⟨L', hL', cs, fz, hb, hsize, hlim, hcv, hw⟩ := H.obj _ _ hr
                rw [hL] at hL'; cases hL'
                subst hlen
                have hsh : w.shape? L.blk = some (pe, cs.size) := by simp [World.shape?, hb]
                have hrun := ustr_row (P := P) (w := w) ts ty t pe hts0 htu (cellsOf_size hsz) L.blk (L.base + off) cs.size hsh ns k h0 (by omega) hbig hcell
                obtain ⟨fz', hb'⟩ := freeze_heap_same (off := L.base + off) h0 hb
                refine ⟨c, _, _, hrun, Ctx.le_refl c, .str _, H.rowPut (cells' := cells) hr hms hL rfl (H.below.trans (let b0 := Lib.below_freeze (Below.refl 0 w) (p := ⟨L.blk, L.base + off, none⟩) (Nat.zero_le _) _; ⟨b0.os, b0.tape, b0.output, b0.size, fun k hk => freeze_heap_other _ _ _ _ _ (fun e => (hw rfl).1 (e ▸ hk))⟩)) (freeze_size _ _ _) (fun k hk => freeze_heap_other _ _ _ _ _ hk) ?_⟩
                exact ⟨cs, fz', hb', hsize, hlim, fun i a ha => hcv i a ha, fun hf => by cases hf⟩
              · cases e
            · cases e
          · cases e
        · cases e
  · cases e
end
end Go.Ev
