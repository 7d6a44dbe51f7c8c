/-
  slices.Compact at a list of vertices of the call's own.
-/
import Derived.Test.YtjggeombkbianaaEvSxEqual
import Derived.Deep.LoopGhost
import Derived.Deep.Draws
import Derived.Lib.SliceRun
import Derived.Lib.SlicesCompact
import Derived.Shelf.GgSortFunc.RowK
namespace Go.Proofs.Ytjggeombkbianaa.Sx
open Go Go.RowKit Go.Law Go.Sx

/-- A vertex's two cells. -/
def encV (v : V) : List Value := [.int .i64 v.1, .int .i64 v.2]
theorem hold2 {w : World} {blk off : Nat} {d : Array V} (h : Sort.HoldsK encV 2 w blk off d) {i : Nat} (hi : i < d.size) :
    (w.cell? ⟨blk, off + i * 2, none⟩ = some (.int .i64 d[i]!.1) ∧ w.frozen? ⟨blk, off + i * 2, none⟩ = false) ∧ w.cell? ⟨blk, off + i * 2 + 1, none⟩ = some (.int .i64 d[i]!.2) ∧ w.frozen? ⟨blk, off + i * 2 + 1, none⟩ = false :=
  ⟨h.cell (c := 0) hi (by omega), h.cell (c := 1) hi (by omega)⟩
theorem setMany_set (d : Array V) (i : Nat) (x : V) (hi : i < d.size) : Sort.setMany (Sort.flatK encV 2 d) (i * 2) (encV x) = Sort.flatK encV 2 (d.setIfInBounds i x) := by
  refine Sort.ext_get! (by simp) fun t ht => ?_
  have ht' : t < d.size * 2 := by simpa using ht
  rw [Sort.get_setMany _ _ _ t (by simpa using ht'), Sort.get_flatK _ _ _ t ht', Sort.get_flatK _ _ _ t (by simpa using ht')]
  have hl : (encV x).length = 2 := rfl
  rw [hl]
  by_cases h : t / 2 = i
  · subst h
    rw [if_pos (by omega), Sort.getElem!_set_same d _ x hi, show t - t / 2 * 2 = t % 2 by omega]
  · rw [if_neg (by omega), Sort.getElem!_set_other d _ _ x (by omega)]
theorem below_row (w : World) (blk off q : Nat) (d : Array V) : Below blk w (Sort.putRowK encV 2 (Sort.ahead w q) blk off d) := by
  refine ⟨rfl, rfl, rfl, ?_, fun k hk => ?_⟩
  · simp [Sort.putRowK, Sort.putRow, Sort.mapBlock, Sort.ahead]
  · simp [Sort.putRowK, Sort.putRow, Sort.mapBlock, Sort.ahead, Array.getElem?_modify]
    intro h
    omega
theorem below_cells (w : World) (blk off : Nat) (vs : List Value) : Below blk w (w.setCells blk off vs) := by
  induction vs generalizing w off with
  | nil => exact Below.refl _ _
  | cons v r ih => exact ((Below.refl blk w).setCell (p := ⟨blk, off, none⟩) (Nat.le_refl _) v).trans (ih _ _)
theorem run_clear_two (w : World) (ty : TypeId) (b o n c : Nat) (hn : 0 < n) (hc : ∀ j, j < n * 2 → (w.cell? ⟨b, o + j, none⟩).isSome = true) (hf : ∀ j, j < n * 2 → w.frozen? ⟨b, o + j, none⟩ = false) :
    (Builtin.clear_ #[22] ty #[.slice (some ⟨b, o, none⟩) n c]).run Try.prog w = .ok (.tuple #[]) (w.setCells b o (List.replicate (n * 2) (.int .i64 0))) := by
  have hzc : (Builtin.zeroCells (Value.cells (.agg #[.int .i64 0, .int .i64 0])) n).toList = List.replicate (n * 2) (.int .i64 0) := by
    have hcc : (Value.cells (.agg #[.int .i64 0, .int .i64 0])) = #[.int .i64 0, .int .i64 0] := by rfl
    rw [hcc]
    apply List.ext_getElem
    · simp [Builtin.zeroCells]
    · intro i h1 h2
      rcases Nat.mod_two_eq_zero_or_one i with h | h <;> simp [Builtin.zeroCells, h]
  have hst := run_storeCells_cells (P := Try.prog) b o (List.replicate (n * 2) (.int .i64 0)) 0 w (by simpa using hc) (by simpa using hf) (by intro v hv'; rw [List.eq_of_mem_replicate hv']; rfl)
  simp only [Nat.add_zero] at hst
  obtain ⟨m, rfl⟩ : ∃ m, n = m + 1 := ⟨n - 1, by omega⟩
  simp [Builtin.clear_, run_underlying Try.underlying22, Try.zeroValue56, hzc, hst]

theorem store_row (w : World) (q n blk off : Nat) (dk : Array V) (i : Nat) (hi : i < dk.size) (x y : Int) :
    (((Sort.putRowK encV 2 (Sort.ahead w q) blk off dk).drewN n).setCell ⟨blk, off + i * 2, none⟩ (.int .i64 x)).setCell ⟨blk, off + i * 2 + 1, none⟩ (.int .i64 y) = Sort.putRowK encV 2 (Sort.ahead w (q + n)) blk off (dk.setIfInBounds i (x, y)) := by
  rw [Sort.putRowK_drewN]
  have h := Sort.setCells_putRow (Sort.ahead w (q + n)) blk off (encV (x, y)) (i * 2) (Sort.flatK encV 2 dk) (by rw [Sort.size_flatK]; show i * 2 + 2 ≤ _; omega)
  rw [setMany_set dk i (x, y) hi] at h
  exact h
open Go.Lib (keeps keeps_pos keeps_neg keeps_lt_one compactUpTo CompInv compactUpTo_all range_map_get) in
set_option maxHeartbeats 4000000 in
set_option maxRecDepth 100000 in
/-- The slice cut to the members that stay. -/
theorem compact_in (blk off cap : Nat) (d : Array V) (w : World) (hH : Sort.HoldsK encV 2 w blk off d) (hsz : d.size ≤ 4096) (hcap : d.size ≤ cap) :
    Calls Try.prog 73 #[.slice (some ⟨blk, off, none⟩) d.size cap] w fun e w' => e = .returned (.slice (some ⟨blk, off, none⟩) (compactUpTo d d.size).length cap) ∧
      VsAt w' blk off (compactUpTo d d.size).length (compactUpTo d d.size) ∧ Below blk w w' := by
  have same : ∀ W, (∀ j, j < d.size → W.cell? ⟨blk, off + j * 2, none⟩ = w.cell? ⟨blk, off + j * 2, none⟩ ∧ W.cell? ⟨blk, off + j * 2 + 1, none⟩ = w.cell? ⟨blk, off + j * 2 + 1, none⟩) → (∀ j, j < d.size → keeps d j = true) → (compactUpTo d d.size).length = d.size ∧ VsAt W blk off (compactUpTo d d.size).length (compactUpTo d d.size) := by
    intro W hW hall
    have e : compactUpTo d d.size = d.toList := by rw [compactUpTo_all d _ hall, range_map_get]
    rw [e]
    refine ⟨by simp, fun k hk => ?_⟩
    have hk' : k < d.size := by simpa using hk
    have hv : vx d.toList k = d[k]! := by rw [vx_get hk]; simp [hk']
    rw [hv, (hW k hk').1, (hW k hk').2]
    exact ⟨(hold2 hH hk').1.1, (hold2 hH hk').2.1⟩
  have HS := Lib.hid same
  clear same
  have HH := Lib.hid hH
  clear hH
  by_cases h2 : d.size < 2
  · have h2' : ((d.size : Int) < 2) := by omega
    go_enter Try.func73, Try.ntmps73
    go_wp2
    go_ret
    obtain ⟨e1, e2⟩ := HS.out w (fun j _ => ⟨rfl, rfl⟩) (fun j hj => keeps_lt_one d j (by omega))
    exact ⟨by rw [e1]; rfl, e2, Below.refl _ _⟩
  · go_enter Try.func73, Try.ntmps73
    go_wp2
    go_loopg [3] d.size (fun g s3 wr => ∃ k q : Nat, 1 ≤ k ∧ k ≤ d.size ∧ d.size - k ≤ g ∧ s3 = .int .i64 k ∧ wr = w.drewN q ∧ ∀ j, j < k → keeps d j = true)
    case atStart => exact ⟨1, 0, Nat.le_refl _, by omega, by omega, rfl, rfl, keeps_lt_one d⟩
    case round =>
      obtain ⟨k, q, hk1, hk, hg, rfl, rfl, hall⟩ := hrel
      have A := Lib.hid hall
      clear hall
      by_cases hlt : k < d.size
      · obtain ⟨⟨c1, f1⟩, c1', f1'⟩ := hold2 HH.out hlt
        obtain ⟨⟨c0, f0⟩, c0', f0'⟩ := hold2 HH.out (i := k - 1) (by omega)
        have KP := Lib.hid (fun (e : d[k]! ≠ d[k - 1]!) => keeps_pos e)
        have KN := Lib.hid (fun (e : d[k]! = d[k - 1]!) => CompInv.start A.out (keeps_neg (by omega) e))
        generalize d[k]! = p at *
        generalize d[k - 1]! = r at *
        obtain ⟨x, y⟩ := p
        obtain ⟨u, v⟩ := r
        simp only at c1 c1' c0 c0'
        by_cases hdup : ((x, y) : V) = (u, v)
        · obtain ⟨rfl, rfl⟩ : x = u ∧ y = v := by cases hdup; exact ⟨rfl, rfl⟩
          have I0 := Lib.hid (KN.out rfl)
          clear KN KP
          go_wp2
          go_quiet (fail)
          go_wp2
          clear c0 c1 f0 f1 c0' c1' f0' f1'
          go_loopg [3, 5] d.size (fun g s3 s5 wr => ∃ (kk k2 q2 : Nat) (dk : Array V), s3 = .int .i64 kk ∧ s5 = .int .i64 k2 ∧ 1 ≤ k2 ∧ k + k2 ≤ d.size ∧ d.size - (k + k2) ≤ g ∧ wr = Sort.putRowK encV 2 (Sort.ahead w q2) blk off dk ∧ CompInv d (k + k2) kk dk)
          case atStart => exact ⟨k, 1, _, d, rfl, rfl, Nat.le_refl _, by omega, by omega, (Sort.putRowK_self encV 2 _ blk off d (Sort.holdsK_ahead encV 2 w _ blk off d HH.out)).symm, I0.out⟩
          case round =>
            obtain ⟨kk, k2, q2, dk, rfl, rfl, h1, hle, hg2, hwr, hI⟩ := hrel
            have hkk := hI.lt
            have hds := hI.size
            have hHk : Sort.HoldsK encV 2 wr blk off dk := by rw [hwr]; exact Sort.holdsK_putRowK encV 2 _ blk off d dk (Sort.holdsK_ahead encV 2 w q2 blk off d HH.out) hds
            have W2 := Lib.hid hwr
            have I2 := Lib.hid hI
            clear hwr
            by_cases hlt2 : k + k2 < d.size
            · obtain ⟨⟨cm, _⟩, cm', _⟩ := hold2 hHk (i := k + k2) (by omega)
              obtain ⟨⟨cp, _⟩, cp', _⟩ := hold2 hHk (i := k + k2 - 1) (by omega)
              obtain ⟨⟨ck, fk⟩, ck', fk'⟩ := hold2 hHk (i := kk) (by omega)
              rw [hI.high (k + k2) (by omega), show off + (k + k2) * 2 = off + k * 2 + k2 * 2 by omega] at cm cm'
              rw [hI.high (k + k2 - 1) (by omega), show off + (k + k2 - 1) * 2 = off + k * 2 + (k2 - 1) * 2 by omega] at cp cp'
              have KP := Lib.hid (fun (e : d[k + k2]! ≠ d[k + k2 - 1]!) => I2.out.keep hlt2 (keeps_pos e))
              have KN := Lib.hid (fun (e : d[k + k2]! = d[k + k2 - 1]!) => I2.out.skip (keeps_neg (by omega) e))
              clear hHk hI
              generalize d[k + k2]! = p at *
              generalize d[k + k2 - 1]! = r at *
              generalize dk[kk]! = old at *
              obtain ⟨x', y'⟩ := p
              obtain ⟨u', v'⟩ := r
              obtain ⟨s', t'⟩ := old
              simp only at cm cm' cp cp' ck ck'
              by_cases hd2 : ((x', y') : V) = (u', v')
              · obtain ⟨rfl, rfl⟩ : x' = u' ∧ y' = v' := by cases hd2; exact ⟨rfl, rfl⟩
                have I3 := Lib.hid (KN.out rfl)
                clear KN KP
                go_wp2
                go_quiet (fail)
                go_wp2
                go_roundg (d.size - (k + (k2 + 1)))
                case measure => omega
                case rel => exact ⟨kk, k2 + 1, _, dk, rfl, by go_num, by omega, by omega, Nat.le_refl _, by rw [W2.out]; exact Sort.putRowK_drewN encV 2 w _ _ blk off dk, I3.out⟩
              · have I3 := Lib.hid (KP.out hd2)
                clear KN KP
                by_cases hx : x' = u'
                · subst hx
                  have hb : (y' == v') = false := by simp only [beq_eq_false_iff_ne, ne_eq]; intro e; exact hd2 (by rw [e])
                  clear hd2
                  go_wp2
                  go_quiet (fail)
                  go_wp2
                  go_roundg (d.size - (k + (k2 + 1)))
                  case measure => omega
                  case rel => exact ⟨kk + 1, k2 + 1, _, dk.setIfInBounds kk (x', y'), by go_num, by go_num, by omega, by omega, Nat.le_refl _, by rw [W2.out]; exact store_row w _ _ blk off dk kk (by omega) x' y', I3.out⟩
                · have hb : (x' == u') = false := by simpa using hx
                  clear hd2 hx
                  go_wp2
                  go_quiet (fail)
                  go_wp2
                  go_roundg (d.size - (k + (k2 + 1)))
                  case measure => omega
                  case rel => exact ⟨kk + 1, k2 + 1, _, dk.setIfInBounds kk (x', y'), by go_num, by go_num, by omega, by omega, Nat.le_refl _, by rw [W2.out]; exact store_row w _ _ blk off dk kk (by omega) x' y', I3.out⟩
            · have hend : k + k2 = d.size := by omega
              have hcl : ∀ ty, (Builtin.clear_ #[22] ty #[.slice (some ⟨blk, off + kk * 2, none⟩) (d.size - kk) (cap - kk)]).run Try.prog wr = .ok (.tuple #[]) (wr.setCells blk (off + kk * 2) (List.replicate ((d.size - kk) * 2) (.int .i64 0))) :=
                fun ty => run_clear_two wr ty blk (off + kk * 2) _ _ (by omega)
                  (fun j hj => by
                    have hh := hold2 hHk (i := kk + j / 2) (by omega)
                    rcases Nat.mod_two_eq_zero_or_one j with h | h
                    · rw [show off + kk * 2 + j = off + (kk + j / 2) * 2 by omega, hh.1.1]; rfl
                    · rw [show off + kk * 2 + j = off + (kk + j / 2) * 2 + 1 by omega, hh.2.1]; rfl)
                  (fun j hj => by
                    have hh := hold2 hHk (i := kk + j / 2) (by omega)
                    rcases Nat.mod_two_eq_zero_or_one j with h | h
                    · rw [show off + kk * 2 + j = off + (kk + j / 2) * 2 by omega, hh.1.2]
                    · rw [show off + kk * 2 + j = off + (kk + j / 2) * 2 + 1 by omega, hh.2.2])
              have HK := Lib.hid hHk
              clear hHk hI
              go_wp2
              go_ret
              have hI := I2.out
              rw [hend] at hI
              refine ⟨by rw [hI.len]; rfl, fun j hj => ?_, ?_⟩
              · have hj' : j < kk := by rw [hI.len] at hj; exact hj
                have hh := hold2 HK.out (i := j) (by omega)
                have he : vx (compactUpTo d d.size) j = dk[j]! := by
                  have := hI.low j hj'
                  rw [vx_get hj]
                  rw [List.getElem?_eq_getElem hj] at this
                  exact Option.some.inj this
                rw [he, World.cell?_setCells_out _ _ _ _ _ (fun _ _ => .inl (by show off + j * 2 < off + kk * 2; omega)), World.cell?_setCells_out _ _ _ _ _ (fun _ _ => .inl (by show off + j * 2 + 1 < off + kk * 2; omega))]
                exact ⟨hh.1.1, hh.2.1⟩
              · rw [W2.out]
                exact (below_row w blk off q2 dk).trans (below_cells _ _ _ _)
        · have K1 := Lib.hid (KP.out hdup)
          clear KN KP
          have hnx : Hid (∀ j, j < k + 1 → keeps d j = true) := Lib.hid fun j hj => by
            by_cases e : j = k
            · subst e; exact K1.out
            · exact A.out j (by omega)
          by_cases hx : x = u
          · subst hx
            have hb : (y == v) = false := by simp only [beq_eq_false_iff_ne, ne_eq]; intro e; exact hdup (by rw [e])
            clear hdup
            go_wp2
            go_quiet (fail)
            go_wp2
            go_roundg (d.size - (k + 1))
            case measure => omega
            case rel => exact ⟨k + 1, _, by omega, by omega, Nat.le_refl _, by go_num, rfl, hnx.out⟩
          · have hb : (x == u) = false := by simpa using hx
            clear hdup hx
            go_wp2
            go_quiet (fail)
            go_wp2
            go_roundg (d.size - (k + 1))
            case measure => omega
            case rel => exact ⟨k + 1, _, by omega, by omega, Nat.le_refl _, by go_num, rfl, hnx.out⟩
      · obtain rfl : k = d.size := by omega
        go_wp2
        go_ret
        obtain ⟨e1, e2⟩ := HS.out _ (fun j _ => ⟨rfl, rfl⟩) A.out
        exact ⟨by rw [e1]; rfl, e2, below_drewN (Below.refl _ _) _⟩
end Go.Proofs.Ytjggeombkbianaa.Sx
