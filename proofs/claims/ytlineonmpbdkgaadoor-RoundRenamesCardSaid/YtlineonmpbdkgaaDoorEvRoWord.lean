/-
  round.Word: the first fault of a word.
-/
import Derived.Test.YtlineonmpbdkgaaDoorEvRoChecks
import Derived.RangeFuncNested
import Derived.RangeFuncBound
import Derived.RangeFuncCalls
import Derived.RangeFuncLeaves
import Derived.RangeFuncWrites
import Derived.RangeFuncBox
import Derived.TacticsInMore
import Derived.LoopNIn
import Derived.LoopIn
namespace Go.Proofs.YtlineonmpbdkgaaDoor.Word
open Go Go.RowKit Go.Graph Go.Law
open Go.Proofs.YtlineonmpbdkgaaDoor.Graph

attribute [local go_sem] Oper.semAt_some

/-- A round: its seven numbers. -/
structure Rd where
  n : Int
  r0 : Int
  r1 : Int
  r2 : Int
  r3 : Int
  r4 : Int
  f : Int
deriving DecidableEq
def Rd.zero : Rd := ⟨0, 0, 0, 0, 0, 0, 0⟩
def Rd.vs (r : Rd) : List Value := [.int .i64 r.n, .int .i64 r.r0, .int .i64 r.r1, .int .i64 r.r2, .int .i64 r.r3, .int .i64 r.r4, .int .i64 r.f]
def Rd.v (r : Rd) : Value := .agg #[.int .i64 r.n, .int .i64 r.r0, .int .i64 r.r1, .int .i64 r.r2, .int .i64 r.r3, .int .i64 r.r4, .int .i64 r.f]
/-- The k-th round of a word, and what was faulty before it. -/
def rd (l : List Rd) (k : Nat) : Rd := l.getD k Rd.zero
def before (l : List Rd) : Nat → Int
  | 0 => 0
  | k + 1 => (rd l k).f
def seqTo (l : List Rd) (k : Nat) : List (Int × Rd) := (List.range k).map fun j => (before l j, rd l j)
theorem seqTo_succ (l : List Rd) (k : Nat) : seqTo l (k + 1) = seqTo l k ++ [(before l k, rd l k)] := by simp [seqTo, List.range_succ]
theorem seqTo_length (l : List Rd) (k : Nat) : (seqTo l k).length = k := by simp [seqTo]
/-- The cells of a word's first rounds. -/
def RdAt (W : World) (b off len : Nat) (l : List Rd) : Prop := ∀ k, k < len → ∀ i, i < 7 → W.cell? ⟨b, off + k * 7 + i, none⟩ = some ((rd l k).vs.getD i undef)
/-- Each block of cells stays. -/
structure Kept (A B : World) : Prop where
  size : A.heap.size ≤ B.heap.size
  same : ∀ (k : Nat) (o : Obj), A.heap[k]? = some o → o.isCells = true → B.heap[k]? = some o
theorem Kept.refl (A : World) : Kept A A := ⟨Nat.le_refl _, fun _ _ h _ => h⟩
theorem Kept.trans {A B C : World} (h : Kept A B) (k : Kept B C) : Kept A C := ⟨Nat.le_trans h.size k.size, fun i o hi ho => k.same i o (h.same i o hi ho) ho⟩
theorem Kept.put {w : World} (W : World) (l : Nat) (o o' : Obj) (_ : w.heap.size ≤ l) (h : W.heap[l]? = some o) (hc : o.isCells = false) (_ : o.isWalk = false) : Kept W (W.putObj l o') :=
  ⟨(KeepsFrom.of_grownBy (B := l + 1) (grownBy_putObj' W l o') (fun j e => by cases e; omega)).size, fun k ok hk hok => ((grownBy_putObj' W l o').block k (Array.getElem?_eq_some_iff.1 hk).1 (fun e => by cases e; rw [h] at hk; cases hk; rw [hc] at hok; cases hok)).trans hk⟩
theorem Kept.of_below {A B : World} (h : Below A.heap.size A B) : Kept A B := ⟨h.size, fun k o hk _ => (h.block k (Array.getElem?_eq_some_iff.1 hk).1).trans hk⟩
theorem Kept.cell {A B : World} (h : Kept A B) {p : Addr} {v : Value} (hp : A.cell? p = some v) : B.cell? p = some v := by
  unfold World.cell? at hp ⊢
  cases hb : A.heap[p.block]? with
  | none => rw [hb] at hp; simp at hp
  | some o =>
    cases o with
    | cells cs t fz => rw [h.same _ _ hb rfl]; rw [hb] at hp; exact hp
    | _ => rw [hb] at hp; simp at hp

set_option maxRecDepth 100000 in
set_option maxHeartbeats 4000000 in
theorem steps1_in (F : Fence) (n : Nat) (hf : F.fn 76) (hro : F.round = none) (hn : 1 ≤ n) (l Bs b off len cap : Nat) (a : Option Addr) (ha : 0 < len → a = some ⟨b, off, none⟩) (zs : List Rd) (hlen : len ≤ 1024) (J Jx : List (Int × Rd) → World → Prop) (W : World)
    (hJ : AbidesFrom W.heap.size J)
    (hY : ∀ pre x W1, J pre W1 → pre.length < len → YieldAt F (n - 1) Tryd.prog l #[.int .i64 x.1, x.2.v] W1 fun e W' =>
      (e = .returned (.bool true) ∧ J (pre ++ [x]) W' ∧ Kept W1 W') ∨ (e = .returned (.bool false) ∧ Jx (pre ++ [x]) W'))
    (hBs : W.cell? ⟨Bs, 0, none⟩ = some (.slice a len cap)) (hc : RdAt W b off len zs) (h0 : J [] W) :
    CallsIn F n Tryd.prog 76 #[.func (.yield l) #[] #[], .pointer (some ⟨Bs, 0, none⟩)] W fun e W' => (∃ v, e = .returned v) ∧
      ((∃ ys, ys = seqTo zs len ∧ J ys W') ∨ (∃ pre, (∃ k, k ≤ len ∧ pre = seqTo zs k) ∧ Jx pre W')) := by
  refine callsIn_of_wp Tryd.func76 rfl hf ?_ hro
  simp only [Tryd.ntmps76, List.size_toArray, List.length_cons, List.length_nil, Nat.reduceAdd, Nat.reduceSub, Array.replicate_succ, Array.replicate_zero, List.push_toArray, List.append_toArray, List.nil_append, List.cons_append]
  gi_wp2
  gi_loopw [3, 8] (fun fv i wr => ∃ k : Nat, k ≤ len ∧ i = .int .i64 k ∧ fv = .int .i64 (before zs k) ∧ J (seqTo zs k) wr ∧ Kept W wr) (fun _ i _ => len - (intOf i).toNat)
  case atStart => exact ⟨0, Nat.zero_le _, rfl, rfl, h0, Kept.refl _⟩
  case round =>
    obtain ⟨k, hk, rfl, rfl, hJs, hnx⟩ := hrel
    by_cases hlt : k < len
    · obtain rfl := ha (by omega)
      have hcx : ∀ i, i < 7 → wr.cell? ⟨b, off + k * 7 + i, none⟩ = some ((rd zs k).vs.getD i undef) := fun i hi => hnx.cell (hc k hlt i hi)
      obtain ⟨x, hx⟩ : ∃ x, rd zs k = x := ⟨_, rfl⟩
      have hup := seqTo_succ zs k
      have hf1 : before zs (k + 1) = x.f := by rw [before, hx]
      rw [hx] at hup hcx
      obtain ⟨q, hq⟩ : ∃ q, before zs k = q := ⟨_, rfl⟩
      rw [hq] at hup ⊢
      have c0 := hcx 0 (by omega)
      have c1 := hcx 1 (by omega)
      have c2 := hcx 2 (by omega)
      have c3 := hcx 3 (by omega)
      have c4 := hcx 4 (by omega)
      have c5 := hcx 5 (by omega)
      have c6 := hcx 6 (by omega)
      simp only [Rd.vs, List.getD_cons_zero, List.getD_cons_succ, Nat.add_zero] at c0 c1 c2 c3 c4 c5 c6
      clear hcx hx hq
      have hW1 := hJ _ wr (wr.alloc (.cells #[.int .i64 x.n, .int .i64 x.r0, .int .i64 x.r1, .int .i64 x.r2, .int .i64 x.r3, .int .i64 x.r4, .int .i64 x.f] 26)) none hJs (World.grownBy_alloc wr _ none) (fun r e => by cases e)
      have hKw : Kept wr (wr.alloc (.cells #[.int .i64 x.n, .int .i64 x.r0, .int .i64 x.r1, .int .i64 x.r2, .int .i64 x.r3, .int .i64 x.r4, .int .i64 x.f] 26)) := Kept.of_below ((Below.refl _ _).alloc (Nat.le_refl _) _)
      have h6 : (wr.alloc (.cells #[.int .i64 x.n, .int .i64 x.r0, .int .i64 x.r1, .int .i64 x.r2, .int .i64 x.r3, .int .i64 x.r4, .int .i64 x.f] 26)).cell? ⟨wr.heap.size, 6, none⟩ = some (.int .i64 x.f) := World.cell?_alloc_at _ _ _ _ rfl
      obtain ⟨fn, tmps, assign, body, hy, hR⟩ := hY _ (q, x) _ hW1 (by rw [seqTo_length]; exact hlt)
      simp only [Rd.v] at hy
      gi_wp2
      refine hR.mono ?_
      rintro e W3 (⟨rfl, hJ3, hk3⟩ | ⟨rfl, hJx3⟩)
      · have d6 := hk3.cell h6
        have hK3 := (hnx.trans hKw).trans hk3
        clear h6 hk3 hKw hW1 hR hy c0 c1 c2 c3 c4 c5 c6
        gi_wp2
        go_roundw
        case rel => exact ⟨k + 1, by omega, by go_num, by rw [hf1], by rw [hup]; exact hJ3, hK3⟩
        case measure => simp [intOf]; omega
      · gi_wp2
        refine bodyPost_ret (results_none rfl _ _ _) rfl ?_
        exact ⟨⟨_, rfl⟩, .inr ⟨_, ⟨k + 1, by omega, hup.symm⟩, hJx3⟩⟩
    · obtain rfl : k = len := by omega
      gi_wp2
      go_end0
      exact ⟨⟨_, rfl⟩, .inl ⟨_, rfl, hJs⟩⟩
theorem steps_stops (F : Fence) (n : Nat) (hf : F.fn 76) (hro : F.round = none) (hn : 1 ≤ n) (Bs b off len cap : Nat) (a : Option Addr) (ha : 0 < len → a = some ⟨b, off, none⟩) (zs : List Rd) (hlen : len ≤ 1024) (w : World) (hBs : w.cell? ⟨Bs, 0, none⟩ = some (.slice a len cap)) (hc : RdAt w b off len zs) (hb : 0 < len → b < w.heap.size) (hB : Bs < w.heap.size) :
    SeqStopsK F n Tryd.prog 76 #[.pointer (some ⟨Bs, 0, none⟩)] (fun x : Int × Rd => #[Value.int .i64 x.1, x.2.v]) Kept (fun ys => ys = seqTo zs len) (fun pre => ∃ k, k ≤ len ∧ pre = seqTo zs k) len w := fun l J Jx W hW hJ _ hY h0 =>
  steps1_in F n hf hro hn l Bs b off len cap a ha zs hlen J Jx W hJ hY ((hW.cell (p := ⟨Bs, 0, none⟩) hB).trans hBs) (fun k hk i hi => (hW.cell (p := ⟨b, off + k * 7 + i, none⟩) (hb (by omega))).trans (hc k hk i hi)) h0
theorem steps_call (a : Option Addr) (len cap : Nat) (w : World) :
    Calls Tryd.prog 53 #[.slice a len cap] w fun e w' => e = .returned (.func (.func 76) #[] #[.pointer (some ⟨w.heap.size, 0, none⟩)]) ∧ w' = w.alloc (.cells #[.slice a len cap] 39) := by
  go_enter Tryd.func53, Tryd.ntmps53
  go_wp2
  go_ret
  exact ⟨rfl, rfl⟩
end Go.Proofs.YtlineonmpbdkgaaDoor.Word
namespace Go.Proofs.YtlineonmpbdkgaaDoor.Word
open Go Go.RowKit Go.Graph Go.Law
open Go.Proofs.YtlineonmpbdkgaaDoor.Graph
open Go.Proofs.YtlineonmpbdkgaaDoor.Col (checkN_ok checkN_bad)

attribute [local go_sem] Oper.semAt_some

theorem all_ok (n : Nat) (h1 : 1 ≤ n) (h5 : n ≤ 5) (w : World) : Calls Tryd.prog 52 #[.int .i64 n] w fun e w' => e = .returned (.tuple #[.int .i64 ((2 ^ n - 1 : Nat) : Int), .int .i64 0]) ∧ w = w' := by
  rcases (by omega : n = 1 ∨ n = 2 ∨ n = 3 ∨ n = 4 ∨ n = 5) with rfl | rfl | rfl | rfl | rfl
  all_goals
    go_enter Tryd.func52, Tryd.ntmps52
    go_wp2_with (go_at_call 60; refine (checkN_ok _ (by omega) (by omega) _).mono ?_; rintro e w' ⟨rfl, rfl⟩)
    go_ret2
    exact ⟨rfl, rfl⟩
theorem all_bad (n : Int) (h : n < 1 ∨ 5 < n) (w : World) : Calls Tryd.prog 52 #[.int .i64 n] w fun e w' => e = .returned (.tuple #[.int .i64 0, .int .i64 1]) ∧ w = w' := by
  have HC := Lib.hid (checkN_bad n h)
  clear h
  go_enter Tryd.func52, Tryd.ntmps52
  go_wp2_with (go_at_call 60; refine (HC.out _).mono ?_; rintro e w' ⟨rfl, rfl⟩)
  go_ret2
  exact ⟨rfl, rfl⟩
/-- The fault of one round, behind the set of the processes that were faulty before it. -/
def err (n : Int) (x : Int × Rd) : Int :=
  if rcheck x.2.n [x.2.r0, x.2.r1, x.2.r2, x.2.r3, x.2.r4] x.2.f ≠ 0 then rcheck x.2.n [x.2.r0, x.2.r1, x.2.r2, x.2.r3, x.2.r4] x.2.f
  else if x.2.n ≠ n then 22 else if (bits .andNot .i64 x.1 x.2.f != 0) = true then 14 else 0
def scanP (n : Int) (l : List (Int × Rd)) : Int := l.foldl (fun a x => if a ≠ 0 then a else err n x) 0
theorem scanP_succ (n : Int) (l : List (Int × Rd)) (x : Int × Rd) : scanP n (l ++ [x]) = if scanP n l ≠ 0 then scanP n l else err n x := by simp [scanP, List.foldl_append]
theorem scan_le (n : Int) (zs : List Rd) {k m : Nat} (hk : k ≤ m) (h : scanP n (seqTo zs k) ≠ 0) : scanP n (seqTo zs m) = scanP n (seqTo zs k) := by
  induction m with
  | zero => obtain rfl : k = 0 := by omega
            rfl
  | succ m ih =>
    by_cases e : k = m + 1
    · rw [e]
    · rw [seqTo_succ, scanP_succ, ih (by omega), if_pos h]
/-- The fault of a word. -/
def wordR (n : Int) (l : List Rd) : Int := if n < 1 ∨ 5 < n then 1 else if 1024 < l.length then 5 else scanP n (seqTo l l.length)
/-- A word that can be read. -/
def WordAt (W : World) (v : Value) (l : List Rd) : Prop := ∃ a cap b off, v = .slice a l.length cap ∧ (0 < l.length → a = some ⟨b, off, none⟩) ∧ (0 < l.length → b < W.heap.size) ∧ RdAt W b off l.length l ∧ l.length ≤ maxLen
theorem WordAt.below {A B : World} (h : Below A.heap.size A B) {v : Value} {l : List Rd} : WordAt A v l → WordAt B v l
  | ⟨a, cap, b, off, e, h1, h2, h3, h4⟩ => ⟨a, cap, b, off, e, h1, fun h0 => Nat.lt_of_lt_of_le (h2 h0) h.size, fun k hk i hi => (h.cell (p := ⟨b, off + k * 7 + i, none⟩) (h2 (by omega))).trans (h3 k hk i hi), h4⟩

set_option maxRecDepth 100000 in
set_option maxHeartbeats 1000000 in
theorem word_bad (n : Int) (h : n < 1 ∨ 5 < n) (v : Value) (w : World) : Calls Tryd.prog 23 #[.int .i64 n, v] w fun e w' => e = .returned (.int .i64 1) ∧ Below w.heap.size w w' := by
  have HA := Lib.hid (all_bad n h)
  clear h
  go_enter Tryd.func23, Tryd.ntmps23
  go_wp2_with (go_at_call 52; refine (HA.out _).mono ?_; rintro e w' ⟨rfl, rfl⟩)
  refine bodyPost_ret (v := .int .i64 1) (by simp [results, Tryd.results23, go_sem]) rfl ?_
  exact ⟨rfl, ((Below.refl _ w).alloc (Nat.le_refl _) _).alloc (by simp) _⟩
set_option maxRecDepth 100000 in
set_option maxHeartbeats 1000000 in
theorem word_long (n : Nat) (h1 : 1 ≤ n) (h5 : n ≤ 5) (a : Option Addr) (len cap : Nat) (hl : 1024 < len) (hm : len ≤ maxLen) (w : World) : Calls Tryd.prog 23 #[.int .i64 n, .slice a len cap] w fun e w' => e = .returned (.int .i64 5) ∧ Below w.heap.size w w' := by
  have HA := Lib.hid (all_ok n h1 h5)
  have hg : decide ((len : Int) > 1024) = true := by simpa using (by omega : (1024 : Int) < len)
  have hlt : (1024 : Int) < len := by omega
  go_enter Tryd.func23, Tryd.ntmps23
  go_wp2_with (go_at_call 52; refine (HA.out _).mono ?_; rintro e w' ⟨rfl, rfl⟩)
  refine bodyPost_ret (v := .int .i64 5) (by simp [results, Tryd.results23, go_sem]) rfl ?_
  exact ⟨rfl, ((Below.refl _ w).alloc (Nat.le_refl _) _).alloc (by simp) _⟩
end Go.Proofs.YtlineonmpbdkgaaDoor.Word
