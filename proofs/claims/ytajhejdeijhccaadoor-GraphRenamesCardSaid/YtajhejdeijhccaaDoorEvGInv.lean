/-
  The inverse of a permutation: the program's; renamed graphs by any list.
-/
import Derived.Test.YtajhejdeijhccaaDoorEvGPermRef
import Derived.Test.YtajhejdeijhccaaDoorEvGRenRef
import Derived.Test.YtajhejdeijhccaaDoorEvGPermAny
import Derived.Laws.MakeOwn
namespace Go.Perm
def ids (n : Nat) : List Int := (List.range n).map fun i : Nat => (i : Int)
theorem ids_length (n : Nat) : (ids n).length = n := by simp [ids]
theorem ids_getD {n k : Nat} (h : k < n) : (ids n).getD k 0 = (k : Int) := by
  unfold ids
  rw [List.getD_eq_getElem?_getD, List.getElem?_map, List.getElem?_range h]
  rfl
theorem nat_of {x : Int} {n : Nat} (h : 0 ≤ x ∧ x < n) : ∃ k, k < n ∧ x = (k : Nat) := ⟨x.toNat, by omega, by omega⟩
def at_ (l : List Int) (k : Nat) : Nat := (l.getD k 0).toNat
def okV (l : List Int) : Bool := !(check l == 0) || (check (mv l (ids l.length) l.length) == 0 && (List.range l.length).all fun k => at_ (mv l (ids l.length) l.length) (at_ l k) == k && at_ l (at_ (mv l (ids l.length) l.length) k) == k && decide (at_ (mv l (ids l.length) l.length) k < l.length))
theorem v1 : ∀ a, a < 1 → okV [((a : Nat) : Int)] = true := by decide +kernel
theorem v2 : ∀ a, a < 2 → ∀ b, b < 2 → okV [((a : Nat) : Int), (b : Nat)] = true := by decide +kernel
theorem v3 : ∀ a, a < 3 → ∀ b, b < 3 → ∀ c, c < 3 → okV [((a : Nat) : Int), (b : Nat), (c : Nat)] = true := by decide +kernel
theorem v4 : ∀ a, a < 4 → ∀ b, b < 4 → ∀ c, c < 4 → ∀ d, d < 4 → okV [((a : Nat) : Int), (b : Nat), (c : Nat), (d : Nat)] = true := by decide +kernel
theorem v5 : ∀ a, a < 5 → ∀ b, b < 5 → ∀ c, c < 5 → ∀ d, d < 5 → ∀ e, e < 5 → okV [((a : Nat) : Int), (b : Nat), (c : Nat), (d : Nat), (e : Nat)] = true := by decide +kernel
theorem okV_all {l : List Int} (h : check l = 0) : okV l = true := by
  obtain ⟨h1, h5, hr, _⟩ := check_ok h
  match l, h1, h5, hr with
  | [a], _, _, hr =>
    obtain ⟨x, hx, rfl⟩ := nat_of (hr a (by simp))
    exact v1 x hx
  | [a, b], _, _, hr =>
    obtain ⟨x, hx, rfl⟩ := nat_of (hr a (by simp)); obtain ⟨y, hy, rfl⟩ := nat_of (hr b (by simp))
    exact v2 x hx y hy
  | [a, b, c], _, _, hr =>
    obtain ⟨x, hx, rfl⟩ := nat_of (hr a (by simp)); obtain ⟨y, hy, rfl⟩ := nat_of (hr b (by simp)); obtain ⟨z, hz, rfl⟩ := nat_of (hr c (by simp))
    exact v3 x hx y hy z hz
  | [a, b, c, d], _, _, hr =>
    obtain ⟨x, hx, rfl⟩ := nat_of (hr a (by simp)); obtain ⟨y, hy, rfl⟩ := nat_of (hr b (by simp)); obtain ⟨z, hz, rfl⟩ := nat_of (hr c (by simp)); obtain ⟨u, hu, rfl⟩ := nat_of (hr d (by simp))
    exact v4 x hx y hy z hz u hu
  | [a, b, c, d, e], _, _, hr =>
    obtain ⟨x, hx, rfl⟩ := nat_of (hr a (by simp)); obtain ⟨y, hy, rfl⟩ := nat_of (hr b (by simp)); obtain ⟨z, hz, rfl⟩ := nat_of (hr c (by simp)); obtain ⟨u, hu, rfl⟩ := nat_of (hr d (by simp)); obtain ⟨t, ht, rfl⟩ := nat_of (hr e (by simp))
    exact v5 x hx y hy z hz u hu t ht
  | _ :: _ :: _ :: _ :: _ :: _ :: _, _, h5, _ => exact absurd h5 (by simp)
theorem inverse {l : List Int} (h : check l = 0) : check (mv l (ids l.length) l.length) = 0 ∧ ∀ k, k < l.length → at_ (mv l (ids l.length) l.length) (at_ l k) = k ∧ at_ l (at_ (mv l (ids l.length) l.length) k) = k ∧ at_ (mv l (ids l.length) l.length) k < l.length := by
  have := okV_all h
  unfold okV at this
  rw [h] at this
  simp only [beq_self_eq_true, Bool.not_true, Bool.false_or, Bool.and_eq_true, beq_iff_eq, List.all_eq_true, List.mem_range, decide_eq_true_eq] at this
  exact ⟨this.1, fun k hk => ⟨(this.2 k hk).1.1, (this.2 k hk).1.2, (this.2 k hk).2⟩⟩
end Go.Perm
namespace Go.Graph
/-- π and τ undo each other below n. -/
structure Undo (n : Nat) (π τ : Nat → Nat) : Prop where
  lt : ∀ i, i < n → π i < n
  lt' : ∀ i, i < n → τ i < n
  left : ∀ i, i < n → τ (π i) = i
  right : ∀ i, i < n → π (τ i) = i
theorem Undo.inj {n : Nat} {π τ : Nat → Nat} (h : Undo n π τ) {i j : Nat} (hi : i < n) (hj : j < n) (e : π i = π j) : i = j := by rw [← h.left i hi, ← h.left j hj, e]
theorem WF.ren {n : Nat} {r π τ : Nat → Nat} (h : WF n r) (u : Undo n π τ) : WF n (ren n r π) where
  pos := h.pos
  top := h.top
  low i _ := (accTo_lt u.lt n (Nat.le_refl _)).1 i
  self i hi := by rw [ren_bit]; exact ⟨τ i, u.lt' i hi, τ i, u.lt' i hi, h.self _ (u.lt' i hi), (u.right i hi).symm, (u.right i hi).symm⟩
  out i hi := (accTo_lt u.lt n (Nat.le_refl _)).2 i hi
theorem ren_prod {n : Nat} {a b π τ : Nat → Nat} (ha : WF n a) (u : Undo n π τ) : ren n (prod n a b) π = prod n (ren n a π) (ren n b π) := by
  apply rows_eq
  intro i j
  simp only [prod_bit, ren_bit]
  constructor
  · rintro ⟨x, hx, k, hk, ⟨_, m, hm, h1, h2⟩, rfl, rfl⟩
    exact ⟨u.lt x hx, π m, u.lt m hm, ⟨x, hx, m, hm, h1, rfl, rfl⟩, m, hm, k, hk, h2, rfl, rfl⟩
  · rintro ⟨_, m', _, ⟨x, hx, m, hm, h1, rfl, rfl⟩, y, hy, k, hk, h2, e, rfl⟩
    have := u.inj hm hy e
    subst this
    exact ⟨x, hx, k, hk, ⟨hx, m, hm, h1, h2⟩, rfl, rfl⟩
theorem ren_ren {n : Nat} {a π τ : Nat → Nat} (ha : WF n a) (u : Undo n π τ) : ren n (ren n a π) τ = a := by
  apply rows_eq
  intro i j
  simp only [ren_bit]
  constructor
  · rintro ⟨x', _, k', _, ⟨x, hx, k, hk, h, rfl, rfl⟩, rfl, rfl⟩
    rw [u.left x hx, u.left k hk]; exact h
  · intro h
    have := ha.bit_lt h
    exact ⟨π i, u.lt i this.1, π j, u.lt j this.2, ⟨i, this.1, j, this.2, h, rfl, rfl⟩, (u.left i this.1).symm, (u.left j this.2).symm⟩
end Go.Graph
namespace Go.Proofs.YtajhejdeijhccaaDoor.Perm
open Go Go.RowKit Go.Perm Go.Law
open Go.Proofs.YtajhejdeijhccaaDoor.Col (ret_int ret_bool ret_two)

theorem info3 : (Tryd.prog.info? 3).map (fun i => (i.zero, i.size, i.bytes)) = some (some (.int .i64 0), 1, 8) := by kernel_rfl
theorem make_ints (n : Nat) (hn : n ≤ 5) (W : World) : (Instr.makeSlice 40 (.int .i64 (n : Int)) (.int .i64 (n : Int))).run Tryd.prog W = .ok (.slice (some ⟨W.heap.size, 0, none⟩) n n) (W.alloc (.cells (madeCells #[.int .i64 0] n) 3)) := by
  obtain ⟨i0, hi, hz0, hz1, hz2⟩ := info_parts info3
  have := run_make (P := Tryd.prog) W 40 3 i0 (.int .i64 0) Tryd.underlying40 hi hz0 .i64 .i64 (n : Int) (n : Int) (by omega) (by omega) (by rw [hz2]; omega) (by omega)
  rw [this, hz1]
  simp [Value.cells]
theorem replicate_ints (n : Nat) : List.replicate n (Value.int .i64 0) = (List.replicate n (0 : Int)).map (Value.int .i64) := by simp

/-- A list of its own, with a number. -/
def VecPost (zs : List Int) (c : Int) (W : World) (e : Ending) (w' : World) : Prop := ∃ v, e = .returned (.tuple #[v, .int .i64 c]) ∧ Below W.heap.size W w' ∧ IntsAt w' .i64 v zs
theorem own_ints {w : World} {B n : Nat} {zs : List Int} (h : Own w B 3 (zs.map (Value.int .i64))) (hn : zs.length = n) (h5 : n ≤ 5) : IntsAt w .i64 (.slice (some ⟨B, 0, none⟩) n n) zs := by
  subst hn
  exact ⟨_, _, rfl, Nat.le_refl _, by unfold maxLen; omega, .inr ⟨B, 0, rfl, h.lt, h.at⟩⟩

set_option maxHeartbeats 800000 in
theorem inv_any (b off len cap : Nat) (zs : List Int) (hz : zs.length = len) (hok : check zs = 0) (hcap : len ≤ cap) (w : World) (hc : At w b off zs) :
    Calls Tryd.prog 49 #[.slice (some ⟨b, off, none⟩) len cap] w (VecPost (mv zs (ids len) len) 0 w) := by
  obtain ⟨h1, h5, hr, _⟩ := check_ok hok
  rw [hz] at h1 h5 hr
  have hb := hc.lt (by omega)
  have HR := Lib.hid hr
  have HC := Lib.hid hc
  have HO := Lib.hid hok
  have HZ := Lib.hid hz
  clear hr hc hok hz
  have HM := Lib.hid (Own.made w 3 (.int .i64 0) len)
  have hmk := make_ints len h5
  go_enter Tryd.func49, Tryd.ntmps49
  go_wp2_with (go_at_call 48; refine (check_any _ _ _ _ zs HZ.out (by omega) (by omega) hcap _ HC.out).mono ?_; rintro e w' ⟨rfl, rfl⟩; rw [HO.out])
  go_loopw [18] (fun i wr => ∃ k : Nat, k ≤ len ∧ i = .int .i64 k ∧ Below w.heap.size w wr ∧ Own wr w.heap.size 3 ((mv zs (ids len) k).map (Value.int .i64))) (fun i _ => len - (intOf i).toNat)
  case atStart => exact ⟨0, Nat.zero_le _, rfl, (Below.refl _ _).alloc (Nat.le_refl _) _, by rw [mv, ids_length, ← replicate_ints]; exact HM.out⟩
  case round =>
    obtain ⟨k, hk, rfl, hbl, hown⟩ := hrel
    have hz := HZ.out
    by_cases hlt : k < len
    · have hcell := (HC.out.below hbl hb) k (by omega)
      have hx := HR.out (zs.getD k 0) (getD_mem (by omega))
      have HE := Lib.hid (show mv zs (ids len) (k + 1) = (mv zs (ids len) k).set (zs.getD k 0).toNat (k : Int) by rw [mv, ids_getD hlt])
      have hl : (mv zs (ids len) k).length = len := by rw [mv_length, ids_length]
      generalize zs.getD k 0 = x at *
      obtain ⟨hx0, hx1⟩ := hx
      obtain ⟨q, rfl⟩ := Int.eq_ofNat_of_zero_le hx0
      have hoc : wr.cell? ⟨w.heap.size, q, none⟩ = some (.int .i64 ((mv zs (ids len) k).getD q 0)) := by have := hown.at q (by omega); simpa using this
      have hfr := hown.free q
      have HOW := Lib.hid hown
      have HBL := Lib.hid hbl
      clear hz hown hl hbl
      go_wp2
      go_roundw
      case rel => exact ⟨k + 1, by omega, by go_num, HBL.out.setCell (by simp) _, by rw [HE.out, List.map_set]; exact HOW.out.set q _⟩
      case measure => simp [intOf]; omega
    · have HOW := Lib.hid hown
      have HBL := Lib.hid hbl
      clear hz hown hbl
      go_wp2
      go_ret2
      have hk' : k = len := by omega
      subst hk'
      exact ⟨_, rfl, HBL.out, own_ints HOW.out (by rw [mv_length, ids_length]) h5⟩

theorem inv_ints {w : World} {v : Value} {zs : List Int} (hok : check zs = 0) (h : IntsAt w .i64 v zs) : Calls Tryd.prog 49 #[v] w (VecPost (mv zs (ids zs.length) zs.length) 0 w) := by
  obtain ⟨a, cap, rfl, h1, h2, h0⟩ := h
  rcases h0 with rfl | ⟨b, off, rfl, hlt, hc⟩
  · have := (check_ok hok).1; simp at this
  · exact inv_any b off _ cap zs rfl hok h1 w hc
end Go.Proofs.YtajhejdeijhccaaDoor.Perm
namespace Go.Proofs.YtajhejdeijhccaaDoor.Graph
open Go Go.RowKit Go.Graph Go.Law
open Go.Proofs.YtajhejdeijhccaaDoor.Col
open Go.Proofs.YtajhejdeijhccaaDoor.Perm (check_ints inv_ints)
theorem undo_of {zs : List Int} (h : Go.Perm.check zs = 0) : Undo zs.length (idx zs) (idx (Go.Perm.mv zs (Go.Perm.ids zs.length) zs.length)) where
  lt i hi := (idx_lt h i hi).1
  lt' i hi := ((Go.Perm.inverse h).2 i hi).2.2
  left i hi := ((Go.Perm.inverse h).2 i hi).1
  right i hi := ((Go.Perm.inverse h).2 i hi).2.1
theorem permute_ints {n : Nat} {a : Nat → Nat} (ha : WF n a) (zs : List Int) (hl : zs.length = n) (hck : Go.Perm.check zs = 0) (w : World) (v : Value) (hi : IntsAt w .i64 v zs) :
    Calls Tryd.prog 27 #[.agg #[.int .i64 n, .int .i64 (a 0), .int .i64 (a 1), .int .i64 (a 2), .int .i64 (a 3), .int .i64 (a 4)], v] w fun e w' => e = .returned (pairV n (ren n a (idx zs) 0 : Nat) (ren n a (idx zs) 1 : Nat) (ren n a (idx zs) 2 : Nat) (ren n a (idx zs) 3 : Nat) (ren n a (idx zs) 4 : Nat) 0) ∧ Below w.heap.size w w' := by
  obtain ⟨p, cap, rfl, h1, h2, h0⟩ := hi
  rcases h0 with rfl | ⟨b, off, rfl, hlt, hcell⟩
  · have := ha.pos; simp at hl; omega
  · rw [hl]
    exact permute_wf ha b off cap zs hl hck (by omega) w hlt hcell (fun w hw => by have := check_ints (w := w) (v := .slice (some ⟨b, off, none⟩) zs.length cap) (zs := zs) ⟨_, cap, rfl, h1, h2, .inr ⟨b, off, rfl, hw.lt (by have := ha.pos; omega), hw⟩⟩; rw [hck, hl] at this; exact this)
end Go.Proofs.YtajhejdeijhccaaDoor.Graph
