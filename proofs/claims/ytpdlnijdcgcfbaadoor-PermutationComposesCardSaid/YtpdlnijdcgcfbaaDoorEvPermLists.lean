/-
  Lists of lists that calls make: what is known of them.
-/
import Derived.Test.YtpdlnijdcgcfbaaDoorEvPermOwn
import Derived.Test.YtpdlnijdcgcfbaaDoorEvPermActs
import Derived.Lib.SliceRun
namespace Go.Proofs.YtpdlnijdcgcfbaaDoor.Perm
open Go Go.RowKit Go.Perm Go.Law
open Go.Proofs.YtpdlnijdcgcfbaaDoor.Col (ret_int ret_bool ret_two)

/-- A list of integers in a block of its own kind. -/
def Inner (w : World) (v : Value) (z : List Int) : Prop :=
  ∃ (a : Option Addr) (cap : Nat), v = .slice a z.length cap ∧ z.length ≤ cap ∧ cap ≤ maxLen ∧ ((z = [] ∧ a = none ∧ cap = 0) ∨ ∃ (b : Nat) (cs : List Value), a = some ⟨b, 0, none⟩ ∧ w.heap[b]? = some (Obj.cells ⟨cs⟩ 3 (0, 0)) ∧ cs.take z.length = z.map (Value.int .i64))
theorem inner_ints {w : World} {v : Value} {z : List Int} (h : Inner w v z) : IntsAt w .i64 v z := by
  obtain ⟨a, cap, rfl, h1, h2, h3⟩ := h
  refine ⟨a, cap, rfl, h1, h2, ?_⟩
  rcases h3 with ⟨rfl, _, _⟩ | ⟨b, cs, rfl, hb, ht⟩
  · exact .inl rfl
  · refine .inr ⟨b, 0, rfl, block_lt hb, fun j hj => ?_⟩
    have h4 : (cs.take z.length)[j]? = some (.int .i64 (z.getD j 0)) := by
      rw [ht, List.getElem?_map, List.getElem?_eq_getElem hj]
      simp [List.getD, List.getElem?_eq_getElem hj]
    rw [List.getElem?_take, if_pos hj] at h4
    simp only [World.cell?, hb]
    simpa using h4
theorem inner_nil (w : World) : Inner w (.slice none 0 0) [] := ⟨none, 0, rfl, Nat.le_refl _, by simp [maxLen], .inl ⟨rfl, rfl, rfl⟩⟩
theorem inner_own {w : World} {base : Nat} {v : Value} {z : List Int} {n : Nat} (hn : z.length = n) (h : w.ownsRow base 3 1 v n (z.map (Value.int .i64))) : Inner w v z := by
  subst hn
  rcases h.2 with ⟨rfl, hn⟩ | ⟨g, cap, cur, rfl, hg, hb, hn, hcap, hcs, htake⟩
  · have : z = [] := List.length_eq_zero_iff.1 hn
    subst this
    exact inner_nil _
  · exact ⟨_, _, rfl, hn, hcap, .inr ⟨g, cur.toList, rfl, hb, by simpa using htake⟩⟩
theorem inner_same {w w' : World} {v : Value} {z : List Int} (h : Inner w v z) (hs : ∀ (b : Nat) (cs : List Value), w.heap[b]? = some (Obj.cells ⟨cs⟩ 3 (0, 0)) → w'.heap[b]? = w.heap[b]?) : Inner w' v z := by
  obtain ⟨a, cap, rfl, h1, h2, h3⟩ := h
  refine ⟨a, cap, rfl, h1, h2, h3.imp id ?_⟩
  rintro ⟨b, cs, rfl, hb, ht⟩
  exact ⟨b, cs, rfl, by rw [hs b cs hb]; exact hb, ht⟩
theorem Inner.below {w w' : World} {v : Value} {z : List Int} (h : Inner w v z) (hb : Below w.heap.size w w') : Inner w' v z :=
  inner_same h fun b cs he => hb.block b (block_lt he)
theorem Inner.grown {w w' : World} {v u : Value} {z : List Int} {base n : Nat} {xs : List Value} (h : Inner w v z) (hg : w.grownBy w' u.ownBlock) (ho : w.ownsRow base 27 1 u n xs) : Inner w' v z :=
  inner_same h fun b cs he => hg.block b (block_lt he) fun hub => by
    rcases ho.2 with ⟨rfl, _⟩ | ⟨g, cap, cur, rfl, _, hb, _⟩
    · cases hub
    · simp only [Value.ownBlock, Option.some.injEq] at hub
      subst hub
      rw [hb] at he
      cases he

/-- A list of lists, read from its cells. -/
def Lists (w : World) (v : Value) (L : List (List Int)) : Prop :=
  ∃ (a : Option Addr) (cap : Nat) (vals : List Value), v = .slice a L.length cap ∧ L.length ≤ cap ∧ cap ≤ maxLen ∧ (L = [] ∨ ∃ b, a = some ⟨b, 0, none⟩ ∧ b < w.heap.size ∧ ∀ j, j < L.length → w.cell? ⟨b, 0 + j, none⟩ = some (vals.getD j undef)) ∧ ∀ j, j < L.length → Inner w (vals.getD j undef) (L.getD j [])
theorem Lists.below {w w' : World} {v : Value} {L : List (List Int)} (h : Lists w v L) (hb : Below w.heap.size w w') : Lists w' v L := by
  obtain ⟨a, cap, vals, rfl, h1, h2, h3, h4⟩ := h
  refine ⟨a, cap, vals, rfl, h1, h2, h3.imp id ?_, fun j hj => (h4 j hj).below hb⟩
  rintro ⟨b, rfl, hlt, hc⟩
  exact ⟨b, rfl, Nat.lt_of_lt_of_le hlt hb.size, fun j hj => by rw [hb.cell hlt]; exact hc j hj⟩
theorem lists_nil (w : World) : Lists w (.slice none 0 0) [] := ⟨none, 0, [], rfl, Nat.le_refl _, by simp [maxLen], .inl rfl, fun j hj => absurd hj (by simp)⟩
/-- A list of lists of the call's own, that may grow. -/
def OwnLists (base : Nat) (w : World) (v : Value) (L : List (List Int)) : Prop :=
  ∃ vals : List Value, w.ownsRow base 27 1 v L.length vals ∧ vals.length = L.length ∧ ∀ j, j < L.length → Inner w (vals.getD j undef) (L.getD j [])
theorem own_lists {base : Nat} {w : World} {v : Value} {L : List (List Int)} (h : OwnLists base w v L) : Lists w v L := by
  obtain ⟨vals, ho, hl, hi⟩ := h
  rcases ho.2 with ⟨rfl, hn⟩ | ⟨g, cap, cur, rfl, hg, hb, hn, hcap, hcs, htake⟩
  · have : L = [] := List.length_eq_zero_iff.1 hn
    subst this
    exact lists_nil _
  · refine ⟨_, cap, vals, rfl, hn, hcap, .inr ⟨g, rfl, block_lt hb, fun j hj => ?_⟩, hi⟩
    have h1 : (cur.toList.take (L.length * 1))[j]? = some (vals.getD j undef) := by
      rw [htake, List.getElem?_eq_getElem (by omega)]
      simp [List.getD, List.getElem?_eq_getElem (show j < vals.length by omega)]
    rw [List.getElem?_take, if_pos (by omega)] at h1
    simp only [World.cell?, hb]
    simpa using h1
theorem ownLists_nil (base : Nat) (w : World) : OwnLists base w (.slice none 0 0) [] := ⟨[], ⟨rfl, .inl ⟨rfl, rfl⟩⟩, rfl, fun j hj => absurd hj (by simp)⟩
theorem OwnLists.below {base : Nat} {w w' : World} {v : Value} {L : List (List Int)} (h : OwnLists base w v L) (hb : Below w.heap.size w w') : OwnLists base w' v L := by
  obtain ⟨vals, ho, hl, hi⟩ := h
  refine ⟨vals, ⟨ho.1, ho.2.imp id ?_⟩, hl, fun j hj => (hi j hj).below hb⟩
  rintro ⟨g, cap, cur, rfl, hg, hb', hr⟩
  exact ⟨g, cap, cur, rfl, hg, by rw [hb.block g (block_lt hb')]; exact hb', hr⟩
/-- One more list. -/
theorem OwnLists.snoc {base : Nat} {w w1 : World} {v v' u : Value} {L : List (List Int)} {vals : List Value} {z : List Int} (ho : w.ownsRow base 27 1 v L.length vals) (hl : vals.length = L.length) (hi : ∀ j, j < L.length → Inner w (vals.getD j undef) (L.getD j []))
    (hz : Inner w u z) (hg : w.grownBy w1 v.ownBlock) (h' : w1.ownsRow base 27 1 v' (L.length + 1) (vals ++ [u])) : OwnLists base w1 v' (L ++ [z]) := by
  refine ⟨vals ++ [u], by rw [List.length_append]; exact h', by simp [hl], fun j hj => ?_⟩
  by_cases e : j < L.length
  · have h1 : (vals ++ [u]).getD j undef = vals.getD j undef := by
      rw [List.getD_eq_getElem?_getD, List.getD_eq_getElem?_getD, List.getElem?_append_left (by omega)]
    have h2 : (L ++ [z]).getD j [] = L.getD j [] := by
      rw [List.getD_eq_getElem?_getD, List.getD_eq_getElem?_getD, List.getElem?_append_left e]
    rw [h1, h2]; exact (hi j e).grown hg ho
  · have ej : j = L.length := by rw [List.length_append] at hj; simp at hj; omega
    subst ej
    have h1 : (vals ++ [u]).getD L.length undef = u := by
      rw [List.getD_eq_getElem?_getD, List.getElem?_append_right (by omega), hl]; simp
    have h2 : (L ++ [z]).getD L.length [] = z := by
      rw [List.getD_eq_getElem?_getD, List.getElem?_append_right (by omega)]; simp
    rw [h1, h2]; exact hz.grown hg ho
/-- A list that is grown by a call's own hands over what is below. -/
theorem info27 : (Tryd.prog.info? 27).map (fun i => (i.zero, i.size, i.bytes)) = some (some (.slice none 0 0), 1, 24) := by kernel_rfl

def ClonePost (z : List Int) (W : World) (e : Ending) (w' : World) : Prop := ∃ v, e = .returned v ∧ Below W.heap.size W w' ∧ w'.ownsRow W.heap.size 3 1 v z.length (z.map (Value.int .i64))
theorem clone_nil (w : World) : Calls Tryd.prog 131 #[.slice none 0 0] w (ClonePost [] w) := by
  have he := fun (w : World) (a : Option Addr) (n c : Nat) => Lib.run_eql_slice_nil (P := Tryd.prog) w 27 3 a n c 0 0 Tryd.underlying27
  go_enter Tryd.func131, Tryd.ntmps131
  go_wp2
  go_ret
  exact ⟨_, rfl, Below.refl _ _, rfl, .inl ⟨rfl, rfl⟩⟩
set_option maxHeartbeats 1000000 in
set_option maxRecDepth 100000 in
theorem clone_some (b len cap : Nat) (z : List Int) (hz : z.length = len) (h5 : len ≤ 5) (w : World) (hc : At w b 0 z) (hb : b < w.heap.size) : Calls Tryd.prog 131 #[.slice (some ⟨b, 0, none⟩) len cap] w (ClonePost z w) := by
  obtain ⟨i0, hi, hz0, hz1, hz2⟩ := info_parts info3
  have he := fun (w : World) (a : Option Addr) (n c : Nat) => Lib.run_eql_slice_nil (P := Tryd.prog) w 27 3 a n c 0 0 Tryd.underlying27
  have HC := Lib.hid hc
  have HZ := Lib.hid hz
  clear hc hz
  have HOW : Hid ((w.alloc (.cells #[] 3)).ownsRow w.heap.size 3 1 (.slice (some ⟨w.heap.size, 0, none⟩) 0 0) 0 []) := Lib.hid ⟨rfl, .inr ⟨w.heap.size, 0, #[], rfl, Nat.le_refl _, by unfold World.alloc; simp, Nat.le_refl _, by simp [maxLen], rfl, rfl⟩⟩
  have HN : Hid (∀ (j : Nat) (u : Value), (z.map (Value.int .i64))[j]? = some u → (w.alloc (.cells #[] 3)).cell? ((⟨b, 0, none⟩ : Addr).add j) = some u) := Lib.hid fun j u hu => by
    rw [List.getElem?_map] at hu
    by_cases hj : j < z.length
    · rw [List.getElem?_eq_getElem hj] at hu
      have hc := HC.out j hj
      rw [Go.WideShapes.add_plain, World.cell?_alloc_past _ _ _ hb, hc, ← hu]
      simp [List.getD, List.getElem?_eq_getElem hj]
    · rw [List.getElem?_eq_none (by omega)] at hu; cases hu
  go_enter Tryd.func131, Tryd.ntmps131
  go_wp2_with (at_builtin; refine wpList_append_own _ rfl _ _ 27 rfl w.heap.size 3 i0 (.int .i64 0) 1 8 Tryd.underlying27 hi hz0 hz1 hz2 rfl (by decide) _ _ _ rfl HOW.out ⟨b, 0, none⟩ len cap (z.map (Value.int .i64)) rfl (by rw [List.length_map, HZ.out]; omega) HN.out (fun x hx => by obtain ⟨y, _, rfl⟩ := List.mem_map.1 hx; rfl) (by unfold maxLen; omega) (by omega) (by simp) ?_; intro v' w1 hown' hgrow _; have HO1 := Lib.hid hown'; have HG1 := Lib.hid hgrow; clear hown' hgrow)
  go_ret
  refine ⟨_, rfl, ((Below.refl _ _).alloc (Nat.le_refl _) _).grown HG1.out (by simp) (fun k hk => by cases hk; exact Nat.le_refl _), ?_⟩
  have := HO1.out
  rw [HZ.out]
  simpa using this
end Go.Proofs.YtpdlnijdcgcfbaaDoor.Perm
