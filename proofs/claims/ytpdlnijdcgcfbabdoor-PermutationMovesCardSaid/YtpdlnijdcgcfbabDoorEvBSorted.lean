/-
  slices.Sorted over slices.Values; the number of the members of a set.
-/
import Derived.Test.YtpdlnijdcgcfbabDoorEvBIter
import Derived.Test.YtpdlnijdcgcfbabDoorEvBSeat
import Derived.Test.YtpdlnijdcgcfbabDoorEvVal
import Derived.Test.YtpdlnijdcgcfbabDoorEvPermMath4
namespace Go.Proofs.YtpdlnijdcgcfbabDoor.Iter
open Go Go.RowKit Go.Law Go.Sort Go.Ev Go.Perm
open Go.Proofs.YtpdlnijdcgcfbabDoor.Perm (own_row OnePost)
open Go.Proofs.YtpdlnijdcgcfbabDoor.Ev (tabs fast fast_eq cfg_ok glob_ok)

def asc (zs : List Int) : List Int := zs.mergeSort fun x y => decide (x ≤ y)
theorem asc_len' (zs : List Int) : (asc zs).length = zs.length := by simp [asc, List.length_mergeSort]
theorem sort_own {w : World} {base n : Nat} {v : Value} {zs : List Int} (h0 : 0 < n) (hn : n ≤ 65536) (hz : zs.length = n) (h : w.ownsRow base 3 1 v n (zs.map (Value.int .i64))) :
    Calls Tryd.prog 35 #[v] w fun e w' => e = .returned (.tuple #[]) ∧ w.grownBy w' v.ownBlock ∧ w'.ownsRow base 3 1 v n ((asc zs).map (Value.int .i64)) := by
  subst hz
  rcases h.2 with ⟨rfl, hn'⟩ | ⟨g, cap, cur, rfl, hg, hb, hn', hcap, hcs, htake⟩
  · omega
  · have hlt : g < w.heap.size := (Array.getElem?_eq_some_iff.1 hb).1
    refine (Any.slices_Sort_int Tryd.lays189 g 0 cap zs w (holds_of_blockI hb (by simpa using htake)) hlt (by omega)).mono ?_
    rintro e w' ⟨rfl, k, os, rfl⟩
    exact ⟨rfl, grownBy_sortedI _, ownsRow_sortedI (by simp [asc, List.length_mergeSort]) hg hb hn' hcap hcs⟩
theorem ints_lie {W : World} {sv : Value} {zs : List Int} (h : IntsAt W .i64 sv zs) (h0 : 0 < zs.length) : Ints W.heap.size W sv zs := by
  obtain ⟨a, cap, rfl, _, _, h3⟩ := h
  rcases h3 with rfl | ⟨b, off, rfl, hb, hc⟩
  · simp at h0
  · exact ⟨b, off, cap, rfl, hb, hc⟩
theorem collect_call {Bs : Nat} {sv : Value} {zs : List Int} (hlen : zs.length ≤ 100) (h0 : 0 < zs.length) {w : World} (hBs : Bs < w.heap.size) (hc : w.cell? ⟨Bs, 0, none⟩ = some sv) (hI : IntsAt w .i64 sv zs) :
    Calls Tryd.prog 34 #[.func (.func 36) #[] #[.pointer (some ⟨Bs, 0, none⟩)]] w (OwnPost zs w) := by
  have HA := Lib.hid (callsIn_wide.1 (appendSeq_in Fence.wide 3 trivial trivial rfl (by omega) Bs sv zs hlen w hBs hc (ints_lie hI h0)))
  clear hc hI
  go_enter Tryd.func34, Tryd.ntmps34
  go_wp2_with (go_at_call 45; refine (HA.out).mono ?_; rintro e w1 ⟨v, rfl, hr, hb⟩; have HR := Lib.hid hr; have HB := Lib.hid hb; clear hr hb)
  go_ret
  exact ⟨v, rfl, HR.out, HB.out⟩
theorem sorted_call {Bs : Nat} {sv : Value} {zs : List Int} (hlen : zs.length ≤ 100) (h0 : 0 < zs.length) {w : World} (hBs : Bs < w.heap.size) (hc : w.cell? ⟨Bs, 0, none⟩ = some sv) (hI : IntsAt w .i64 sv zs) :
    Calls Tryd.prog 16 #[.func (.func 36) #[] #[.pointer (some ⟨Bs, 0, none⟩)]] w (OnePost (asc zs) w) := by
  have HA := Lib.hid (collect_call hlen h0 hBs hc hI)
  clear hc hI
  go_enter Tryd.func16, Tryd.ntmps16
  go_wp2_with (first
    | (go_at_call 34; refine (HA.out).mono ?_; rintro e w1 ⟨v, rfl, hr, hb⟩; have HR := Lib.hid hr; have HB := Lib.hid hb; clear hr hb)
    | (go_at_call 35; refine (sort_own h0 (by omega) rfl HR.out).mono ?_; rintro e w2 ⟨rfl, hg, hr⟩; have HR2 := Lib.hid hr; have HB2 := Lib.hid (HB.out.grown hg HB.out.size (fun k hk => (HR.out.lt k hk).1)); clear hg hr))
  go_ret
  exact ⟨v, rfl, HB2.out, own_row (by have := HR2.out; rw [show zs.length = (asc zs).length by simp [asc, List.length_mergeSort]] at this; exact this)⟩

noncomputable def onesOf (e0 e1 e2 : TypeId) (s : Int) : Option Value := outV ((F.evRec (fast fun _ => none) 50).call 18 [.int .u64 s] (tabHp (tabs e0 e1 e2)))
theorem o0 (e0 e1 e2 : TypeId) : onesOf e0 e1 e2 0 = some (.int .i64 0) := by kernel_rfl
theorem o1 (e0 e1 e2 : TypeId) : onesOf e0 e1 e2 1 = some (.int .i64 1) := by kernel_rfl
theorem o2 (e0 e1 e2 : TypeId) : onesOf e0 e1 e2 2 = some (.int .i64 1) := by kernel_rfl
theorem o3 (e0 e1 e2 : TypeId) : onesOf e0 e1 e2 3 = some (.int .i64 2) := by kernel_rfl
theorem o4 (e0 e1 e2 : TypeId) : onesOf e0 e1 e2 4 = some (.int .i64 1) := by kernel_rfl
theorem o5 (e0 e1 e2 : TypeId) : onesOf e0 e1 e2 5 = some (.int .i64 2) := by kernel_rfl
theorem o6 (e0 e1 e2 : TypeId) : onesOf e0 e1 e2 6 = some (.int .i64 2) := by kernel_rfl
theorem o7 (e0 e1 e2 : TypeId) : onesOf e0 e1 e2 7 = some (.int .i64 3) := by kernel_rfl
theorem o8 (e0 e1 e2 : TypeId) : onesOf e0 e1 e2 8 = some (.int .i64 1) := by kernel_rfl
theorem o9 (e0 e1 e2 : TypeId) : onesOf e0 e1 e2 9 = some (.int .i64 2) := by kernel_rfl
theorem o10 (e0 e1 e2 : TypeId) : onesOf e0 e1 e2 10 = some (.int .i64 2) := by kernel_rfl
theorem o11 (e0 e1 e2 : TypeId) : onesOf e0 e1 e2 11 = some (.int .i64 3) := by kernel_rfl
theorem o12 (e0 e1 e2 : TypeId) : onesOf e0 e1 e2 12 = some (.int .i64 2) := by kernel_rfl
theorem o13 (e0 e1 e2 : TypeId) : onesOf e0 e1 e2 13 = some (.int .i64 3) := by kernel_rfl
theorem o14 (e0 e1 e2 : TypeId) : onesOf e0 e1 e2 14 = some (.int .i64 3) := by kernel_rfl
theorem o15 (e0 e1 e2 : TypeId) : onesOf e0 e1 e2 15 = some (.int .i64 4) := by kernel_rfl
theorem o16 (e0 e1 e2 : TypeId) : onesOf e0 e1 e2 16 = some (.int .i64 1) := by kernel_rfl
theorem o17 (e0 e1 e2 : TypeId) : onesOf e0 e1 e2 17 = some (.int .i64 2) := by kernel_rfl
theorem o18 (e0 e1 e2 : TypeId) : onesOf e0 e1 e2 18 = some (.int .i64 2) := by kernel_rfl
theorem o19 (e0 e1 e2 : TypeId) : onesOf e0 e1 e2 19 = some (.int .i64 3) := by kernel_rfl
theorem o20 (e0 e1 e2 : TypeId) : onesOf e0 e1 e2 20 = some (.int .i64 2) := by kernel_rfl
theorem o21 (e0 e1 e2 : TypeId) : onesOf e0 e1 e2 21 = some (.int .i64 3) := by kernel_rfl
theorem o22 (e0 e1 e2 : TypeId) : onesOf e0 e1 e2 22 = some (.int .i64 3) := by kernel_rfl
theorem o23 (e0 e1 e2 : TypeId) : onesOf e0 e1 e2 23 = some (.int .i64 4) := by kernel_rfl
theorem o24 (e0 e1 e2 : TypeId) : onesOf e0 e1 e2 24 = some (.int .i64 2) := by kernel_rfl
theorem o25 (e0 e1 e2 : TypeId) : onesOf e0 e1 e2 25 = some (.int .i64 3) := by kernel_rfl
theorem o26 (e0 e1 e2 : TypeId) : onesOf e0 e1 e2 26 = some (.int .i64 3) := by kernel_rfl
theorem o27 (e0 e1 e2 : TypeId) : onesOf e0 e1 e2 27 = some (.int .i64 4) := by kernel_rfl
theorem o28 (e0 e1 e2 : TypeId) : onesOf e0 e1 e2 28 = some (.int .i64 3) := by kernel_rfl
theorem o29 (e0 e1 e2 : TypeId) : onesOf e0 e1 e2 29 = some (.int .i64 4) := by kernel_rfl
theorem o30 (e0 e1 e2 : TypeId) : onesOf e0 e1 e2 30 = some (.int .i64 4) := by kernel_rfl
theorem o31 (e0 e1 e2 : TypeId) : onesOf e0 e1 e2 31 = some (.int .i64 5) := by kernel_rfl
theorem ones_ev (e0 e1 e2 : TypeId) : ∀ s : Nat, s < 32 → onesOf e0 e1 e2 (s : Int) = some (.int .i64 ((pop s : Nat) : Int))
  | 0, _ => o0 e0 e1 e2
  | 1, _ => o1 e0 e1 e2
  | 2, _ => o2 e0 e1 e2
  | 3, _ => o3 e0 e1 e2
  | 4, _ => o4 e0 e1 e2
  | 5, _ => o5 e0 e1 e2
  | 6, _ => o6 e0 e1 e2
  | 7, _ => o7 e0 e1 e2
  | 8, _ => o8 e0 e1 e2
  | 9, _ => o9 e0 e1 e2
  | 10, _ => o10 e0 e1 e2
  | 11, _ => o11 e0 e1 e2
  | 12, _ => o12 e0 e1 e2
  | 13, _ => o13 e0 e1 e2
  | 14, _ => o14 e0 e1 e2
  | 15, _ => o15 e0 e1 e2
  | 16, _ => o16 e0 e1 e2
  | 17, _ => o17 e0 e1 e2
  | 18, _ => o18 e0 e1 e2
  | 19, _ => o19 e0 e1 e2
  | 20, _ => o20 e0 e1 e2
  | 21, _ => o21 e0 e1 e2
  | 22, _ => o22 e0 e1 e2
  | 23, _ => o23 e0 e1 e2
  | 24, _ => o24 e0 e1 e2
  | 25, _ => o25 e0 e1 e2
  | 26, _ => o26 e0 e1 e2
  | 27, _ => o27 e0 e1 e2
  | 28, _ => o28 e0 e1 e2
  | 29, _ => o29 e0 e1 e2
  | 30, _ => o30 e0 e1 e2
  | 31, _ => o31 e0 e1 e2
  | s + 32, h => by omega
theorem ones {W : World} {e0 e1 e2 : TypeId} (H : Held W (tabs e0 e1 e2)) (s : Nat) (hs : s < 32) : Calls Tryd.prog 18 #[.int .u64 s] W fun e w' => e = .returned (.int .i64 ((pop s : Nat) : Int)) ∧ Below W.heap.size W w' :=
  call_plain (cfg_ok (pr := fun _ => none) fun _ _ _ f g h => (by cases h)) (glob_ok e0 e1 e2) (args := [.int .u64 s]) (args' := [.int .u64 s]) (.cons (.int _ _) .nil) (by rw [← fast_eq]; exact ones_ev e0 e1 e2 s hs) H
end Go.Proofs.YtpdlnijdcgcfbabDoor.Iter
