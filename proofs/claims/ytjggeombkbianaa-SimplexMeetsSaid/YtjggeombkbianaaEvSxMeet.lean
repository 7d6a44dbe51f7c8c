/-
  Meet and Without.
-/
import Derived.Test.YtjggeombkbianaaEvSxTwo
import Derived.Test.YtjggeombkbianaaEvSxRefOf
import Derived.Laws.EntriesVeiled
namespace Go.Proofs.Ytjggeombkbianaa.Sx
open Go Go.RowKit Go.Law Go.Sx

/-- A list, or the error of two simplices. -/
def selR (A B L : List V) : List V × Int := if two A B ≠ 0 then ([], two A B) else (L, 0)
/-- A list and an error. -/
def ResPost (R : List V × Int) (w : World) (e : Ending) (w' : World) : Prop := ∃ u, e = .returned (.tuple #[u, .int .i64 R.2]) ∧ Below w.heap.size w w' ∧ VTop w' u R.1
theorem res_bad {A B L : List V} {w w' : World} {r : Int} (hr : two A B = r) (h0 : r ≠ 0) (hb : Below w.heap.size w w') : ResPost (selR A B L) w (.returned (.tuple #[.slice none 0 0, .int .i64 r])) w' := by
  have e : selR A B L = ([], r) := by unfold selR; rw [hr, if_pos h0]
  rw [e]
  exact ⟨_, rfl, hb, v_nil _⟩
theorem res_good {A B L : List V} {w w' : World} {u : Value} (hr : two A B = 0) (hb : Below w.heap.size w w') (hu : VTop w' u L) : ResPost (selR A B L) w (.returned (.tuple #[u, .int .i64 0])) w' := by
  have e : selR A B L = (L, 0) := by unfold selR; rw [hr]; rfl
  rw [e]
  exact ⟨_, rfl, hb, hu⟩
set_option maxRecDepth 100000 in
set_option maxHeartbeats 1000000 in
theorem meet_walk (a1 a2 : Option Addr) (n1 n2 k1 k2 : Nat) (A B L : List V) (w : World)
    (HT : Calls Try.prog 54 #[.slice a1 n1 k1, .slice a2 n2 k2] w fun e w' => e = .returned (.int .i64 (two A B)) ∧ Below w.heap.size w w')
    (HF : ∀ w1, Below w.heap.size w w1 → Calls Try.prog 55 #[.slice a1 n1 k1, .func (.func 77) #[] #[.pointer (some ⟨w1.heap.size, 0, none⟩)]] (w1.alloc (.cells #[.slice a2 n2 k2] 22)) fun e w' => ∃ u, e = .returned u ∧ Below w.heap.size w w' ∧ VTop w' u L) :
    Calls Try.prog 30 #[.slice a1 n1 k1, .slice a2 n2 k2] w (ResPost (selR A B L) w) := by
  obtain ⟨r, hr⟩ : ∃ r, two A B = r := ⟨_, rfl⟩
  have HR := Lib.hid hr
  rw [hr] at HT
  have HT := Lib.hid HT
  have HF := Lib.hid HF
  clear hr
  by_cases h0 : r = 0
  · subst h0
    go_enter Try.func30, Try.ntmps30
    go_wp2_with fail
    refine (HT.out).mono ?_
    rintro e w1 ⟨he, hb⟩
    subst he
    have T1 := Lib.hid hb
    clear hb
    go_wp2_with (go_at_call 56; refine (among_call _ _ _ _).mono ?_; rintro e w2 ⟨rfl, rfl⟩)
    refine (HF.out w1 T1.out).mono ?_
    rintro e w3 ⟨u, he, hb, hv⟩
    subst he
    have T3 := Lib.hid hb
    have V3 := Lib.hid hv
    clear hb hv
    go_wp2
    go_ret2
    exact res_good HR.out T3.out V3.out
  · have hb0 : (r != 0) = true := by simpa using h0
    have H0 := Lib.hid h0
    clear h0
    go_enter Try.func30, Try.ntmps30
    go_wp2_with fail
    refine (HT.out).mono ?_
    rintro e w1 ⟨he, hb⟩
    subst he
    have T1 := Lib.hid hb
    clear hb
    go_wp2
    go_ret2
    exact res_bad HR.out H0.out T1.out
set_option maxRecDepth 100000 in
set_option maxHeartbeats 1000000 in
theorem without_walk (a1 a2 : Option Addr) (n1 n2 k1 k2 : Nat) (A B L : List V) (w : World)
    (HT : Calls Try.prog 54 #[.slice a1 n1 k1, .slice a2 n2 k2] w fun e w' => e = .returned (.int .i64 (two A B)) ∧ Below w.heap.size w w')
    (HF : ∀ w1, Below w.heap.size w w1 → ∀ B1, B1 = w1.heap.size + 1 → Calls Try.prog 55 #[.slice a1 n1 k1, .func (.func 66) #[] #[.pointer (some ⟨B1, 0, none⟩)]] ((w1.alloc (.cells #[.slice a2 n2 k2] 22)).alloc (.cells #[.func (.func 77) #[] #[.pointer (some ⟨w1.heap.size, 0, none⟩)]] 65)) fun e w' => ∃ u, e = .returned u ∧ Below w.heap.size w w' ∧ VTop w' u L) :
    Calls Try.prog 32 #[.slice a1 n1 k1, .slice a2 n2 k2] w (ResPost (selR A B L) w) := by
  obtain ⟨r, hr⟩ : ∃ r, two A B = r := ⟨_, rfl⟩
  have HR := Lib.hid hr
  rw [hr] at HT
  have HT := Lib.hid HT
  have HF := Lib.hid HF
  clear hr
  by_cases h0 : r = 0
  · subst h0
    go_enter Try.func32, Try.ntmps32
    go_wp2_with fail
    refine (HT.out).mono ?_
    rintro e w1 ⟨he, hb⟩
    subst he
    have T1 := Lib.hid hb
    clear hb
    go_wp2_with (go_at_call 56; refine (among_call _ _ _ _).mono ?_; rintro e w2 ⟨rfl, rfl⟩)
    refine (HF.out w1 T1.out _ (by first | rfl | simp)).mono ?_
    rintro e w3 ⟨u, he, hb, hv⟩
    subst he
    have T3 := Lib.hid hb
    have V3 := Lib.hid hv
    clear hb hv
    go_wp2
    go_ret2
    exact res_good HR.out T3.out V3.out
  · have hb0 : (r != 0) = true := by simpa using h0
    have H0 := Lib.hid h0
    clear h0
    go_enter Try.func32, Try.ntmps32
    go_wp2_with fail
    refine (HT.out).mono ?_
    rintro e w1 ⟨he, hb⟩
    subst he
    have T1 := Lib.hid hb
    clear hb
    go_wp2
    go_ret2
    exact res_bad HR.out H0.out T1.out
set_option maxRecDepth 100000 in
set_option maxHeartbeats 1000000 in
theorem rmeet_walk (a1 a2 : Option Addr) (n1 n2 k1 k2 : Nat) (A B L : List V) (w : World)
    (HT : Calls Try.prog 57 #[.slice a1 n1 k1, .slice a2 n2 k2] w fun e w' => e = .returned (.int .i64 (two A B)) ∧ Below w.heap.size w w')
    (HF : ∀ w1, Below w.heap.size w w1 → Calls Try.prog 65 #[.slice a1 n1 k1, .slice a2 n2 k2, .bool true] w1 fun e w' => ∃ u, e = .returned u ∧ Below w.heap.size w w' ∧ VTop w' u L) :
    Calls Try.prog 31 #[.slice a1 n1 k1, .slice a2 n2 k2] w (ResPost (selR A B L) w) := by
  obtain ⟨r, hr⟩ : ∃ r, two A B = r := ⟨_, rfl⟩
  have HR := Lib.hid hr
  rw [hr] at HT
  have HT := Lib.hid HT
  have HF := Lib.hid HF
  clear hr
  by_cases h0 : r = 0
  · subst h0
    go_enter Try.func31, Try.ntmps31
    go_wp2_with fail
    refine (HT.out).mono ?_
    rintro e w1 ⟨he, hb⟩
    subst he
    have T1 := Lib.hid hb
    clear hb
    go_wp2_with fail
    refine (HF.out w1 T1.out).mono ?_
    rintro e w3 ⟨u, he, hb, hv⟩
    subst he
    have T3 := Lib.hid hb
    have V3 := Lib.hid hv
    clear hb hv
    go_wp2
    go_ret2
    exact res_good HR.out T3.out V3.out
  · have hb0 : (r != 0) = true := by simpa using h0
    have H0 := Lib.hid h0
    clear h0
    go_enter Try.func31, Try.ntmps31
    go_wp2_with fail
    refine (HT.out).mono ?_
    rintro e w1 ⟨he, hb⟩
    subst he
    have T1 := Lib.hid hb
    clear hb
    go_wp2
    go_ret2
    exact res_bad HR.out H0.out T1.out
set_option maxRecDepth 100000 in
set_option maxHeartbeats 1000000 in
theorem rwithout_walk (a1 a2 : Option Addr) (n1 n2 k1 k2 : Nat) (A B L : List V) (w : World)
    (HT : Calls Try.prog 57 #[.slice a1 n1 k1, .slice a2 n2 k2] w fun e w' => e = .returned (.int .i64 (two A B)) ∧ Below w.heap.size w w')
    (HF : ∀ w1, Below w.heap.size w w1 → Calls Try.prog 65 #[.slice a1 n1 k1, .slice a2 n2 k2, .bool false] w1 fun e w' => ∃ u, e = .returned u ∧ Below w.heap.size w w' ∧ VTop w' u L) :
    Calls Try.prog 33 #[.slice a1 n1 k1, .slice a2 n2 k2] w (ResPost (selR A B L) w) := by
  obtain ⟨r, hr⟩ : ∃ r, two A B = r := ⟨_, rfl⟩
  have HR := Lib.hid hr
  rw [hr] at HT
  have HT := Lib.hid HT
  have HF := Lib.hid HF
  clear hr
  by_cases h0 : r = 0
  · subst h0
    go_enter Try.func33, Try.ntmps33
    go_wp2_with fail
    refine (HT.out).mono ?_
    rintro e w1 ⟨he, hb⟩
    subst he
    have T1 := Lib.hid hb
    clear hb
    go_wp2_with fail
    refine (HF.out w1 T1.out).mono ?_
    rintro e w3 ⟨u, he, hb, hv⟩
    subst he
    have T3 := Lib.hid hb
    have V3 := Lib.hid hv
    clear hb hv
    go_wp2
    go_ret2
    exact res_good HR.out T3.out V3.out
  · have hb0 : (r != 0) = true := by simpa using h0
    have H0 := Lib.hid h0
    clear h0
    go_enter Try.func33, Try.ntmps33
    go_wp2_with fail
    refine (HT.out).mono ?_
    rintro e w1 ⟨he, hb⟩
    subst he
    have T1 := Lib.hid hb
    clear hb
    go_wp2
    go_ret2
    exact res_bad HR.out H0.out T1.out
theorem filter_among (a1 a2 : Option Addr) (n1 n2 k1 k2 b1 o1 b2 o2 : Nat) (A B : List V) (w : World) (h1 : VIn w a1 n1 k1 b1 o1 A) (h2 : VIn w a2 n2 k2 b2 o2 B) (hs : n1 ≤ 4096) (ht : n2 ≤ 4096) (w1 : World) (hb : Below w.heap.size w w1) :
    Calls Try.prog 55 #[.slice a1 n1 k1, .func (.func 77) #[] #[.pointer (some ⟨w1.heap.size, 0, none⟩)]] (w1.alloc (.cells #[.slice a2 n2 k2] 22)) fun e w' => ∃ u, e = .returned u ∧ Below w.heap.size w w' ∧ VTop w' u (filTo (fun p => decide (p ∈ B)) A n1) := by
  have hB : Below w.heap.size w (w1.alloc (.cells #[.slice a2 n2 k2] 22)) := hb.alloc hb.size _
  have hc : (w1.alloc (.cells #[.slice a2 n2 k2] 22)).cell? ⟨w1.heap.size, 0, none⟩ = some (.slice a2 n2 k2) := by rw [World.cell?_alloc_at _ _ _ _ rfl]; rfl
  refine (filter77_in a1 n1 k1 b1 o1 A (fun p => decide (p ∈ B)) _ _ (h1.below hB) hs fun p _ w2 hb2 => clos77 w1.heap.size a2 n2 k2 b2 o2 B p w2 ((hb2.cell (p := ⟨w1.heap.size, 0, none⟩) (cell_lt hc)).trans hc) ((h2.below hB).below hb2) ht).mono ?_
  rintro e w' ⟨u, he, hb', hv⟩
  exact ⟨u, he, hB.trans (bel_le hb' hB.size), hv⟩
theorem filter_without (a1 a2 : Option Addr) (n1 n2 k1 k2 b1 o1 b2 o2 : Nat) (A B : List V) (w : World) (h1 : VIn w a1 n1 k1 b1 o1 A) (h2 : VIn w a2 n2 k2 b2 o2 B) (hs : n1 ≤ 4096) (ht : n2 ≤ 4096) (w1 : World) (hb : Below w.heap.size w w1) (B1 : Nat) (hB1 : B1 = w1.heap.size + 1) :
    Calls Try.prog 55 #[.slice a1 n1 k1, .func (.func 66) #[] #[.pointer (some ⟨B1, 0, none⟩)]] ((w1.alloc (.cells #[.slice a2 n2 k2] 22)).alloc (.cells #[.func (.func 77) #[] #[.pointer (some ⟨w1.heap.size, 0, none⟩)]] 65)) fun e w' => ∃ u, e = .returned u ∧ Below w.heap.size w w' ∧ VTop w' u (filTo (fun p => !decide (p ∈ B)) A n1) := by
  subst hB1
  have hB0 : Below w.heap.size w (w1.alloc (.cells #[.slice a2 n2 k2] 22)) := hb.alloc hb.size _
  have hB := hB0.alloc hB0.size (.cells #[.func (.func 77) #[] #[.pointer (some ⟨w1.heap.size, 0, none⟩)]] 65)
  have hc0 : (w1.alloc (.cells #[.slice a2 n2 k2] 22)).cell? ⟨w1.heap.size, 0, none⟩ = some (.slice a2 n2 k2) := by rw [World.cell?_alloc_at _ _ _ _ rfl]; rfl
  have hc := ((below_alloc _ (.cells #[.func (.func 77) #[] #[.pointer (some ⟨w1.heap.size, 0, none⟩)]] 65)).cell (p := ⟨w1.heap.size, 0, none⟩) (cell_lt hc0)).trans hc0
  have hf : ((w1.alloc (.cells #[.slice a2 n2 k2] 22)).alloc (.cells #[.func (.func 77) #[] #[.pointer (some ⟨w1.heap.size, 0, none⟩)]] 65)).cell? ⟨w1.heap.size + 1, 0, none⟩ = some (.func (.func 77) #[] #[.pointer (some ⟨w1.heap.size, 0, none⟩)]) := by rw [World.cell?_alloc_at _ _ _ _ (by simp)]; rfl
  refine (filter66_in a1 n1 k1 b1 o1 A (fun p => !decide (p ∈ B)) _ _ (h1.below hB) hs fun p _ w2 hb2 => clos66 (w1.heap.size + 1) w1.heap.size a2 n2 k2 b2 o2 B p w2 ((hb2.cell (p := ⟨w1.heap.size + 1, 0, none⟩) (cell_lt hf)).trans hf) ((hb2.cell (p := ⟨w1.heap.size, 0, none⟩) (cell_lt hc)).trans hc) ((h2.below hB).below hb2) ht).mono ?_
  rintro e w' ⟨u, he, hb', hv⟩
  exact ⟨u, he, hB.trans (bel_le hb' hB.size), hv⟩
theorem meet_in (a1 a2 : Option Addr) (n1 n2 k1 k2 b1 o1 b2 o2 : Nat) (A B : List V) (w : World) (h1 : VIn w a1 n1 k1 b1 o1 A) (h2 : VIn w a2 n2 k2 b2 o2 B) (hs : n1 ≤ 4096) (ht : n2 ≤ 4096) : Calls Try.prog 30 #[.slice a1 n1 k1, .slice a2 n2 k2] w (ResPost (selR A B (filTo (fun p => decide (p ∈ B)) A n1)) w) :=
  meet_walk a1 a2 n1 n2 k1 k2 A B _ w (two_in a1 a2 n1 n2 k1 k2 b1 o1 b2 o2 A B w h1 h2 hs ht) (fun w1 hb => filter_among a1 a2 n1 n2 k1 k2 b1 o1 b2 o2 A B w h1 h2 hs ht w1 hb)
theorem without_in (a1 a2 : Option Addr) (n1 n2 k1 k2 b1 o1 b2 o2 : Nat) (A B : List V) (w : World) (h1 : VIn w a1 n1 k1 b1 o1 A) (h2 : VIn w a2 n2 k2 b2 o2 B) (hs : n1 ≤ 4096) (ht : n2 ≤ 4096) : Calls Try.prog 32 #[.slice a1 n1 k1, .slice a2 n2 k2] w (ResPost (selR A B (filTo (fun p => !decide (p ∈ B)) A n1)) w) :=
  without_walk a1 a2 n1 n2 k1 k2 A B _ w (two_in a1 a2 n1 n2 k1 k2 b1 o1 b2 o2 A B w h1 h2 hs ht) (fun w1 hb B1 hB1 => filter_without a1 a2 n1 n2 k1 k2 b1 o1 b2 o2 A B w h1 h2 hs ht w1 hb B1 hB1)
theorem rmeet_in (a1 a2 : Option Addr) (n1 n2 k1 k2 b1 o1 b2 o2 : Nat) (A B : List V) (w : World) (h1 : VIn w a1 n1 k1 b1 o1 A) (h2 : VIn w a2 n2 k2 b2 o2 B) (hs : n1 ≤ 4096) (ht : n2 ≤ 4096) : Calls Try.prog 31 #[.slice a1 n1 k1, .slice a2 n2 k2] w (ResPost (selR A B (filTo (fun p => decide (p ∈ B)) A n1)) w) :=
  rmeet_walk a1 a2 n1 n2 k1 k2 A B _ w (rtwo_in a1 a2 n1 n2 k1 k2 b1 o1 b2 o2 A B w h1 h2 hs ht) (fun w1 hb => (shared_in a1 n1 k1 b1 o1 A a2 n2 k2 b2 o2 B true w1 (h1.below hb) hs (h2.below hb) ht).mono fun _ _ ⟨u, he, hb', hv⟩ => ⟨u, he, hb.trans (bel_le hb' hb.size), by
    have e : (fun p => decide (p ∈ B) == true) = fun p : V => decide (p ∈ B) := by funext p; simp
    rwa [e] at hv⟩)
theorem rwithout_in (a1 a2 : Option Addr) (n1 n2 k1 k2 b1 o1 b2 o2 : Nat) (A B : List V) (w : World) (h1 : VIn w a1 n1 k1 b1 o1 A) (h2 : VIn w a2 n2 k2 b2 o2 B) (hs : n1 ≤ 4096) (ht : n2 ≤ 4096) : Calls Try.prog 33 #[.slice a1 n1 k1, .slice a2 n2 k2] w (ResPost (selR A B (filTo (fun p => !decide (p ∈ B)) A n1)) w) :=
  rwithout_walk a1 a2 n1 n2 k1 k2 A B _ w (rtwo_in a1 a2 n1 n2 k1 k2 b1 o1 b2 o2 A B w h1 h2 hs ht) (fun w1 hb => (shared_in a1 n1 k1 b1 o1 A a2 n2 k2 b2 o2 B false w1 (h1.below hb) hs (h2.below hb) ht).mono fun _ _ ⟨u, he, hb', hv⟩ => ⟨u, he, hb.trans (bel_le hb' hb.size), by
    have e : (fun p => decide (p ∈ B) == false) = fun p : V => !decide (p ∈ B) := by funext p; simp
    rwa [e] at hv⟩)
end Go.Proofs.Ytjggeombkbianaa.Sx
