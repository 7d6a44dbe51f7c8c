/-
  WireDiffers answers true.
-/
import Derived.Test.YtmdjpncicgmaiaaEvWireBytes
import Derived.StillTailTactics
import Derived.Deep.RegionWith
namespace Go.Proofs.Ytmdjpncicgmaiaa.Wire
open Go Go.RowKit Go.Law Go.Wire

/-- The checksum of a list of bytes. -/
def crc (l : List UInt8) : Nat := sumTo l l.length % 65521
theorem crc_any (l : List UInt8) (hs : l.length ≤ 5000) (w : World) : Calls Try.prog 6 #[.string ⟨l.toArray⟩] w fun e w' => e = .returned (.int .i64 ((crc l : Nat) : Int)) ∧ w = w' :=
  check_any ⟨l.toArray⟩ (by show l.toArray.size ≤ 5000; simpa using hs) w
theorem bel_le {B B' : Nat} {w w' : World} (h : Below B w w') (hb : B' ≤ B) : Below B' w w' := ⟨h.os, h.tape, h.output, h.size, fun k hk => h.block k (by omega)⟩
theorem made' (w : World) (s : ByteArray) : ∃ B cap w', (convert 9 27 (.string s)).run Try.prog w = .ok (.slice (some ⟨B, 0, none⟩) s.size cap) w' ∧ Byt w' B s.data.toList ∧ Below w.heap.size w w' ∧ w.heap.size ≤ B := by
  obtain ⟨cap, w', h1, h2, h3, _⟩ := made w s
  exact ⟨_, cap, w', h1, h2, h3, Nat.le_refl _⟩
theorem w64n {k n : Nat} (hn : n ≤ 5000) (h : k + 1 < n) : wrap64 (k : Int) = (k : Int) := w64 _ (by omega)
theorem w64i {k n : Nat} (hn : n ≤ 5000) (h : k + 1 < n) : IntKind.i64.wrap (k : Int) = (k : Int) := by rw [IntKind.wrap_i64]; omega
theorem w64s {k n : Nat} (hn : n ≤ 5000) (h : k + 1 < n) : wrap64 ((k : Int) + 1 - 1) = (k : Int) := by rw [w64 _ (by omega)]; omega
theorem swap_far (l : List UInt8) (k : Nat) (j : Nat) (h1 : j ≠ k) (h2 : j ≠ k + 1) : ((l.set k (l.getD (k + 1) 0)).set (k + 1) (l.getD k 0)).getD j 0 = l.getD j 0 := by
  simp only [List.getD]
  rw [List.getElem?_set_ne (by omega), List.getElem?_set_ne (by omega)]
theorem swap_one (l : List UInt8) (k : Nat) (h : k + 1 < l.length) : ((l.set k (l.getD (k + 1) 0)).set (k + 1) (l.getD k 0)).getD k 0 = l.getD (k + 1) 0 := by
  simp only [List.getD]
  rw [List.getElem?_set_ne (by omega), List.getElem?_set_self (by omega)]
  rfl
theorem swap_two (l : List UInt8) (k : Nat) (h : k + 1 < l.length) : ((l.set k (l.getD (k + 1) 0)).set (k + 1) (l.getD k 0)).getD (k + 1) 0 = l.getD k 0 := by
  simp only [List.getD]
  rw [List.getElem?_set_self (by rw [List.length_set]; omega)]
  rfl
theorem cmp_swap {q q0 : Nat} {x y : UInt8} (h : q = q0 ↔ x = y) : (((q : Int) == (q0 : Int)) == ((x.toNat : Int) == (y.toNat : Int))) = true := by
  rw [beq_iff_eq, Bool.eq_iff_iff]
  simp only [beq_iff_eq]
  rw [show ((q : Int) = (q0 : Int)) ↔ q = q0 from by omega, h, ← UInt8.toNat_inj]
  omega
theorem Byt.back' {w : World} {B : Nat} {l : List UInt8} {n : Nat} (h : Byt w B l) (hn : n = l.length) (cap : Nat) : (convert 27 9 (.slice (some ⟨B, 0, none⟩) n cap)).run Try.prog w = .ok (.string ⟨l.toArray⟩) w := by
  subst hn; exact h.back cap
set_option maxHeartbeats 2000000 in
set_option maxRecDepth 100000 in
theorem first_ (s : ByteArray) (hs1 : 0 < s.size) (hs : s.size ≤ 5000) (a : Nat) (ha : a < 65536) (y : UInt8) (hk0 : a % s.size = 0) (w : World) :
    Calls Try.prog 4 #[.string s, .int .u16 (a : Int), .int .u8 (y.toNat : Int)] w fun e w' => e = .returned (.bool true) ∧ Below w.heap.size w w' := by
  have hl : s.data.toList.length = s.size := by simp
  have HC0 := Lib.hid (show ∀ w : World, Calls Try.prog 6 #[.string s] w fun e w' => e = .returned (.int .i64 ((crc s.data.toList : Nat) : Int)) ∧ w = w' from fun w => by
    have := check_any s hs w
    unfold crc
    rwa [hl])
  have hb1 : decide ((5000 : Int) < (s.size : Int)) = false := decide_eq_false (by omega)
  have hb2 : ((s.size : Int) == 0) = false := beq_eq_false_iff_ne.2 (by omega)
  have hn0 : ¬ ((s.size : Int) = 0) := by omega
  have hm2 : (a : Int) % (s.size : Int) = 0 := by omega
  have hm1 : (wrap64 (a : Int)).tmod (s.size : Int) = 0 := by rw [w64 _ (by omega), Int.tmod_eq_emod_of_nonneg (by omega)]; exact hm2
  clear hm2
  obtain ⟨cap, w1, hconv, hbyt, hbel, hlt⟩ := made w s
  generalize s.data.toList = l at *
  have hs1' : 0 < l.length := by omega
  have hcell := (hbyt 0 hs1').1
  have hfree := (hbyt 0 hs1').2
  have hset := Byt.set hbyt hs1' ((l.getD 0 0) ^^^ y)
  rw [← xor_byte] at hset
  have hback := hset.back' (n := s.size) (by simp [hl]) cap
  have hd := Go.Wire.differ l (l.set 0 ((l.getD 0 0) ^^^ y)) (by simp) 0 hs1' (by omega) (fun j hj => by simp [List.getD, List.getElem?_set_ne (fun e => hj e.symm)])
  have hd2 : (crc (l.set 0 ((l.getD 0 0) ^^^ y)) = crc l) ↔ y = 0 := by
    unfold crc
    rw [List.length_set, hd, ← xor_same (l.getD 0 0) y]
    simp [List.getD, hs1']
  have HC1 := Lib.hid (crc_any (l.set 0 ((l.getD 0 0) ^^^ y)) (by simp; omega))
  have HA := Lib.hid (hbel.setCell (p := ⟨w.heap.size, 0, none⟩) (Nat.le_refl _) (.int .u8 (bits BinOp.xor IntKind.u8 ((l.getD 0 0).toNat : Int) (y.toNat : Int))))
  generalize l.set 0 ((l.getD 0 0) ^^^ y) = l' at *
  generalize (l.getD 0 0).toNat = c at *
  have HD := Lib.hid hd2
  clear hd hd2 hset hbyt hbel
  have hcmp : (((crc l' : Nat) : Int) == ((crc l : Nat) : Int)) = ((y.toNat : Int) == 0) := by
    rw [Bool.eq_iff_iff]
    simp only [beq_iff_eq]
    have := HD.out
    rw [show ((crc l' : Int) = (crc l : Int)) ↔ crc l' = crc l from by omega, this, ← UInt8.toNat_inj]
    simp
  generalize hq : crc l' = q at *
  generalize hq0 : crc l = q0 at *
  clear hq hq0
  clear ha hk0 hl hs1' hlt
  go_enter Try.func4, Try.ntmps4
  go_wp2_with first
    | (go_at_call 6; refine (HC1.out _).mono ?_; rintro e w' ⟨rfl, rfl⟩)
    | (go_at_call 6; refine (HC0.out _).mono ?_; rintro e w' ⟨rfl, rfl⟩)
    | (go_at_call 5; refine (Ev.awake _).mono ?_; rintro e w' ⟨rfl, hw⟩)
  go_ret
  exact ⟨rfl, HA.out.trans (bel_le hw HA.out.size)⟩
set_option maxHeartbeats 2000000 in
set_option maxRecDepth 100000 in
theorem next_ (s : ByteArray) (hs1 : 0 < s.size) (hs : s.size ≤ 5000) (a : Nat) (ha : a < 65536) (y : UInt8) (k : Nat) (hk0 : a % s.size = k + 1) (w : World) :
    Calls Try.prog 4 #[.string s, .int .u16 (a : Int), .int .u8 (y.toNat : Int)] w fun e w' => e = .returned (.bool true) ∧ Below w.heap.size w w' := by
  have hl : s.data.toList.length = s.size := by simp
  have HC0 := Lib.hid (show ∀ w : World, Calls Try.prog 6 #[.string s] w fun e w' => e = .returned (.int .i64 ((crc s.data.toList : Nat) : Int)) ∧ w = w' from fun w => by
    have := check_any s hs w
    unfold crc
    rwa [hl])
  have hb1 : decide ((5000 : Int) < (s.size : Int)) = false := decide_eq_false (by omega)
  have hb2 : ((s.size : Int) == 0) = false := beq_eq_false_iff_ne.2 (by omega)
  have hn0 : ¬ ((s.size : Int) = 0) := by omega
  have hm2 : (a : Int) % (s.size : Int) = ((k + 1 : Nat) : Int) := by omega
  have hm1 : (wrap64 (a : Int)).tmod (s.size : Int) = ((k + 1 : Nat) : Int) := by rw [w64 _ (by omega), Int.tmod_eq_emod_of_nonneg (by omega)]; exact hm2
  clear hm2
  obtain ⟨cap, w1, hconv, hbyt, hbel, hlt⟩ := made w s
  generalize hls : s.data.toList = l at *
  have hks : k + 1 < s.size := by rw [← hk0]; exact Nat.mod_lt _ hs1
  have hs1' : k + 1 < l.length := by omega
  have hcell := (hbyt (k + 1) hs1').1
  have hfree := (hbyt (k + 1) hs1').2
  have hset := Byt.set hbyt hs1' ((l.getD (k + 1) 0) ^^^ y)
  rw [← xor_byte] at hset
  have hback := hset.back' (n := s.size) (by simp [hl]) cap
  have hd := Go.Wire.differ l (l.set (k + 1) ((l.getD (k + 1) 0) ^^^ y)) (by simp) (k + 1) hs1' (by omega) (fun j hj => by simp [List.getD, List.getElem?_set_ne (fun e => hj e.symm)])
  have hd2 : (crc (l.set (k + 1) ((l.getD (k + 1) 0) ^^^ y)) = crc l) ↔ y = 0 := by
    unfold crc
    rw [List.length_set, hd, ← xor_same (l.getD (k + 1) 0) y]
    simp [List.getD, hs1']
  have HC1 := Lib.hid (crc_any (l.set (k + 1) ((l.getD (k + 1) 0) ^^^ y)) (by simp; omega))
  have HA := Lib.hid (hbel.setCell (p := ⟨w.heap.size, k + 1, none⟩) (Nat.le_refl _) (.int .u8 (bits BinOp.xor IntKind.u8 ((l.getD (k + 1) 0).toNat : Int) (y.toNat : Int))))
  obtain ⟨B2, cap2, w2, hconv2, hbyt2, hbel2, hB2⟩ := made' (w1.setCell ⟨w.heap.size, k + 1, none⟩ (.int .u8 (bits BinOp.xor IntKind.u8 ((l.getD (k + 1) 0).toNat : Int) (y.toNat : Int)))) s
  have hl2 : s.data.toList = l := by assumption
  rw [hl2] at hbyt2
  have hc20 := (hbyt2 k (by omega)).1
  have hf20 := (hbyt2 k (by omega)).2
  have hc21 := (hbyt2 (k + 1) hs1').1
  have hs20 := hbyt2.set (k := k) (by omega) (l.getD (k + 1) 0)
  have hc22 := (hs20 (k + 1) (by simpa using hs1')).1
  have hf22 := (hs20 (k + 1) (by simpa using hs1')).2
  have hg : (l.set k (l.getD (k + 1) 0)).getD (k + 1) 0 = l.getD (k + 1) 0 := by simp [List.getD]
  rw [hg] at hc22
  have hs21 := hs20.set (k := k + 1) (by simpa using hs1') (l.getD k 0)
  have hback2 := Lib.hid (hs21.drew.back' (n := s.size) (by simp [hl]) cap2)
  have hback3 := Lib.hid (hs21.drew.drew.back' (n := s.size) (by simp [hl]) cap2)
  have HC2 := Lib.hid (crc_any ((l.set k (l.getD (k + 1) 0)).set (k + 1) (l.getD k 0)) (by simp; omega))
  have hd3 := Go.Wire.swapped l ((l.set k (l.getD (k + 1) 0)).set (k + 1) (l.getD k 0)) (by simp) k hs1' (swap_far l k) (swap_one l k hs1') (swap_two l k hs1')
  have hd4 : (crc ((l.set k (l.getD (k + 1) 0)).set (k + 1) (l.getD k 0)) = crc l) ↔ l.getD k 0 = l.getD (k + 1) 0 := by
    unfold crc
    rw [List.length_set, List.length_set, hd3]
  have HA2 := Lib.hid (((hbel2.trans ((Below.refl _ _).setCell (p := ⟨B2, k, none⟩) hB2 (.int .u8 ((l.getD (k + 1) 0).toNat : Int)))).setCell (p := ⟨B2, k + 1, none⟩) hB2 (.int .u8 ((l.getD k 0).toNat : Int))))
  have hix0 := Lib.hid (byte_at s k (by omega))
  have hix1 := Lib.hid (byte_at s (k + 1) hks)
  rw [hl2] at hix0 hix1
  generalize (l.set k (l.getD (k + 1) 0)).set (k + 1) (l.getD k 0) = l2 at *
  clear hd3 hs21 hs20 hg hbyt2 hbel2
  generalize l.set (k + 1) ((l.getD (k + 1) 0) ^^^ y) = l' at *
  have hk65 : wrap64 (k : Int) = (k : Int) := w64n hs hks
  have hk66 : IntKind.i64.wrap (k : Int) = (k : Int) := w64i hs hks
  have hk64 : wrap64 ((k : Int) + 1 - 1) = (k : Int) := w64s hs hks
  have hcmp2 : ((((crc l2 : Nat) : Int) == ((crc l : Nat) : Int)) == (((l.getD k 0).toNat : Int) == ((l.getD (k + 1) 0).toNat : Int))) = true := cmp_swap hd4
  generalize (l.getD (k + 1) 0).toNat = c at *
  generalize (l.getD k 0).toNat = c' at *
  generalize hq2 : crc l2 = q2 at *
  clear hq2 hd4
  have HD := Lib.hid hd2
  clear hd hd2 hset hbyt hbel
  have hcmp : (((crc l' : Nat) : Int) == ((crc l : Nat) : Int)) = ((y.toNat : Int) == 0) := by
    rw [Bool.eq_iff_iff]
    simp only [beq_iff_eq]
    have := HD.out
    rw [show ((crc l' : Int) = (crc l : Int)) ↔ crc l' = crc l from by omega, this, ← UInt8.toNat_inj]
    simp
  generalize hq : crc l' = q at *
  generalize hq0 : crc l = q0 at *
  clear hq hq0
  clear ha hk0 hl hs1' hlt hls hl2
  go_enter Try.func4, Try.ntmps4
  go_wp2_with first
    | (go_at_call 6; refine (HC1.out _).mono ?_; rintro e w' ⟨rfl, rfl⟩)
    | (go_at_call 6; refine (HC0.out _).mono ?_; rintro e w' ⟨rfl, rfl⟩)
    | (go_at_call 5; refine (Ev.awake _).mono ?_; rintro e w' ⟨rfl, hw⟩)
  go_region
  have hi0 := hix0.out
  have hi1 : ∀ w : World, (Instr.index 9 (.string s) (.int .i64 ((k : Int) + 1))).run Try.prog w = .ok (.int .u8 (c : Int)) w := hix1.out
  have hb0 := hback2.out
  have hb1 := hback3.out
  have hA2 := Lib.hid (HA2.out.drew)
  generalize World.drew (World.setCell (World.setCell w2 _ _) _ _) = w3 at *
  clear hconv hconv2 hback hcell hfree hf20 hc20 hc21 hc22 hf22 hm1 hcmp
  obtain ⟨b, hcc, hqq⟩ : ∃ b : Bool, ((c' : Int) == (c : Int)) = b ∧ ((q2 : Int) == (q0 : Int)) = b := ⟨_, rfl, by simpa using hcmp2⟩
  clear hcmp2
  cases b <;> (
    go_wp2
    refine wp_region_still_tail 16 (by kernel_rfl) (by kernel_rfl) ?_
    change wpStill _ _ w3.drew _ _ _
    simp only [List.take_succ_cons, List.take_zero, List.drop_succ_cons, List.drop_zero]
    still_step
    still_step
    still_call ((HC2.out _).mono fun _ _ h => ⟨h.1, h.2.symm⟩)
    still_step
    still_call ((HC0.out _).mono fun _ _ h => ⟨h.1, h.2.symm⟩)
    repeat still_step
    refine wpStill_nil ?_
    change wpList _ _ _ _ _ w3.drew
    go_wp2_with (go_at_call 5; refine (Ev.awake _).mono ?_; rintro e w' ⟨rfl, hw⟩)
    go_ret
    exact ⟨rfl, HA.out.trans (bel_le (hA2.out.drew.trans (bel_le hw hA2.out.size)) HA.out.size)⟩)
set_option maxHeartbeats 1000000 in
theorem long_ (s : ByteArray) (hs : 5000 < s.size) (a y : Int) (w : World) :
    Calls Try.prog 4 #[.string s, .int .u16 a, .int .u8 y] w fun e w' => e = .returned (.bool true) ∧ Below w.heap.size w w' := by
  have hb : decide ((5000 : Int) < (s.size : Int)) = true := by simp; omega
  go_enter Try.func4, Try.ntmps4
  go_wp2_with (go_at_call 5; refine (Ev.awake _).mono ?_; rintro e w' ⟨rfl, hw⟩)
  go_ret
  exact ⟨rfl, hw⟩
set_option maxHeartbeats 1000000 in
theorem empty_ (s : ByteArray) (hs : s.size = 0) (a y : Int) (w : World) :
    Calls Try.prog 4 #[.string s, .int .u16 a, .int .u8 y] w fun e w' => e = .returned (.bool true) ∧ Below w.heap.size w w' := by
  have hb1 : decide ((5000 : Int) < (s.size : Int)) = false := decide_eq_false (by omega)
  have hb2 : ((s.size : Int) == 0) = true := beq_iff_eq.2 (by omega)
  clear hs
  go_enter Try.func4, Try.ntmps4
  go_wp2_with (go_at_call 5; refine (Ev.awake _).mono ?_; rintro e w' ⟨rfl, hw⟩)
  go_ret
  exact ⟨rfl, hw⟩
theorem wireDiffers_call (s : ByteArray) (a : Int) (ha : 0 ≤ a ∧ a < 65536) (y : Int) (hy : 0 ≤ y ∧ y < 256) (w : World) :
    Calls Try.prog 4 #[.string s, .int .u16 a, .int .u8 y] w fun e w' => e = .returned (.bool true) ∧ Below w.heap.size w w' := by
  by_cases h1 : 5000 < s.size
  · exact long_ s h1 a y w
  · by_cases h0 : s.size = 0
    · exact empty_ s h0 a y w
    · obtain ⟨n, rfl⟩ := Int.eq_ofNat_of_zero_le ha.1
      obtain ⟨m, rfl⟩ := Int.eq_ofNat_of_zero_le hy.1
      have hm : (UInt8.ofNat m).toNat = m := by
        rw [UInt8.toNat_ofNat']; omega
      rw [← hm]
      cases hk : n % s.size with
      | zero => exact first_ s (by omega) (by omega) n (by omega) _ hk w
      | succ k => exact next_ s (by omega) (by omega) n (by omega) _ k hk w
theorem wf_u (n : Int) (h : (Lit.int .u16 n).wf = true) : 0 ≤ n ∧ n < 65536 := by
  have e1 : IntKind.u16.min = 0 := by decide
  have e2 : IntKind.u16.max = 65535 := by decide
  simp [Lit.wf, e1, e2] at h; omega
theorem wf_b (n : Int) (h : (Lit.int .u8 n).wf = true) : 0 ≤ n ∧ n < 256 := by
  have e1 : IntKind.u8.min = 0 := by decide
  have e2 : IntKind.u8.max = 255 := by decide
  simp [Lit.wf, e1, e2] at h; omega
theorem wireDiffers_walk {W : World} (s : ByteArray) (_ : s.size ≤ maxLen) (a : Int) (ha : (Lit.int .u16 a).wf = true) (y : Int) (hy : (Lit.int .u8 y).wf = true) : Calls Try.prog 4 #[.string s, .int .u16 a, .int .u8 y] W fun e w' => e = .returned (.bool true) ∧ Below W.heap.size W w' :=
  wireDiffers_call s a (wf_u _ ha) y (wf_b _ hy) W
end Go.Proofs.Ytmdjpncicgmaiaa.Wire
