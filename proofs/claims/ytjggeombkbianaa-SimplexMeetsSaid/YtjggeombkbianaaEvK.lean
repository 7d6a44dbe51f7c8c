/-
  The evaluator's conversions and built-in functions, and the machine's.
-/
import Derived.Test.YtjggeombkbianaaEvJ
import Derived.Lib.UnsafeStr
import Derived.Laws.IdiomStrings
import Derived.Laws.LoneSync
import Derived.Laws.Runes
namespace Go.Ev
open Go Go.RowKit

section
variable {C : Cfg} {P : Program} {B : Kp} {w0 w : World} {c : Ctx} {h : Hp}

/-- What an operation that hands back a value leaves. -/
def Val (P : Program) (B : Kp) (w0 : World) (c : Ctx) (s : Sem Value) (w : World) (a : AV) (h' : Hp) : Prop :=
  ∃ c' w' u, s.run P w = .ok u w' ∧ Ctx.le c c' ∧ VR c' a u ∧ HR B w0 c' h' w'
theorem Val.pure (H : HR B w0 c h w) {s : Sem Value} {a : AV} (e : ∃ u, s.run P w = .ok u w ∧ VR c a u) : Val P B w0 c s w a h :=
  let ⟨u, hr, hv⟩ := e; ⟨c, w, u, hr, Ctx.le_refl c, hv, H⟩

theorem bytesA_cells : ∀ {cs : List AV} {s : List UInt8} {vs : List Value}, bytesA cs = some s → VRs c cs vs → ∃ ns : List Int, vs = ns.map (Value.int .u8) ∧ s = ns.map (fun n => n.toNat.toUInt8)
  | [], s, _, e, .nil => by simp only [bytesA, Option.some.injEq] at e; subst e; exact ⟨[], rfl, rfl⟩
  | .int .u8 n :: cs, s, _, e, .cons hv ht => by
    simp only [bytesA] at e
    split at e
    · rename_i s' hs
      cases e
      cases hv
      obtain ⟨ns, rfl, rfl⟩ := bytesA_cells hs ht
      exact ⟨n :: ns, rfl, rfl⟩
    · cases e
  | .int .i8 _ :: _, _, _, e, _ | .int .i16 _ :: _, _, _, e, _ | .int .i32 _ :: _, _, _, e, _ | .int .i64 _ :: _, _, _, e, _
  | .int .u16 _ :: _, _, _, e, _ | .int .u32 _ :: _, _, _, e, _ | .int .u64 _ :: _, _, _, e, _ => by simp [bytesA] at e
  | .bool _ :: _, _, _, e, _ | .str _ :: _, _, _, e, _ | .nilp :: _, _, _, e, _ | .ptr _ _ :: _, _, _, e, _ | .nils :: _, _, _, e, _ | .esl :: _, _, _, e, _
  | .slice _ _ _ _ _ _ :: _, _, _, e, _ | .nilm :: _, _, _, e, _ | .map _ :: _, _, _, e, _ | .fn _ _ _ :: _, _, _, e, _ | .yld _ :: _, _, _, e, _ | .nilf :: _, _, _, e, _
  | .nili :: _, _, _, e, _ | .iface _ _ :: _, _, _, e, _ | .agg _ :: _, _, _, e, _ | .tup _ :: _, _, _, e, _ | .unk :: _, _, _, e, _ => by simp [bytesA] at e

theorem foldl_push_ints : ∀ (l : List Int) (r : ByteArray), l.foldl (fun r n => r.push (UInt8.ofNat n.toNat)) r = ⟨r.data ++ (l.map fun n => n.toNat.toUInt8).toArray⟩
  | [], r => by simp
  | n :: l, r => by
    simp only [List.foldl_cons]
    rw [foldl_push_ints l]
    simp [ByteArray.push, Nat.toUInt8]

/-- The cells of a slice's first elements, as they are read. -/
theorem sliceCells_run (H : HR B w0 c h w) {x : AV} {xv : Value} (hx : VR c x xv) {size n : Nat} {cs : List AV} (e : sliceCells h size n x = some cs) :
    (∃ vs : List Value, (Builtin.firstCells size n xv).run P w = .ok vs.toArray w ∧ VRs c cs vs ∧ ∀ v ∈ vs, v.oneCell' = true) := by
  unfold sliceCells at e
  split at e
  · cases e; cases hx; exact ⟨[], by simp [Builtin.firstCells], .nil, by simp⟩
  · split at e
    · cases e; rename_i h0; subst h0; cases hx; exact ⟨[], by simp [Builtin.firstCells, loadCells, loadCellsFrom], .nil, by simp⟩
    · cases e
  · rename_i r off len cap esz ex
    split at e
    · rename_i elem cells fam wr hr
      split at e
      · rename_i hn
        cases e
        cases hx with
        | slice cap' hL h1 h2 h3 h4 =>
          rename_i L
          obtain ⟨vs, hvs, ho, hcell⟩ := H.cells hr hL off (n * size) hn.2
          have hl : vs.length = n * size := by rw [← hvs.length]; simp; omega
          exact ⟨vs, run_firstCells_some w size n _ _ _ vs hl hcell, hvs, ho⟩
      · cases e
    · cases e
  · rename_i s
    cases e
    cases hx with
    | str _ =>
      refine ⟨(s.take n).map fun b => Value.int .u8 (Int.ofNat b.toNat), ?_, ?_, ?_⟩
      · have hex : ((⟨⟨s⟩⟩ : ByteArray).extract 0 n) = ⟨⟨s.take n⟩⟩ := by rw [ba_extract]; simp
        simp only [Builtin.firstCells, hex, Sem.run_pure]
        congr 1
        apply Array.ext'
        simp
      · refine VRs.of_get _ _ (by simp) fun i a ha => ?_
        simp only [List.getElem?_map, Option.map_eq_some_iff] at ha
        obtain ⟨b, hb, rfl⟩ := ha
        exact ⟨_, by rw [List.getElem?_map, hb]; rfl, .int _ _⟩
      · intro v hv
        simp only [List.mem_map] at hv
        obtain ⟨b, _, rfl⟩ := hv
        rfl
  · cases e

theorem aUnsafePtr_run (H : HR B w0 c h w) {src dst : TypeId} {x a : AV} {xv : Value} (hx : VR c x xv) (e : aUnsafePtr P h src dst x = some a) :
    ∃ u, (convert src dst xv).run P w = .ok u w ∧ VR c a u := by
  unfold aUnsafePtr at e
  split at e
  · rename_i t hs hd; cases e; cases hx; exact ⟨.pointer none, by simp [convert, Conv.unsafePointer, run_underlying hs, run_underlying hd], .nilp⟩
  · rename_i t hs hd; cases e; cases hx; exact ⟨.pointer none, by simp [convert, Conv.unsafePointer, run_underlying hs, run_underlying hd], .nilp⟩
  · rename_i t r off hs hd
    split at e
    · rename_i elem cells fam wr n hr hsz
      split at e
      · rename_i hlt
        cases e
        cases hx with
        | ptr _ hL =>
          rename_i L
          obtain ⟨vs, hvs, ho, hcell⟩ := H.cells hr hL off 1 (by omega)
          obtain ⟨a, ha⟩ : ∃ a, ((cells.drop off).take 1)[0]? = some a := ⟨cells[off], by simp [hlt]⟩
          obtain ⟨v, hv, _⟩ := hvs.get 0 a ha
          have hc := hcell 0 v hv
          rw [add_spot] at hc
          refine ⟨_, run_convert_to_unsafe (P := P) hs hd ?_ hc, .ptr off hL⟩
          unfold sizeB at hsz
          cases hi : P.info? t with
          | none => simp [hi] at hsz
          | some i => simp [hi] at hsz; simp [hsz]
      · cases e
    · cases e
  · rename_i u r hs hd
    split at e
    · rename_i elem cells fam n hr hsz
      split at e
      · rename_i hc
        cases e
        cases hx with
        | ptr _ hL =>
          rename_i L
          obtain ⟨hel, hlen, hfam⟩ := hc
          subst hel; subst hfam
          have hb0 := H.base0 _ _ _ _ _ hr hL
          obtain ⟨L', hL', cs, fz, hb, hszc, hle, hcc, hw⟩ := H.obj _ _ hr
          rw [hL] at hL'; cases hL'
          rw [hb0]
          refine ⟨.pointer (some ⟨L.blk, 0, none⟩), ?_, by have := VR.ptr (c := c) 0 hL; simpa [hb0] using this⟩
          have hsh : w.shape? L.blk = some (elem, cs.size) := by simp [World.shape?, hb]
          have hcell : P.cellsOf elem = n + 1 := by
            unfold sizeB at hsz
            unfold Program.cellsOf
            rw [hsz]; rfl
          have hlies : liesAt P P.depth elem (cs.size / P.cellsOf elem) 0 elem 1 = true := by
            have hd' : P.depth = (2 * (P.types.size + Made.depth) + 1) + 1 := rfl
            rw [hd']
            simp only [liesAt, Bool.or_eq_true]
            left
            rw [hd']
            have h1 : 1 ≤ cs.size / (n + 1) := by
              rw [Nat.le_div_iff_mul_le (by omega)]; omega
            simp [rowAt, hcell, sameLayout]
            omega
          simp [convert, Conv.unsafePointer, Conv.seenAt, viewAt, variablesAt, run_underlying hs, run_underlying hd, hsh, sizeB_run hsz, hlies]
      · cases e
    · cases e
  · cases e

theorem frz_same {w : World} {g off n : Nat} {cs : Array Value} {t : TypeId} {fz : Nat × Nat} (hn : n ≠ 0) (hg : w.heap[g]? = some (.cells cs t fz)) :
    ∃ fz', (w.freeze ⟨g, off, none⟩ n).heap[g]? = some (.cells cs t fz') := by
  unfold World.freeze
  rw [if_neg hn]
  have hlt : g < w.heap.size := by
    rcases Nat.lt_or_ge g w.heap.size with h | h
    · exact h
    · rw [Array.getElem?_eq_none h] at hg; cases hg
  simp only [Array.getElem?_modify, if_true, hg, Option.map_some]
  exact ⟨_, rfl⟩
theorem frz_other (w : World) (g off n k : Nat) (h : k ≠ g) : (w.freeze ⟨g, off, none⟩ n).heap[k]? = w.heap[k]? := by
  unfold World.freeze
  split
  · rfl
  · simp only [Array.getElem?_modify]
    rw [if_neg (fun e => h e.symm)]
theorem frz_size (w : World) (a : Addr) (n : Nat) : (w.freeze a n).heap.size = w.heap.size := by
  unfold World.freeze
  split
  · rfl
  · simp

theorem aConvSlice_run (H : HR B w0 c h w) {src dst e1 e2 : TypeId} {r off len cap esz : Nat} {ex : Bool} {a : AV} {xv : Value} (hx : VR c (.slice r off len cap esz ex) xv) (hs : C.P.underlying src = some (.slice e1)) (hd : C.P.underlying dst = some (.slice e2)) {h' : Hp}
    (e : aConvSlice C h src dst e2 r off len cap esz ex = some (a, h')) : Val C.P B w0 c (convert src dst xv) w a h' := by
  unfold aConvSlice at e
  cases hsd : Nat.beq src dst with
  | false => rw [hsd] at e; cases e
  | true =>
    rw [hsd] at e
    simp only [cond_true] at e
    have hsd' : src = dst := Nat.eq_of_beq_eq_true hsd
    subst hsd'
    split at e
    · rename_i elem cells fam he hr
      split at e
      · rename_i ms hms
        cases e
        cases hx with
        | slice cap' hL h1 h2 h3 h4 =>
          rename_i L
          obtain ⟨L', hL', cs, fz, hb, hsize, hlim, hcv, hw⟩ := H.obj _ _ hr
          rw [hL] at hL'; cases hL'
          have hsh : w.shape? L.blk = some (elem, cs.size) := by simp [World.shape?, hb]
          have hrun : (convert src src (.slice (some ⟨L.blk, L.base + off, none⟩) len cap')).run C.P w = .ok (.slice (some ⟨L.blk, L.base + off, none⟩) len cap') (w.freeze ⟨L.blk, cs.size, none⟩ 1) := by
            rw [hs] at hd
            cases hd
            simp [convert, run_underlying hs, run_underlying he, markStringish, hsh]
          obtain ⟨fz', hb'⟩ := frz_same (off := cs.size) (n := 1) (by omega) hb
          refine ⟨c, _, _, hrun, Ctx.le_refl c, .slice cap' hL h1 h2 h3 h4, H.rowPut (cells' := cells) hr hms hL rfl (H.below.trans (let b0 := Lib.below_freeze (Below.refl 0 w) (p := ⟨L.blk, cs.size, none⟩) (Nat.zero_le _) _; ⟨b0.os, b0.tape, b0.output, b0.size, fun k hk => frz_other _ _ _ _ _ (fun e => (hw rfl).1 (e ▸ hk))⟩)) (frz_size _ _ _) (fun k hk => frz_other _ _ _ _ _ hk) ?_⟩
          exact ⟨cs, fz', hb', hsize, hlim, fun i a ha => hcv i a ha, fun hf => by cases hf⟩
      · cases e
    · cases e

theorem aConvInt_run {c : Ctx} {w : World} {src dst : TypeId} {x a : AV} {xv : Value} (hx : VR c x xv) (e : aConvInt C src dst x = some a) : ∃ u, (convert src dst xv).run C.P w = .ok u w ∧ VR c a u := by
  unfold aConvInt at e
  split at e
  · rename_i d k kk n hs hd
    cases e; cases hx
    refine ⟨.int k (k.wrap n), by simp [convert, run_underlying hs, run_underlying hd, Conv.intToInt], ?_⟩
    rw [fwrap_eq]; exact .int _ _
  · rename_i d k kk m r hs hd
    cases hk : keq k .i8 with
    | true => rw [hk] at e; cases e
    | false =>
      rw [hk] at e
      simp only [cond_false, Option.some.injEq] at e
      subst e
      cases hx with
      | cong x hr hb =>
        refine ⟨.int k (k.wrap (Int.ofNat x)), by simp [convert, run_underlying hs, run_underlying hd, Conv.intToInt], ?_⟩
        have hw : k.wrap (Int.ofNat x) = Int.ofNat x := by
          cases k <;> first | (simp [keq] at hk; done) | (simp only [IntKind.wrap, IntKind.bits, IntKind.signed, Int.ofNat_eq_natCast]; simp; omega)
        rw [hw]
        exact .cong x hr hb
  · cases e

theorem aConvert_run (H : HR B w0 c h w) {src dst : TypeId} {x a : AV} {xv : Value} (hx : VR c x xv) {h' : Hp} (e : aConvert C h src dst x = some (a, h')) :
    Val C.P B w0 c (convert src dst xv) w a h' := by
  unfold aConvert at e
  cases hci : convI src dst with
  | true =>
    rw [hci] at e
    simp only [cond_true] at e
    cases hv : aConvInt C src dst x with
    | none => rw [hv] at e; cases e
    | some v =>
      rw [hv] at e
      cases e
      obtain ⟨u, hr, hu⟩ := aConvInt_run (C := C) (w := w) hx hv
      exact Val.pure H ⟨u, hr, hu⟩
  | false =>
  rw [hci] at e
  simp only [cond_false] at e
  split at e
  · rename_i d k kk n hs hd
    cases e; cases hx
    refine Val.pure H ⟨.int k (k.wrap n), by simp [convert, run_underlying hs, run_underlying hd, Conv.intToInt], ?_⟩
    rw [fwrap_eq]; exact .int _ _
  · rename_i d k kk m r hs hd
    cases hk : keq k .i8 with
    | true => rw [hk] at e; cases e
    | false =>
      rw [hk] at e
      simp only [cond_false, Option.some.injEq, Prod.mk.injEq] at e
      obtain ⟨rfl, rfl⟩ := e
      cases hx with
      | cong x hr hb =>
        refine Val.pure H ⟨.int k (k.wrap (Int.ofNat x)), by simp [convert, run_underlying hs, run_underlying hd, Conv.intToInt], ?_⟩
        have hw : k.wrap (Int.ofNat x) = Int.ofNat x := by
          cases k <;> first | (simp [keq] at hk; done) | (simp only [IntKind.wrap, IntKind.bits, IntKind.signed, Int.ofNat_eq_natCast]; simp; omega)
        rw [hw]
        exact .cong x hr hb
  · rename_i d s hs hd
    cases e; cases hx
    refine Val.pure H ⟨.string ⟨⟨s⟩⟩, ?_, .str _⟩
    simp [convert, run_underlying hs, run_underlying hd]
  · rename_i k kk n hs hd
    cases e; cases hx
    exact Val.pure H ⟨_, run_convert_int_string w src dst kk n (by simp [hs]) hd, .str _⟩
  · rename_i el s hs hd
    split at e
    · rename_i he
      split at e
      · rename_i hc
        cases e; cases hx
        have hrun := run_bytes_of_string (P := C.P) w src dst el ⟨⟨s⟩⟩ hs hd he
        have hg : s.length ≤ grownCap w s.length 0 el := grownCap_ge w s.length 0 el
        have hsz : (bytesRow ⟨⟨s⟩⟩ (grownCap w s.length 0 el)).size = grownCap w s.length 0 el := by
          simp [bytesRow, ByteArray.size]; omega
        have H' := H.drew.newRowFz el (s.map fun b => AV.int .u8 (.ofNat b.toNat)) (bytesRow ⟨⟨s⟩⟩ (grownCap w s.length 0 el)) ((bytesRow ⟨⟨s⟩⟩ (grownCap w s.length 0 el)).size, (bytesRow ⟨⟨s⟩⟩ (grownCap w s.length 0 el)).size + 1)
          (fun i hi hh => by have := hh.1; simp only at this; omega) (by rw [hsz]; simpa using hg) (fun i a ha => by
            simp only [List.getElem?_map, Option.map_eq_some_iff] at ha
            obtain ⟨b, hb, rfl⟩ := ha
            have hlt : i < s.length := (List.getElem?_eq_some_iff.1 hb).1
            refine ⟨.int .u8 (.ofNat b.toNat), ?_, .int _ _, rfl⟩
            simp only [bytesRow]
            rw [Array.getElem?_append_left (by simpa using hlt)]
            simp [hb])
        refine ⟨_, _, _, hrun, Ctx.le_ext (H.fresh _ (Nat.le_refl _)), ?_, H'⟩
        have := VR.slice (c := c.ext h.next ⟨w.heap.size, 0, (bytesRow ⟨⟨s⟩⟩ (grownCap w s.length 0 el)).size⟩) (r := h.next) (off := 0) (len := s.length) (cap := s.length) (esz := 1) (ex := false) (grownCap w s.length 0 el) (Ctx.ext_same _ _ _) (Nat.le_refl _) hg (by simp) (by show 0 + grownCap w s.length 0 el * 1 ≤ (bytesRow ⟨⟨s⟩⟩ (grownCap w s.length 0 el)).size; rw [hsz]; omega)
        have hbs : (⟨⟨s⟩⟩ : ByteArray).size = s.length := rfl
        rw [hbs]
        simpa using this
      · cases e
    · cases e
  · rename_i el hs hd hxs
    split at e
    · rename_i n he hn
      split at e
      · rename_i cs hcs
        split at e
        · rename_i s hb
          cases e
          obtain ⟨vs, hf, hvs, _⟩ := sliceCells_run (P := C.P) H hx hcs
          obtain ⟨ns, rfl, rfl⟩ := bytesA_cells hb hvs
          refine Val.pure H ⟨.string ⟨⟨ns.map fun n => n.toNat.toUInt8⟩⟩, ?_, .str _⟩
          have hconv : (convert src dst xv).run C.P w = (Conv.bytesToString xv).run C.P w := by
            cases hx <;> simp [sLenA] at hn <;> simp [convert, run_underlying hs, run_underlying hd, run_underlying he]
          rw [hconv]
          cases hx with
          | nils =>
            simp only [sLenA, Option.some.injEq] at hn
            subst hn
            have : ns = [] := by cases ns with
              | nil => rfl
              | cons a as => have := hvs.length; simp [sliceCells] at hcs; subst hcs; simp at this
            subst this
            rfl
          | esl a cap =>
            simp only [sLenA, Option.some.injEq] at hn
            subst hn
            have : ns = [] := by cases ns with
              | nil => rfl
              | cons a as => have := hvs.length; simp [sliceCells] at hcs; subst hcs; simp at this
            subst this
            simp [Conv.bytesToString, loadCells, loadCellsFrom]
            rfl
          | slice cap' hL h1 h2 h3 h4 =>
            simp only [sLenA, Option.some.injEq] at hn
            subst hn
            simp only [Builtin.firstCells, Nat.mul_one] at hf
            rw [run_bytesToString w _ _ _ ns hf, foldl_push_ints]
            have he0 : ByteArray.empty.data = #[] := rfl
            rw [he0]
            simp
          | _ => simp [sLenA] at hn
        · cases e
      · cases e
    · cases e
  · rename_i xx e1 e2 r off len cap esz ex hs hd
    exact aConvSlice_run H hx hs hd e
  · rename_i el xx hs hd
    simp only [Option.map_eq_some_iff] at e
    obtain ⟨v, hv, he⟩ := e
    cases he
    exact Val.pure H (aUnsafePtr_run H hx hv)
  · rename_i el xx hs hd
    simp only [Option.map_eq_some_iff] at e
    obtain ⟨v, hv, he⟩ := e
    cases he
    exact Val.pure H (aUnsafePtr_run H hx hv)
  · cases e
end
end Go.Ev
