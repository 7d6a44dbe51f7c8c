/-
  The evaluator's conversions and built-in functions, and the machine's.
-/
import Derived.Test.YtpdlnijdcgcfbaaDoorEvJ
import Derived.Lib.UnsafeStr
import Derived.Laws.IdiomStrings
import Derived.Laws.LoneSync
import Derived.Laws.Runes
namespace Go.Ev
open Go Go.RowKit

section
variable {C : Cfg} {P : Program} {B : Kp} {w0 w : World} {c : Ctx} {h : Hp}

/-- What an operation that hands back a value leaves. -/
def Val (P : Program) (B : Kp) (w0 : World) (c : Ctx) (s : Sem Value) (w : World) (a : AV) (h' : Hp) : Prop :=
  ∃ c' w' u, s.run P w = .ok u w' ∧ Ctx.le c c' ∧ VR c' a u ∧ HR B w0 c' h' w'
theorem Val.pure (H : HR B w0 c h w) {s : Sem Value} {a : AV} (e : ∃ u, s.run P w = .ok u w ∧ VR c a u) : Val P B w0 c s w a h :=
  let ⟨u, hr, hv⟩ := e; ⟨c, w, u, hr, Ctx.le_refl c, hv, H⟩

theorem bytesA_cells : ∀ {cs : List AV} {s : List UInt8} {vs : List Value}, bytesA cs = some s → VRs c cs vs → ∃ ns : List Int, vs = ns.map (Value.int .u8) ∧ s = ns.map (fun n => n.toNat.toUInt8)
  | [], s, _, e, .nil => by simp only [bytesA, Option.some.injEq] at e; subst e; exact ⟨[], rfl, rfl⟩
  | .int .u8 n :: cs, s, _, e, .cons hv ht => by
    simp only [bytesA] at e
    split at e
    · rename_i s' hs
      cases e
      cases hv
      obtain ⟨ns, rfl, rfl⟩ := bytesA_cells hs ht
      exact ⟨n :: ns, rfl, rfl⟩
    · cases e
  | .int .i8 _ :: _, _, _, e, _ | .int .i16 _ :: _, _, _, e, _ | .int .i32 _ :: _, _, _, e, _ | .int .i64 _ :: _, _, _, e, _
  | .int .u16 _ :: _, _, _, e, _ | .int .u32 _ :: _, _, _, e, _ | .int .u64 _ :: _, _, _, e, _ => by simp [bytesA] at e
  | .bool _ :: _, _, _, e, _ | .str _ :: _, _, _, e, _ | .nilp :: _, _, _, e, _ | .ptr _ _ :: _, _, _, e, _ | .nils :: _, _, _, e, _ | .esl :: _, _, _, e, _
  | .slice _ _ _ _ _ _ :: _, _, _, e, _ | .nilm :: _, _, _, e, _ | .map _ :: _, _, _, e, _ | .fn _ _ _ :: _, _, _, e, _ | .yld _ :: _, _, _, e, _ | .nilf :: _, _, _, e, _
  | .nili :: _, _, _, e, _ | .iface _ _ :: _, _, _, e, _ | .agg _ :: _, _, _, e, _ | .tup _ :: _, _, _, e, _ | .unk :: _, _, _, e, _ => by simp [bytesA] at e

theorem foldl_push_ints : ∀ (l : List Int) (r : ByteArray), l.foldl (fun r n => r.push (UInt8.ofNat n.toNat)) r = ⟨r.data ++ (l.map fun n => n.toNat.toUInt8).toArray⟩
  | [], r => by simp
  | n :: l, r => by
    simp only [List.foldl_cons]
    rw [foldl_push_ints l]
    simp [ByteArray.push, Nat.toUInt8]

/-- The cells of a slice's first elements, as they are read. -/
theorem sliceCells_run (H : HR B w0 c h w) {x : AV} {xv : Value} (hx : VR c x xv) {size n : Nat} {cs : List AV} (e : sliceCells h size n x = some cs) :
    (∃ vs : List Value, (Builtin.firstCells size n xv).run P w = .ok vs.toArray w ∧ VRs c cs vs ∧ ∀ v ∈ vs, v.oneCell' = true) := by
  unfold sliceCells at e
  split at e
  · cases e; cases hx; exact ⟨[], by simp [Builtin.firstCells], .nil, by simp⟩
  · split at e
    · cases e; rename_i h0; subst h0; cases hx; exact ⟨[], by simp [Builtin.firstCells, loadCells, loadCellsFrom], .nil, by simp⟩
    · cases e
  · rename_i r off len cap esz ex
    split at e
    · rename_i elem cells fam wr hr
      split at e
      · rename_i hn
        cases e
        cases hx with
        | slice cap' hL h1 h2 h3 h4 =>
          rename_i L
          obtain ⟨vs, hvs, ho, hcell⟩ := H.cells hr hL off (n * size) hn.2
          have hl : vs.length = n * size := by rw [← hvs.length]; simp; omega
          exact ⟨vs, run_firstCells_some w size n _ _ _ vs hl hcell, hvs, ho⟩
      · cases e
    · cases e
  · rename_i s
    cases e
    cases hx with
    | str _ =>
      refine ⟨(s.take n).map fun b => Value.int .u8 (Int.ofNat b.toNat), ?_, ?_, ?_⟩
      · have hex : ((⟨⟨s⟩⟩ : ByteArray).extract 0 n) = ⟨⟨s.take n⟩⟩ := by rw [ba_extract]; simp
        simp only [Builtin.firstCells, hex, Sem.run_pure]
        congr 1
        apply Array.ext'
        simp
      · refine VRs.of_get _ _ (by simp) fun i a ha => ?_
        simp only [List.getElem?_map, Option.map_eq_some_iff] at ha
        obtain ⟨b, hb, rfl⟩ := ha
        exact ⟨_, by rw [List.getElem?_map, hb]; rfl, .int _ _⟩
      · intro v hv
        simp only [List.mem_map] at hv
        obtain ⟨b, _, rfl⟩ := hv
        rfl
  · cases e

theorem aUnsafePtr_run (H : HR B w0 c h w) {src dst : TypeId} {x a : AV} {xv : Value} (hx : VR c x xv) (e : aUnsafePtr P h src dst x = some a) :
    ∃ u, (convert src dst xv).run P w = .ok u w ∧ VR c a u := by
  unfold aUnsafePtr at e
  split at e
  · rename_i t hs hd; cases e; cases hx; exact ⟨.pointer none, by simp [convert, Conv.unsafePointer, run_underlying hs, run_underlying hd], .nilp⟩
  · rename_i t hs hd; cases e; cases hx; exact ⟨.pointer none, by simp [convert, Conv.unsafePointer, run_underlying hs, run_underlying hd], .nilp⟩
  · rename_i t r off hs hd
    split at e
    · rename_i elem cells fam wr n hr hsz
      split at e
      · rename_i hlt
        cases e
        cases hx with
        | ptr _ hL =>
          rename_i L
          obtain ⟨vs, hvs, ho, hcell⟩ := H.cells hr hL off 1 (by omega)
          obtain ⟨a, ha⟩ : ∃ a, ((cells.drop off).take 1)[0]? = some a := ⟨cells[off], by simp [hlt]⟩
          obtain ⟨v, hv, _⟩ := hvs.get 0 a ha
          have hc := hcell 0 v hv
          rw [add_spot] at hc
          refine ⟨_, run_convert_to_unsafe (P := P) hs hd ?_ hc, .ptr off hL⟩
          unfold sizeB at hsz
          cases hi : P.info? t with
          | none => simp [hi] at hsz
          | some i => simp [hi] at hsz; simp [hsz]
      · cases e
    · cases e
  · rename_i u r hs hd
    split at e
    · rename_i elem cells fam n hr hsz
      split at e
      · rename_i hc
        cases e
        cases hx with
        | ptr _ hL =>
          rename_i L
          obtain ⟨hel, hlen, hfam⟩ := hc
          subst hel; subst hfam
          have hb0 := H.base0 _ _ _ _ _ hr hL
          obtain ⟨L', hL', cs, fz, hb, hszc, hle, hcc, hw⟩ := H.obj _ _ hr
          rw [hL] at hL'; cases hL'
          rw [hb0]
          refine ⟨.pointer (some ⟨L.blk, 0, none⟩), ?_, by have := VR.ptr (c := c) 0 hL; simpa [hb0] using this⟩
          have hsh : w.shape? L.blk = some (elem, cs.size) := by simp [World.shape?, hb]
          have hcell : P.cellsOf elem = n + 1 := by
            unfold sizeB at hsz
            unfold Program.cellsOf
            rw [hsz]; rfl
          have hlies : liesAt P P.depth elem (cs.size / P.cellsOf elem) 0 elem 1 = true := by
            have hd' : P.depth = (2 * (P.types.size + Made.depth) + 1) + 1 := rfl
            rw [hd']
            simp only [liesAt, Bool.or_eq_true]
            left
            rw [hd']
            have h1 : 1 ≤ cs.size / (n + 1) := by
              rw [Nat.le_div_iff_mul_le (by omega)]; omega
            simp [rowAt, hcell, sameLayout]
            omega
          simp [convert, Conv.unsafePointer, Conv.seenAt, viewAt, variablesAt, run_underlying hs, run_underlying hd, hsh, sizeB_run hsz, hlies]
      · cases e
    · cases e
  · cases e

theorem aConvert_run (H : HR B w0 c h w) {src dst : TypeId} {x a : AV} {xv : Value} (hx : VR c x xv) {h' : Hp} (e : aConvert C h src dst x = some (a, h')) :
    Val C.P B w0 c (convert src dst xv) w a h' := by
  unfold aConvert at e
  split at e
  · rename_i d k kk n hs hd
    cases e; cases hx
    refine Val.pure H ⟨.int k (k.wrap n), by simp [convert, run_underlying hs, run_underlying hd, Conv.intToInt], ?_⟩
    rw [fwrap_eq]; exact .int _ _
  · rename_i d k kk m r hs hd
    cases hk : keq k .i8 with
    | true => rw [hk] at e; cases e
    | false =>
      rw [hk] at e
      simp only [cond_false, Option.some.injEq, Prod.mk.injEq] at e
      obtain ⟨rfl, rfl⟩ := e
      cases hx with
      | cong x hr hb =>
        refine Val.pure H ⟨.int k (k.wrap (Int.ofNat x)), by simp [convert, run_underlying hs, run_underlying hd, Conv.intToInt], ?_⟩
        have hw : k.wrap (Int.ofNat x) = Int.ofNat x := by
          cases k <;> first | (simp [keq] at hk; done) | (simp only [IntKind.wrap, IntKind.bits, IntKind.signed, Int.ofNat_eq_natCast]; simp; omega)
        rw [hw]
        exact .cong x hr hb
  · rename_i d s hs hd
    cases e; cases hx
    refine Val.pure H ⟨.string ⟨⟨s⟩⟩, ?_, .str _⟩
    simp [convert, run_underlying hs, run_underlying hd]
  · rename_i k kk n hs hd
    cases e; cases hx
    exact Val.pure H ⟨_, run_convert_int_string w src dst kk n (by simp [hs]) hd, .str _⟩
  · rename_i el s hs hd
    split at e
    · rename_i he
      split at e
      · rename_i hc
        cases e; cases hx
        have hrun := run_bytes_of_string (P := C.P) w src dst el ⟨⟨s⟩⟩ hs hd he
        have hg : s.length ≤ grownCap w s.length 0 el := grownCap_ge w s.length 0 el
        have hsz : (bytesRow ⟨⟨s⟩⟩ (grownCap w s.length 0 el)).size = grownCap w s.length 0 el := by
          simp [bytesRow, ByteArray.size]; omega
        have H' := H.drew.newRowFz el (s.map fun b => AV.int .u8 (.ofNat b.toNat)) (bytesRow ⟨⟨s⟩⟩ (grownCap w s.length 0 el)) ((bytesRow ⟨⟨s⟩⟩ (grownCap w s.length 0 el)).size, (bytesRow ⟨⟨s⟩⟩ (grownCap w s.length 0 el)).size + 1)
          (fun i hi hh => by have := hh.1; simp only at this; omega) (by rw [hsz]; simpa using hg) (fun i a ha => by
            simp only [List.getElem?_map, Option.map_eq_some_iff] at ha
            obtain ⟨b, hb, rfl⟩ := ha
            have hlt : i < s.length := (List.getElem?_eq_some_iff.1 hb).1
            refine ⟨.int .u8 (.ofNat b.toNat), ?_, .int _ _, rfl⟩
            simp only [bytesRow]
            rw [Array.getElem?_append_left (by simpa using hlt)]
            simp [hb])
        refine ⟨_, _, _, hrun, Ctx.le_ext (H.fresh _ (Nat.le_refl _)), ?_, H'⟩
        have := VR.slice (c := c.ext h.next ⟨w.heap.size, 0, (bytesRow ⟨⟨s⟩⟩ (grownCap w s.length 0 el)).size⟩) (r := h.next) (off := 0) (len := s.length) (cap := s.length) (esz := 1) (ex := false) (grownCap w s.length 0 el) (Ctx.ext_same _ _ _) (Nat.le_refl _) hg (by simp) (by show 0 + grownCap w s.length 0 el * 1 ≤ (bytesRow ⟨⟨s⟩⟩ (grownCap w s.length 0 el)).size; rw [hsz]; omega)
        have hbs : (⟨⟨s⟩⟩ : ByteArray).size = s.length := rfl
        rw [hbs]
        simpa using this
      · cases e
    · cases e
  · rename_i el hs hd hxs
    split at e
    · rename_i n he hn
      split at e
      · rename_i cs hcs
        split at e
        · rename_i s hb
          cases e
          obtain ⟨vs, hf, hvs, _⟩ := sliceCells_run (P := C.P) H hx hcs
          obtain ⟨ns, rfl, rfl⟩ := bytesA_cells hb hvs
          refine Val.pure H ⟨.string ⟨⟨ns.map fun n => n.toNat.toUInt8⟩⟩, ?_, .str _⟩
          have hconv : (convert src dst xv).run C.P w = (Conv.bytesToString xv).run C.P w := by
            cases hx <;> simp [sLenA] at hn <;> simp [convert, run_underlying hs, run_underlying hd, run_underlying he]
          rw [hconv]
          cases hx with
          | nils =>
            simp only [sLenA, Option.some.injEq] at hn
            subst hn
            have : ns = [] := by cases ns with
              | nil => rfl
              | cons a as => have := hvs.length; simp [sliceCells] at hcs; subst hcs; simp at this
            subst this
            rfl
          | esl a cap =>
            simp only [sLenA, Option.some.injEq] at hn
            subst hn
            have : ns = [] := by cases ns with
              | nil => rfl
              | cons a as => have := hvs.length; simp [sliceCells] at hcs; subst hcs; simp at this
            subst this
            simp [Conv.bytesToString, loadCells, loadCellsFrom]
            rfl
          | slice cap' hL h1 h2 h3 h4 =>
            simp only [sLenA, Option.some.injEq] at hn
            subst hn
            simp only [Builtin.firstCells, Nat.mul_one] at hf
            rw [run_bytesToString w _ _ _ ns hf, foldl_push_ints]
            have he0 : ByteArray.empty.data = #[] := rfl
            rw [he0]
            simp
          | _ => simp [sLenA] at hn
        · cases e
      · cases e
    · cases e
  · rename_i el xx hs hd
    simp only [Option.map_eq_some_iff] at e
    obtain ⟨v, hv, he⟩ := e
    cases he
    exact Val.pure H (aUnsafePtr_run H hx hv)
  · rename_i el xx hs hd
    simp only [Option.map_eq_some_iff] at e
    obtain ⟨v, hv, he⟩ := e
    cases he
    exact Val.pure H (aUnsafePtr_run H hx hv)
  · cases e
end
end Go.Ev
