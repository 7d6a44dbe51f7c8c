/-
  The evaluator once more, over tables in the place of the program's arrays: where the tables are the program's, both are the same. Written by genFast.py.
-/
import Derived.Test.YtjggeombkbianaaEvT
namespace Go.Ev
open Go

/-- What the evaluator looks up in a program. -/
structure TT where
  und : TypeId → Option TypeDesc
  info : TypeId → Option TypeInfo
  fn : FuncId → Option Func
  P : Program
/-- Look-ups by a tree. -/
noncomputable def infoF (P : Program) (tr : Tr TypeInfo) (t : TypeId) : Option TypeInfo :=
  match tr.get t with
  | some i => some i
  | none => P.info? t
noncomputable def undF (P : Program) (tr : Tr TypeInfo) (t : TypeId) : Option TypeDesc :=
  match infoF P tr t with
  | some { desc := .named _ u, .. } => (infoF P tr u).map (·.desc)
  | some i => some i.desc
  | none => none
noncomputable def fnF (P : Program) (tr : Tr Func) (f : FuncId) : Option Func :=
  match tr.get f with
  | some i => some i
  | none => P.funcs[f]?
noncomputable def TT.fast (P : Program) (tr : Tr TypeInfo) (tf : Tr Func) : TT := ⟨undF P tr, infoF P tr, fnF P tf, P⟩
def TT.of (P : Program) : TT := ⟨P.underlying, P.info?, fun f => P.funcs[f]?, P⟩
structure FC where
  T : TT
  glob : Nat → Option Nat
  prim : FuncId → Option (List AV → Hp → Option (AV × Hp))
  ext : FuncId → Option (List AV → Hp → Option (AV × Hp))
  lim : Nat
def FC.of (C : Cfg) (T : TT) : FC := ⟨T, C.glob, C.prim, C.ext, C.lim⟩
namespace F
section
variable (T : TT)

noncomputable def aggO (t : TypeId) : Option Bool :=
  match T.und t with
  | some (.struct _) => some true
  | some (.array _ _) => some true
  | some _ => some false
  | none => none
noncomputable def sizeB (t : TypeId) : Option Nat := (T.info t).map (·.size)
noncomputable def zeroB (t : TypeId) : Option AV :=
  match T.info t with
  | some i => match i.zero with
    | some z => ofV z
    | none => none
  | none => none
noncomputable def aPart (t : TypeId) (cs : List AV) (off : Nat) : Option AV :=
  match aggO T t, sizeB T t with
  | some true, some n => some (.agg ((cs.drop off).take n))
  | some false, some _ => cs[off]?
  | _, _ => none
noncomputable def aLoad (h : Hp) (t : TypeId) : AV → Option AV
  | .ptr r off => match h.get r with
    | some (.row _ cells _ _) => match aggO T t, sizeB T t with
      | some true, some n => if off + n ≤ cells.length then some (.agg ((cells.drop off).take n)) else none
      | some false, some _ => cells[off]?
      | _, _ => none
    | _ => none
  | _ => none
noncomputable def aStore (h : Hp) (t : TypeId) (p v : AV) : Option Hp :=
  match p, sizeB T t with
  | .ptr r off, some n => if v.cells.length = n ∧ v.cells.all AV.one = true then aWrite h r off v.cells else none
  | _, _ => none
noncomputable def fieldPlaces : List Field → Option (List (Nat × Nat))
  | [] => some []
  | f :: fs => match sizeB T f.type, fieldPlaces fs with
    | some n, some ps => some ((f.offset, n) :: ps)
    | _, _ => none
noncomputable def aBuild (t : TypeId) (parts : List (Nat × AV)) : Option AV :=
  match zeroB T t, T.und t with
  | some z, some (.struct fields) => match fieldPlaces T fields.toList with
    | some ps => if z.cells.all AV.one = true then (afill (fun i => ps[i]?) z.cells parts).map .agg else none
    | none => none
  | some z, some (.array _ elem) => match sizeB T elem with
    | some size => if z.cells.all AV.one = true then (afill (fun i => some (i * size, size)) z.cells parts).map .agg else none
    | none => none
  | _, _ => none
noncomputable def aBuildSlice (h : Hp) (t : TypeId) (len : Nat) (parts : List (Nat × AV)) : Option (AV × Hp) :=
  match T.und t with
  | some (.slice elem) => match sizeB T elem, zeroB T elem with
    | some size, some z =>
      if len * size ≤ 16777216 ∧ z.cells.length = size ∧ z.cells.all AV.one = true then match afill (fun i => some (i * size, size)) (repeatCells z.cells len) parts with
        | some cells => if cells.all AV.one = true then some (.slice h.next 0 len len size true, h.row elem cells) else none
        | none => none
      else none
    | _, _ => none
  | _ => none
noncomputable def aMakeSlice (h : Hp) (t : TypeId) (l c : AV) : Option (AV × Hp) :=
  match T.und t, natOf l, natOf c with
  | some (.slice elem), some len, some cap => match T.info elem, zeroB T elem with
    | some i, some z =>
      if len ≤ cap ∧ cap < 2147483648 ∧ i.bytes * cap ≤ 281474976710656 ∧ z.cells.length = i.size ∧ z.cells.all AV.one = true then
        some (.slice h.next 0 len cap i.size true, h.row elem (repeatCells z.cells cap))
      else none
    | _, _ => none
  | _, _, _ => none
noncomputable def aIndexAddr (t : TypeId) (x i : AV) : Option AV :=
  match T.und t, x, natOf i with
  | some (.slice elem), .slice r off len _ _ _, some k => match sizeB T elem with
    | some size => if k < len then some (.ptr r (off + k * size)) else none
    | none => none
  | some (.array len elem), .ptr r off, some k => match sizeB T elem with
    | some size => if k < len then some (.ptr r (off + k * size)) else none
    | none => none
  | _, _, _ => none
noncomputable def aIndex (t : TypeId) (x i : AV) : Option AV :=
  match T.und t, x, natOf i with
  | some (.array len elem), .agg cs, some k => match sizeB T elem with
    | some size => if k < len then aPart T elem cs (k * size) else none
    | none => none
  | some .string, .str s, some k => match s[k]? with
    | some b => some (.int .u8 (.ofNat b.toNat))
    | none => none
  | _, _, _ => none
noncomputable def aSlice (h : Hp) (t : TypeId) (x : AV) (lo hi mx : Option AV) : Option AV :=
  match T.und t, x with
  | some .string, .str s =>
    match mx, boundOf 0 lo, boundOf s.length hi with
    | none, some l, some h => if l ≤ h ∧ h ≤ s.length then some (.str ((s.drop l).take (h - l))) else none
    | _, _, _ => none
  | some (.slice elem), .nils =>
    match sizeB T elem, boundOf 0 lo, boundOf 0 hi, boundOf 0 mx with
    | some _, some 0, some 0, some 0 => if mx.isSome = true → hi.isSome = true then some .nils else none
    | _, _, _, _ => none
  | some (.slice elem), .slice r off len cap esz ex =>
    match sizeB T elem, boundOf 0 lo, boundOf len hi, boundOf cap mx with
    | some size, some l, some h, some m =>
      if l ≤ h ∧ h ≤ m ∧ m ≤ cap ∧ size = esz ∧ (mx.isSome = true → hi.isSome = true) then
        if l = 0 then some (.slice r off h m esz (ex || mx.isSome))
        else if l < m then some (.slice r (off + l * size) (h - l) (m - l) esz (ex || mx.isSome))
        else some .esl
      else none
    | _, _, _, _ => none
  | some (.array n elem), .ptr r off =>
    match sizeB T elem, boundOf 0 lo, boundOf n hi, boundOf n mx, h.get r with
    | some size, some l, some k, some m, some (.row _ cells _ _) =>
      if l ≤ k ∧ k ≤ m ∧ m ≤ n ∧ off + n * size ≤ cells.length ∧ (mx.isSome = true → hi.isSome = true) then
        if l = 0 then some (.slice r off k m size true)
        else if l < m then some (.slice r (off + l * size) (k - l) (m - l) size true)
        else some .esl
      else none
    | _, _, _, _, _ => none
  | _, _ => none
noncomputable def aFieldAddr (t : TypeId) (x : AV) (f : Nat) : Option AV :=
  match T.und t, x with
  | some (.struct fields), .ptr r off => match fields.toList[f]? with
    | some fd => match sizeB T fd.type with
      | some (_ + 1) => some (.ptr r (off + fd.offset))
      | _ => none
    | none => none
  | _, _ => none
noncomputable def aField (t : TypeId) (x : AV) (f : Nat) : Option AV :=
  match T.und t, x with
  | some (.struct fields), .agg cs => match fields.toList[f]? with
    | some fd => aPart T fd.type cs fd.offset
    | none => none
  | _, _ => none
noncomputable def plainT : Nat → TypeId → Bool
  | 0, _ => false
  | d + 1, t => match T.und t with
    | some .bool => true
    | some (.int _) => true
    | some .string => true
    | some (.array _ e) => plainT d e
    | some (.struct fs) => fs.toList.all fun f => f.name != "_" && plainT d f.type
    | _ => false
noncomputable def fitsCell (t : TypeId) : AV → Bool
  | .int k _ => match T.und t with | some (.int k') => decide (k = k') | _ => false
  | .bool _ => match T.und t with | some .bool => true | _ => false
  | .str _ => match T.und t with | some .string => true | _ => false
  | _ => false
noncomputable def aInt (op : BinOp) (t : TypeId) (k : IntKind) (a : Int) (k' : IntKind) (b : Int) : Option AV :=
  bif keq k k' then
    match op with
    | .add => some (.int k (fwrap k (Int.add a b)))
    | .sub => some (.int k (fwrap k (Int.sub a b)))
    | .mul => some (.int k (fwrap k (Int.mul a b)))
    | .eql => some (.bool (ieq a b))
    | .neq => some (.bool (!ieq a b))
    | .lss => some (.bool (ilt a b))
    | .gtr => some (.bool (ilt b a))
    | .leq => some (.bool (!ilt b a))
    | .geq => some (.bool (!ilt a b))
    | .and => match a, b with
      | .ofNat m, .ofNat n => bif Nat.ble m 127 && Nat.ble n 127 then some (.int k (.ofNat (Nat.land m n))) else slow
      | _, _ => slow
    | .or => match a, b with
      | .ofNat m, .ofNat n => bif Nat.ble m 127 && Nat.ble n 127 then some (.int k (.ofNat (Nat.lor m n))) else slow
      | _, _ => slow
    | _ => slow
  else slow
where
  slow : Option AV := ofIntV (runPure T.P (Go.binOp op t (.int k a) (.int k' b)))
noncomputable def aBin (op : BinOp) (t : TypeId) (x y : AV) : Option AV :=
  match x, y with
  | .int k a, .int k' b => aInt T op t k a k' b
  | .str a, .str b => match op with
    | .add => if a.length + b.length < 2147483648 then some (.str (a ++ b)) else none
    | .eql => some (.bool (a == b))
    | .neq => some (.bool !(a == b))
    | .lss => some (.bool (strLess a b))
    | .leq => some (.bool (strLess a b || a == b))
    | .gtr => some (.bool !(strLess a b || a == b))
    | .geq => some (.bool !(strLess a b))
    | _ => none
  | .bool a, .bool b => match T.und t, op with
    | some .bool, .eql => some (.bool (a == b))
    | some .bool, .neq => some (.bool !(a == b))
    | _, _ => none
  | _, _ => none
noncomputable def aAppend (h : Hp) (argTypes : Array TypeId) (s x : AV) : Option (AV × Hp) :=
  match (argTypes.toList[0]?).bind T.und, argTypes.toList[1]? with
  | some (.slice elem), some xt =>
    match T.und xt, T.info elem, lenA x with
    | some (.int _), some i, _ => match s, x, (i.zero).bind ofV with
      | .nils, .int _ (.ofNat n), some z =>
        if 0 < n ∧ n < 2147483648 ∧ n * i.bytes ≤ 140737488355328 ∧ z.cells.length = i.size ∧ z.cells.all AV.one = true ∧ 0 < i.size ∧ 0 < i.bytes then some (.slice h.next 0 n n i.size false, h.row elem (repeatCells z.cells n)) else none
      | _, _, _ => none
    | some (.int _), _, _ => none
    | some _, some i, some n =>
      match sliceCells h i.size n x, (i.zero).bind ofV with
      | some new, some z =>
        if n * i.size = new.length ∧ z.cells.length = i.size ∧ 0 < i.size ∧ 0 < i.bytes then
        match s with
        | .nils => if n = 0 then some (.nils, h) else
          if n < 2147483648 ∧ n * i.bytes ≤ 140737488355328 then some (.slice h.next 0 n n i.size false, h.row elem new) else none
        | .slice r off len cap esz ex =>
          if n = 0 then some (s, h) else
          if ¬ esz = i.size then none else
          if len + n ≤ cap then (aWrite h r (off + len * i.size) new).map fun h => (.slice r off (len + n) cap esz ex, h)
          else if len + n < 2147483648 ∧ (len + n) * i.bytes ≤ 140737488355328 then
            match h.get r with
            | some (.row elem' cells fam wr) =>
              if elem' = elem ∧ off + len * i.size ≤ cells.length then
                let old := (cells.drop off).take (len * i.size)
                if ex then some (.slice h.next 0 (len + n) (len + n) esz false, h.row elem (old ++ new))
                else match wr, h.fams.get fam with
                  | true, some ms =>
                    if off + len * i.size = cells.length ∧ ms.head? = some r then
                      some (.slice h.next 0 (len + n) (len + n) esz false,
                        { next := h.next + 1, objs := h.objs.set h.next (.row elem (old ++ new) fam true), fams := h.fams.set fam (h.next :: ms) })
                    else none
                  | _, _ => none
              else none
            | _ => none
          else none
        | _ => none
        else none
      | _, _ => none
    | _, _, _ => none
  | _, _ => none
noncomputable def aCopy (h : Hp) (argTypes : Array TypeId) (d x : AV) : Option (AV × Hp) :=
  match (argTypes.toList[0]?).bind T.und, lenA x with
  | some (.slice elem), some m => match sizeB T elem with
    | some size => match d with
      | .nils => some (.int .i64 0, h)
      | .esl => some (.int .i64 0, h)
      | .slice r off len _ esz _ =>
        if ¬ esz = size then none else
        let n := Nat.min m len
        match sliceCells h size n x with
        | some new => if new.length = n * size then
            (if n * size = 0 then some (.int .i64 (.ofNat n), h) else (aWrite h r off new).map fun h => (.int .i64 (.ofNat n), h)) else none
        | none => none
      | _ => none
    | none => none
  | _, _ => none
noncomputable def aClear (h : Hp) (argTypes : Array TypeId) (x : AV) : Option (AV × Hp) :=
  match (argTypes.toList[0]?).bind T.und with
  | some (.slice elem) => match x with
    | .nils => some (.undef, h)
    | .esl => some (.undef, h)
    | .slice r off len _ esz _ => match zeroB T elem, sizeB T elem with
      | some z, some size =>
        if z.cells.length = size ∧ z.cells.all AV.one = true ∧ esz = size then
          (if len = 0 then some (.undef, h) else (aWrite h r off (repeatCells z.cells len)).map fun h => (.undef, h))
        else none
      | _, _ => none
    | _ => none
  | _ => none
noncomputable def aLen (h : Hp) (argTypes : Array TypeId) (x : AV) : Option AV :=
  match (argTypes.toList[0]?).bind T.und, x with
  | some .string, .str s => some (.int .i64 (.ofNat s.length))
  | some (.array n _), _ => some (.int .i64 (.ofNat n))
  | some (.slice _), .nils => some (.int .i64 0)
  | some (.slice _), .esl => some (.int .i64 0)
  | some (.slice _), .slice _ _ len _ _ _ => some (.int .i64 (.ofNat len))
  | some (.map _ _), .nilm => some (.int .i64 0)
  | some (.map _ _), .map r => match h.get r with
    | some (.map es _) => some (.int .i64 (.ofNat es.length))
    | _ => none
  | _, _ => none
noncomputable def isByteT (t : TypeId) : Bool := match T.und t with
  | some (.int .u8) => true
  | _ => false
noncomputable def aCap (argTypes : Array TypeId) (x : AV) : Option AV :=
  match (argTypes.toList[0]?).bind T.und, x with
  | some (.slice _), .nils => some (.int .i64 0)
  | some (.slice _), .slice _ _ _ cap _ true => some (.int .i64 (.ofNat cap))
  | _, _ => none
noncomputable def aUnsafeString (h : Hp) (argTypes : Array TypeId) (p n : AV) : Option (AV × Hp) :=
  match p, natOf n with
  | .nilp, some 0 => some (.str [], h)
  | .ptr r off, some n =>
    if n = 0 then some (.str [], h) else
    if n < 2147483648 then
    match h.get r, (argTypes.toList[0]?).bind T.und with
    | some (.row elem cells fam true), some (.pointer e) =>
      if e = elem ∧ isByteT T e = true ∧ sizeB T e = some 1 ∧ off + n ≤ cells.length then
        match bytesA ((cells.drop off).take n), h.fams.get fam with
        | some s, some ms => some (.str s, { (h.kill r ms) with objs := (h.kill r ms).objs.set r (.row elem cells fam false), fams := h.fams.set fam [r] })
        | _, _ => none
      else none
    | _, _ => none
    else none
  | _, _ => none
noncomputable def aUnsafePtr (h : Hp) (src dst : TypeId) (x : AV) : Option AV :=
  match T.und src, T.und dst, x with
  | some (.pointer _), some .unsafePointer, .nilp => some .nilp
  | some .unsafePointer, some (.pointer _), .nilp => some .nilp
  | some (.pointer t), some .unsafePointer, .ptr r off => match h.get r, sizeB T t with
    | some (.row _ cells _ _), some (_ + 1) => if off < cells.length then some (.ptr r off) else none
    | _, _ => none
  | some .unsafePointer, some (.pointer u), .ptr r 0 => match h.get r, sizeB T u with
    | some (.row elem cells fam true), some (n + 1) => if elem = u ∧ n + 1 ≤ cells.length ∧ fam = r then some (.ptr r 0) else none
    | _, _ => none
  | _, _, _ => none
end
section
variable (C : FC)

noncomputable def opT (t : Tmp) (_ : FC) (s : St) : Option AV := some (Option.rec (motive := fun _ => AV) AV.undef (fun v => v) (Tr.get (St.tm s) t))
noncomputable def opC (v : Value) (_ : FC) (_ : St) : Option AV := ofV v
noncomputable def opG (g : Nat) (C : FC) (_ : St) : Option AV := (C.glob g).map fun r => .ptr r 0
noncomputable def opF (f : FuncId) (_ : FC) (_ : St) : Option AV := some (.fn f [] [])
noncomputable def put' (s : St) (dst : Option Tmp) (v : AV) (h : Hp) : St :=
  St.rec (motive := fun _ => St) (fun tm n _ df => Option.rec (motive := fun _ => St) ⟨tm, n, h, df⟩ (fun d => ⟨Bool.rec (motive := fun _ => Tr AV) tm (tm.set d v) (Nat.blt d n), n, h, df⟩) dst) s
theorem put'_eq (s : St) (dst : Option Tmp) (v : AV) (h : Hp) : put' s dst v h = ({ s with hp := h } : St).put dst v := by
  cases s with
  | mk tm n hp df =>
    cases dst with
    | none => rfl
    | some d =>
      show (⟨Bool.rec (motive := fun _ => Tr AV) tm (tm.set d v) (Nat.blt d n), n, h, df⟩ : St) = if d < n then ⟨tm.set d v, n, h, df⟩ else ⟨tm, n, h, df⟩
      by_cases hd : d < n
      · rw [if_pos hd, show Nat.blt d n = true from Nat.ble_eq_true_of_le hd]
      · rw [if_neg hd, show Nat.blt d n = false from by cases hb : Nat.blt d n with | true => exact absurd (Nat.le_of_ble_eq_true hb) hd | false => rfl]
noncomputable def force {α : Type} (n : Nat) (f : Nat → α) : α := Nat.rec (motive := fun _ => α) (f 0) (fun k _ => f k) (Nat.succ n)
theorem force_eq {α : Type} (n : Nat) (f : Nat → α) : force n f = f n := rfl

noncomputable def opd (s : St) (o : Operand) : Option AV := Operand.rec (motive := fun _ => FC → St → Option AV) opT opC opG opF o C s
noncomputable def opds (s : St) (l : List Operand) : Option (List AV) :=
  List.rec (motive := fun _ => Option (List AV)) (some []) (fun x _ r => Option.rec (motive := fun _ => Option (List AV)) none (fun a => Option.rec (motive := fun _ => Option (List AV)) none (fun as => some (a :: as)) r) (opd C s x)) l
noncomputable def parts (s : St) : List (Nat × Operand) → Option (List (Nat × AV))
  | [] => some []
  | (i, x) :: xs => match opd C s x, parts s xs with
    | some a, some as => some ((i, a) :: as)
    | _, _ => none
noncomputable def opt (s : St) : Option Operand → Option (Option AV)
  | none => some none
  | some x => match opd C s x with
    | some a => some (some a)
    | none => none
noncomputable def aConvInt (src dst : TypeId) (x : AV) : Option AV :=
  match C.T.und src, C.T.und dst, x with
  | some _, some (.int k), .int _ n => some (.int k (fwrap k n))
  | some _, some (.int k), .cong _ m r => bif keq k .i8 then none else some (.cong k m r)
  | _, _, _ => none
noncomputable def aConvSlice (h : Hp) (src dst e : TypeId) (r off len cap esz : Nat) (ex : Bool) : Option (AV × Hp) :=
  bif Nat.beq src dst then (match C.T.und e, h.get r with
    | some (.int .u8), some (.row elem cells fam true) => match h.fams.get fam with
      | some ms => some (.slice r off len cap esz ex, { (h.kill r ms) with objs := (h.kill r ms).objs.set r (.row elem cells fam false), fams := h.fams.set fam [r] })
      | none => none
    | _, _ => none) else none
noncomputable def aConvert (h : Hp) (src dst : TypeId) (x : AV) : Option (AV × Hp) :=
  bif convI src dst then (match aConvInt C src dst x with | some v => some (v, h) | none => none) else
  match C.T.und src, C.T.und dst, x with
  | some _, some (.int k), .int _ n => some (.int k (fwrap k n), h)
  | some _, some (.int k), .cong _ m r => bif keq k .i8 then none else some (.cong k m r, h)
  | some _, some .string, .str s => some (.str s, h)
  | some (.int _), some .string, .int _ n => some (.str (Utf8.encode n).data.toList, h)
  | some .string, some (.slice e), .str s => match C.T.und e with
    | some (.int .u8) => if sizeB C.T e = some 1 ∧ s.length < 2147483648 then some (.slice h.next 0 s.length s.length 1 false, h.row e (s.map fun b => .int .u8 (.ofNat b.toNat))) else none
    | _ => none
  | some (.slice e), some .string, x => match C.T.und e, sLenA x with
    | some (.int .u8), some n => match sliceCells h 1 n x with
      | some cs => match bytesA cs with
        | some s => some (.str s, h)
        | none => none
      | none => none
    | _, _ => none
  | some (.slice _), some (.slice e), .slice r off len cap esz ex => aConvSlice C h src dst e r off len cap esz ex
  | some (.pointer _), some .unsafePointer, x => (aUnsafePtr C.T h src dst x).map fun v => (v, h)
  | some .unsafePointer, some (.pointer _), x => (aUnsafePtr C.T h src dst x).map fun v => (v, h)
  | _, _, _ => none
noncomputable def aBuiltin (h : Hp) (b : Builtin) (argTypes : Array TypeId) (args : List AV) : Option (ANext × Hp) :=
  match b, args with
  | .append, [s, x] => ANext.ofP (aAppend C.T h argTypes s x)
  | .copy, [d, x] => ANext.ofP (aCopy C.T h argTypes d x)
  | .clear, [x] => ANext.ofP (aClear C.T h argTypes x)
  | .len, [x] => ANext.ofO (aLen C.T h argTypes x) h
  | .cap, [x] => ANext.ofO (aCap C.T argTypes x) h
  | .unsafeString, [p, n] => match argTypes.toList[0]? with
    | some _ => ANext.ofP (aUnsafeString C.T h argTypes p n)
    | none => none
  | .unsafeSliceData, [.slice r off _ (_ + 1) _ _] => some (.val (.ptr r off), h)
  | .unsafeSliceData, [.nils] => some (.val .nilp, h)
  | .max, a :: rest => ANext.ofO (minmax true a rest) h
  | .min, a :: rest => ANext.ofO (minmax false a rest) h
  | _, _ => none
noncomputable def oPick (s : St) (c a b : Operand) : Option (ANext × Hp) :=
  match opd C s c with
  | some (.bool true) => ANext.ofO (opd C s a) s.hp
  | some (.bool false) => ANext.ofO (opd C s b) s.hp
  | _ => none
noncomputable def oBuild (s : St) (t : TypeId) : Option (List (Nat × AV)) → Option (ANext × Hp)
  | some vs => ANext.ofO (aBuild C.T t vs) s.hp
  | none => none
noncomputable def oBuildSlice (s : St) (t : TypeId) (n : Nat) : Option (List (Nat × AV)) → Option (ANext × Hp)
  | some vs => ANext.ofP (aBuildSlice C.T s.hp t n vs)
  | none => none
noncomputable def oStore (s : St) (t : TypeId) : Option AV → Option AV → Option (ANext × Hp)
  | some p, some v => ANext.ofU (aStore C.T s.hp t p v)
  | _, _ => none
noncomputable def aUn (op : UnOp) : AV → Option AV
  | .int k n => ofIntV (runPure C.T.P (Op.unary op (.int k n)))
  | .bool b => ofIntV (runPure C.T.P (Op.unary op (.bool b)))
  | _ => none
noncomputable def oConvert (h : Hp) (src dst : TypeId) : Option AV → Option (ANext × Hp)
  | some v => ANext.ofP (aConvert C h src dst v)
  | none => none
noncomputable def oMakeSlice (h : Hp) (t : TypeId) : Option AV → Option AV → Option (ANext × Hp)
  | some a, some b => ANext.ofP (aMakeSlice C.T h t a b)
  | _, _ => none
noncomputable def oSlice (h : Hp) (t : TypeId) : Option AV → Option (Option AV) → Option (Option AV) → Option (Option AV) → Option (ANext × Hp)
  | some v, some l, some k, some m => ANext.ofO (aSlice C.T h t v l k m) h
  | _, _, _, _ => none
noncomputable def oCall (s : St) (c : Call) : Option (List AV) → Option (ANext × Hp)
  | some args => match c.callee with
    | .builtin b => aBuiltin C s.hp b c.argTypes args
    | .value f => oEnter s.hp args (opd C s f)
    | .invoke _ _ => none
  | none => none
noncomputable def aEqAll (t : TypeId) (x y : AV) : Option Bool :=
  match C.T.und t, x, y with
  | some (.pointer _), .nilp, .nilp => some true
  | some (.pointer _), .nilp, .ptr _ _ => some false
  | some (.pointer _), .ptr _ _, .nilp => some false
  | some (.pointer e), .ptr r a, .ptr r' b => match sizeB C.T e with
    | some (_ + 1) => if r = r' then some (a == b) else none
    | _ => none
  | some (.slice _), .nils, .nils => some true
  | some (.slice _), .nils, .slice _ _ _ _ _ _ => some false
  | some (.slice _), .nils, .esl => some false
  | some (.slice _), .slice _ _ _ _ _ _, .nils => some false
  | some (.slice _), .esl, .nils => some false
  | some (.map _ _), .nilm, .nilm => some true
  | some (.map _ _), .nilm, .map _ => some false
  | some (.map _ _), .map _, .nilm => some false
  | some (.func _ _ _), .nilf, .nilf => some true
  | some (.func _ _ _), .nilf, .fn _ _ _ => some false
  | some (.func _ _ _), .fn _ _ _, .nilf => some false
  | _, _, _ => none
noncomputable def aEqIn : Nat → TypeId → AV → AV → Option Bool
  | 0, _, _, _ => none
  | d + 1, t, x, y => match C.T.und t, x, y with
    | some .bool, .bool a, .bool b => some (a == b)
    | some (.int _), .int k a, .int k' b => bif keq k k' then some (ieq a b) else none
    | some .string, .str a, .str b => some (a == b)
    | some (.struct fs), .agg xs, .agg ys => bif C.T.P.stoodInHeld t then none else eqFs (aEqIn d) (aPart C.T) xs ys fs.toList
    | some (.array n e), .agg xs, .agg ys => match C.T.info e with
      | some i => eqIs (aEqIn d) (aPart C.T) e i.size xs ys n 0
      | none => none
    | _, _, _ => none
noncomputable def aEqAgg (t : TypeId) (x y : AV) : Option Bool :=
  match x, y with
  | .agg _, .agg _ => bif C.T.P.eqGuardType C.T.P.depth t then none else aEqIn C 8 t x y
  | _, _ => none
noncomputable def aBinAll (op : BinOp) (t : TypeId) (x y : AV) : Option AV :=
  match aBin C.T op t x y with
  | some v => some v
  | none => match aBig op x y with
  | some v => some v
  | none => match aCong op x y with
  | some v => some v
  | none => match op with
    | .eql => match aEqAgg C t x y with
      | some b => some (.bool b)
      | none => (aEqAll C t x y).map .bool
    | .neq => match aEqAgg C t x y with
      | some b => some (.bool !b)
      | none => (aEqAll C t x y).map fun b => .bool !b
    | _ => none
noncomputable def keyOk (kt : TypeId) (k : AV) : Bool :=
  match aEqIn C 8 kt k k with
  | some true => flatA k
  | _ => false
noncomputable def aLookup (h : Hp) (t : TypeId) (ok : Bool) (x k : AV) : Option AV :=
  match C.T.und t with
  | some (.map kt et) => match aMapGet h x with
    | some es => bif keyOk C kt k then
        match findE (aEqIn C 8 kt) k es 0 with
        | some (some p) => some (bif ok then .tup [p.2, .bool true] else p.2)
        | some none => match zeroB C.T et with
          | some z => some (bif ok then .tup [z, .bool false] else z)
          | none => none
        | none => none
      else none
    | none => none
  | _ => none
noncomputable def aMapSet (h : Hp) (t : TypeId) (x k v : AV) : Option Hp :=
  match C.T.und t, x with
  | some (.map kt _), .map r => match h.get r with
    | some (.map es clock) => bif keyOk C kt k then
        match findE (aEqIn C 8 kt) k es 0 with
        | some (some p) => match es[p.1]? with
          | some e => bif same k e.1 then some (h.put r (.map (es.set p.1 (k, v, e.2.2)) clock)) else none
          | none => none
        | some none => some (h.put r (.map (es ++ [(k, v, clock)]) (clock + 1)))
        | none => none
      else none
    | _ => none
  | _, _ => none
noncomputable def oMapSet (s : St) (t : TypeId) : Option AV → Option AV → Option AV → Option (ANext × Hp)
  | some x, some k, some v => ANext.ofU (aMapSet C s.hp t x k v)
  | _, _, _ => none
noncomputable def oMakeMap (h : Hp) (t : TypeId) : Option (Option AV) → Option (ANext × Hp)
  | some none => some (.val (.map h.next), h.new (.map [] 0))
  | some (some (.int _ _)) => match C.T.und t with
    | some (.map _ _) => some (.val (.map h.next), h.new (.map [] 0))
    | _ => none
  | _ => none
noncomputable def aOp (s : St) (o : Oper) : Option (ANext × Hp) :=
  match o.op with
  | .move x => ANext.ofO (opd C s x) s.hp
  | .assign x => ANext.ofO (opd C s x) s.hp
  | .pick c a b => oPick C s c a b
  | .alloc t => newBox s.hp t (zeroB C.T t)
  | .box t x => newBox s.hp t (opd C s x)
  | .build t ps => oBuild C s t (parts C s ps.toList)
  | .buildSlice t n ps => oBuildSlice C s t n (parts C s ps.toList)
  | .load t a => o1 (aLoad C.T s.hp t) s.hp (opd C s a)
  | .store t a x => oStore C s t (opd C s a) (opd C s x)
  | .nilCheck x => oNil s.hp (opd C s x)
  | .binOp op t x y _ => o2 (aBinAll C op t) s.hp (opd C s x) (opd C s y)
  | .unOp op _ x => o1 (aUn C op) s.hp (opd C s x)
  | .convert src dst x => oConvert C s.hp src dst (opd C s x)
  | .makeFunc fn first captured => oMakeFunc s.hp fn (opds C s first.toList) (opds C s captured.toList)
  | .makeSlice t l c => oMakeSlice C s.hp t (opd C s l) (opd C s c)
  | .slice t x lo hi mx => oSlice C s.hp t (opd C s x) (opt C s lo) (opt C s hi) (opt C s mx)
  | .fieldAddr t x f => o1 (fun v => aFieldAddr C.T t v f) s.hp (opd C s x)
  | .field t x f => o1 (fun v => aField C.T t v f) s.hp (opd C s x)
  | .indexAddr t x i => o2 (aIndexAddr C.T t) s.hp (opd C s x) (opd C s i)
  | .index t x i => o2 (aIndex C.T t) s.hp (opd C s x) (opd C s i)
  | .extract t i => o1 (fun v => aExtract v i) s.hp (opd C s t)
  | .call c => oCall C s c (opds C s c.args.toList)
  | .makeMap t r => oMakeMap C s.hp t (opt C s r)
  | .lookup t x k ok => o2 (aLookup C s.hp t ok) s.hp (opd C s x) (opd C s k)
  | .mapUpdate t x k v => oMapSet C s t (opd C s x) (opd C s k) (opd C s v)
  | .insert t x k v => oMapSet C s t (opd C s x) (opd C s k) (opd C s v)
  | _ => none
noncomputable def fNone : FC → St → Option (ANext × Hp) := fun _ _ => none
noncomputable def ofOR (x : Option AV) (h : Hp) : Option (ANext × Hp) := Option.rec (motive := fun _ => Option (ANext × Hp)) none (fun v => some (.val v, h)) x
noncomputable def bind1 (x : Option AV) (f : AV → Option AV) : Option AV := Option.rec (motive := fun _ => Option AV) none f x
theorem ofOR_eq (x : Option AV) (h : Hp) : ofOR x h = ANext.ofO x h := by cases x <;> rfl
theorem bind1_eq (f : AV → Option AV) (x : Option AV) (h : Hp) : ofOR (bind1 x f) h = o1 f h x := by
  cases x with
  | none => rfl
  | some v => exact ofOR_eq (f v) h
theorem bind2_eq (f : AV → AV → Option AV) (x y : Option AV) (h : Hp) : ofOR (bind1 x fun a => bind1 y (f a)) h = o2 f h x y := by
  cases x with
  | none => cases y <;> rfl
  | some v => cases y with
    | none => rfl
    | some u => exact ofOR_eq (f v u) h
noncomputable def fw64 (n : Int) : Int :=
  Int.rec (motive := fun _ => Int) (fun m => Bool.rec (motive := fun _ => Int) (IntKind.wrap .i64 (.ofNat m)) (force m Int.ofNat) (Nat.ble m 9223372036854775807))
    (fun m => Bool.rec (motive := fun _ => Int) (IntKind.wrap .i64 (.negSucc m)) (force m Int.negSucc) (Nat.ble m 9223372036854775807)) n
noncomputable def fwrapF (k : IntKind) (n : Int) : Int := IntKind.rec (motive := fun _ => Int → Int) (fwrap .i8) (fwrap .i16) (fwrap .i32) fw64 (fwrap .u8) (fwrap .u16) (fwrap .u32) (fwrap .u64) k n
theorem bool_rec_bif (b : Bool) (x y : Int) : Bool.rec (motive := fun _ => Int) x y b = bif b then y else x := by cases b <;> rfl
theorem fwrapF_eq (k : IntKind) (n : Int) : fwrapF k n = fwrap k n := by
  cases k <;> try rfl
  cases n with
  | ofNat m => exact bool_rec_bif _ (IntKind.wrap .i64 (.ofNat m)) (.ofNat m)
  | negSucc m => exact bool_rec_bif _ (IntKind.wrap .i64 (.negSucc m)) (.negSucc m)
abbrev IntOp := FC → TypeId → IntKind → Int → Int → BinOp → AV → AV → Option AV
noncomputable def iSlow : IntOp := fun C t _ _ _ op x y => aBinAll C op t x y
noncomputable def iAdd : IntOp := fun _ _ k a b _ _ _ => some (.int k (fwrapF k (Int.add a b)))
noncomputable def iSub : IntOp := fun _ _ k a b _ _ _ => some (.int k (fwrapF k (Int.sub a b)))
noncomputable def iMul : IntOp := fun _ _ k a b _ _ _ => some (.int k (fwrapF k (Int.mul a b)))
noncomputable def iEq : IntOp := fun _ _ _ a b _ _ _ => some (.bool (ieq a b))
noncomputable def iNe : IntOp := fun _ _ _ a b _ _ _ => some (.bool (!ieq a b))
noncomputable def iLt : IntOp := fun _ _ _ a b _ _ _ => some (.bool (ilt a b))
noncomputable def iGt : IntOp := fun _ _ _ a b _ _ _ => some (.bool (ilt b a))
noncomputable def iLe : IntOp := fun _ _ _ a b _ _ _ => some (.bool (!ilt b a))
noncomputable def iGe : IntOp := fun _ _ _ a b _ _ _ => some (.bool (!ilt a b))
noncomputable def iOp (op : BinOp) : IntOp := BinOp.rec (motive := fun _ => IntOp) iAdd iSub iMul iSlow iSlow iSlow iSlow iSlow iSlow iSlow iSlow iEq iNe iLt iLe iGt iGe op
abbrev BinX := FC → BinOp → TypeId → AV → AV → Option AV
noncomputable def xSlow : BinX := fun C op t x y => aBinAll C op t x y
abbrev BinY := IntKind → Int → FC → BinOp → TypeId → AV → AV → Option AV
noncomputable def ySlow : BinY := fun _ _ C op t x y => aBinAll C op t x y
noncomputable def yInt (k' : IntKind) (b : Int) : BinY := fun k a C op t x y => Bool.rec (motive := fun _ => Option AV) (aBinAll C op t x y) (iOp op C t k a b op x y) (keq k k')
noncomputable def xInt (k : IntKind) (a : Int) : BinX := fun C op t x y =>
  AV.casesOn (motive_1 := fun _ => BinY) y (fun _ => ySlow) yInt (fun _ => ySlow) ySlow (fun _ _ => ySlow) ySlow ySlow (fun _ _ _ _ _ _ => ySlow) ySlow (fun _ => ySlow) (fun _ _ _ => ySlow) (fun _ => ySlow) ySlow ySlow (fun _ _ => ySlow) (fun _ => ySlow) (fun _ => ySlow) ySlow (fun _ => ySlow) (fun _ _ _ => ySlow) k a C op t x y
noncomputable def binF (C : FC) (op : BinOp) (t : TypeId) (x y : AV) : Option AV :=
  AV.casesOn (motive_1 := fun _ => BinX) x (fun _ => xSlow) xInt (fun _ => xSlow) xSlow (fun _ _ => xSlow) xSlow xSlow (fun _ _ _ _ _ _ => xSlow) xSlow (fun _ => xSlow) (fun _ _ _ => xSlow) (fun _ => xSlow) xSlow xSlow (fun _ _ => xSlow) (fun _ => xSlow) (fun _ => xSlow) xSlow (fun _ => xSlow) (fun _ _ _ => xSlow) C op t x y
theorem binF_eq (C : FC) (op : BinOp) (t : TypeId) (x y : AV) : binF C op t x y = aBinAll C op t x y := by
  cases x <;> try rfl
  cases y <;> try rfl
  rename_i k a k' b
  show Bool.rec (motive := fun _ => Option AV) (aBinAll C op t (.int k a) (.int k' b)) (iOp op C t k a b op (.int k a) (.int k' b)) (keq k k') = _
  cases hk : keq k k' with
  | false => rfl
  | true =>
    have hs : aBinAll C op t (.int k a) (.int k' b) = match aInt C.T op t k a k' b with
      | some v => some v
      | none => match aBig op (.int k a) (.int k' b) with
      | some v => some v
      | none => match aCong op (.int k a) (.int k' b) with
      | some v => some v
      | none => match op with
        | .eql => match aEqAgg C t (.int k a) (.int k' b) with
          | some b => some (.bool b)
          | none => (aEqAll C t (.int k a) (.int k' b)).map .bool
        | .neq => match aEqAgg C t (.int k a) (.int k' b) with
          | some b => some (.bool !b)
          | none => (aEqAll C t (.int k a) (.int k' b)).map fun b => .bool !b
        | _ => none := rfl
    show iOp op C t k a b op (.int k a) (.int k' b) = _
    cases op <;> try rfl
    all_goals (rw [hs]; unfold aInt; rw [hk]; simp only [cond_true]; first | rfl | (show some (AV.int k (fwrapF k _)) = _; rw [fwrapF_eq]))
abbrev OpX := FC → St → Option (ANext × Hp)
noncomputable def mMove (x : Operand) : OpX := fun C s => ofOR (opd C s x) (St.hp s)
noncomputable def mPick (c a b : Operand) : OpX := fun C s => oPick C s c a b
noncomputable def mAlloc (t : TypeId) : OpX := fun C s => newBox (St.hp s) t (zeroB C.T t)
noncomputable def mBox (t : TypeId) (x : Operand) : OpX := fun C s => newBox (St.hp s) t (opd C s x)
noncomputable def mBuild (t : TypeId) (ps : Array (Nat × Operand)) : OpX := fun C s => oBuild C s t (parts C s ps.toList)
noncomputable def mBuildSlice (t : TypeId) (n : Nat) (ps : Array (Nat × Operand)) : OpX := fun C s => oBuildSlice C s t n (parts C s ps.toList)
noncomputable def mLoad (t : TypeId) (a : Operand) : OpX := fun C s => ofOR (bind1 (opd C s a) (aLoad C.T (St.hp s) t)) (St.hp s)
noncomputable def mStore (t : TypeId) (a x : Operand) : OpX := fun C s => oStore C s t (opd C s a) (opd C s x)
noncomputable def mNil (x : Operand) : OpX := fun C s => oNil (St.hp s) (opd C s x)
noncomputable def mBin (op : BinOp) (t : TypeId) (x y : Operand) (_ : TypeId) : OpX := fun C s => ofOR (bind1 (opd C s x) fun a => bind1 (opd C s y) (binF C op t a)) (St.hp s)
noncomputable def mUn (op : UnOp) (_ : TypeId) (x : Operand) : OpX := fun C s => ofOR (bind1 (opd C s x) (aUn C op)) (St.hp s)
noncomputable def mConvert (src dst : TypeId) (x : Operand) : OpX := fun C s => oConvert C (St.hp s) src dst (opd C s x)
noncomputable def mMakeFunc (fn : Fn) (first captured : Array Operand) : OpX := fun C s => oMakeFunc (St.hp s) fn (opds C s first.toList) (opds C s captured.toList)
noncomputable def mMakeSlice (t : TypeId) (l c : Operand) : OpX := fun C s => oMakeSlice C (St.hp s) t (opd C s l) (opd C s c)
noncomputable def mSlice (t : TypeId) (x : Operand) (lo hi mx : Option Operand) : OpX := fun C s => oSlice C (St.hp s) t (opd C s x) (opt C s lo) (opt C s hi) (opt C s mx)
noncomputable def mFieldAddr (t : TypeId) (x : Operand) (f : Nat) : OpX := fun C s => ofOR (bind1 (opd C s x) fun v => aFieldAddr C.T t v f) (St.hp s)
noncomputable def mField (t : TypeId) (x : Operand) (f : Nat) : OpX := fun C s => ofOR (bind1 (opd C s x) fun v => aField C.T t v f) (St.hp s)
noncomputable def mIndexAddr (t : TypeId) (x i : Operand) : OpX := fun C s => ofOR (bind1 (opd C s x) fun a => bind1 (opd C s i) (aIndexAddr C.T t a)) (St.hp s)
noncomputable def mIndex (t : TypeId) (x i : Operand) : OpX := fun C s => ofOR (bind1 (opd C s x) fun a => bind1 (opd C s i) (aIndex C.T t a)) (St.hp s)
noncomputable def mExtract (x : Operand) (i : Nat) : OpX := fun C s => ofOR (bind1 (opd C s x) fun v => aExtract v i) (St.hp s)
noncomputable def mCall (c : Call) : OpX := fun C s => oCall C s c (opds C s c.args.toList)
noncomputable def mMapSet (t : TypeId) (x k v : Operand) : OpX := fun C s => oMapSet C s t (opd C s x) (opd C s k) (opd C s v)
noncomputable def mMakeMap (t : TypeId) (r : Option Operand) : OpX := fun C s => oMakeMap C (St.hp s) t (opt C s r)
noncomputable def mLookup (t : TypeId) (x k : Operand) (ok : Bool) : OpX := fun C s => ofOR (bind1 (opd C s x) fun a => bind1 (opd C s k) (aLookup C (St.hp s) t ok a)) (St.hp s)
noncomputable def aOpR (op : Op) : OpX := Op.rec (motive := fun _ => OpX) mMove mMove mPick mAlloc mBox mBuild mBuildSlice mMapSet mLoad mStore (fun _ => fNone) (fun _ => fNone) mNil mBin mUn mConvert (fun _ _ => fNone) (fun _ _ => fNone)
  mMakeFunc mMakeMap (fun _ _ => fNone) mMakeSlice mSlice mFieldAddr mField mIndexAddr mIndex mLookup mMapSet (fun _ _ _ => fNone) (fun _ _ _ _ => fNone) (fun _ _ => fNone) (fun _ _ => fNone) (fun _ => fNone) (fun _ _ _ _ => fNone)
  mExtract mCall (fun _ => fNone) (fun _ => fNone) (fun _ => fNone) (fun _ _ => fNone) (fun _ _ _ => fNone) (fun _ _ => fNone) op
theorem aOpR_eq (C : FC) (s : St) (o : Oper) : aOpR o.op C s = aOp C s o := by
  unfold aOp
  cases o.op <;> first
    | rfl
    | exact ofOR_eq _ _
    | exact bind1_eq _ _ _
    | exact bind2_eq _ _ _ _
    | skip
  rename_i op t x y yt
  show ofOR (bind1 (opd C s x) fun a => bind1 (opd C s y) (binF C op t a)) (St.hp s) = _
  rw [bind2_eq]
  have : binF C op t = aBinAll C op t := by funext x y; exact binF_eq C op t x y
  rw [this]

noncomputable def kVal (v : AV) (_ : FC) (_ : Rec) (s : St) (dst : Option Tmp) (h : Hp) : Option St := some (put' s dst v h)
noncomputable def kSkip (_ : FC) (_ : Rec) (s : St) (dst : Option Tmp) (h : Hp) : Option St := some (put' s dst .undef h)
noncomputable def kPut (s : St) (dst : Option Tmp) (p : AV × Hp) : Option St := some (put' s dst p.1 p.2)
noncomputable def kEnter (f : FuncId) (args : List AV) (C : FC) (R : Rec) (s : St) (dst : Option Tmp) (h : Hp) : Option St :=
  Option.rec (motive := fun _ => Option St) none (kPut s dst) (Option.rec (motive := fun _ => Option (AV × Hp)) (R.call f args h) (fun g => g args h) (C.ext f))
noncomputable def kYld (l : Nat) (args : List AV) (_ : FC) (R : Rec) (s : St) (dst : Option Tmp) (h : Hp) : Option St :=
  Option.rec (motive := fun _ => Option St) none (fun p => some (put' s dst (.bool p.1) p.2)) (R.yld l args h)
noncomputable def evK (C : FC) (R : Rec) (s : St) (dst : Option Tmp) (p : ANext × Hp) : Option St :=
  ANext.rec (motive := fun _ => FC → Rec → St → Option Tmp → Hp → Option St) kVal kSkip kEnter kYld p.1 C R s dst p.2
noncomputable def evOp (R : Rec) (s : St) (o : Oper) : Option St :=
  Option.rec (motive := fun _ => Option St) none (evK C R s o.dst) (aOpR o.op C s)
noncomputable def evGuarded (_ : Nat × Bool) (C : FC) (R : Rec) (ops : List Oper) (s : St) (o : Oper) : Option St :=
  match aWanted ops s o with
  | some true => evOp C R s o
  | some false => some (put' s o.dst .undef s.hp)
  | none => none
noncomputable def evBare (C : FC) (R : Rec) (_ : List Oper) (s : St) (o : Oper) : Option St := evOp C R s o
noncomputable def evStep (R : Rec) (ops : List Oper) (s : St) (o : Oper) : Option St :=
  Option.rec (motive := fun _ => FC → Rec → List Oper → St → Oper → Option St) evBare evGuarded o.guard C R ops s o
noncomputable def trace (R : Rec) (ops : List Oper) : List Oper → St → Option (List St)
  | [], s => some [s]
  | o :: rest, s => match evStep C R ops s o with
    | some s' => match trace R ops rest s' with
      | some l => some (s :: l)
      | none => none
    | none => none
noncomputable def obsOk (ops : List Oper) (o : Oper) (s : St) (h : Hp) : Bool :=
  match aWanted ops s o with
  | some true => match aOp C s o, aOp C { s with hp := h } o with
    | some (.val v, _), some (.val u, _) => same v u
    | _, _ => false
  | _ => true
noncomputable def pairDyn (ops : List Oper) (ps : List (List Nat)) (tr : List St) (j e : Nat) (oj oe : Oper) : Bool :=
  !isObs oj || isFree oj || isObs oe || preB ps e j || preB ps j e ||
  (match tr[j]?, tr[if j < e then e + 1 else e]? with
   | some s, some s' => obsOk C ops oj s s'.hp
   | _, _ => false)
noncomputable def drawDyn (ops : List Oper) (tr : List St) : Bool :=
  (ops.all isObs) || ops.zipIdx.all fun (oj, j) => ops.zipIdx.all fun (oe, e) => pairDyn C ops (pres ops) tr j e oj oe
noncomputable def evOps (R : Rec) (ops : List Oper) (l : List Oper) : St → Option St :=
  List.rec (motive := fun _ => St → Option St) (fun s => some s) (fun o _ g s => Option.rec (motive := fun _ => Option St) none g (evStep C R ops s o)) l
noncomputable def dynPairs (ops : List Oper) : List (Oper × Nat × Nat) := ops.zipIdx.flatMap fun x => ops.zipIdx.filterMap fun y => bif !isObs x.1 || isFree x.1 || isObs y.1 || preB (pres ops) y.2 x.2 || preB (pres ops) x.2 y.2 then none else some (x.1, x.2, y.2)
noncomputable def dynOk (ops : List Oper) (tr : List St) (oj : Oper) (j e : Nat) : Bool :=
  match tr[j]?, tr[if j < e then e + 1 else e]? with
  | some s, some s' => obsOk C ops oj s s'.hp
  | _, _ => false

noncomputable def evDraw (R : Rec) (ops : List Oper) (s : St) : Option St :=
  bif drawStatic ops then
    bif (ops.all isObs || (dynPairs ops).isEmpty) && (flts ops (pres ops)).isEmpty then evOps C R ops ops s
    else match trace C R ops ops s with
    | some tr => bif (ops.all isObs || (dynPairs ops).all (fun x => dynOk C ops tr x.1 x.2.1 x.2.2)) && ((flts ops (pres ops)).isEmpty || monoTr tr) then tr[ops.length]? else none
    | none => none
  else none
noncomputable def cRegion (R : Rec) (ops : List Oper) (draw : Bool) (s : St) : Option (Exit × St) :=
  toNormal (bif draw then evDraw C R ops s else evOps C R ops ops s)
noncomputable def cCond (c : Operand) (a b : St → Option (Exit × St)) (s : St) : Option (Exit × St) :=
  match opd C s c with
  | some (.bool true) => a s
  | some (.bool false) => b s
  | _ => none
noncomputable def cRange (R : Rec) (ro : Option Nat) (g : Operand) (ps : List Tmp) (assign body : Code) (s : St) : Option (Exit × St) :=
  match opd C s g, enterL ro s.hp with
  | some (.fn f first captured), some (d, h, mark) =>
    match R.call f (first ++ [.yld h.next] ++ captured) (h.new (.loop .ready none s.tm s.n ps assign body d)) with
    | some (_, h') => endL s h.next mark h'
    | none => none
  | _, _ => none
noncomputable def evCode (R : Rec) (ro : Option Nat) (c : Code) : St → Option (Exit × St) :=
  Code.rec (motive := fun _ => St → Option (Exit × St))
    (fun s => some (.normal, s))
    (fun _ ops draw => cRegion C R ops.toList draw)
    (fun _ _ a b => cSeq a b)
    (fun c _ _ a b => cCond C c a b)
    (fun id _ a => cBlock id a)
    (fun _ a => iter a C.lim)
    (fun g ps assign body _ _ => cRange C R ro g ps.toList assign body)
    (fun id s => some (.exit id, s))
    (fun _ _ _ => none)
    (fun _ s => some (.normal, s))
    (fun _ _ => none)
    (fun s => some (.ret, s))
    (fun _ _ => none) c
noncomputable def aResults (s : St) : List ResultVar → Option (List AV)
  | [] => some []
  | .tmp t :: rs => match aResults s rs with
    | some vs => some ((s.tm.get t).getD .undef :: vs)
    | none => none
  | .cell a t :: rs => match aLoad C.T s.hp t ((s.tm.get a).getD .undef), aResults s rs with
    | some v, some vs => some (v :: vs)
    | _, _ => none
noncomputable def leave (fn : Func) : Option (Exit × St) → Option (AV × Hp)
  | some (.normal, s) => go s
  | some (.ret, s) => go s
  | _ => none
where
  go (s : St) : Option (AV × Hp) := match shut s.hp s.df with
    | some h => match aResults C { s with hp := h } fn.results.toList with
      | some [v] => some (v, h)
      | some vs => some (.tup vs, h)
      | none => none
    | none => none
noncomputable def evBody (R : Rec) (fn : Func) (args : List AV) (h : Hp) : Option (AV × Hp) :=
  match fn.body with
  | some c => force (Nat.max args.length fn.ntmps) fun n => leave C fn (evCode C R none c { tm := initT 0 args .lf, n := n, hp := h, df := [] })
  | none => none
noncomputable def evFun (R : Rec) (f : FuncId) (args : List AV) (h : Hp) : Option (AV × Hp) :=
  match C.prim f with
  | some g => g args h
  | none => match C.T.fn f with
    | some fn => evBody C R fn args h
    | none => none
noncomputable def evYld (R : Rec) (l : Nat) (args : List AV) (h : Hp) : Option (Bool × Hp) :=
  match h.get l with
  | some (.loop .ready _ tm n ps assign body _) => match setAll ps args n tm with
    | some tm' => match evCode C R (some l) assign { tm := tm', n, hp := h, df := [] } with
      | some (.normal, s1) => match s1.hp.get l with
        | some (.loop .ready pend tm n ps a b d) =>
          endR l (evCode C R (some l) body { s1 with hp := s1.hp.put l (.loop .busy pend tm n ps a b d) })
        | _ => none
      | _ => none
    | none => none
  | _ => none
noncomputable def evRec : Nat → Rec
  | 0 => ⟨fun _ _ _ => none, fun _ _ _ => none⟩
  | d + 1 => ⟨evFun C (evRec d), evYld C (evRec d)⟩
end
end F
theorem F.aggO_eq (P : Program) : F.aggO (TT.of P) = Go.Ev.aggO P := by rfl
theorem F.sizeB_eq (P : Program) : F.sizeB (TT.of P) = Go.Ev.sizeB P := by rfl
theorem F.zeroB_eq (P : Program) : F.zeroB (TT.of P) = Go.Ev.zeroB P := by rfl
theorem F.aPart_eq (P : Program) : F.aPart (TT.of P) = Go.Ev.aPart P := by rfl
theorem F.aLoad_eq (P : Program) : F.aLoad (TT.of P) = Go.Ev.aLoad P := by rfl
theorem F.aStore_eq (P : Program) : F.aStore (TT.of P) = Go.Ev.aStore P := by rfl
theorem F.fieldPlaces_eq (P : Program) : F.fieldPlaces (TT.of P) = Go.Ev.fieldPlaces P := by funext l; induction l with
  | nil => rfl
  | cons a l ih => simp only [F.fieldPlaces, Go.Ev.fieldPlaces, ih]; rfl
theorem F.aBuild_eq (P : Program) : F.aBuild (TT.of P) = Go.Ev.aBuild P := by unfold F.aBuild Go.Ev.aBuild; simp only [F.fieldPlaces_eq]; rfl
theorem F.aBuildSlice_eq (P : Program) : F.aBuildSlice (TT.of P) = Go.Ev.aBuildSlice P := by rfl
theorem F.aMakeSlice_eq (P : Program) : F.aMakeSlice (TT.of P) = Go.Ev.aMakeSlice P := by rfl
theorem F.aIndexAddr_eq (P : Program) : F.aIndexAddr (TT.of P) = Go.Ev.aIndexAddr P := by rfl
theorem F.aIndex_eq (P : Program) : F.aIndex (TT.of P) = Go.Ev.aIndex P := by rfl
theorem F.aSlice_eq (P : Program) : F.aSlice (TT.of P) = Go.Ev.aSlice P := by rfl
theorem F.aFieldAddr_eq (P : Program) : F.aFieldAddr (TT.of P) = Go.Ev.aFieldAddr P := by rfl
theorem F.aField_eq (P : Program) : F.aField (TT.of P) = Go.Ev.aField P := by rfl
theorem F.aInt_eq (P : Program) : F.aInt (TT.of P) = Go.Ev.aInt P := by rfl
theorem F.aBin_eq (P : Program) : F.aBin (TT.of P) = Go.Ev.aBin P := by rfl
theorem F.aAppend_eq (P : Program) : F.aAppend (TT.of P) = Go.Ev.aAppend P := by rfl
theorem F.aCopy_eq (P : Program) : F.aCopy (TT.of P) = Go.Ev.aCopy P := by rfl
theorem F.aClear_eq (P : Program) : F.aClear (TT.of P) = Go.Ev.aClear P := by rfl
theorem F.aLen_eq (P : Program) : F.aLen (TT.of P) = Go.Ev.aLen P := by rfl
theorem F.isByteT_eq (P : Program) : F.isByteT (TT.of P) = Go.Ev.isByteT P := by rfl
theorem F.aCap_eq (P : Program) : F.aCap (TT.of P) = Go.Ev.aCap P := by rfl
theorem F.aUnsafeString_eq (P : Program) : F.aUnsafeString (TT.of P) = Go.Ev.aUnsafeString P := by rfl
theorem F.aUnsafePtr_eq (P : Program) : F.aUnsafePtr (TT.of P) = Go.Ev.aUnsafePtr P := by rfl
theorem F.opd_eq (C : Cfg) : F.opd (FC.of C (TT.of C.P)) = Go.Ev.St.opd C := by funext s o; cases o with
  | tmp t => show some (Option.rec (motive := fun _ => AV) AV.undef (fun v => v) (s.tm.get t)) = some ((s.tm.get t).getD .undef); cases s.tm.get t <;> rfl
  | const v => rfl
  | global g => rfl
  | func f => rfl
theorem F.opds_eq (C : Cfg) : F.opds (FC.of C (TT.of C.P)) = Go.Ev.opds C := by funext s l; induction l with
  | nil => rfl
  | cons a l ih => show Option.rec (motive := fun _ => Option (List AV)) none (fun a => Option.rec (motive := fun _ => Option (List AV)) none (fun as => some (a :: as)) (F.opds (FC.of C (TT.of C.P)) s l)) (F.opd (FC.of C (TT.of C.P)) s a) = _; rw [ih, F.opd_eq]; simp only [Go.Ev.opds]; cases s.opd C a <;> cases Go.Ev.opds C s l <;> rfl
theorem F.parts_eq (C : Cfg) : F.parts (FC.of C (TT.of C.P)) = Go.Ev.parts C := by funext s l; induction l with
  | nil => rfl
  | cons a l ih => simp only [F.parts, Go.Ev.parts, ih, F.opd_eq]; rfl
theorem F.opt_eq (C : Cfg) : F.opt (FC.of C (TT.of C.P)) = Go.Ev.opt C := by unfold F.opt Go.Ev.opt; simp only [F.opd_eq]; rfl
theorem F.aConvInt_eq (C : Cfg) : F.aConvInt (FC.of C (TT.of C.P)) = Go.Ev.aConvInt C := by rfl
theorem F.aConvSlice_eq (C : Cfg) : F.aConvSlice (FC.of C (TT.of C.P)) = Go.Ev.aConvSlice C := by rfl
theorem F.aConvert_eq (C : Cfg) : F.aConvert (FC.of C (TT.of C.P)) = Go.Ev.aConvert C := by rfl
theorem F.aBuiltin_eq (C : Cfg) : F.aBuiltin (FC.of C (TT.of C.P)) = Go.Ev.aBuiltin C := by rfl
theorem F.oPick_eq (C : Cfg) : F.oPick (FC.of C (TT.of C.P)) = Go.Ev.oPick C := by unfold F.oPick Go.Ev.oPick; simp only [F.opd_eq]; rfl
theorem F.oBuild_eq (C : Cfg) : F.oBuild (FC.of C (TT.of C.P)) = Go.Ev.oBuild C := by funext s t o; cases o with
  | none => rfl
  | some vs => show ANext.ofO (F.aBuild (TT.of C.P) t vs) s.hp = _; rw [F.aBuild_eq]; rfl
theorem F.oBuildSlice_eq (C : Cfg) : F.oBuildSlice (FC.of C (TT.of C.P)) = Go.Ev.oBuildSlice C := by rfl
theorem F.oStore_eq (C : Cfg) : F.oStore (FC.of C (TT.of C.P)) = Go.Ev.oStore C := by rfl
theorem F.aUn_eq (C : Cfg) : F.aUn (FC.of C (TT.of C.P)) = Go.Ev.aUn C := by rfl
theorem F.oConvert_eq (C : Cfg) : F.oConvert (FC.of C (TT.of C.P)) = Go.Ev.oConvert C := by rfl
theorem F.oMakeSlice_eq (C : Cfg) : F.oMakeSlice (FC.of C (TT.of C.P)) = Go.Ev.oMakeSlice C := by rfl
theorem F.oSlice_eq (C : Cfg) : F.oSlice (FC.of C (TT.of C.P)) = Go.Ev.oSlice C := by rfl
theorem F.oCall_eq (C : Cfg) : F.oCall (FC.of C (TT.of C.P)) = Go.Ev.oCall C := by unfold F.oCall Go.Ev.oCall; simp only [F.opd_eq]; rfl
theorem F.aEqAll_eq (C : Cfg) : F.aEqAll (FC.of C (TT.of C.P)) = Go.Ev.aEqAll C := by rfl
theorem F.aEqIn_eq (C : Cfg) : F.aEqIn (FC.of C (TT.of C.P)) = Go.Ev.aEqIn C := by 
  funext d; induction d with
  | zero => funext t x y; rfl
  | succ d ih => funext t x y; simp only [F.aEqIn, Go.Ev.aEqIn, ih]; rfl
theorem F.aEqAgg_eq (C : Cfg) : F.aEqAgg (FC.of C (TT.of C.P)) = Go.Ev.aEqAgg C := by unfold F.aEqAgg Go.Ev.aEqAgg; simp only [F.aEqIn_eq]; rfl
theorem F.aBinAll_eq (C : Cfg) : F.aBinAll (FC.of C (TT.of C.P)) = Go.Ev.aBinAll C := by unfold F.aBinAll Go.Ev.aBinAll; simp only [F.aEqAgg_eq]; rfl
theorem F.keyOk_eq (C : Cfg) : F.keyOk (FC.of C (TT.of C.P)) = Go.Ev.keyOk C := by unfold F.keyOk Go.Ev.keyOk; simp only [F.aEqIn_eq]; rfl
theorem F.aLookup_eq (C : Cfg) : F.aLookup (FC.of C (TT.of C.P)) = Go.Ev.aLookup C := by unfold F.aLookup Go.Ev.aLookup; simp only [F.aEqIn_eq, F.keyOk_eq]; rfl
theorem F.aMapSet_eq (C : Cfg) : F.aMapSet (FC.of C (TT.of C.P)) = Go.Ev.aMapSet C := by unfold F.aMapSet Go.Ev.aMapSet; simp only [F.aEqIn_eq, F.keyOk_eq]; rfl
theorem F.oMapSet_eq (C : Cfg) : F.oMapSet (FC.of C (TT.of C.P)) = Go.Ev.oMapSet C := by unfold F.oMapSet Go.Ev.oMapSet; simp only [F.aMapSet_eq]; rfl
theorem F.oMakeMap_eq (C : Cfg) : F.oMakeMap (FC.of C (TT.of C.P)) = Go.Ev.oMakeMap C := by rfl
theorem F.aOp_eq (C : Cfg) : F.aOp (FC.of C (TT.of C.P)) = Go.Ev.aOp C := by unfold F.aOp Go.Ev.aOp; simp only [F.opd_eq, F.opds_eq, F.parts_eq, F.opt_eq, F.oPick_eq, F.oBuild_eq, F.oCall_eq, F.aBinAll_eq, F.aLookup_eq, F.oMapSet_eq]; rfl
theorem F.evOp_eq (C : Cfg) : F.evOp (FC.of C (TT.of C.P)) = Go.Ev.evOp C := by 
  funext R s o
  show Option.rec (motive := fun _ => Option St) none (F.evK (FC.of C (TT.of C.P)) R s o.dst) (F.aOpR o.op (FC.of C (TT.of C.P)) s) = _
  rw [F.aOpR_eq, F.aOp_eq]
  unfold Go.Ev.evOp
  cases Go.Ev.aOp C s o with
  | none => rfl
  | some p =>
    obtain ⟨n, h⟩ := p
    cases n with
    | val v => show some (F.put' s o.dst v h) = _; rw [F.put'_eq]
    | skip => show some (F.put' s o.dst .undef h) = _; rw [F.put'_eq]
    | enter f args =>
      show Option.rec (motive := fun _ => Option St) none (F.kPut s o.dst) (Option.rec (motive := fun _ => Option (AV × Hp)) (R.call f args h) (fun g => g args h) (C.ext f)) = _
      simp only
      cases C.ext f with
      | none => cases hc : R.call f args h with
        | none => rfl
        | some p => obtain ⟨v, h2⟩ := p; show some (F.put' s o.dst v h2) = _; rw [F.put'_eq]
      | some g => cases hc : g args h with
        | none => simp only [hc]
        | some p => obtain ⟨v, h2⟩ := p; simp only [hc]; show some (F.put' s o.dst v h2) = _; rw [F.put'_eq]
    | yld l args =>
      show Option.rec (motive := fun _ => Option St) none (fun p => some (F.put' s o.dst (.bool p.1) p.2)) (R.yld l args h) = _
      simp only
      cases R.yld l args h with
      | none => rfl
      | some p => obtain ⟨b, h2⟩ := p; show some (F.put' s o.dst (.bool b) h2) = _; rw [F.put'_eq]
theorem F.evStep_eq (C : Cfg) : F.evStep (FC.of C (TT.of C.P)) = Go.Ev.evStep C := by 
  funext R ops s o
  unfold Go.Ev.evStep
  cases hg : o.guard with
  | none =>
    show Option.rec (motive := fun _ => FC → Rec → List Oper → St → Oper → Option St) F.evBare F.evGuarded o.guard (FC.of C (TT.of C.P)) R ops s o = _
    rw [hg]
    have : aWanted ops s o = some true := by unfold aWanted; rw [hg]
    rw [this]
    show F.evOp (FC.of C (TT.of C.P)) R s o = _
    rw [F.evOp_eq]
  | some g =>
    show Option.rec (motive := fun _ => FC → Rec → List Oper → St → Oper → Option St) F.evBare F.evGuarded o.guard (FC.of C (TT.of C.P)) R ops s o = _
    rw [hg]
    show F.evGuarded g (FC.of C (TT.of C.P)) R ops s o = _
    unfold F.evGuarded
    simp only [F.evOp_eq, put'_eq]
    rfl
theorem F.trace_eq (C : Cfg) : F.trace (FC.of C (TT.of C.P)) = Go.Ev.trace C := by funext R ops l; induction l with
  | nil => rfl
  | cons a l ih => funext s; simp only [F.trace, Go.Ev.trace, ih, F.evStep_eq]; rfl
theorem F.obsOk_eq (C : Cfg) : F.obsOk (FC.of C (TT.of C.P)) = Go.Ev.obsOk C := by unfold F.obsOk Go.Ev.obsOk; simp only [F.aOp_eq]; rfl
theorem F.pairDyn_eq (C : Cfg) : F.pairDyn (FC.of C (TT.of C.P)) = Go.Ev.pairDyn C := by unfold F.pairDyn Go.Ev.pairDyn; simp only [F.obsOk_eq]; rfl
theorem F.drawDyn_eq (C : Cfg) : F.drawDyn (FC.of C (TT.of C.P)) = Go.Ev.drawDyn C := by unfold F.drawDyn Go.Ev.drawDyn; simp only [F.pairDyn_eq]
theorem F.evOps_eq (C : Cfg) : F.evOps (FC.of C (TT.of C.P)) = Go.Ev.evOps C := by 
  funext R ops l; induction l with
  | nil => rfl
  | cons a l ih => funext s; show Option.rec (motive := fun _ => Option St) none (F.evOps (FC.of C (TT.of C.P)) R ops l) (F.evStep (FC.of C (TT.of C.P)) R ops s a) = _; rw [ih, F.evStep_eq]; simp only [Go.Ev.evOps]; cases Go.Ev.evStep C R ops s a <;> rfl
theorem F.evDraw_eq (C : Cfg) : F.evDraw (FC.of C (TT.of C.P)) = Go.Ev.evDraw C := by 
  funext R ops s
  have h1 : ∀ tr, Go.Ev.drawDyn C ops tr = (ops.all isObs || (F.dynPairs ops).all (fun x => F.dynOk (FC.of C (TT.of C.P)) ops tr x.1 x.2.1 x.2.2)) := by
    intro tr
    unfold Go.Ev.drawDyn F.dynPairs
    rw [List.all_flatMap]
    congr 1
    congr 1
    funext ⟨oj, j⟩
    rw [List.all_filterMap]
    show (ops.zipIdx.all fun x => Go.Ev.pairDyn C ops (pres ops) tr j x.2 oj x.1) = _
    congr 1
    funext ⟨oe, e⟩
    unfold Go.Ev.pairDyn F.dynOk
    simp only [F.obsOk_eq]
    cases (!isObs oj || isFree oj || isObs oe || preB (pres ops) e j || preB (pres ops) j e) <;> rfl
  have h2 : ∀ (l : List Oper) (s : St), F.evOps (FC.of C (TT.of C.P)) R ops l s = match Go.Ev.trace C R ops l s with | some tr => tr[l.length]? | none => none := by
    rw [F.evOps_eq]
    intro l
    induction l with
    | nil => intro s; rfl
    | cons o l ih =>
      intro s
      simp only [Go.Ev.evOps, Go.Ev.trace]
      cases Go.Ev.evStep C R ops s o with
      | none => rfl
      | some s' =>
        simp only [ih]
        cases Go.Ev.trace C R ops l s' with
        | none => rfl
        | some tr => simp
  unfold F.evDraw Go.Ev.evDraw
  simp only [F.trace_eq, h1]
  cases drawStatic ops with
  | false => rfl
  | true =>
    simp only [cond_true]
    cases hc : ((ops.all isObs || (F.dynPairs ops).isEmpty) && (flts ops (pres ops)).isEmpty) with
    | false => rfl
    | true =>
      simp only [cond_true]
      rw [Bool.and_eq_true, Bool.or_eq_true] at hc
      obtain ⟨hc, hf⟩ := hc
      have hd : ∀ tr, (ops.all isObs || (F.dynPairs ops).all (fun x => F.dynOk (FC.of C (TT.of C.P)) ops tr x.1 x.2.1 x.2.2)) = true := fun tr => by
        rcases hc with hc | hc
        · rw [hc]; rfl
        · rw [List.isEmpty_iff.1 hc]; simp
      simp only [hd, hf, Bool.true_or, Bool.and_self, cond_true]
      exact h2 ops s
theorem F.cRegion_eq (C : Cfg) : F.cRegion (FC.of C (TT.of C.P)) = Go.Ev.cRegion C := by unfold F.cRegion Go.Ev.cRegion; simp only [F.evOps_eq, F.evDraw_eq]
theorem F.cCond_eq (C : Cfg) : F.cCond (FC.of C (TT.of C.P)) = Go.Ev.cCond C := by unfold F.cCond Go.Ev.cCond; simp only [F.opd_eq]; rfl
theorem F.cRange_eq (C : Cfg) : F.cRange (FC.of C (TT.of C.P)) = Go.Ev.cRange C := by unfold F.cRange Go.Ev.cRange; simp only [F.opd_eq]; rfl
theorem F.evCode_eq (C : Cfg) : F.evCode (FC.of C (TT.of C.P)) = Go.Ev.evCode C := by unfold F.evCode Go.Ev.evCode; simp only [F.cRegion_eq, F.cCond_eq, F.cRange_eq]; rfl
theorem F.aResults_eq (C : Cfg) : F.aResults (FC.of C (TT.of C.P)) = Go.Ev.aResults C := by funext s l; induction l with
  | nil => rfl
  | cons a l ih => cases a <;> (simp only [F.aResults, Go.Ev.aResults, ih]; rfl)
theorem F.leave_eq (C : Cfg) : F.leave (FC.of C (TT.of C.P)) = Go.Ev.leave C := by 
  have hg : F.leave.go (FC.of C (TT.of C.P)) = Go.Ev.leave.go C := by unfold F.leave.go Go.Ev.leave.go; simp only [F.aResults_eq]; rfl
  unfold F.leave Go.Ev.leave; simp only [hg]; rfl
theorem F.evBody_eq (C : Cfg) : F.evBody (FC.of C (TT.of C.P)) = Go.Ev.evBody C := by unfold F.evBody Go.Ev.evBody; simp only [F.leave_eq, F.evCode_eq, force_eq]; rfl
theorem F.evFun_eq (C : Cfg) : F.evFun (FC.of C (TT.of C.P)) = Go.Ev.evFun C := by unfold F.evFun Go.Ev.evFun; simp only [F.evBody_eq]; rfl
theorem F.evYld_eq (C : Cfg) : F.evYld (FC.of C (TT.of C.P)) = Go.Ev.evYld C := by unfold F.evYld Go.Ev.evYld; simp only [F.evCode_eq]; rfl
theorem F.same (C : Cfg) : ∀ d, F.evRec (FC.of C (TT.of C.P)) d = Go.Ev.evRec C d
  | 0 => rfl
  | d + 1 => by
    show (⟨F.evFun (FC.of C (TT.of C.P)) (F.evRec (FC.of C (TT.of C.P)) d), F.evYld (FC.of C (TT.of C.P)) (F.evRec (FC.of C (TT.of C.P)) d)⟩ : Rec) = ⟨Go.Ev.evFun C (Go.Ev.evRec C d), Go.Ev.evYld C (Go.Ev.evRec C d)⟩
    rw [F.same C d, F.evFun_eq, F.evYld_eq]
theorem TT.fast_eq (P : Program) : TT.fast P (fillT 0 P.types.toList .lf) (fillT 0 P.funcs.toList .lf) = TT.of P := by
  have hi : infoF P (fillT 0 P.types.toList .lf) = P.info? := by
    funext t
    unfold infoF
    rw [fillT_get]
    by_cases h : t < P.types.size
    · have hin : P.types[t]? = some P.types[t] := by simp [h]
      have : P.info? t = P.types[t]? := if_pos h
      rw [if_pos ⟨Nat.zero_le _, by simpa using h⟩, this, hin]
      simp [h]
    · rw [if_neg (by intro ⟨_, hx⟩; simp at hx; exact h hx), Tr.get_lf]
  have hf : fnF P (fillT 0 P.funcs.toList .lf) = fun f => P.funcs[f]? := by
    funext f
    unfold fnF
    rw [fillT_get]
    by_cases h : f < P.funcs.size
    · have hin : P.funcs[f]? = some P.funcs[f] := by simp [h]
      rw [if_pos ⟨Nat.zero_le _, by simpa using h⟩, hin]
      simp [h]
    · rw [if_neg (by intro ⟨_, hx⟩; simp at hx; exact h hx), Tr.get_lf]
  have hu : undF P (fillT 0 P.types.toList .lf) = P.underlying := by
    funext t
    unfold undF Program.underlying
    rw [hi]
    rfl
  unfold TT.fast TT.of
  rw [hi, hf, hu]
theorem F.eq {C : Cfg} {T : TT} (h : T = TT.of C.P) (d : Nat) : F.evRec (FC.of C T) d = Go.Ev.evRec C d := by subst h; exact F.same C d
end Go.Ev