/-
  The evaluator's operations put together, regions, code and calls. No theorem stands in this text.
-/
import Derived.Test.YtjggeombkbianaaEvA
import Derived.RangeFuncRecord
import Derived.OrdersIn
import Derived.LoopNIn
namespace Go.Ev
open Go

/-- What the evaluator is handed besides the program: which package-level variables it may read (their objects' numbers), and calls that are known by themselves. -/
structure Cfg where
  P : Program
  glob : Nat → Option Nat
  prim : FuncId → Option (List AV → Hp → Option (AV × Hp))
  ext : FuncId → Option (List AV → Hp → Option (AV × Hp))
  lim : Nat

section
variable (C : Cfg)

noncomputable def St.opd (s : St) : Operand → Option AV
  | .tmp t => some ((s.tm.get t).getD .undef)
  | .const v => ofV v
  | .global g => (C.glob g).map fun r => .ptr r 0
  | .func f => some (.fn f [] [])

noncomputable def opds (s : St) : List Operand → Option (List AV)
  | [] => some []
  | x :: xs => match s.opd C x, opds s xs with
    | some a, some as => some (a :: as)
    | _, _ => none
noncomputable def parts (s : St) : List (Nat × Operand) → Option (List (Nat × AV))
  | [] => some []
  | (i, x) :: xs => match s.opd C x, parts s xs with
    | some a, some as => some ((i, a) :: as)
    | _, _ => none
noncomputable def opt (s : St) : Option Operand → Option (Option AV)
  | none => some none
  | some x => match s.opd C x with
    | some a => some (some a)
    | none => none

/-- A conversion between ints and bytes, told by the numbers of the types alone. -/
noncomputable def convI (s d : TypeId) : Bool := (Nat.beq s 3 && Nat.beq d 5) || (Nat.beq s 5 && Nat.beq d 3)
noncomputable def aConvInt (src dst : TypeId) (x : AV) : Option AV :=
  match C.P.underlying src, C.P.underlying dst, x with
  | some _, some (.int k), .int _ n => some (.int k (fwrap k n))
  | some _, some (.int k), .cong _ m r => bif keq k .i8 then none else some (.cong k m r)
  | _, _, _ => none
/-- A byte slice as itself: its row may not be written any more. -/
noncomputable def aConvSlice (h : Hp) (src dst e : TypeId) (r off len cap esz : Nat) (ex : Bool) : Option (AV × Hp) :=
  bif Nat.beq src dst then (match C.P.underlying e, h.get r with
    | some (.int .u8), some (.row elem cells fam true) => match h.fams.get fam with
      | some ms => some (.slice r off len cap esz ex, { (h.kill r ms) with objs := (h.kill r ms).objs.set r (.row elem cells fam false), fams := h.fams.set fam [r] })
      | none => none
    | _, _ => none) else none
noncomputable def aConvert (h : Hp) (src dst : TypeId) (x : AV) : Option (AV × Hp) :=
  bif convI src dst then (match aConvInt C src dst x with | some v => some (v, h) | none => none) else
  match C.P.underlying src, C.P.underlying dst, x with
  | some _, some (.int k), .int _ n => some (.int k (fwrap k n), h)
  | some _, some (.int k), .cong _ m r => bif keq k .i8 then none else some (.cong k m r, h)
  | some _, some .string, .str s => some (.str s, h)
  | some (.int _), some .string, .int _ n => some (.str (Utf8.encode n).data.toList, h)
  | some .string, some (.slice e), .str s => match C.P.underlying e with
    | some (.int .u8) => if sizeB C.P e = some 1 ∧ s.length < 2147483648 then some (.slice h.next 0 s.length s.length 1 false, h.row e (s.map fun b => .int .u8 (.ofNat b.toNat))) else none
    | _ => none
  | some (.slice e), some .string, x => match C.P.underlying e, sLenA x with
    | some (.int .u8), some n => match sliceCells h 1 n x with
      | some cs => match bytesA cs with
        | some s => some (.str s, h)
        | none => none
      | none => none
    | _, _ => none
  | some (.slice _), some (.slice e), .slice r off len cap esz ex => aConvSlice C h src dst e r off len cap esz ex
  | some (.pointer _), some .unsafePointer, x => (aUnsafePtr C.P h src dst x).map fun v => (v, h)
  | some .unsafePointer, some (.pointer _), x => (aUnsafePtr C.P h src dst x).map fun v => (v, h)
  | _, _, _ => none

noncomputable def aExtract (x : AV) (i : Nat) : Option AV :=
  match x with
  | .tup vs => vs[i]?
  | _ => none

noncomputable def minmax (mx : Bool) : AV → List AV → Option AV
  | a, [] => some a
  | .int k x, .int _ y :: rest => minmax mx (.int k (bif mx then (if y > x then y else x) else (if y < x then y else x))) rest
  | _, _ => none

noncomputable def aBuiltin (h : Hp) (b : Builtin) (argTypes : Array TypeId) (args : List AV) : Option (ANext × Hp) :=
  match b, args with
  | .append, [s, x] => ANext.ofP (aAppend C.P h argTypes s x)
  | .copy, [d, x] => ANext.ofP (aCopy C.P h argTypes d x)
  | .clear, [x] => ANext.ofP (aClear C.P h argTypes x)
  | .len, [x] => ANext.ofO (aLen C.P h argTypes x) h
  | .cap, [x] => ANext.ofO (aCap C.P argTypes x) h
  | .unsafeString, [p, n] => match argTypes.toList[0]? with
    | some _ => ANext.ofP (aUnsafeString C.P h argTypes p n)
    | none => none
  | .unsafeSliceData, [.slice r off _ (_ + 1) _ _] => some (.val (.ptr r off), h)
  | .unsafeSliceData, [.nils] => some (.val .nilp, h)
  | .max, a :: rest => ANext.ofO (minmax true a rest) h
  | .min, a :: rest => ANext.ofO (minmax false a rest) h
  | _, _ => none

noncomputable def oPick (s : St) (c a b : Operand) : Option (ANext × Hp) :=
  match s.opd C c with
  | some (.bool true) => ANext.ofO (s.opd C a) s.hp
  | some (.bool false) => ANext.ofO (s.opd C b) s.hp
  | _ => none
noncomputable def newBox (h : Hp) (t : TypeId) : Option AV → Option (ANext × Hp)
  | some v => if v.cells.all AV.one = true then some (.val (.ptr h.next 0), h.row t v.cells) else none
  | none => none
noncomputable def oBuild (s : St) (t : TypeId) : Option (List (Nat × AV)) → Option (ANext × Hp)
  | some vs => ANext.ofO (aBuild C.P t vs) s.hp
  | none => none
noncomputable def oBuildSlice (s : St) (t : TypeId) (n : Nat) : Option (List (Nat × AV)) → Option (ANext × Hp)
  | some vs => ANext.ofP (aBuildSlice C.P s.hp t n vs)
  | none => none
noncomputable def oStore (s : St) (t : TypeId) : Option AV → Option AV → Option (ANext × Hp)
  | some p, some v => ANext.ofU (aStore C.P s.hp t p v)
  | _, _ => none
noncomputable def oNil (h : Hp) : Option AV → Option (ANext × Hp)
  | some (.ptr r off) => some (.val (.ptr r off), h)
  | some (.fn f a b) => some (.val (.fn f a b), h)
  | some (.yld l) => some (.val (.yld l), h)
  | _ => none
noncomputable def o1 (f : AV → Option AV) (h : Hp) : Option AV → Option (ANext × Hp)
  | some v => ANext.ofO (f v) h
  | none => none
noncomputable def o2 (f : AV → AV → Option AV) (h : Hp) : Option AV → Option AV → Option (ANext × Hp)
  | some v, some x => ANext.ofO (f v x) h
  | _, _ => none
noncomputable def aUn (op : UnOp) : AV → Option AV
  | .int k n => ofIntV (runPure C.P (Op.unary op (.int k n)))
  | .bool b => ofIntV (runPure C.P (Op.unary op (.bool b)))
  | _ => none
noncomputable def oConvert (h : Hp) (src dst : TypeId) : Option AV → Option (ANext × Hp)
  | some v => ANext.ofP (aConvert C h src dst v)
  | none => none
noncomputable def oMakeFunc (h : Hp) : Fn → Option (List AV) → Option (List AV) → Option (ANext × Hp)
  | .func f, some a, some b => some (.val (.fn f a b), h)
  | _, _, _ => none
noncomputable def oMakeSlice (h : Hp) (t : TypeId) : Option AV → Option AV → Option (ANext × Hp)
  | some a, some b => ANext.ofP (aMakeSlice C.P h t a b)
  | _, _ => none
noncomputable def oSlice (h : Hp) (t : TypeId) : Option AV → Option (Option AV) → Option (Option AV) → Option (Option AV) → Option (ANext × Hp)
  | some v, some l, some k, some m => ANext.ofO (aSlice C.P h t v l k m) h
  | _, _, _, _ => none
noncomputable def oEnter (h : Hp) (args : List AV) : Option AV → Option (ANext × Hp)
  | some (.fn f first captured) => some (.enter f (first ++ args ++ captured), h)
  | some (.yld l) => some (.yld l args, h)
  | _ => none
noncomputable def oCall (s : St) (c : Call) : Option (List AV) → Option (ANext × Hp)
  | some args => match c.callee with
    | .builtin b => aBuiltin C s.hp b c.argTypes args
    | .value f => oEnter s.hp args (s.opd C f)
    | .invoke _ _ => none
  | none => none

noncomputable def aEqAll (t : TypeId) (x y : AV) : Option Bool :=
  match C.P.underlying t, x, y with
  | some (.pointer _), .nilp, .nilp => some true
  | some (.pointer _), .nilp, .ptr _ _ => some false
  | some (.pointer _), .ptr _ _, .nilp => some false
  | some (.pointer e), .ptr r a, .ptr r' b => match sizeB C.P e with
    | some (_ + 1) => if r = r' then some (a == b) else none
    | _ => none
  | some (.slice _), .nils, .nils => some true
  | some (.slice _), .nils, .slice _ _ _ _ _ _ => some false
  | some (.slice _), .nils, .esl => some false
  | some (.slice _), .slice _ _ _ _ _ _, .nils => some false
  | some (.slice _), .esl, .nils => some false
  | some (.map _ _), .nilm, .nilm => some true
  | some (.map _ _), .nilm, .map _ => some false
  | some (.map _ _), .map _, .nilm => some false
  | some (.func _ _ _), .nilf, .nilf => some true
  | some (.func _ _ _), .nilf, .fn _ _ _ => some false
  | some (.func _ _ _), .fn _ _ _, .nilf => some false
  | _, _, _ => none
/-- Equality of structs and arrays, part by part. -/
noncomputable def eqFs (g : TypeId → AV → AV → Option Bool) (pt : TypeId → List AV → Nat → Option AV) (xs ys : List AV) : List Field → Option Bool
  | [] => some true
  | f :: fs => if f.name ≠ "_" then
      match pt f.type xs f.offset, pt f.type ys f.offset with
      | some a, some b => match g f.type a b with
        | some true => eqFs g pt xs ys fs
        | some false => some false
        | none => none
      | _, _ => none
    else eqFs g pt xs ys fs
noncomputable def eqIs (g : TypeId → AV → AV → Option Bool) (pt : TypeId → List AV → Nat → Option AV) (e : TypeId) (s : Nat) (xs ys : List AV) : Nat → Nat → Option Bool
  | 0, _ => some true
  | n + 1, i => match pt e xs (i * s), pt e ys (i * s) with
    | some a, some b => match g e a b with
      | some true => eqIs g pt e s xs ys n (i + 1)
      | some false => some false
      | none => none
    | _, _ => none
noncomputable def aEqIn : Nat → TypeId → AV → AV → Option Bool
  | 0, _, _, _ => none
  | d + 1, t, x, y => match C.P.underlying t, x, y with
    | some .bool, .bool a, .bool b => some (a == b)
    | some (.int _), .int k a, .int k' b => bif keq k k' then some (ieq a b) else none
    | some .string, .str a, .str b => some (a == b)
    | some (.struct fs), .agg xs, .agg ys => bif C.P.stoodInHeld t then none else eqFs (aEqIn d) (aPart C.P) xs ys fs.toList
    | some (.array n e), .agg xs, .agg ys => match C.P.info? e with
      | some i => eqIs (aEqIn d) (aPart C.P) e i.size xs ys n 0
      | none => none
    | _, _, _ => none
noncomputable def aEqAgg (t : TypeId) (x y : AV) : Option Bool :=
  match x, y with
  | .agg _, .agg _ => bif C.P.eqGuardType C.P.depth t then none else aEqIn C 8 t x y
  | _, _ => none
/-- Comparisons with a whole number of which a lower bound alone is known. -/
noncomputable def aBig (op : BinOp) : AV → AV → Option AV
  | .int .i64 a, .big lo => bif ilt a (.ofNat lo) then
      match op with
      | .lss => some (.bool true)
      | .leq => some (.bool true)
      | .neq => some (.bool true)
      | .gtr => some (.bool false)
      | .geq => some (.bool false)
      | .eql => some (.bool false)
      | _ => none
    else none
  | .big lo, .int .i64 b => bif ilt b (.ofNat lo) then
      match op with
      | .lss => some (.bool false)
      | .leq => some (.bool false)
      | .neq => some (.bool true)
      | .gtr => some (.bool true)
      | .geq => some (.bool true)
      | .eql => some (.bool false)
      | _ => none
    else none
  | _, _ => none
/-- The remainder of a small whole number that is known by its remainder alone. -/
noncomputable def aCong (op : BinOp) : AV → AV → Option AV
  | .cong k m r, .int k' (.ofNat d) => bif keq k k' && (Nat.beq d m && Nat.ble 1 m) then
      match op with
      | .rem => some (.int k (.ofNat r))
      | _ => none
    else none
  | _, _ => none
noncomputable def aBinAll (op : BinOp) (t : TypeId) (x y : AV) : Option AV :=
  match aBin C.P op t x y with
  | some v => some v
  | none => match aBig op x y with
  | some v => some v
  | none => match aCong op x y with
  | some v => some v
  | none => match op with
    | .eql => match aEqAgg C t x y with
      | some b => some (.bool b)
      | none => (aEqAll C t x y).map .bool
    | .neq => match aEqAgg C t x y with
      | some b => some (.bool !b)
      | none => (aEqAll C t x y).map fun b => .bool !b
    | _ => none
mutual
noncomputable def same : AV → AV → Bool
  | .bool a, .bool b => a == b
  | .int j a, .int k b => keq j k && ieq a b
  | .str a, .str b => a == b
  | .nilp, .nilp => true
  | .ptr a b, .ptr c d => Nat.beq a c && Nat.beq b d
  | .nils, .nils => true
  | .esl, .esl => true
  | .slice a b c d s e, .slice a' b' c' d' s' e' => Nat.beq a a' && Nat.beq b b' && Nat.beq c c' && Nat.beq d d' && Nat.beq s s' && (e == e')
  | .nilm, .nilm => true
  | .map a, .map b => Nat.beq a b
  | .fn f a b, .fn f' a' b' => Nat.beq f f' && sames a a' && sames b b'
  | .yld a, .yld b => Nat.beq a b
  | .nilf, .nilf => true
  | .nili, .nili => true
  | .agg a, .agg b => sames a b
  | .tup a, .tup b => sames a b
  | .big a, .big b => Nat.beq a b
  | .cong k m r, .cong k' m' r' => keq k k' && Nat.beq m m' && Nat.beq r r'
  | _, _ => false
noncomputable def sames : List AV → List AV → Bool
  | [], [] => true
  | a :: as, b :: bs => same a b && sames as bs
  | _, _ => false
end
/-- Values that are known to the last bit. -/
noncomputable def flatC : AV → Bool
  | .bool _ => true
  | .int _ _ => true
  | .str _ => true
  | _ => false
noncomputable def flatA : AV → Bool
  | .agg cs => cs.all flatC
  | v => flatC v
noncomputable def findE (eq : AV → AV → Option Bool) (k : AV) : List (AV × AV × Nat) → Nat → Option (Option (Nat × AV))
  | [], _ => some none
  | e :: es, i => match eq k e.1 with
    | some true => some (some (i, e.2.1))
    | some false => findE eq k es (i + 1)
    | none => none
/-- May a key be asked for? -/
noncomputable def keyOk (kt : TypeId) (k : AV) : Bool :=
  match aEqIn C 8 kt k k with
  | some true => flatA k
  | _ => false
noncomputable def aMapGet (h : Hp) : AV → Option (List (AV × AV × Nat))
  | .nilm => some []
  | .map r => match h.get r with
    | some (.map es _) => some es
    | _ => none
  | _ => none
noncomputable def aLookup (h : Hp) (t : TypeId) (ok : Bool) (x k : AV) : Option AV :=
  match C.P.underlying t with
  | some (.map kt et) => match aMapGet h x with
    | some es => bif keyOk C kt k then
        match findE (aEqIn C 8 kt) k es 0 with
        | some (some p) => some (bif ok then .tup [p.2, .bool true] else p.2)
        | some none => match zeroB C.P et with
          | some z => some (bif ok then .tup [z, .bool false] else z)
          | none => none
        | none => none
      else none
    | none => none
  | _ => none
noncomputable def aMapSet (h : Hp) (t : TypeId) (x k v : AV) : Option Hp :=
  match C.P.underlying t, x with
  | some (.map kt _), .map r => match h.get r with
    | some (.map es clock) => bif keyOk C kt k then
        match findE (aEqIn C 8 kt) k es 0 with
        | some (some p) => match es[p.1]? with
          | some e => bif same k e.1 then some (h.put r (.map (es.set p.1 (k, v, e.2.2)) clock)) else none
          | none => none
        | some none => some (h.put r (.map (es ++ [(k, v, clock)]) (clock + 1)))
        | none => none
      else none
    | _ => none
  | _, _ => none
noncomputable def oMapSet (s : St) (t : TypeId) : Option AV → Option AV → Option AV → Option (ANext × Hp)
  | some x, some k, some v => ANext.ofU (aMapSet C s.hp t x k v)
  | _, _, _ => none
noncomputable def oMakeMap (h : Hp) (t : TypeId) : Option (Option AV) → Option (ANext × Hp)
  | some none => some (.val (.map h.next), h.new (.map [] 0))
  | some (some (.int _ _)) => match C.P.underlying t with
    | some (.map _ _) => some (.val (.map h.next), h.new (.map [] 0))
    | _ => none
  | _ => none
noncomputable def aOp (s : St) (o : Oper) : Option (ANext × Hp) :=
  match o.op with
  | .move x => ANext.ofO (s.opd C x) s.hp
  | .assign x => ANext.ofO (s.opd C x) s.hp
  | .pick c a b => oPick C s c a b
  | .alloc t => newBox s.hp t (zeroB C.P t)
  | .box t x => newBox s.hp t (s.opd C x)
  | .build t ps => oBuild C s t (parts C s ps.toList)
  | .buildSlice t n ps => oBuildSlice C s t n (parts C s ps.toList)
  | .load t a => o1 (aLoad C.P s.hp t) s.hp (s.opd C a)
  | .store t a x => oStore C s t (s.opd C a) (s.opd C x)
  | .nilCheck x => oNil s.hp (s.opd C x)
  | .binOp op t x y _ => o2 (aBinAll C op t) s.hp (s.opd C x) (s.opd C y)
  | .unOp op _ x => o1 (aUn C op) s.hp (s.opd C x)
  | .convert src dst x => oConvert C s.hp src dst (s.opd C x)
  | .makeFunc fn first captured => oMakeFunc s.hp fn (opds C s first.toList) (opds C s captured.toList)
  | .makeSlice t l c => oMakeSlice C s.hp t (s.opd C l) (s.opd C c)
  | .slice t x lo hi mx => oSlice C s.hp t (s.opd C x) (opt C s lo) (opt C s hi) (opt C s mx)
  | .fieldAddr t x f => o1 (fun v => aFieldAddr C.P t v f) s.hp (s.opd C x)
  | .field t x f => o1 (fun v => aField C.P t v f) s.hp (s.opd C x)
  | .indexAddr t x i => o2 (aIndexAddr C.P t) s.hp (s.opd C x) (s.opd C i)
  | .index t x i => o2 (aIndex C.P t) s.hp (s.opd C x) (s.opd C i)
  | .extract t i => o1 (fun v => aExtract v i) s.hp (s.opd C t)
  | .call c => oCall C s c (opds C s c.args.toList)
  | .makeMap t r => oMakeMap C s.hp t (opt C s r)
  | .lookup t x k ok => o2 (aLookup C s.hp t ok) s.hp (s.opd C x) (s.opd C k)
  | .mapUpdate t x k v => oMapSet C s t (s.opd C x) (s.opd C k) (s.opd C v)
  | .insert t x k v => oMapSet C s t (s.opd C x) (s.opd C k) (s.opd C v)
  | _ => none

noncomputable def St.put (s : St) (dst : Option Tmp) (v : AV) : St :=
  match dst with
  | some d => if d < s.n then { s with tm := s.tm.set d v } else s
  | none => s

/-- The calls: of functions, and of a loop's yield. -/
structure Rec where
  call : FuncId → List AV → Hp → Option (AV × Hp)
  yld : Nat → List AV → Hp → Option (Bool × Hp)

noncomputable def evOp (R : Rec) (s : St) (o : Oper) : Option St :=
  match aOp C s o with
  | some (.val v, h) => some ({ s with hp := h }.put o.dst v)
  | some (.skip, h) => some ({ s with hp := h }.put o.dst .undef)
  | some (.enter f args, h) => match C.ext f with
    | some g => match g args h with
      | some (v, h) => some ({ s with hp := h }.put o.dst v)
      | none => none
    | none => match R.call f args h with
      | some (v, h) => some ({ s with hp := h }.put o.dst v)
      | none => none
  | some (.yld l args, h) => match R.yld l args h with
    | some (b, h) => some ({ s with hp := h }.put o.dst (.bool b))
    | none => none
  | none => none

/-- Is this operation to be carried out? -/
noncomputable def aWanted (ops : List Oper) (s : St) (o : Oper) : Option Bool :=
  match o.guard with
  | none => some true
  | some (j, want) => match ops[j]? with
    | some oj => match oj.dst with
      | some d => match s.tm.get d with
        | some (.bool b) => some (b == want)
        | some .unk => none
        | _ => some false
      | none => some false
    | none => some false

noncomputable def iter (f : St → Option (Exit × St)) : Nat → St → Option (Exit × St)
  | 0, _ => none
  | k + 1, s => match f s with
    | some (.normal, s) => iter f k s
    | r => r

/-! A region whose order is open: in whatever order its operations are carried out, the same comes of it. -/
noncomputable def edgesOf (o : Oper) : List Nat := (o.after.toList.filter (Region.binds .any)).map (·.on)
noncomputable def looksOf (ops : List Oper) (o : Oper) : List Tmp :=
  (o.op.operands.toList.filterMap fun | .tmp t => some t | _ => none) ++
  (match o.guard with
   | some (g, _) => ((ops[g]?).bind (·.dst)).toList
   | none => [])
/-- What must have been carried out ahead of each operation. -/
noncomputable def presGo : List Oper → List (List Nat) → List (List Nat)
  | [], acc => acc
  | o :: rest, acc => presGo rest (acc ++ [(edgesOf o) ++ (edgesOf o).flatMap fun i => acc.getD i []])
noncomputable def pres (ops : List Oper) : List (List Nat) := presGo ops []
/-- An operation that reads memory at most. -/
noncomputable def isObs (o : Oper) : Bool :=
  match o.op with
  | .move _ => true
  | .assign _ => true
  | .pick _ _ _ => true
  | .build _ _ => true
  | .load _ _ => true
  | .nilCheck _ => true
  | .binOp _ _ _ _ _ => true
  | .unOp _ _ _ => true
  | .makeFunc _ _ _ => true
  | .slice _ _ _ _ _ => true
  | .fieldAddr _ _ _ => true
  | .field _ _ _ => true
  | .indexAddr _ _ _ => true
  | .index _ _ _ => true
  | .convert s d _ => convI s d
  | .extract _ _ => true
  | .lookup _ _ _ _ => true
  | .call c => match c.callee with
    | .builtin .len => true
    | .builtin .cap => true
    | .builtin .max => true
    | .builtin .min => true
    | .builtin .unsafeSliceData => true
    | _ => false
  | _ => false
/-- An operation that does not look at memory at all. -/
noncomputable def isFree (o : Oper) : Bool :=
  match o.op with
  | .move _ => true
  | .assign _ => true
  | .pick _ _ _ => true
  | .build _ _ => true
  | .nilCheck _ => true
  | .binOp _ _ _ _ _ => true
  | .unOp _ _ _ => true
  | .makeFunc _ _ _ => true
  | .fieldAddr _ _ _ => true
  | .field _ _ _ => true
  | .indexAddr _ _ _ => true
  | .index _ _ _ => true
  | .convert s d _ => convI s d
  | .extract _ _ => true
  | _ => false
/-- An operation that does nothing but lay a new row. -/
noncomputable def isAl (o : Oper) : Bool :=
  o.guard.isNone && match o.op with
  | .alloc _ => true
  | .box _ _ => true
  | .buildSlice _ _ _ => true
  | .makeSlice _ _ _ => true
  | _ => false
noncomputable def preB (ps : List (List Nat)) (i j : Nat) : Bool := (ps.getD j []).contains i
/-- The check of a region's operations by themselves: i and j. -/
noncomputable def pairOk (ops : List Oper) (ps : List (List Nat)) (i j : Nat) (oi oj : Oper) : Bool :=
  (match oi.dst with
   | some d => oj.dst != some d && (!(looksOf ops oj).contains d || preB ps i j || preB ps j i)
   | none => true) &&
  (isObs oi || isObs oj || preB ps i j || preB ps j i || bif Nat.blt i j then isAl oj else isAl oi)
/-- A row that may be laid ahead of an earlier effect. -/
noncomputable def flts (ops : List Oper) (ps : List (List Nat)) : List Nat :=
  ops.zipIdx.filterMap fun x => bif isAl x.1 && ops.zipIdx.any (fun y => Nat.blt y.2 x.2 && !isObs y.1 && !preB ps y.2 x.2) then some x.2 else none
noncomputable def drawStatic (ops : List Oper) : Bool :=
  (ops.zipIdx.all fun (o, j) => (edgesOf o).all (· < j)) &&
  (ops.zipIdx.all fun (oi, i) => ops.zipIdx.all fun (oj, j) => i == j || pairOk ops (pres ops) i j oi oj) &&
  (flts ops (pres ops)).all fun k => ops.zipIdx.all fun x => !isObs x.1 || isFree x.1 || !preB (pres ops) k x.2 || ops.zipIdx.all fun y => !Nat.blt y.2 x.2 || isObs y.1 || preB (pres ops) y.2 x.2


noncomputable def evStep (R : Rec) (ops : List Oper) (s : St) (o : Oper) : Option St :=
  match aWanted ops s o with
  | some true => evOp C R s o
  | some false => some (s.put o.dst .undef)
  | none => none
/-- The states ahead of each operation, and behind the last. -/
noncomputable def trace (R : Rec) (ops : List Oper) : List Oper → St → Option (List St)
  | [], s => some [s]
  | o :: rest, s => match evStep C R ops s o with
    | some s' => match trace R ops rest s' with
      | some l => some (s :: l)
      | none => none
    | none => none
/-- An operation that only reads gives the same at another memory. -/
noncomputable def obsOk (ops : List Oper) (o : Oper) (s : St) (h : Hp) : Bool :=
  match aWanted ops s o with
  | some true => match aOp C s o, aOp C { s with hp := h } o with
    | some (.val v, _), some (.val u, _) => same v u
    | _, _ => false
  | _ => true
noncomputable def pairDyn (ops : List Oper) (ps : List (List Nat)) (tr : List St) (j e : Nat) (oj oe : Oper) : Bool :=
  !isObs oj || isFree oj || isObs oe || preB ps e j || preB ps j e ||
  (match tr[j]?, tr[if j < e then e + 1 else e]? with
   | some s, some s' => obsOk C ops oj s s'.hp
   | _, _ => false)
noncomputable def drawDyn (ops : List Oper) (tr : List St) : Bool :=
  (ops.all isObs) || ops.zipIdx.all fun (oj, j) => ops.zipIdx.all fun (oe, e) => pairDyn C ops (pres ops) tr j e oj oe

/-- Numbers only grow along the trace. -/
noncomputable def monoTr : List St → Bool
  | [] => true
  | s :: l => (match l with
    | s' :: _ => Nat.ble s.hp.next s'.hp.next
    | [] => true) && monoTr l
noncomputable def evDraw (R : Rec) (ops : List Oper) (s : St) : Option St :=
  bif drawStatic ops then
    match trace C R ops ops s with
    | some tr => bif drawDyn C ops tr && ((flts ops (pres ops)).isEmpty || monoTr tr) then tr[ops.length]? else none
    | none => none
  else none

noncomputable def evOps (R : Rec) (ops : List Oper) : List Oper → St → Option St
  | [], s => some s
  | o :: rest, s => match evStep C R ops s o with
    | some s => evOps R ops rest s
    | none => none

noncomputable def toNormal : Option St → Option (Exit × St)
  | some s => some (.normal, s)
  | none => none
noncomputable def cRegion (R : Rec) (ops : List Oper) (draw : Bool) (s : St) : Option (Exit × St) :=
  toNormal (bif draw then evDraw C R ops s else evOps C R ops ops s)
noncomputable def cSeq (a b : St → Option (Exit × St)) (s : St) : Option (Exit × St) :=
  match a s with
  | some (.normal, s) => b s
  | r => r
noncomputable def cCond (c : Operand) (a b : St → Option (Exit × St)) (s : St) : Option (Exit × St) :=
  match s.opd C c with
  | some (.bool true) => a s
  | some (.bool false) => b s
  | _ => none
noncomputable def cBlock (id : Nat) (a : St → Option (Exit × St)) (s : St) : Option (Exit × St) :=
  match a s with
  | some (.exit id', s) => bif Nat.beq id' id then some (.normal, s) else some (.exit id', s)
  | r => r
noncomputable def enterL (ro : Option Nat) (h : Hp) : Option (Nat × Hp × List Nat) :=
  match ro with
  | none => some (h.next, h.new .dfr, [h.next])
  | some l => match h.get l with
    | some (.loop _ _ _ _ _ _ _ d) => some (d, h, [])
    | _ => none
noncomputable def endL (s : St) (l : Nat) (mark : List Nat) (h : Hp) : Option (Exit × St) :=
  match h.get l with
  | some (.loop .busy _ _ _ _ _ _ _) => none
  | some (.loop _ pend tm n ps a b d) =>
    match pend with
    | none => some (.normal, { s with hp := h.put l (.loop .exhausted pend tm n ps a b d), df := mark ++ s.df })
    | some .ret => some (.ret, { s with hp := h.put l (.loop .exhausted pend tm n ps a b d), df := mark ++ s.df })
    | some (.exit id) => some (.exit id, { s with hp := h.put l (.loop .exhausted pend tm n ps a b d), df := mark ++ s.df })
    | _ => none
  | _ => none
noncomputable def cRange (R : Rec) (ro : Option Nat) (g : Operand) (ps : List Tmp) (assign body : Code) (s : St) : Option (Exit × St) :=
  match s.opd C g, enterL ro s.hp with
  | some (.fn f first captured), some (d, h, mark) =>
    match R.call f (first ++ [.yld h.next] ++ captured) (h.new (.loop .ready none s.tm s.n ps assign body d)) with
    | some (_, h') => endL s h.next mark h'
    | none => none
  | _, _ => none

noncomputable def evCode (R : Rec) (ro : Option Nat) (c : Code) : St → Option (Exit × St) :=
  Code.rec (motive := fun _ => St → Option (Exit × St))
    (fun s => some (.normal, s))
    (fun _ ops draw => cRegion C R ops.toList draw)
    (fun _ _ a b => cSeq a b)
    (fun c _ _ a b => cCond C c a b)
    (fun id _ a => cBlock id a)
    (fun _ a => iter a C.lim)
    (fun g ps assign body _ _ => cRange C R ro g ps.toList assign body)
    (fun id s => some (.exit id, s))
    (fun _ _ _ => none)
    (fun _ s => some (.normal, s))
    (fun _ _ => none)
    (fun s => some (.ret, s))
    (fun _ _ => none) c

noncomputable def initT : Nat → List AV → Tr AV → Tr AV
  | _, [], t => t
  | i, v :: vs, t => initT (i + 1) vs (t.set i v)

noncomputable def aResults (s : St) : List ResultVar → Option (List AV)
  | [] => some []
  | .tmp t :: rs => match aResults s rs with
    | some vs => some ((s.tm.get t).getD .undef :: vs)
    | none => none
  | .cell a t :: rs => match aLoad C.P s.hp t ((s.tm.get a).getD .undef), aResults s rs with
    | some v, some vs => some (v :: vs)
    | _, _ => none

noncomputable def shut (h : Hp) : List Nat → Option Hp
  | [] => some h
  | d :: ds => match h.get d with
    | some .dfr => shut (h.put d .dead) ds
    | _ => none

noncomputable def leave (fn : Func) : Option (Exit × St) → Option (AV × Hp)
  | some (.normal, s) => go s
  | some (.ret, s) => go s
  | _ => none
where
  go (s : St) : Option (AV × Hp) := match shut s.hp s.df with
    | some h => match aResults C { s with hp := h } fn.results.toList with
      | some [v] => some (v, h)
      | some vs => some (.tup vs, h)
      | none => none
    | none => none
noncomputable def evBody (R : Rec) (fn : Func) (args : List AV) (h : Hp) : Option (AV × Hp) :=
  match fn.body with
  | some c => leave C fn (evCode C R none c { tm := initT 0 args .lf, n := Nat.max args.length fn.ntmps, hp := h, df := [] })
  | none => none
noncomputable def evFun (R : Rec) (f : FuncId) (args : List AV) (h : Hp) : Option (AV × Hp) :=
  match C.prim f with
  | some g => g args h
  | none => match C.P.funcs[f]? with
    | some fn => evBody C R fn args h
    | none => none

noncomputable def setAll : List Tmp → List AV → Nat → Tr AV → Option (Tr AV)
  | [], [], _, t => some t
  | p :: ps, v :: vs, n, t => setAll ps vs n (if p < n then t.set p v else t)
  | _, _, _, _ => none

noncomputable def endR (l : Nat) : Option (Exit × St) → Option (Bool × Hp)
  | some (e, s) => match s.hp.get l with
    | some (.loop _ _ tm n ps assign body d) => match e with
      | .normal => some (true, s.hp.put l (.loop .ready none tm n ps assign body d))
      | .ret => some (false, s.hp.put l (.loop .done (some .ret) tm n ps assign body d))
      | .exit id => some (false, s.hp.put l (.loop .done (some (.exit id)) tm n ps assign body d))
      | _ => none
    | _ => none
  | none => none
noncomputable def evYld (R : Rec) (l : Nat) (args : List AV) (h : Hp) : Option (Bool × Hp) :=
  match h.get l with
  | some (.loop .ready _ tm n ps assign body _) => match setAll ps args n tm with
    | some tm' => match evCode C R (some l) assign { tm := tm', n, hp := h, df := [] } with
      | some (.normal, s1) => match s1.hp.get l with
        | some (.loop .ready pend tm n ps a b d) =>
          endR l (evCode C R (some l) body { s1 with hp := s1.hp.put l (.loop .busy pend tm n ps a b d) })
        | _ => none
      | _ => none
    | none => none
  | _ => none

noncomputable def evRec : Nat → Rec
  | 0 => ⟨fun _ _ _ => none, fun _ _ _ => none⟩
  | d + 1 => ⟨evFun C (evRec d), evYld C (evRec d)⟩
end

/-! Functions of Go's library without a Go body. -/
noncomputable def extNoEscape : List AV → Hp → Option (AV × Hp)
  | [x], h => some (x, h)
  | _, _ => none
noncomputable def extMakeNoZero (elem : TypeId) : List AV → Hp → Option (AV × Hp)
  | [.int .i64 (.ofNat n)], h => if n < 2147483648 then some (.slice h.next 0 n n 1 false, h.row elem (List.replicate n .unk)) else none
  | _, _ => none
noncomputable def findByte (c : UInt8) : List UInt8 → Nat → Int
  | [], _ => -1
  | b :: bs, i => bif b == c then .ofNat i else findByte c bs (i + 1)
noncomputable def countByte (c : UInt8) : List UInt8 → Nat → Nat
  | [], n => n
  | b :: bs, n => countByte c bs (bif b == c then n + 1 else n)
noncomputable def extIndexByteString : List AV → Hp → Option (AV × Hp)
  | [.str s, .int .u8 c], h => some (.int .i64 (findByte c.toNat.toUInt8 s 0), h)
  | _, _ => none
noncomputable def extCountString : List AV → Hp → Option (AV × Hp)
  | [.str s, .int .u8 c], h => some (.int .i64 (.ofNat (countByte c.toNat.toUInt8 s 0)), h)
  | _, _ => none
end Go.Ev
