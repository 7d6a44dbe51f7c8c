/-
  An evaluator for closed calls, in a form that the kernel can run: abstract values and memory, one function for each operation, code and calls by fuel. Nothing here speaks of one program; no theorem stands in this text.
-/
import GoSem.Step
namespace Go.Ev
open Go

/-- A map from numbers, as a tree by the digits of the number. -/
inductive Tr (α : Type) where
  | lf
  | nd (l : Tr α) (v : Option α) (r : Tr α)

/-- A number's way through the tree. -/
inductive Pth where
  | e
  | o (p : Pth)
  | i (p : Pth)
noncomputable def pthF (f : Nat) : Nat → Pth :=
  Nat.rec (motive := fun _ => Nat → Pth) (fun _ => .e)
    (fun _ g n => Nat.rec (motive := fun _ => Pth) .e (fun n _ => Bool.rec (motive := fun _ => Pth) (.i (g (Nat.div n 2))) (.o (g (Nat.div n 2))) (Nat.beq (Nat.mod n 2) 0)) n) f
noncomputable def pth (n : Nat) : Pth := pthF (Nat.succ n) n
noncomputable def Tr.getP {α : Type} (t : Tr α) (p : Pth) : Option α :=
  Pth.rec (motive := fun _ => Tr α → Option α)
    (fun t => Tr.rec (motive := fun _ => Option α) none (fun _ v _ _ _ => v) t)
    (fun _ g t => Tr.rec (motive := fun _ => Option α) none (fun l _ _ _ _ => g l) t)
    (fun _ g t => Tr.rec (motive := fun _ => Option α) none (fun _ _ r _ _ => g r) t) p t
noncomputable def Tr.setP {α : Type} (t : Tr α) (p : Pth) (x : α) : Tr α :=
  Pth.rec (motive := fun _ => Tr α → Tr α)
    (fun t => Tr.rec (motive := fun _ => Tr α) (.nd .lf (some x) .lf) (fun l _ r _ _ => .nd l (some x) r) t)
    (fun _ s t => Tr.rec (motive := fun _ => Tr α) (.nd (s .lf) none .lf) (fun l v r _ _ => .nd (s l) v r) t)
    (fun _ s t => Tr.rec (motive := fun _ => Tr α) (.nd .lf none (s .lf)) (fun l v r _ _ => .nd l v (s r)) t) p t
noncomputable def Tr.get {α : Type} (t : Tr α) (n : Nat) : Option α := t.getP (pth n)
noncomputable def Tr.set {α : Type} (t : Tr α) (n : Nat) (x : α) : Tr α := t.setP (pth n) x

/-- Abstract values: memory is named by the numbers of abstract objects. -/
inductive AV where
  | bool (b : Bool)
  | int (k : IntKind) (n : Int)
  | str (s : List UInt8)
  | nilp
  | ptr (r off : Nat)
  | nils
  | esl
  | slice (r off len cap esz : Nat) (ex : Bool)
  | nilm
  | map (r : Nat)
  | fn (f : FuncId) (first captured : List AV)
  | yld (l : Nat)
  | nilf
  | nili
  | iface (t : TypeId) (v : AV)
  | agg (cs : List AV)
  | tup (vs : List AV)
  | unk
  | big (lo : Nat)
  | cong (k : IntKind) (m r : Nat)
  deriving Inhabited

noncomputable def AV.undef : AV := .tup []
noncomputable def AV.cells : AV → List AV
  | .agg cs => cs
  | v => [v]
noncomputable def AV.one : AV → Bool
  | .agg _ => false
  | .tup _ => false
  | _ => true

inductive AObj where
  | row (elem : TypeId) (cells : List AV) (fam : Nat) (wr : Bool)
  | map (es : List (AV × AV × Nat)) (clock : Nat)
  | loop (st : LoopState) (pend : Option Code) (tm : Tr AV) (n : Nat) (params : List Tmp) (assign body : Code) (dfr : Nat)
  | dfr
  | dead

structure Hp where
  next : Nat
  objs : Tr AObj
  fams : Tr (List Nat)

structure St where
  tm : Tr AV
  n : Nat
  hp : Hp
  df : List Nat

inductive ANext where
  | val (v : AV)
  | skip
  | enter (f : FuncId) (args : List AV)
  | yld (l : Nat) (args : List AV)

noncomputable def Hp.get (h : Hp) (r : Nat) : Option AObj := h.objs.get r
noncomputable def Hp.put (h : Hp) (r : Nat) (o : AObj) : Hp := { h with objs := h.objs.set r o }
/-- A new row of cells, in a family of its own. -/
noncomputable def Hp.row (h : Hp) (elem : TypeId) (cells : List AV) : Hp :=
  { next := h.next + 1, objs := h.objs.set h.next (.row elem cells h.next true), fams := h.fams.set h.next [h.next] }
noncomputable def Hp.new (h : Hp) (o : AObj) : Hp := { h with next := h.next + 1, objs := h.objs.set h.next o }
noncomputable def Hp.kill (h : Hp) (keep : Nat) (l : List Nat) : Hp :=
  l.foldl (fun h i => if i = keep then h else h.put i .dead) h

mutual
/-- The abstract value of a constant. -/
noncomputable def ofV : Value → Option AV
  | .bool b => some (.bool b)
  | .int k n => some (.int k n)
  | .string s => some (.str s.data.toList)
  | .pointer none => some .nilp
  | .slice none 0 0 => some .nils
  | .map none => some .nilm
  | .nilFunc => some .nilf
  | .nilIface => some .nili
  | .agg ⟨cs⟩ => (ofVs cs).map .agg
  | .tuple ⟨vs⟩ => (ofVs vs).map .tup
  | _ => none
noncomputable def ofVs : List Value → Option (List AV)
  | [] => some []
  | v :: vs => match ofV v, ofVs vs with
    | some a, some as => some (a :: as)
    | _, _ => none
end

/-- What a computation comes to that asks memory for nothing. -/
noncomputable def runPure (P : Program) {α : Type} : Sem α → Option α
  | .pure a => some a
  | .program k => runPure P (k P)
  | .mark _ k => runPure P k
  | _ => none

section
variable (P : Program)

/-- Is a value of this type an aggregate? -/
noncomputable def aggO (t : TypeId) : Option Bool :=
  match P.underlying t with
  | some (.struct _) => some true
  | some (.array _ _) => some true
  | some _ => some false
  | none => none
noncomputable def sizeB (t : TypeId) : Option Nat := (P.info? t).map (·.size)
noncomputable def zeroB (t : TypeId) : Option AV :=
  match P.info? t with
  | some i => match i.zero with
    | some z => ofV z
    | none => none
  | none => none

/-- The part of an aggregate of type t that lies at off. -/
noncomputable def aPart (t : TypeId) (cs : List AV) (off : Nat) : Option AV :=
  match aggO P t, sizeB P t with
  | some true, some n => some (.agg ((cs.drop off).take n))
  | some false, some _ => cs[off]?
  | _, _ => none

noncomputable def aLoad (h : Hp) (t : TypeId) : AV → Option AV
  | .ptr r off => match h.get r with
    | some (.row _ cells _ _) => match aggO P t, sizeB P t with
      | some true, some n => if off + n ≤ cells.length then some (.agg ((cells.drop off).take n)) else none
      | some false, some _ => cells[off]?
      | _, _ => none
    | _ => none
  | _ => none

noncomputable def patch (cells : List AV) (off : Nat) (new : List AV) : List AV := cells.take off ++ (new ++ cells.drop (off + new.length))

/-- New cells in a row that may be written. -/
noncomputable def aWrite (h : Hp) (r off : Nat) (new : List AV) : Option Hp :=
  match h.get r with
  | some (.row elem cells fam true) =>
    if off + new.length ≤ cells.length then match h.fams.get fam with
      | some ms => some ({ (h.kill r ms) with objs := (h.kill r ms).objs.set r (.row elem (patch cells off new) fam true), fams := h.fams.set fam [r] })
      | none => none
    else none
  | _ => none

noncomputable def aStore (h : Hp) (t : TypeId) (p v : AV) : Option Hp :=
  match p, sizeB P t with
  | .ptr r off, some n => if v.cells.length = n ∧ v.cells.all AV.one = true then aWrite h r off v.cells else none
  | _, _ => none

noncomputable def afill (place : Nat → Option (Nat × Nat)) (cells : List AV) : List (Nat × AV) → Option (List AV)
  | [] => some cells
  | (i, v) :: rest => match place i with
    | none => none
    | some (off, size) =>
      if v.cells.length = size ∧ off + size ≤ cells.length ∧ v.cells.all AV.one = true then afill place (patch cells off v.cells) rest else none

noncomputable def fieldPlaces : List Field → Option (List (Nat × Nat))
  | [] => some []
  | f :: fs => match sizeB P f.type, fieldPlaces fs with
    | some n, some ps => some ((f.offset, n) :: ps)
    | _, _ => none

noncomputable def aBuild (t : TypeId) (parts : List (Nat × AV)) : Option AV :=
  match zeroB P t, P.underlying t with
  | some z, some (.struct fields) => match fieldPlaces P fields.toList with
    | some ps => if z.cells.all AV.one = true then (afill (fun i => ps[i]?) z.cells parts).map .agg else none
    | none => none
  | some z, some (.array _ elem) => match sizeB P elem with
    | some size => if z.cells.all AV.one = true then (afill (fun i => some (i * size, size)) z.cells parts).map .agg else none
    | none => none
  | _, _ => none

noncomputable def repeatCells (zero : List AV) : Nat → List AV
  | 0 => []
  | n + 1 => zero ++ repeatCells zero n

noncomputable def aBuildSlice (h : Hp) (t : TypeId) (len : Nat) (parts : List (Nat × AV)) : Option (AV × Hp) :=
  match P.underlying t with
  | some (.slice elem) => match sizeB P elem, zeroB P elem with
    | some size, some z =>
      if len * size ≤ 16777216 ∧ z.cells.length = size ∧ z.cells.all AV.one = true then match afill (fun i => some (i * size, size)) (repeatCells z.cells len) parts with
        | some cells => if cells.all AV.one = true then some (.slice h.next 0 len len size true, h.row elem cells) else none
        | none => none
      else none
    | _, _ => none
  | _ => none

noncomputable def natOf : AV → Option Nat
  | .int _ (.ofNat n) => some n
  | _ => none

noncomputable def aMakeSlice (h : Hp) (t : TypeId) (l c : AV) : Option (AV × Hp) :=
  match P.underlying t, natOf l, natOf c with
  | some (.slice elem), some len, some cap => match P.info? elem, zeroB P elem with
    | some i, some z =>
      if len ≤ cap ∧ cap < 2147483648 ∧ i.bytes * cap ≤ 281474976710656 ∧ z.cells.length = i.size ∧ z.cells.all AV.one = true then
        some (.slice h.next 0 len cap i.size true, h.row elem (repeatCells z.cells cap))
      else none
    | _, _ => none
  | _, _, _ => none

noncomputable def aIndexAddr (t : TypeId) (x i : AV) : Option AV :=
  match P.underlying t, x, natOf i with
  | some (.slice elem), .slice r off len _ _ _, some k => match sizeB P elem with
    | some size => if k < len then some (.ptr r (off + k * size)) else none
    | none => none
  | some (.array len elem), .ptr r off, some k => match sizeB P elem with
    | some size => if k < len then some (.ptr r (off + k * size)) else none
    | none => none
  | _, _, _ => none

noncomputable def aIndex (t : TypeId) (x i : AV) : Option AV :=
  match P.underlying t, x, natOf i with
  | some (.array len elem), .agg cs, some k => match sizeB P elem with
    | some size => if k < len then aPart P elem cs (k * size) else none
    | none => none
  | some .string, .str s, some k => match s[k]? with
    | some b => some (.int .u8 (.ofNat b.toNat))
    | none => none
  | _, _, _ => none

noncomputable def boundOf (d : Nat) : Option AV → Option Nat
  | none => some d
  | some v => natOf v

noncomputable def aSlice (h : Hp) (t : TypeId) (x : AV) (lo hi mx : Option AV) : Option AV :=
  match P.underlying t, x with
  | some .string, .str s =>
    match mx, boundOf 0 lo, boundOf s.length hi with
    | none, some l, some h => if l ≤ h ∧ h ≤ s.length then some (.str ((s.drop l).take (h - l))) else none
    | _, _, _ => none
  | some (.slice elem), .nils =>
    match sizeB P elem, boundOf 0 lo, boundOf 0 hi, boundOf 0 mx with
    | some _, some 0, some 0, some 0 => if mx.isSome = true → hi.isSome = true then some .nils else none
    | _, _, _, _ => none
  | some (.slice elem), .slice r off len cap esz ex =>
    match sizeB P elem, boundOf 0 lo, boundOf len hi, boundOf cap mx with
    | some size, some l, some h, some m =>
      if l ≤ h ∧ h ≤ m ∧ m ≤ cap ∧ size = esz ∧ (mx.isSome = true → hi.isSome = true) then
        if l = 0 then some (.slice r off h m esz (ex || mx.isSome))
        else if l < m then some (.slice r (off + l * size) (h - l) (m - l) esz (ex || mx.isSome))
        else some .esl
      else none
    | _, _, _, _ => none
  | some (.array n elem), .ptr r off =>
    match sizeB P elem, boundOf 0 lo, boundOf n hi, boundOf n mx, h.get r with
    | some size, some l, some k, some m, some (.row _ cells _ _) =>
      if l ≤ k ∧ k ≤ m ∧ m ≤ n ∧ off + n * size ≤ cells.length ∧ (mx.isSome = true → hi.isSome = true) then
        if l = 0 then some (.slice r off k m size true)
        else if l < m then some (.slice r (off + l * size) (k - l) (m - l) size true)
        else some .esl
      else none
    | _, _, _, _, _ => none
  | _, _ => none

noncomputable def aFieldAddr (t : TypeId) (x : AV) (f : Nat) : Option AV :=
  match P.underlying t, x with
  | some (.struct fields), .ptr r off => match fields.toList[f]? with
    | some fd => match sizeB P fd.type with
      | some (_ + 1) => some (.ptr r (off + fd.offset))
      | _ => none
    | none => none
  | _, _ => none

noncomputable def aField (t : TypeId) (x : AV) (f : Nat) : Option AV :=
  match P.underlying t, x with
  | some (.struct fields), .agg cs => match fields.toList[f]? with
    | some fd => aPart P fd.type cs fd.offset
    | none => none
  | _, _ => none

/-- Equality of two values of one type without pointers. -/
noncomputable def aEqCell : AV → AV → Option Bool
  | .int j a, .int k b => if j = k then some (a == b) else none
  | .bool a, .bool b => some (a == b)
  | .str a, .str b => some (a == b)
  | _, _ => none
noncomputable def aEqCells : List AV → List AV → Option Bool
  | [], [] => some true
  | a :: as, b :: bs => match aEqCell a b with
    | some true => aEqCells as bs
    | some false => some false
    | none => none
  | _, _ => none
/-- May a value of this type be compared cell by cell? -/
noncomputable def plainT : Nat → TypeId → Bool
  | 0, _ => false
  | d + 1, t => match P.underlying t with
    | some .bool => true
    | some (.int _) => true
    | some .string => true
    | some (.array _ e) => plainT d e
    | some (.struct fs) => fs.toList.all fun f => f.name != "_" && plainT d f.type
    | _ => false
noncomputable def fitsCell (t : TypeId) : AV → Bool
  | .int k _ => match P.underlying t with | some (.int k') => decide (k = k') | _ => false
  | .bool _ => match P.underlying t with | some .bool => true | _ => false
  | .str _ => match P.underlying t with | some .string => true | _ => false
  | _ => false

noncomputable def nilEq : AV → AV → Option Bool
  | .nilp, .nilp => some true
  | .nilp, .ptr _ _ => some false
  | .ptr _ _, .nilp => some false
  | .nils, .nils => some true
  | .nils, .slice _ _ _ _ _ _ => some false
  | .nils, .esl => some false
  | .slice _ _ _ _ _ _, .nils => some false
  | .esl, .nils => some false
  | .nilm, .nilm => some true
  | .nilm, .map _ => some false
  | .map _, .nilm => some false
  | .nilf, .nilf => some true
  | .nilf, .fn _ _ _ => some false
  | .fn _ _ _, .nilf => some false
  | _, _ => none

noncomputable def ofIntV : Option Value → Option AV
  | some (.int k n) => some (.int k n)
  | some (.bool b) => some (.bool b)
  | _ => none

noncomputable def strLess : List UInt8 → List UInt8 → Bool
  | _, [] => false
  | [], _ :: _ => true
  | a :: x, b :: y => a < b || (a == b && strLess x y)

/-- The wrap, with a short way where nothing is wrapped. -/
noncomputable def fwrap (k : IntKind) (n : Int) : Int :=
  match k, n with
  | .i64, .ofNat m => bif Nat.ble m 9223372036854775807 then .ofNat m else IntKind.wrap .i64 (.ofNat m)
  | .i64, .negSucc m => bif Nat.ble m 9223372036854775807 then .negSucc m else IntKind.wrap .i64 (.negSucc m)
  | .u64, .ofNat m => bif Nat.ble m 18446744073709551615 then .ofNat m else IntKind.wrap .u64 (.ofNat m)
  | .u8, .ofNat m => bif Nat.ble m 255 then .ofNat m else IntKind.wrap .u8 (.ofNat m)
  | k, n => IntKind.wrap k n
noncomputable def ieq : Int → Int → Bool
  | .ofNat a, .ofNat b => Nat.beq a b
  | .negSucc a, .negSucc b => Nat.beq a b
  | _, _ => false
noncomputable def ilt : Int → Int → Bool
  | .ofNat a, .ofNat b => Nat.blt a b
  | .negSucc _, .ofNat _ => true
  | .ofNat _, .negSucc _ => false
  | .negSucc a, .negSucc b => Nat.blt b a
noncomputable def keq : IntKind → IntKind → Bool
  | .i64, .i64 => true
  | .u8, .u8 => true
  | .u64, .u64 => true
  | .u32, .u32 => true
  | .i32, .i32 => true
  | .u16, .u16 => true
  | .i16, .i16 => true
  | .i8, .i8 => true
  | _, _ => false
/-- Operations on integers, the frequent ones by a short way. -/
noncomputable def aInt (op : BinOp) (t : TypeId) (k : IntKind) (a : Int) (k' : IntKind) (b : Int) : Option AV :=
  bif keq k k' then
    match op with
    | .add => some (.int k (fwrap k (Int.add a b)))
    | .sub => some (.int k (fwrap k (Int.sub a b)))
    | .mul => some (.int k (fwrap k (Int.mul a b)))
    | .eql => some (.bool (ieq a b))
    | .neq => some (.bool (!ieq a b))
    | .lss => some (.bool (ilt a b))
    | .gtr => some (.bool (ilt b a))
    | .leq => some (.bool (!ilt b a))
    | .geq => some (.bool (!ilt a b))
    | .and => match a, b with
      | .ofNat m, .ofNat n => bif Nat.ble m 127 && Nat.ble n 127 then some (.int k (.ofNat (Nat.land m n))) else slow
      | _, _ => slow
    | .or => match a, b with
      | .ofNat m, .ofNat n => bif Nat.ble m 127 && Nat.ble n 127 then some (.int k (.ofNat (Nat.lor m n))) else slow
      | _, _ => slow
    | _ => slow
  else slow
where
  slow : Option AV := ofIntV (runPure P (Go.binOp op t (.int k a) (.int k' b)))

noncomputable def aBin (op : BinOp) (t : TypeId) (x y : AV) : Option AV :=
  match x, y with
  | .int k a, .int k' b => aInt P op t k a k' b
  | .str a, .str b => match op with
    | .add => if a.length + b.length < 2147483648 then some (.str (a ++ b)) else none
    | .eql => some (.bool (a == b))
    | .neq => some (.bool !(a == b))
    | .lss => some (.bool (strLess a b))
    | .leq => some (.bool (strLess a b || a == b))
    | .gtr => some (.bool !(strLess a b || a == b))
    | .geq => some (.bool !(strLess a b))
    | _ => none
  | .bool a, .bool b => match P.underlying t, op with
    | some .bool, .eql => some (.bool (a == b))
    | some .bool, .neq => some (.bool !(a == b))
    | _, _ => none
  | _, _ => none

noncomputable def ANext.ofO : Option AV → Hp → Option (ANext × Hp)
  | some v, h => some (.val v, h)
  | none, _ => none
noncomputable def ANext.ofP : Option (AV × Hp) → Option (ANext × Hp)
  | some (v, h) => some (.val v, h)
  | none => none
noncomputable def ANext.ofU : Option Hp → Option (ANext × Hp)
  | some h => some (.skip, h)
  | none => none

/-- The cells of a slice's first n elements. -/
noncomputable def sliceCells (h : Hp) (size n : Nat) : AV → Option (List AV)
  | .nils => some []
  | .esl => if n = 0 then some [] else none
  | .slice r off len _ _ _ => match h.get r with
    | some (.row _ cells _ _) => if n ≤ len ∧ off + n * size ≤ cells.length then some ((cells.drop off).take (n * size)) else none
    | _ => none
  | .str s => some ((s.take n).map fun b => .int .u8 (.ofNat b.toNat))
  | _ => none
noncomputable def lenA : AV → Option Nat
  | .nils => some 0
  | .esl => some 0
  | .slice _ _ len _ _ _ => some len
  | .str s => some s.length
  | _ => none

noncomputable def sLenA : AV → Option Nat
  | .nils => some 0
  | .esl => some 0
  | .slice _ _ len _ _ _ => some len
  | _ => none

noncomputable def aAppend (h : Hp) (argTypes : Array TypeId) (s x : AV) : Option (AV × Hp) :=
  match (argTypes.toList[0]?).bind P.underlying, argTypes.toList[1]? with
  | some (.slice elem), some xt =>
    match P.underlying xt, P.info? elem, lenA x with
    | some (.int _), some i, _ => match s, x, (i.zero).bind ofV with
      | .nils, .int _ (.ofNat n), some z =>
        if 0 < n ∧ n < 2147483648 ∧ n * i.bytes ≤ 140737488355328 ∧ z.cells.length = i.size ∧ z.cells.all AV.one = true ∧ 0 < i.size ∧ 0 < i.bytes then some (.slice h.next 0 n n i.size false, h.row elem (repeatCells z.cells n)) else none
      | _, _, _ => none
    | some (.int _), _, _ => none
    | some _, some i, some n =>
      match sliceCells h i.size n x, (i.zero).bind ofV with
      | some new, some z =>
        if n * i.size = new.length ∧ z.cells.length = i.size ∧ 0 < i.size ∧ 0 < i.bytes then
        match s with
        | .nils => if n = 0 then some (.nils, h) else
          if n < 2147483648 ∧ n * i.bytes ≤ 140737488355328 then some (.slice h.next 0 n n i.size false, h.row elem new) else none
        | .slice r off len cap esz ex =>
          if n = 0 then some (s, h) else
          if ¬ esz = i.size then none else
          if len + n ≤ cap then (aWrite h r (off + len * i.size) new).map fun h => (.slice r off (len + n) cap esz ex, h)
          else if len + n < 2147483648 ∧ (len + n) * i.bytes ≤ 140737488355328 then
            match h.get r with
            | some (.row elem' cells fam wr) =>
              if elem' = elem ∧ off + len * i.size ≤ cells.length then
                let old := (cells.drop off).take (len * i.size)
                if ex then some (.slice h.next 0 (len + n) (len + n) esz false, h.row elem (old ++ new))
                else match wr, h.fams.get fam with
                  | true, some ms =>
                    if off + len * i.size = cells.length ∧ ms.head? = some r then
                      some (.slice h.next 0 (len + n) (len + n) esz false,
                        { next := h.next + 1, objs := h.objs.set h.next (.row elem (old ++ new) fam true), fams := h.fams.set fam (h.next :: ms) })
                    else none
                  | _, _ => none
              else none
            | _ => none
          else none
        | _ => none
        else none
      | _, _ => none
    | _, _, _ => none
  | _, _ => none

noncomputable def aCopy (h : Hp) (argTypes : Array TypeId) (d x : AV) : Option (AV × Hp) :=
  match (argTypes.toList[0]?).bind P.underlying, lenA x with
  | some (.slice elem), some m => match sizeB P elem with
    | some size => match d with
      | .nils => some (.int .i64 0, h)
      | .esl => some (.int .i64 0, h)
      | .slice r off len _ esz _ =>
        if ¬ esz = size then none else
        let n := Nat.min m len
        match sliceCells h size n x with
        | some new => if new.length = n * size then
            (if n * size = 0 then some (.int .i64 (.ofNat n), h) else (aWrite h r off new).map fun h => (.int .i64 (.ofNat n), h)) else none
        | none => none
      | _ => none
    | none => none
  | _, _ => none

noncomputable def aClear (h : Hp) (argTypes : Array TypeId) (x : AV) : Option (AV × Hp) :=
  match (argTypes.toList[0]?).bind P.underlying with
  | some (.slice elem) => match x with
    | .nils => some (.undef, h)
    | .esl => some (.undef, h)
    | .slice r off len _ esz _ => match zeroB P elem, sizeB P elem with
      | some z, some size =>
        if z.cells.length = size ∧ z.cells.all AV.one = true ∧ esz = size then
          (if len = 0 then some (.undef, h) else (aWrite h r off (repeatCells z.cells len)).map fun h => (.undef, h))
        else none
      | _, _ => none
    | _ => none
  | _ => none

noncomputable def aLen (h : Hp) (argTypes : Array TypeId) (x : AV) : Option AV :=
  match (argTypes.toList[0]?).bind P.underlying, x with
  | some .string, .str s => some (.int .i64 (.ofNat s.length))
  | some (.array n _), _ => some (.int .i64 (.ofNat n))
  | some (.slice _), .nils => some (.int .i64 0)
  | some (.slice _), .esl => some (.int .i64 0)
  | some (.slice _), .slice _ _ len _ _ _ => some (.int .i64 (.ofNat len))
  | some (.map _ _), .nilm => some (.int .i64 0)
  | some (.map _ _), .map r => match h.get r with
    | some (.map es _) => some (.int .i64 (.ofNat es.length))
    | _ => none
  | _, _ => none

noncomputable def isByteT (t : TypeId) : Bool := match P.underlying t with
  | some (.int .u8) => true
  | _ => false

noncomputable def aCap (argTypes : Array TypeId) (x : AV) : Option AV :=
  match (argTypes.toList[0]?).bind P.underlying, x with
  | some (.slice _), .nils => some (.int .i64 0)
  | some (.slice _), .slice _ _ _ cap _ true => some (.int .i64 (.ofNat cap))
  | _, _ => none

noncomputable def bytesA : List AV → Option (List UInt8)
  | [] => some []
  | .int .u8 n :: cs => match bytesA cs with
    | some s => some (n.toNat.toUInt8 :: s)
    | none => none
  | _ => none

noncomputable def aUnsafeString (h : Hp) (argTypes : Array TypeId) (p n : AV) : Option (AV × Hp) :=
  match p, natOf n with
  | .nilp, some 0 => some (.str [], h)
  | .ptr r off, some n =>
    if n = 0 then some (.str [], h) else
    if n < 2147483648 then
    match h.get r, (argTypes.toList[0]?).bind P.underlying with
    | some (.row elem cells fam true), some (.pointer e) =>
      if e = elem ∧ isByteT P e = true ∧ sizeB P e = some 1 ∧ off + n ≤ cells.length then
        match bytesA ((cells.drop off).take n), h.fams.get fam with
        | some s, some ms => some (.str s, { (h.kill r ms) with objs := (h.kill r ms).objs.set r (.row elem cells fam false), fams := h.fams.set fam [r] })
        | _, _ => none
      else none
    | _, _ => none
    else none
  | _, _ => none

/-- A pointer to the head of a row, turned into an unsafe one or back. -/
noncomputable def aUnsafePtr (h : Hp) (src dst : TypeId) (x : AV) : Option AV :=
  match P.underlying src, P.underlying dst, x with
  | some (.pointer _), some .unsafePointer, .nilp => some .nilp
  | some .unsafePointer, some (.pointer _), .nilp => some .nilp
  | some (.pointer t), some .unsafePointer, .ptr r off => match h.get r, sizeB P t with
    | some (.row _ cells _ _), some (_ + 1) => if off < cells.length then some (.ptr r off) else none
    | _, _ => none
  | some .unsafePointer, some (.pointer u), .ptr r 0 => match h.get r, sizeB P u with
    | some (.row elem cells fam true), some (n + 1) => if elem = u ∧ n + 1 ≤ cells.length ∧ fam = r then some (.ptr r 0) else none
    | _, _ => none
  | _, _, _ => none

noncomputable def aFind (k : AV) : List (AV × AV × Nat) → Option (Option AV)
  | [] => some none
  | (k', v, _) :: es => match aEqCells k.cells k'.cells with
    | some true => some (some v)
    | some false => aFind k es
    | none => none
noncomputable def aPutKey (k v : AV) : List (AV × AV × Nat) → Option (Option (List (AV × AV × Nat)))
  | [] => some none
  | (k', v', b) :: es => match aEqCells k.cells k'.cells with
    | some true => some (some ((k, v, b) :: es))
    | some false => match aPutKey k v es with
      | some (some r) => some (some ((k', v', b) :: r))
      | some none => some none
      | none => none
    | none => none
end
end Go.Ev
