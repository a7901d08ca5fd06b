import Derived.Orders
import Derived.KernelRfl
import Derived.Laws.OwnMore
set_option linter.unusedSimpArgs false
set_option linter.unusedVariables false
namespace Go.Proofs.Ytagpaoglcjcaeaa
namespace Ev

/-! A reckoner: runs code over an abstract memory; small definitions, for the kernel. -/

noncomputable def ob {α β : Type} (o : Option α) (f : α → Option β) : Option β := Option.rec none f o
noncomputable def ck {β : Type} (b : Bool) (o : Option β) : Option β := Bool.rec none o b
noncomputable def bi {β : Type} (b : Bool) (x y : β) : β := Bool.rec y x b

inductive T (α : Type) where
  | leaf
  | node (l : T α) (v : Option α) (r : T α)

noncomputable def T.get {α : Type} (t : T α) : Nat → Option α :=
  T.rec (fun _ => none) (fun _ v _ gl gr n => bi (Nat.beq n 0) v (bi (Nat.beq (Nat.mod n 2) 1) (gl (Nat.div n 2)) (gr (Nat.sub (Nat.div n 2) 1)))) t

noncomputable def T.setL {α : Type} (f : Nat) : Nat → Option α → Option (T α) :=
  Nat.rec (fun _ _ => none) (fun _ ih n v => bi (Nat.beq n 0) (some (.node .leaf v .leaf))
    (bi (Nat.beq (Nat.mod n 2) 1) (ob (ih (Nat.div n 2) v) fun l => some (.node l none .leaf)) (ob (ih (Nat.sub (Nat.div n 2) 1) v) fun r => some (.node .leaf none r)))) f

noncomputable def T.set {α : Type} (t : T α) : Nat → Option α → Option (T α) :=
  T.rec (fun n v => T.setL 24 n v) (fun l v0 r sl sr n v => bi (Nat.beq n 0) (some (.node l v r))
    (bi (Nat.beq (Nat.mod n 2) 1) (ob (sl (Nat.div n 2) v) fun l => some (.node l v0 r)) (ob (sr (Nat.sub (Nat.div n 2) 1) v) fun r => some (.node l v0 r)))) t

/-- how code is left -/
inductive AX where
  | normal
  | exit (id : Nat)
  | goto (l : Nat)
  | ret
/-- temporaries, by number -/
abbrev Tm := List (Nat × Value)

/-- a row of cells; the record of a range over a function (0 ready, 1 busy, 2 done); a block for deferred calls of rounds, with none in it -/
inductive AObj where
  | row (c : List Value) (elem : TypeId) (opn : Bool)
  | loop (st : Nat) (pend : Option AX) (tm : Tm) (kp nt : Nat) (ps : Array Tmp) (as_ body : Code) (d : Nat)
  | dfr
inductive Tgt where
  | fn (f : FuncId)
  | yield (l : Nat)

/-- the capacity that an abstract slice bears where the true one is not known -/
def OPEN : Nat := 18446744073709551616

def atom : Value → Bool
  | .bool _ | .int .. | .string _ | .pointer none | .slice none _ _ | .map none | .nilFunc | .nilIface => true
  | _ => false
def flat2 : Value → Bool
  | .agg cs => cs.toList.all atom
  | .tuple cs => cs.toList.all atom
  | v => atom v
def flat : Value → Bool
  | .tuple cs => cs.toList.all flat2
  | v => flat2 v

noncomputable def constV (v : Value) : Option Value := ck (flat v) (some v)
noncomputable def agt (l : Tm) (t : Nat) : Option Value := List.rec none (fun x _ ih => bi (Nat.beq x.1 t) (some x.2) ih) l
noncomputable def aput (l : Tm) (t : Nat) (v : Value) : Option Tm :=
  List.rec (some [(t, v)]) (fun x xs ih => bi (Nat.beq x.1 t) (some ((t, v) :: xs)) (ob ih fun l => some (x :: l))) l
/-- of a region's own, else of the frame's -/
noncomputable def rd (loc base : Tm) (t : Nat) : Option Value := Option.rec (agt base t) (fun v => some v) (agt loc t)
noncomputable def evX (loc base : Tm) : Operand → Option Value
  | .tmp t => rd loc base t
  | .const v => constV v
  | .func f => some (.func (.func f) #[] #[])
  | .global _ => none

/-- runs what neither reads nor writes memory -/
def prun (P : Program) {α : Type} : Sem α → Option α
  | .pure a => some a
  | .program k => prun P (k P)
  | _ => none

inductive OR where
  | val (v : Value)
  | new (v : Value) (o : AObj)
  | eff (v : Value) (hp : T AObj) (nid : Nat)
  | call (f : Tgt) (args : List Value)

noncomputable def oval (o : Option Value) : Option OR := ob o fun v => some (.val v)

def withPtr {β : Type} (v : Value) (k : Nat → Nat → Option β) : Option β :=
  match v with
  | .pointer (some ⟨b, o, none⟩) => k b o
  | _ => none
def withAgg {β : Type} (v : Value) (k : Array Value → Option β) : Option β :=
  match v with
  | .agg cs => k cs
  | _ => none
def withTup {β : Type} (v : Value) (k : Array Value → Option β) : Option β :=
  match v with
  | .tuple cs => k cs
  | _ => none
def withNat {β : Type} (v : Value) (k : Nat → Option β) : Option β :=
  match v with
  | .int .i64 (.ofNat n) => k n
  | _ => none
def withSlc {β : Type} (v : Value) (z : Nat → Nat → Option β) (k : Nat → Nat → Nat → Nat → Option β) : Option β :=
  match v with
  | .slice none n c => z n c
  | .slice (some ⟨b, o, none⟩) n c => k b o n c
  | _ => none
def withFn {β : Type} (v : Value) (k : Tgt → Array Value → Array Value → Option β) : Option β :=
  match v with
  | .func (.func f) a c => k (.fn f) a c
  | .func (.yield l) a c => k (.yield l) a c
  | _ => none
def withRow {β : Type} (o : AObj) (k : List Value → TypeId → Bool → Option β) : Option β :=
  match o with
  | .row c e p => k c e p
  | _ => none
def withLoop {β : Type} (o : AObj) (k : Nat → Option AX → Tm → Nat → Nat → Array Tmp → Code → Code → Nat → Option β) : Option β :=
  match o with
  | .loop st pend tm kp nt ps as_ body d => k st pend tm kp nt ps as_ body d
  | _ => none

def aggT (P : Program) (t : TypeId) : Option Bool :=
  match P.underlying t with
  | some (.struct _) => some true
  | some (.array _ _) => some true
  | some _ => some false
  | none => none
def sizeT (P : Program) (t : TypeId) : Option Nat :=
  match P.info? t with
  | some i => some i.size
  | none => none
def elemT (P : Program) (t : TypeId) : Option TypeId :=
  match P.underlying t with
  | some (.slice e) => some e
  | _ => none
def arrT (P : Program) (t : TypeId) : Option (Nat × TypeId) :=
  match P.underlying t with
  | some (.array n e) => some (n, e)
  | _ => none
def fieldOf (P : Program) (s : TypeId) (f : Nat) : Option Field :=
  match P.underlying s with
  | some (.struct fields) => fields[f]?
  | _ => none

noncomputable def partV (P : Program) (t : TypeId) (cs : Array Value) (off : Nat) : Option Value :=
  ob (aggT P t) fun b => bi b (ob (sizeT P t) fun n => some (.agg (cs.extract off (off + n)))) cs[off]?

noncomputable def nth (c : List Value) : Nat → Option Value :=
  List.rec (fun _ => none) (fun v _ ih i => bi (Nat.beq i 0) (some v) (ih (Nat.sub i 1))) c
noncomputable def getsFrom (c : List Value) (n : Nat) : Nat → Option (List Value) :=
  Nat.rec (fun _ => some []) (fun _ ih i => ob (nth c i) fun v => ob (ih (Nat.succ i)) fun l => some (v :: l)) n
noncomputable def setNth (c : List Value) : Nat → Value → Option (List Value) :=
  List.rec (fun _ _ => none) (fun x xs ih i v => bi (Nat.beq i 0) (some (v :: xs)) (ob (ih (Nat.sub i 1) v) fun l => some (x :: l))) c
noncomputable def setsFrom (vs : List Value) : Nat → List Value → Option (List Value) :=
  List.rec (fun _ c => some c) (fun v _ ih i c => ob (setNth c i v) fun c => ih (Nat.succ i) c) vs

def one (v : Value) : Bool := v.oneCell'

noncomputable def loadV (P : Program) (hp : T AObj) (t : TypeId) (b o : Nat) : Option Value :=
  ob (hp.get b) fun r => withRow r fun c _ _ => ob (aggT P t) fun g =>
    bi g (ob (sizeT P t) fun n => ob (getsFrom c n o) fun l => some (.agg l.toArray)) (nth c o)

noncomputable def storeV (P : Program) (hp : T AObj) (t : TypeId) (b o : Nat) (v : Value) : Option (T AObj) :=
  ob (hp.get b) fun r => withRow r fun c e p => ob (sizeT P t) fun n =>
    ck (Nat.beq v.cells.toList.length n && v.cells.toList.all one) (ob (setsFrom v.cells.toList o c) fun c => hp.set b (some (.row c e p)))

def zeroT (P : Program) (t : TypeId) : Option Value :=
  match P.info? t with
  | some i => i.zero
  | none => none
noncomputable def zeroV (P : Program) (t : TypeId) : Option Value :=
  ob (zeroT P t) fun v => ck (flat2 v && v.cells.toList.all one) (some v)

def zerosOf (z : List Value) : Nat → List Value
  | 0 => []
  | n + 1 => z ++ zerosOf z n

noncomputable def evs (e : Operand → Option Value) (l : List Operand) : Option (List Value) :=
  List.rec (some []) (fun x _ ih => ob (e x) fun v => ob ih fun l => some (v :: l)) l
noncomputable def evParts (e : Operand → Option Value) (l : List (Nat × Operand)) : Option (List (Nat × Value)) :=
  List.rec (some []) (fun x _ ih => ob (e x.2) fun v => ob ih fun l => some ((x.1, v) :: l)) l

/-- lays the parts into cells -/
noncomputable def fillV (place : Nat → Option (Nat × Nat)) (l : List (Nat × Value)) : List Value → Option (List Value) :=
  List.rec (fun c => some c) (fun x _ ih c => ob (place x.1) fun p => ck (Nat.beq x.2.cells.toList.length p.2 && Nat.ble 1 p.2) (ob (setsFrom x.2.cells.toList p.1 c) fun c => ih c)) l

noncomputable def fieldPlace (P : Program) (t : TypeId) (i : Nat) : Option (Nat × Nat) :=
  ob (fieldOf P t i) fun f => ob (sizeT P f.type) fun n => some (f.offset, n)
def allFields (P : Program) (t : TypeId) : Bool :=
  match P.underlying t with
  | some (.struct fields) => fields.toList.all fun f => (sizeT P f.type).isSome
  | _ => false

/-- what an operation on flat values gives -/
noncomputable def flatX (e : Operand → Option Value) (x : Operand) : Bool := Option.rec false flat (e x)
noncomputable def totX (e : Operand → Option Value) (x : Operand) : Value := Option.rec undef (fun v => v) (e x)
def onVal (n : Option Next) : Option Value :=
  match n with
  | some (.value v) => some v
  | _ => none
noncomputable def evFlat (P : Program) (e : Operand → Option Value) (o : Oper) : Option OR :=
  ck (o.op.operands.toList.all (flatX e)) (ob (onVal (prun P (execOp (totX e) o))) fun v => ck (flat v) (some (.val v)))

/-- is a value of a kind that may be compared with nil only nil? -/
def isNil (P : Program) (t : TypeId) (v : Value) : Option Bool :=
  match P.underlying t, v with
  | some (.slice _), .slice b _ _ => some b.isNone
  | some (.pointer _), .pointer b => some b.isNone
  | some (.func ..), .nilFunc => some true
  | some (.func ..), .func .. => some false
  | _, _ => none

noncomputable def evBuild (P : Program) (e : Operand → Option Value) (t : TypeId) (parts : Array (Nat × Operand)) : Option OR :=
  ob (evParts e parts.toList) fun l => ob (zeroV P t) fun z =>
    bi (allFields P t) (ob (fillV (fieldPlace P t) l z.cells.toList) fun c => some (.val (.agg c.toArray)))
      (ob (arrT P t) fun a => ob (sizeT P a.2) fun n => ob (fillV (fun i => some (Nat.mul i n, n)) l z.cells.toList) fun c => some (.val (.agg c.toArray)))

noncomputable def evBuildSlice (P : Program) (e : Operand → Option Value) (t : TypeId) (len : Nat) (parts : Array (Nat × Operand)) (nid : Nat) : Option OR :=
  ob (elemT P t) fun el => ob (sizeT P el) fun n => ob (evParts e parts.toList) fun l => ob (zeroV P el) fun z =>
    ck (Nat.ble (Nat.mul len n) 100000 && (Nat.ble 1 n && Nat.beq z.cells.toList.length n))
      (ob (fillV (fun i => some (Nat.mul i n, n)) l (zerosOf z.cells.toList len)) fun c =>
        ck (c.all one) (some (.new (.slice (some ⟨nid, 0, none⟩) len len) (.row c el false))))

def infoT (P : Program) (t : TypeId) : Option (Nat × Nat) :=
  match P.info? t with
  | some i => some (i.size, i.bytes)
  | none => none
noncomputable def evMakeSlice (P : Program) (t : TypeId) (l c : Option Value) (nid : Nat) : Option OR :=
  ob (elemT P t) fun el => ob (infoT P el) fun i => ob l fun l => ob c fun c => withNat l fun l => withNat c fun c => ob (zeroV P el) fun z =>
    ck (Nat.beq z.cells.toList.length i.1 && (Nat.ble 1 i.1 && (Nat.ble i.2 100000 && (Nat.ble l c && Nat.ble c 100000))))
      (some (.new (.slice (some ⟨nid, 0, none⟩) l c) (.row (zerosOf z.cells.toList c) el false)))

noncomputable def evFieldAddr (P : Program) (s : TypeId) (x : Option Value) (f : Nat) : Option OR :=
  ob x fun v => withPtr v fun b o => ob (fieldOf P s f) fun fd => ob (sizeT P fd.type) fun n =>
    ck (Nat.ble 1 n) (some (.val (.pointer (some ⟨b, Nat.add o fd.offset, none⟩))))

noncomputable def evIndexAddr (P : Program) (t : TypeId) (x ix : Option Value) : Option OR :=
  ob x fun v => ob ix fun ix => withNat ix fun i =>
    bi (Option.isSome (elemT P t))
      (ob (elemT P t) fun el => ob (sizeT P el) fun n => withSlc v (fun _ _ => none) fun b o len _ =>
        ck (Nat.ble (Nat.succ i) len) (some (.val (.pointer (some ⟨b, Nat.add o (Nat.mul i n), none⟩)))))
      (ob (arrT P t) fun a => ob (sizeT P a.2) fun n => withPtr v fun b o =>
        ck (Nat.ble (Nat.succ i) a.1) (some (.val (.pointer (some ⟨b, Nat.add o (Nat.mul i n), none⟩)))))

def nilChecked : Value → Option Value
  | .pointer (some a) => some (.pointer (some a))
  | .func (.func f) a b => some (.func (.func f) a b)
  | _ => none

noncomputable def evMakeFunc (e : Operand → Option Value) (fn : Fn) (first captured : Array Operand) : Option OR :=
  match fn with
  | .func f => ob (evs e first.toList) fun a => ob (evs e captured.toList) fun b => some (.val (.func (.func f) a.toArray b.toArray))
  | _ => none

def bodyOf (P : Program) (f : FuncId) : Option (Func × Code) :=
  match P.funcs[f]? with
  | some fn => match fn.body with
    | some c => some (fn, c)
    | none => none
  | none => none
def callable (P : Program) (f : FuncId) : Bool :=
  match bodyOf P f with
  | some x => !(x.1.name == "runtime.NumGoroutine")
  | none => false

def callableT (P : Program) (t : Tgt) : Bool :=
  match t with
  | .fn f => callable P f
  | .yield _ => true
noncomputable def evCallV (P : Program) (e : Operand → Option Value) (f : Operand) (args : Array Operand) : Option OR :=
  ob (e f) fun f => withFn f fun f first captured => ob (evs e args.toList) fun l =>
    ck (callableT P f) (some (.call f (first.toList ++ (l ++ captured.toList))))

/-- append: what is known of the row that is appended to moves to a new block -/
noncomputable def evGrow (hp : T AObj) (nid : Nat) (c : List Value) (el : TypeId) (n : Nat) : Option OR :=
  ob (hp.set nid (some (.row c el true))) fun hp => some (.eff (.slice (some ⟨nid, 0, none⟩) n OPEN) hp (Nat.succ nid))
noncomputable def evAppendTo (hp : T AObj) (nid : Nat) (el : TypeId) (n m : Nat) (s : Value) (news : List Value) : Option OR :=
  withSlc s (fun l c => ck (Nat.beq l 0 && (Nat.beq c 0 && (Nat.ble 1 m && Nat.ble m 100000))) (evGrow hp nid news el m))
    fun b o len cap => ob (hp.get b) fun r => withRow r fun c el' opn =>
      ck (Nat.beq o 0 && (Nat.beq el' el && (Nat.ble (Nat.mul len n) c.length && Nat.ble (Nat.add len m) 100000)))
        (bi (Nat.beq cap OPEN)
          (ck opn (ob (hp.set b none) fun hp => evGrow hp nid (c.take (Nat.mul len n) ++ news) el (Nat.add len m)))
          (bi (Nat.ble (Nat.add len m) cap)
            (ck (!opn) (ob (setsFrom news (Nat.mul len n) c) fun c => ob (hp.set b (some (.row c el false))) fun hp => some (.eff (.slice (some ⟨b, 0, none⟩) (Nat.add len m) cap) hp nid)))
            (evGrow hp nid (c.take (Nat.mul len n) ++ news) el (Nat.add len m))))
noncomputable def evAppend (P : Program) (argTypes : Array TypeId) (s x : Value) (hp : T AObj) (nid : Nat) : Option OR :=
  ob argTypes[0]? fun t => ob argTypes[1]? fun t' => ob (elemT P t) fun el => ob (infoT P el) fun i => ob (zeroV P el) fun z =>
    ck (Nat.beq t t' && (Nat.beq argTypes.toList.length 2 && (Nat.beq z.cells.toList.length i.1 && (Nat.ble 1 i.1 && Nat.ble i.2 100000))))
      (withSlc x (fun _ _ => none) fun b o m _ => ob (hp.get b) fun r => withRow r fun c _ _ => ob (getsFrom c (Nat.mul m i.1) o) fun news =>
        ck (news.all one) (evAppendTo hp nid el i.1 m s news))

noncomputable def evLen (P : Program) (e : Operand → Option Value) (o : Oper) (args : Array Operand) (argTypes : Array TypeId) : Option OR :=
  bi (Option.isSome (ob argTypes[0]? (elemT P)))
    (ob args[0]? fun x => ob (e x) fun v => ck (Nat.beq args.toList.length 1) (withSlc v (fun n _ => some (.val (.int .i64 (.ofNat n)))) fun _ _ n _ => some (.val (.int .i64 (.ofNat n)))))
    (evFlat P e o)

noncomputable def evCall (P : Program) (e : Operand → Option Value) (o : Oper) (c : Call) (hp : T AObj) (nid : Nat) : Option OR :=
  match c.callee with
  | .value f => evCallV P e f c.args
  | .invoke .. => none
  | .builtin .append => ob c.args[0]? fun s => ob c.args[1]? fun x => ob (e s) fun s => ob (e x) fun x => ck (Nat.beq c.args.toList.length 2) (evAppend P c.argTypes s x hp nid)
  | .builtin .len => evLen P e o c.args c.argTypes
  | .builtin _ => evFlat P e o

def ltI : Int → Int → Bool
  | .ofNat a, .ofNat b => Nat.blt a b
  | .ofNat _, .negSucc _ => false
  | .negSucc _, .ofNat _ => true
  | .negSucc a, .negSucc b => Nat.blt b a
def eqI : Int → Int → Bool
  | .ofNat a, .ofNat b => Nat.beq a b
  | .negSucc a, .negSucc b => Nat.beq a b
  | _, _ => false
def fitI (x : Int) : Bool :=
  match x with
  | .ofNat a => Nat.blt a 9223372036854775808
  | .negSucc a => Nat.blt a 9223372036854775808
def posI (x : Int) : Bool :=
  match x with
  | .ofNat 0 => false
  | .ofNat (_ + 1) => true
  | .negSucc _ => false
/-- arithmetic of int, the common way -/
noncomputable def arith (op : BinOp) (a b : Int) : Option Int :=
  match op with
  | .add => some (Int.add a b)
  | .sub => some (Int.sub a b)
  | .mul => some (Int.mul a b)
  | .quo => ck (posI b) (some (Int.tdiv a b))
  | .rem => ck (posI b) (some (Int.tmod a b))
  | _ => none
def cmpI (op : BinOp) (a b : Int) : Option Bool :=
  match op with
  | .eql => some (eqI a b)
  | .neq => some (!eqI a b)
  | .lss => some (ltI a b)
  | .leq => some (!ltI b a)
  | .gtr => some (ltI b a)
  | .geq => some (!ltI a b)
  | _ => none
def with2 {β : Type} (a b : Value) (k : Int → Int → Option β) (z : Option β) : Option β :=
  match a, b with
  | .int .i64 x, .int .i64 y => k x y
  | _, _ => z
noncomputable def evBin (P : Program) (e : Operand → Option Value) (o : Oper) (op : BinOp) (t : TypeId) (x y : Operand) : Option OR :=
  ob (e x) fun a => ob (e y) fun b => with2 a b
    (fun x y => Option.rec (Option.rec (evFlat P e o) (fun r => bi (fitI r) (some (.val (.int .i64 r))) (evFlat P e o)) (arith op x y)) (fun r => some (.val (.bool r))) (cmpI op x y))
    (bi (flat a && flat b) (evFlat P e o)
      (ob (isNil P t a) fun i => ob (isNil P t b) fun j => ck (i || j) (match op with
        | .eql => some (.val (.bool (i && j)))
        | .neq => some (.val (.bool (!(i && j))))
        | _ => none)))

/-- a bound, or what stands for it -/
noncomputable def optN (e : Operand → Option Value) (x : Option Operand) (d : Nat) : Option Nat := Option.rec (some d) (fun x => ob (e x) fun v => withNat v fun n => some n) x
noncomputable def cutS (b off sz l h m : Nat) : Option OR := some (.val (.slice (some ⟨b, bi (Nat.beq m l) off (Nat.add off (Nat.mul l sz)), none⟩) (Nat.sub h l) (Nat.sub m l)))
noncomputable def cutSl (P : Program) (e : Operand → Option Value) (t : TypeId) (v : Value) (hi mx : Option Operand) (l : Nat) : Option OR :=
  ob (elemT P t) fun el => ob (sizeT P el) fun sz => withSlc v (fun _ _ => none) fun b off n c => ob (optN e hi n) fun h => ob (optN e mx c) fun m =>
    bi (Nat.beq c OPEN && Option.isNone mx)
      (ck (Nat.beq l 0 && (Nat.beq off 0 && Nat.ble h n)) (some (.val (.slice (some ⟨b, 0, none⟩) h OPEN))))
      (ck (Nat.ble l h && (Nat.ble h m && (Nat.ble m (bi (Nat.beq c OPEN) n c) && Nat.ble m 100000))) (cutS b off sz l h m))
noncomputable def cutAr (P : Program) (e : Operand → Option Value) (v : Value) (hi mx : Option Operand) (l : Nat) (a : Nat × TypeId) : Option OR :=
  ob (sizeT P a.2) fun sz => withPtr v fun b off => ob (optN e hi a.1) fun h => ob (optN e mx a.1) fun m =>
    ck (Nat.ble l h && (Nat.ble h m && (Nat.ble m a.1 && Nat.ble m 100000))) (cutS b off sz l h m)
/-- x[l:h:m] -/
noncomputable def evSlice (P : Program) (e : Operand → Option Value) (o : Oper) (t : TypeId) (x : Operand) (lo hi mx : Option Operand) : Option OR :=
  ob (e x) fun v => bi (flat v) (evFlat P e o) (ob (optN e lo 0) fun l => ck (Option.isSome hi || Option.isNone mx)
    (Option.rec (cutSl P e t v hi mx l) (fun a => cutAr P e v hi mx l a) (arrT P t)))

abbrev OpF := Program → (Operand → Option Value) → Oper → T AObj → Nat → Option OR
noncomputable def oMove (x : Operand) : OpF := fun _ e _ _ _ => oval (e x)
noncomputable def oExtract (x : Operand) (ix : Nat) : OpF := fun _ e _ _ _ => ob (e x) fun v => withTup v fun vs => oval vs[ix]?
noncomputable def oField (s : TypeId) (x : Operand) (f : Nat) : OpF := fun P e _ _ _ => ob (e x) fun v => withAgg v fun cs => ob (fieldOf P s f) fun fd => oval (partV P fd.type cs fd.offset)
noncomputable def oLoad (t : TypeId) (x : Operand) : OpF := fun P e _ hp _ => ob (e x) fun v => withPtr v fun b off => oval (loadV P hp t b off)
noncomputable def oStore (t : TypeId) (x y : Operand) : OpF := fun P e _ hp nid => ob (e x) fun a => ob (e y) fun v => withPtr a fun b off => ob (storeV P hp t b off v) fun hp => some (.eff undef hp nid)
noncomputable def oAlloc (t : TypeId) : OpF := fun P _ _ _ nid => ob (zeroV P t) fun v => some (.new (.pointer (some ⟨nid, 0, none⟩)) (.row v.cells.toList t false))
noncomputable def oBox (t : TypeId) (x : Operand) : OpF := fun _ e _ _ nid => ob (e x) fun v => ck (v.cells.toList.all one) (some (.new (.pointer (some ⟨nid, 0, none⟩)) (.row v.cells.toList t false)))
noncomputable def oBuild (t : TypeId) (parts : Array (Nat × Operand)) : OpF := fun P e _ _ _ => evBuild P e t parts
noncomputable def oBuildSlice (t : TypeId) (len : Nat) (parts : Array (Nat × Operand)) : OpF := fun P e _ _ nid => evBuildSlice P e t len parts nid
noncomputable def oMakeSlice (t : TypeId) (l c : Operand) : OpF := fun P e _ _ nid => evMakeSlice P t (e l) (e c) nid
noncomputable def oFieldAddr (s : TypeId) (x : Operand) (f : Nat) : OpF := fun P e _ _ _ => evFieldAddr P s (e x) f
noncomputable def oIndexAddr (t : TypeId) (x ix : Operand) : OpF := fun P e _ _ _ => evIndexAddr P t (e x) (e ix)
noncomputable def oNilCheck (x : Operand) : OpF := fun _ e _ _ _ => ob (e x) fun v => oval (nilChecked v)
noncomputable def oMakeFunc (fn : Fn) (first captured : Array Operand) : OpF := fun _ e _ _ _ => evMakeFunc e fn first captured
noncomputable def oCall (c : Call) : OpF := fun P e o hp nid => evCall P e o c hp nid
noncomputable def oBin (op : BinOp) (t : TypeId) (x y : Operand) : OpF := fun P e o _ _ => evBin P e o op t x y
noncomputable def oSlice (t : TypeId) (x : Operand) (lo hi mx : Option Operand) : OpF := fun P e o _ _ => evSlice P e o t x lo hi mx
noncomputable def oFlat : OpF := fun P e o _ _ => evFlat P e o
noncomputable def oNone : OpF := fun _ _ _ _ _ => none
noncomputable def opSel (op : Op) : OpF :=
  match op with
  | .select .. => oNone
  | .move x => oMove x
  | .assign x => oMove x
  | .extract x ix => oExtract x ix
  | .field s x f => oField s x f
  | .load t x => oLoad t x
  | .store t x y => oStore t x y
  | .alloc t => oAlloc t
  | .box t x => oBox t x
  | .build t parts => oBuild t parts
  | .buildSlice t len parts => oBuildSlice t len parts
  | .makeSlice t l c => oMakeSlice t l c
  | .fieldAddr s x f => oFieldAddr s x f
  | .indexAddr t x ix => oIndexAddr t x ix
  | .nilCheck x => oNilCheck x
  | .makeFunc fn first captured => oMakeFunc fn first captured
  | .call c => oCall c
  | .slice t x lo hi mx => oSlice t x lo hi mx
  | .binOp op t x y _ => oBin op t x y
  | _ => oFlat
noncomputable def evOp (P : Program) (e : Operand → Option Value) (o : Oper) (hp : T AObj) (nid : Nat) : Option OR := opSel o.op P e o hp nid

structure St where
  tm : Tm
  kp : Nat
  nt : Nat
  hp : T AObj
  nid : Nat
  df : List Nat
  rnd : Option Nat

abbrev CallF := Tgt → List Value → T AObj → Nat → Option (Value × T AObj × Nat)

/-- values in a normal form, so that the kernel knows them again -/
noncomputable def forceN {β : Type} (n : Nat) (k : Nat → β) : β := Nat.rec (k 0) (fun m _ => k (Nat.succ m)) n
noncomputable def forceI {β : Type} (n : Int) (k : Int → β) : β := Int.rec (fun n => forceN n fun n => k (.ofNat n)) (fun n => forceN n fun n => k (.negSucc n)) n
noncomputable def forceA {β : Type} (v : Value) (k : Value → β) : β :=
  match v with
  | .int kd n => forceI n fun n => k (.int kd n)
  | .bool b => bi b (k (.bool true)) (k (.bool false))
  | v => k v
noncomputable def forceL {β : Type} (l : List Value) : (List Value → β) → β := List.rec (fun k => k []) (fun v _ ih k => forceA v fun v => ih fun l => k (v :: l)) l
noncomputable def forceV {β : Type} (v : Value) (k : Value → β) : β :=
  match v with
  | .int kd n => forceI n fun n => k (.int kd n)
  | .bool b => bi b (k (.bool true)) (k (.bool false))
  | .agg cs => forceL cs.toList fun l => k (.agg l.toArray)
  | v => k v
noncomputable def forceVs {β : Type} (l : List Value) : (List Value → β) → β := List.rec (fun k => k []) (fun v _ ih k => forceV v fun v => ih fun l => k (v :: l)) l

/-- within a region: its own temporaries ahead of the frame's -/
structure RS where
  loc : Tm
  hp : T AObj
  nid : Nat

/-- writes a temporary -/
noncomputable def putT (loc : Tm) (nt : Nat) (hp : T AObj) (nid : Nat) (dst : Option Tmp) (v : Value) : Option RS :=
  Option.rec (some ⟨loc, hp, nid⟩) (fun d => ck (Nat.ble (Nat.succ d) nt) (forceV v fun v => some ⟨(d, v) :: loc, hp, nid⟩)) dst

def dstOf (ops : Array Oper) (j : Nat) : Option Tmp := (ops[j]?).bind (·.dst)
def isB (v : Value) (want : Bool) : Bool :=
  match v with
  | .bool b => b == want
  | _ => false
noncomputable def wantedV (ops : Array Oper) (loc base : Tm) (o : Oper) : Option Bool :=
  Option.rec (some true) (fun g => ob (dstOf ops g.1) fun d => ob (rd loc base d) fun v => some (isB v g.2)) o.guard

noncomputable def evOR (callF : CallF) (s : RS) (nt : Nat) (dst : Option Tmp) (r : OR) : Option RS :=
  match r with
  | .val v => putT s.loc nt s.hp s.nid dst v
  | .new v ob' => ob (s.hp.set s.nid (some ob')) fun hp => putT s.loc nt hp (Nat.succ s.nid) dst v
  | .eff v hp nid => ck (Nat.ble s.nid nid) (putT s.loc nt hp nid dst v)
  | .call f args => ob (callF f args s.hp s.nid) fun r => ck (Nat.ble s.nid r.2.2) (putT s.loc nt r.2.1 r.2.2 dst r.1)

/-- one operation, in the text's order -/
noncomputable def evStep (P : Program) (callF : CallF) (ops : Array Oper) (base : Tm) (nt : Nat) (o : Oper) (s : RS) : Option RS :=
  ob (wantedV ops s.loc base o) fun w => bi w (ob (evOp P (evX s.loc base) o s.hp s.nid) fun r => evOR callF s nt o.dst r) (putT s.loc nt s.hp s.nid o.dst undef)

noncomputable def evSteps (P : Program) (callF : CallF) (ops : Array Oper) (base : Tm) (nt : Nat) (l : List Oper) : RS → Option RS :=
  List.rec (fun s => some s) (fun o _ ih s => ob (evStep P callF ops base nt o s) fun s => ih s) l

/-- is the temporary kept behind its region? -/
def kept (kp t : Nat) : Bool := Nat.beq (Nat.mod (Nat.shiftRight kp t) 2) 1
noncomputable def commit (kp : Nat) (loc base : Tm) : Option Tm :=
  List.rec (some base) (fun x _ ih => ob ih fun b => bi (kept kp x.1) (aput b x.1 x.2) (some b)) loc

/-- a type whose values bear no address (for speed alone: asked again of the value) -/
def plainT (P : Program) : Nat → TypeId → Bool
  | 0, _ => false
  | n + 1, t => match P.underlying t with
    | some .bool | some (.int _) | some .string => true
    | some (.struct fs) => fs.toList.all fun f => plainT P n f.type
    | some (.array _ e) => plainT P n e
    | _ => false
def plainF (P : Program) (fn : Func) : Bool := fn.resultTypes.toList.all (plainT P 4)
def isoT (P : Program) (t : Tgt) : Bool :=
  match t with
  | .fn f => match bodyOf P f with
    | some x => plainF P x.1
    | none => false
  | .yield _ => false
/-! A region that draws its order: reckoned in the text's order, with what must stand for all orders. -/

noncomputable def bit (m j : Nat) : Bool := Nat.beq (Nat.mod (Nat.shiftRight m j) 2) 1
/-- what must lie ahead of each operation -/
noncomputable def mustOf (acc : List Nat) (o : Oper) : Nat :=
  List.rec 0 (fun e _ ih => bi (Region.binds .any e) (Nat.lor (Nat.lor (Nat.shiftLeft 1 e.on) (Option.rec 0 (fun m => m) acc[e.on]?)) ih) ih) o.after.toList
noncomputable def musts (l : List Oper) : List Nat → List Nat := List.rec (fun acc => acc) (fun o _ ih acc => ih (acc ++ [mustOf acc o])) l
def isEff (o : Oper) : Bool :=
  match o.op with
  | .store .. => true
  | .call { callee := .value _, .. } => true
  | .call { callee := .builtin .append, .. } => true
  | _ => false
def isLoad (o : Oper) : Bool :=
  match o.op with
  | .load .. => true
  | _ => false
/-- may two operations be drawn in either order, as far as temporaries go, or are they ordered? (i ahead of j in the text) -/
noncomputable def pairOk (ops : Array Oper) (m : Nat) (i : Nat) (a b : Oper) : Bool :=
  bit m i || (Oper.apart ops a b && !(isEff a && isEff b))
noncomputable def rowOk (ops : Array Oper) (m : Nat) (b : Oper) (l : List Oper) : Nat → Bool :=
  List.rec (fun _ => true) (fun a _ ih i => bi (pairOk ops m i a b) (ih (Nat.succ i)) false) l
noncomputable def pairsOk (ops : Array Oper) (ms : List Nat) (l : List Oper) : Nat → List Oper → Bool :=
  List.rec (fun _ _ => true) (fun b _ ih j pre => bi (Option.rec false (fun m => rowOk ops m b pre 0) ms[j]?) (ih (Nat.succ j) (pre ++ [b])) false) l
/-- each slot is written once -/
noncomputable def onceOk (l : List Oper) : List Nat → Bool :=
  List.rec (fun _ => true) (fun o _ ih seen => Option.rec (ih seen) (fun d => bi (seen.all fun e => !(Nat.beq e d)) (ih (d :: seen)) false) o.dst) l
noncomputable def edgesOk (l : List Oper) : Nat → Bool :=
  List.rec (fun _ => true) (fun o _ ih i => bi (o.after.toList.all fun e => bi (Region.binds .any e) (Nat.blt e.on i) true) (ih (Nat.succ i)) false) l
noncomputable def regOk (ops : Array Oper) : Bool :=
  Region.noSelect ops && (edgesOk ops.toList 0 && (onceOk ops.toList [] && (Nat.beq (musts ops.toList []).length ops.toList.length && pairsOk ops (musts ops.toList []) ops.toList 0 [])))

/-- a load: the operation, what lies ahead of it, the type, the address, the value -/
structure LD where
  op : Nat
  m : Nat
  t : TypeId
  b : Nat
  off : Nat
  v : Value

structure DS where
  loc : Tm
  core : T AObj
  abs : List Nat
  nid : Nat
  fls : List (Nat × Nat × AObj)
  old : List (Nat × T AObj × List Nat)
  lds : List LD

noncomputable def flOf (fls : List (Nat × Nat × AObj)) (id : Nat) : Option (Nat × AObj) := List.rec none (fun x _ ih => bi (Nat.beq x.2.1 id) (some (x.1, x.2.2)) ih) fls
/-- a block at a stage: of the memory, or made in this region and not yet in it -/
noncomputable def lookAt (m : Nat) (core : T AObj) (abs : List Nat) (fls : List (Nat × Nat × AObj)) (id : Nat) : Option AObj :=
  Option.rec (ob (flOf fls id) fun x => ck (bit m x.1 && abs.all (fun a => !(Nat.beq a id))) (some x.2)) (fun o => some o) (core.get id)
noncomputable def loadO (P : Program) (o : Option AObj) (t : TypeId) (off : Nat) : Option Value :=
  ob o fun r => withRow r fun c _ _ => ob (aggT P t) fun g =>
    bi g (ob (sizeT P t) fun n => ob (getsFrom c n off) fun l => some (.agg l.toArray)) (nth c off)
def eqA : Value → Value → Bool
  | .bool a, .bool b => a == b
  | .int k a, .int j b => decide (k = j) && eqI a b
  | .string a, .string b => decide (a = b)
  | .pointer none, .pointer none => true
  | .pointer (some ⟨a, o, none⟩), .pointer (some ⟨b, p, none⟩) => Nat.beq a b && Nat.beq o p
  | .slice none n c, .slice none m d => Nat.beq n m && Nat.beq c d
  | .slice (some ⟨a, o, none⟩) n c, .slice (some ⟨b, p, none⟩) m d => Nat.beq a b && (Nat.beq o p && (Nat.beq n m && Nat.beq c d))
  | .nilFunc, .nilFunc => true
  | .func (.yield f) a c, .func (.yield g) b d => Nat.beq f g && (Nat.beq a.size 0 && (Nat.beq b.size 0 && (Nat.beq c.size 0 && Nat.beq d.size 0)))
  | .func (.func f) a c, .func (.func g) b d => Nat.beq f g && (Nat.beq a.size 0 && (Nat.beq b.size 0 && (Nat.beq c.size 0 && Nat.beq d.size 0)))
  | _, _ => false
noncomputable def eqAs (l : List Value) : List Value → Bool :=
  List.rec (fun r => Nat.beq r.length 0) (fun v _ ih r => List.rec false (fun u us _ => bi (eqA v u) (ih us) false) r) l
noncomputable def eqV : Value → Value → Bool
  | .agg a, .agg b => eqAs a.toList b.toList
  | a, b => eqA a b
noncomputable def sameV (o : Option Value) (v : Value) : Bool := Option.rec false (fun u => eqV u v) o

/-- all blocks made in this region that must lie ahead, into the memory -/
noncomputable def absorb (m : Nat) (fls : List (Nat × Nat × AObj)) (abs : List Nat) (core : T AObj) : Option (T AObj × List Nat) :=
  List.rec (some (core, abs)) (fun x _ ih => ob ih fun r => bi (bit m x.1 && abs.all (fun a => !(Nat.beq a x.2.1))) (ob (r.1.set x.2.1 (some x.2.2)) fun c => some (c, x.2.1 :: r.2)) (some r)) fls

noncomputable def dPut (s : DS) (nt : Nat) (dst : Option Tmp) (v : Value) (core : T AObj) (abs : List Nat) (nid : Nat) (fls : List (Nat × Nat × AObj)) (old : List (Nat × T AObj × List Nat)) (lds : List LD) : Option DS :=
  ob (putT s.loc nt .leaf 0 dst v) fun r => some ⟨r.loc, core, abs, nid, fls, old, lds⟩

/-- the temporaries that an operation looks at, and no others -/
noncomputable def evXr (lk : List Tmp) (loc base : Tm) : Operand → Option Value
  | .tmp t => ck (lk.any fun u => Nat.beq u t) (rd loc base t)
  | .const v => constV v
  | .func f => some (.func (.func f) #[] #[])
  | .global _ => none
noncomputable def dLoad (P : Program) (i m nt : Nat) (lk : List Tmp) (base : Tm) (dst : Option Tmp) (t : TypeId) (x : Operand) (s : DS) : Option DS :=
  ob (evXr lk s.loc base x) fun p => withPtr p fun b off => ob (loadO P (lookAt m s.core s.abs s.fls b) t off) fun v =>
    ck (s.old.all fun q => bit m q.1 || sameV (loadO P (lookAt m q.2.1 q.2.2 s.fls b) t off) v)
      (dPut s nt dst v s.core s.abs s.nid s.fls s.old (⟨i, m, t, b, off, v⟩ :: s.lds))
/-- the memory has turned -/
noncomputable def dTurn (P : Program) (i m nt : Nat) (dst : Option Tmp) (s : DS) (v : Value) (core : T AObj) (abs : List Nat) (nid : Nat) : Option DS :=
  ck (Nat.ble s.nid nid && s.lds.all fun q => bit m q.op || sameV (loadO P (lookAt q.m core abs s.fls q.b) q.t q.off) q.v)
    (dPut s nt dst v core abs nid s.fls ((i, s.core, s.abs) :: s.old) s.lds)
noncomputable def dEff (P : Program) (callF : CallF) (i m nt : Nat) (lk : List Tmp) (base : Tm) (o : Oper) (s : DS) : Option DS :=
  ob (absorb m s.fls s.abs s.core) fun c => ob (evOp P (evXr lk s.loc base) o c.1 s.nid) fun r => match r with
    | .eff v hp nid => dTurn P i m nt o.dst s v hp c.2 nid
    | .call f args => bi (isoT P f && args.all flat)
        (ob (callF f args .leaf 0) fun q => ck (flat q.1) (dPut s nt o.dst q.1 s.core s.abs s.nid s.fls s.old s.lds))
        (ob (callF f args c.1 s.nid) fun q => dTurn P i m nt o.dst s q.1 q.2.1 c.2 q.2.2)
    | _ => none
noncomputable def dPlain (P : Program) (i nt : Nat) (lk : List Tmp) (base : Tm) (o : Oper) (s : DS) : Option DS :=
  ob (evOp P (evXr lk s.loc base) o .leaf s.nid) fun r => match r with
    | .val v => dPut s nt o.dst v s.core s.abs s.nid s.fls s.old s.lds
    | .new v ob' => dPut s nt o.dst v s.core s.abs (Nat.succ s.nid) ((i, s.nid, ob') :: s.fls) s.old s.lds
    | _ => none
def loadOf (o : Oper) : Option (TypeId × Operand) :=
  match o.op with
  | .load t x => some (t, x)
  | _ => none
noncomputable def dStep (P : Program) (callF : CallF) (ops : Array Oper) (base : Tm) (nt i m : Nat) (o : Oper) (s : DS) : Option DS :=
  ob (wantedV ops s.loc base o) fun w => bi w
    (Option.rec (bi (isEff o) (dEff P callF i m nt (Oper.looksAt ops o) base o s) (dPlain P i nt (Oper.looksAt ops o) base o s)) (fun l => dLoad P i m nt (Oper.looksAt ops o) base o.dst l.1 l.2 s) (loadOf o))
    (dPut s nt o.dst undef s.core s.abs s.nid s.fls s.old s.lds)
noncomputable def dSteps (P : Program) (callF : CallF) (ops : Array Oper) (ms : List Nat) (base : Tm) (nt : Nat) (l : List Oper) : Nat → DS → Option DS :=
  List.rec (fun _ s => some s) (fun o _ ih i s => ob ms[i]? fun m => ob (dStep P callF ops base nt i m o s) fun s => ih (Nat.succ i) s) l
/-- no block that is made in the region and not yet taken in bears a number of the memory -/
noncomputable def clean (fls : List (Nat × Nat × AObj)) (core : T AObj) (abs : List Nat) : Bool :=
  fls.all fun x => abs.any (fun a => Nat.beq a x.2.1) || Option.isNone (core.get x.2.1)
noncomputable def evDraw (P : Program) (callF : CallF) (ops : Array Oper) (base : Tm) (nt : Nat) (hp : T AObj) (nid : Nat) : Option RS :=
  ck (regOk ops) (ob (dSteps P callF ops (musts ops.toList []) base nt ops.toList 0 ⟨[], hp, [], nid, [], [], []⟩) fun s =>
    ck (clean s.fls s.core s.abs && s.old.all fun q => clean s.fls q.2.1 q.2.2)
      (ob (absorb (Nat.sub (Nat.shiftLeft 1 ops.toList.length) 1) s.fls s.abs s.core) fun c => some ⟨s.loc, c.1, s.nid⟩))

noncomputable def evResult (P : Program) (tm : Tm) (hp : T AObj) (r : ResultVar) : Option Value :=
  match r with
  | .tmp t => agt tm t
  | .cell a t => ob (agt tm a) fun v => withPtr v fun b off => loadV P hp t b off
noncomputable def evResults (P : Program) (tm : Tm) (hp : T AObj) (l : List ResultVar) : Option (List Value) :=
  List.rec (some []) (fun r _ ih => ob (evResult P tm hp r) fun v => ob ih fun l => some (v :: l)) l
def tupled (l : List Value) : Value :=
  match l with
  | [v] => v
  | l => .tuple l.toArray

noncomputable def setAll (kp : Nat) (l : List Value) : Nat → Tm :=
  List.rec (fun _ => []) (fun v _ ih i => bi (kept kp i) ((i, v) :: ih (Nat.succ i)) (ih (Nat.succ i))) l

/-- what a body reads that it has not written in the same region (for speed alone) -/
def opMask (x : Operand) : Nat :=
  match x with
  | .tmp t => Nat.shiftLeft 1 t
  | _ => 0
noncomputable def opsMask (l : List Operand) : Nat := List.rec 0 (fun x _ ih => Nat.lor (opMask x) ih) l
noncomputable def less (a b : Nat) : Nat := Nat.sub a (Nat.land a b)
noncomputable def expOps (l : List Oper) : Nat → Nat :=
  List.rec (fun _ => 0) (fun o _ ih w => Nat.lor (less (opsMask o.op.operands.toList) w) (ih (Nat.lor w (Option.rec 0 (fun d => Nat.shiftLeft 1 d) o.dst)))) l
noncomputable def expCode (c : Code) : Nat :=
  Code.rec 0 (fun _ ops _ => expOps ops.toList 0) (fun _ _ a b => Nat.lor a b) (fun c _ _ a b => Nat.lor (opMask c) (Nat.lor a b)) (fun _ _ a => a) (fun _ a => a)
    (fun f _ _ _ a b => Nat.lor (opMask f) (Nat.lor a b)) (fun _ => 0) (fun _ a => a) (fun _ => 0) (fun _ => 0) 0 (fun _ => 0) c
def resMask (r : ResultVar) : Nat :=
  match r with
  | .tmp t => Nat.shiftLeft 1 t
  | .cell a _ => Nat.shiftLeft 1 a
noncomputable def keepOf (x : Func × Code) : Nat := Nat.lor (expCode x.2) (List.rec 0 (fun r _ ih => Nat.lor (resMask r) ih) x.1.results.toList)

abbrev CodeF := Code → St → Option (AX × St)

def leaves (x : AX) : Bool :=
  match x with
  | .normal | .ret => true
  | _ => false
/-- the blocks for deferred calls are shut as the function leaves -/
noncomputable def delAll (df : List Nat) : T AObj → Option (T AObj) :=
  List.rec (fun hp => some hp) (fun d _ ih hp => ob (hp.get d) fun o => match o with
    | .dfr => ob (hp.set d none) fun hp => ih hp
    | _ => none) df
noncomputable def runBody (P : Program) (rec : CodeF) (x : Func × Code) : List Value → T AObj → Nat → Option (Value × T AObj × Nat) := fun args hp nid =>
  ck (Nat.ble args.length x.1.ntmps) (ob (rec x.2 ⟨setAll (keepOf x) args 0, keepOf x, x.1.ntmps, hp, nid, [], none⟩) fun r =>
    ck (leaves r.1) (ob (delAll r.2.df r.2.hp) fun hp' => ob (evResults P r.2.tm hp' x.1.results.toList) fun l => some (tupled l, hp', r.2.nid)))
/-- a call of flat values that gives flat ones is reckoned on an empty memory: the kernel then finds it again -/
noncomputable def callOf (P : Program) (rec : CodeF) (f : FuncId) : List Value → T AObj → Nat → Option (Value × T AObj × Nat) := fun args hp nid =>
  ob (bodyOf P f) fun x => bi (plainF P x.1 && args.all flat)
    (forceVs args fun args => ob (runBody P rec x args .leaf 0) fun r => ck (flat r.1) (some (r.1, hp, nid)))
    (runBody P rec x args hp nid)
/-- the values that are handed to yield -/
def setPs (kp nt : Nat) : List Tmp → List Value → Tm → Option Tm
  | [], [], tm => some tm
  | p :: ps, v :: vs, tm => match Nat.ble (p + 1) nt with
    | true => match kept kp p with
      | true => setPs kp nt ps vs ((p, v) :: tm)
      | false => setPs kp nt ps vs tm
    | false => none
  | _, _, _ => none
def isNormal (x : AX) : Bool :=
  match x with
  | .normal => true
  | _ => false
def jumpOf (x : AX) : Option AX :=
  match x with
  | .normal => none
  | x => some x
noncomputable def setLoop (hp : T AObj) (l st : Nat) (pend : Option AX) : Option (T AObj) :=
  ob (hp.get l) fun o => withLoop o fun _ _ tm kp nt ps as_ body d => hp.set l (some (.loop st pend tm kp nt ps as_ body d))
noncomputable def stateOf (hp : T AObj) (l : Nat) : Option Nat := ob (hp.get l) fun o => withLoop o fun st _ _ _ _ _ _ _ _ => some st
/-- one round of a range over a function -/
noncomputable def runRound (rec : CodeF) (l : Nat) : List Value → T AObj → Nat → Option (Value × T AObj × Nat) := fun args hp nid =>
  ob (hp.get l) fun o => withLoop o fun _ _ tm kp nt ps as_ body _ => ob (setPs kp nt ps.toList args tm) fun tm =>
    ob (rec as_ ⟨tm, kp, nt, hp, nid, [], some l⟩) fun r1 => ck (isNormal r1.1) (ob (stateOf r1.2.hp l) fun st => ck (Nat.beq st 0)
      (ob (setLoop r1.2.hp l 1 none) fun hp1 => ob (rec body ⟨r1.2.tm, kp, nt, hp1, r1.2.nid, r1.2.df, some l⟩) fun r2 =>
        ob (setLoop r2.2.hp l (bi (isNormal r2.1) 0 2) (jumpOf r2.1)) fun hp2 => some (.bool (isNormal r2.1), hp2, r2.2.nid)))
noncomputable def callAny (P : Program) (rec : CodeF) : CallF := fun t =>
  match t with
  | .fn f => callOf P rec f
  | .yield l => runRound rec l

noncomputable def thenN (r : Option (AX × St)) (k : St → Option (AX × St)) : Option (AX × St) :=
  ob r fun r => match r.1 with
    | .normal => k r.2
    | x => some (x, r.2)
noncomputable def outOf (id : Nat) (r : Option (AX × St)) : Option (AX × St) :=
  ob r fun r => match r.1 with
    | .exit id' => bi (Nat.beq id' id) (some (.normal, r.2)) (some (.exit id', r.2))
    | x => some (x, r.2)
noncomputable def condV {β : Type} (v : Option Value) (x y : Option β) : Option β :=
  ob v fun v => match v with
    | .bool b => bi b x y
    | _ => none

abbrev CdF := Program → CallF → CodeF → St → Option (AX × St)
noncomputable def cOut (x : AX) : CdF := fun _ _ _ s => some (x, s)
noncomputable def cSeq (a b : Code) : CdF := fun _ _ rec s => thenN (rec a s) (rec b)
noncomputable def cCond (c : Operand) (x y : Code) : CdF := fun _ _ rec s => condV (evX [] s.tm c) (rec x s) (rec y s)
noncomputable def cBlock (id : Nat) (c : Code) : CdF := fun _ _ rec s => outOf id (rec c s)
noncomputable def cLoop (c : Code) : CdF := fun _ _ rec s => thenN (rec c s) (rec (.loop c))
noncomputable def cRegion (ops : Array Oper) (draw : Bool) : CdF := fun P callF _ s => ob (bi draw (evDraw P callF ops s.tm s.nt s.hp s.nid) (evSteps P callF ops s.tm s.nt ops.toList ⟨[], s.hp, s.nid⟩)) fun r => ob (commit s.kp r.loc s.tm) fun tm => some (.normal, ⟨tm, s.kp, s.nt, r.hp, r.nid, s.df, s.rnd⟩)
/-- a range over a function: its record is laid, the function is called with yield, the pending jump is made -/
noncomputable def cRangeIn (callF : CallF) (g : Tgt) (first captured : Array Value) (ps : Array Tmp) (as_ body : Code) (s : St) (d : Nat) (df : List Nat) (hp : T AObj) (l : Nat) : Option (AX × St) :=
  match g with
  | .yield _ => none
  | .fn _ => ob (hp.set l (some (.loop 0 none s.tm s.kp s.nt ps as_ body d))) fun hp => ob (callF g (first.toList ++ (.func (.yield l) #[] #[] :: captured.toList)) hp (Nat.succ l)) fun r =>
    ob (r.2.1.get l) fun o => withLoop o fun st pend _ _ _ _ _ _ _ => ck (!(Nat.beq st 1) && Nat.ble (Nat.succ l) r.2.2) (ob (r.2.1.set l none) fun hp =>
      some (Option.rec AX.normal (fun x => x) pend, ⟨s.tm, s.kp, s.nt, hp, r.2.2, df, s.rnd⟩))
noncomputable def cRange (f : Operand) (ps : Array Tmp) (as_ body : Code) : CdF := fun P callF _ s =>
  ob (evX [] s.tm f) fun v => withFn v fun g first captured => ck (callableT P g)
    (Option.rec (ob (s.hp.set s.nid (some .dfr)) fun hp => cRangeIn callF g first captured ps as_ body s s.nid (s.nid :: s.df) hp (Nat.succ s.nid))
      (fun l0 => ob (s.hp.get l0) fun o => withLoop o fun _ _ _ _ _ _ _ _ d => cRangeIn callF g first captured ps as_ body s d s.df s.hp s.nid) s.rnd)
noncomputable def cNone : CdF := fun _ _ _ _ => none
noncomputable def codeSel (c : Code) : CdF :=
  match c with
  | .skip => cOut .normal
  | .label _ => cOut .normal
  | .ret => cOut .ret
  | .exit id => cOut (.exit id)
  | .goto l => cOut (.goto l)
  | .seq a b => cSeq a b
  | .cond c x y => cCond c x y
  | .block id c => cBlock id c
  | .loop c => cLoop c
  | .region _ ops draw => cRegion ops draw
  | .rangeFunc f ps as_ body => cRange f ps as_ body
  | _ => cNone

noncomputable def evC (P : Program) (callF : CallF) (n : Nat) : CodeF := Nat.rec (fun _ _ => none) (fun _ ih c s => codeSel c P callF ih s) n
/-- k: how long a body may be, n: how deep calls may go -/
noncomputable def evD (P : Program) (k n : Nat) : CallF := Nat.rec (fun _ _ _ _ => none) (fun _ ih => callAny P (evC P ih k)) n

noncomputable def evF (P : Program) (k n : Nat) (f : FuncId) (args : List Value) : Option (Value × T AObj × Nat) := evD P k n (.fn f) args .leaf 0

noncomputable def isTrue (r : Option (Value × T AObj × Nat)) : Bool := Option.rec false (fun r => isB r.1 true) r

end Ev
end Go.Proofs.Ytagpaoglcjcaeaa
