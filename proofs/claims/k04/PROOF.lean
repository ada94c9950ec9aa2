import PyProof.Rows.All
import HandS.ForMost
import HandS.Flow
import HandS.IsInst
import HandS.DictComp
import HandS.DeepEq
import HandS.DictEq
import HandS.ListEq
import HandS.Codes
import HandS.WordsExc
import HandS.More
import HandS.ExcOwn
import HandS.TryOnly
import HandS.TryMany
import HandS.CallLocal
import HandS.Wide
import HandS.EndBits
import HandS.Text
import KE.KEqNest
import PyProof.NeKinds
import HandS.HeadEnd
import HandS.Head0
import HandS.Head1
import HandS.Head2
import PyProof.DictUpdate
import KE.KDictList
import HandS.Small
import HandS.FStr
import HandS.ExcIs
import HandS.HeadHook1
import HandS.HeadHook2
import HandS.HeadHook4
import PyProof.ExcBaseAll.ValueError
import HandS.HeadHook3
import PyProof.Rows.StrMadeLen
import PySem.Challenge.RW_kindsure_k04_numbers_reckoned
set_option Elab.async false
set_option linter.all false
set_option maxRecDepth 100000
set_option maxHeartbeats 0
set_option exponentiation.threshold 10000
/-! Pi1: data, a small tree language of reckoning upon data, and what its trees come to. -/
namespace Pi
open PySem

/-- data, by value; fn: a def of the program, obj: an instance, by its number -/
inductive D where
  | non | bl (b : Bool) | int (i : Int) | str (x : Str) | fn (i : Nat) | obj (i : Nat)
  | tup (xs : List D) | lst (xs : List D) | dic (kvs : List (Str × D))
  deriving Repr
/-- what obj points to: an instance (its class's number, its attributes), a list or dict that may change; one of these that is being walked -/
inductive Ob where
  | ins (cls : Nat) (fs : List (Str × D))
  | ol (xs : List D)
  | od (kvs : List (Str × D))
  | lk (o : Ob)
abbrev Sto := List Ob
def Ob.fs : Ob → List (Str × D)
  | .ins _ fs => fs
  | _ => []
def Ob.cls : Ob → Nat
  | .ins c _ => c
  | _ => 0
/-- a list's, a dict's content -/
def Ob.dat : Ob → Option D
  | .ol xs => some (.lst xs)
  | .od kvs => some (.dic kvs)
  | .lk o => o.dat
  | .ins _ _ => none
/-- what is to be read -/
def der (S : Sto) (d : D) : D :=
  match d with
  | .obj i => (match S[i]? with
    | some o => o.dat.getD (.obj i)
    | none => .obj i)
  | d => d
theorem der_no {S : Sto} {d : D} (h : ∀ i, d ≠ .obj i) : der S d = d := by cases d <;> first | rfl | exact absurd rfl (h _)
/-- walked, and no more -/
def lkS (w : Option Nat) (S : Sto) : Sto :=
  match w with
  | none => S
  | some i => (match S[i]? with
    | some o => S.set i (.lk o)
    | none => S)
def ulS (w : Option Nat) (S : Sto) : Sto :=
  match w with
  | none => S
  | some i => (match S[i]? with
    | some (.lk o) => S.set i o
    | _ => S)
theorem ulS_lk {i : Nat} {S : Sto} {o : Ob} (h : S[i]? = some (.lk o)) : ulS (some i) S = S.set i o := by simp only [ulS, h]
theorem ulS_no {i : Nat} {S : Sto} (h : ∀ o, S[i]? ≠ some (.lk o)) : ulS (some i) S = S := by
  show (match S[i]? with | some (.lk o) => S.set i o | _ => S) = S
  cases e : S[i]? with
  | none => rfl
  | some o => cases o <;> first | rfl | exact absurd e (h _)
/-- what a local name holds: data, or a list or dict of the def's own that nobody else has -/
inductive Sl where
  | v (d : D) | ol (xs : List D) | od (kvs : List (Str × D))
abbrev Rho := List (Option Sl)
inductive Out (α : Type) where
  | ok (a : α) (S : Sto) | exc (c : Nat) (S : Sto) | bad
def Out.bnd {α β : Type} (o : Out α) (f : α → Sto → Out β) : Out β :=
  match o with
  | .ok a S => f a S
  | .exc c S => .exc c S
  | .bad => .bad

inductive O2 where | add | sub | mul | fdiv | mod
  deriving DecidableEq, Repr
inductive Cm where | lt | le | gt | ge | eq | ne | inn | nin
  deriving DecidableEq, Repr
inductive Bi where | len | int | list | dict | repr | abs | all | sum | max
  deriving DecidableEq, Repr
inductive B2 where | max | min
  deriving DecidableEq, Repr
inductive Ty where | int | bool | str | list | tuple | dict
  deriving DecidableEq, Repr
/-- where a value goes: a name, or names -/
inductive Tg where | nm (i : Nat) | tup (is : List Nat) | kv (i : Nat) (is : List Nat)
  deriving DecidableEq, Repr

mutual
inductive E where
  | var (i : Nat) | int (n : Int) | str (x : Str) | bl (b : Bool) | non | fn (i : Nat)
  | bin (o : O2) (a b : E) | neg (a : E)
  | cmp (o : Cm) (a b : E) | isN (a : E) | notN (a : E) | chain (o p : Cm) (a b c : E)
  | and (a b : E) | or (a b : E) | not (a : E) | ite (c : T) (a b : E)
  | tup (es : EL) | lst (es : EL) | dct (ps : KL)
  | call (f : Nat) (es : EL) | callv (i : Nat) (es : EL) | new (c : Nat) (es : EL)
  | bi (o : Bi) (a : E) | b2 (o : B2) (a b : E) | isi (a : E) (ts : List Ty)
  | sub (a i : E) | slice (a lo hi : E) | attr (a : E) (f : Str)
  | join (x : Str) (a : E) | get1 (a k : E) | get2 (a k d : E)
  | lc (e : E) (t : Tg) (it : It) (c : T) (vs : List Nat)
  | dc (k e : E) (t : Tg) (it : It) (c : T) (vs : List Nat)
  | mrg (a b : E) | lvals (a : E) | mrg1 (a k b : E)
  | cell (a : E) | cpop (a : E) | meth (m : Str) (o : E) (es : EL) | tsub (t : Nat) (k : E) | fmt (a : E) | fst (ps : EL)
  deriving DecidableEq
inductive T where
  | e (a : E) | and (a b : T) | or (a b : T) | not (a : T) | yes
  deriving DecidableEq
inductive EL where
  | nil | cons (a : E) (r : EL)
  deriving DecidableEq
inductive KL where
  | nil | cons (k a : E) (r : KL)
  deriving DecidableEq
inductive It where
  | over (a : E) | rng (a : E) | rng2 (a b : E) | enum (a : E) | rev (a : E) | items (a : E) | vals (a : E) | zip (a b : E)
  deriving DecidableEq
end

/-- what stands in an except suite: a constant is returned, maybe behind a test -/
inductive XI where
  | ret (u : E) | ifi (i : Nat) (n : Int) (u : E) | ifx (t : List (Option Nat)) (u : E)
  deriving DecidableEq
mutual
inductive S where
  | asg (t : Tg) (e : E) | par (i j : Nat) (a b : E) | aug (i : Nat) (o : O2) (e : E)
  | setk (i : Nat) (k e : E) | app (i : Nat) (e : E) | ext (i : Nat) (e : E)
  | popl (t : Tg) (i : Nat) | popk (i : Nat) (e : E) | attr (a : E) (f : Str) (e : E)
  | ex (e : E) | ret (e : E) | pass | brk | cont
  | ite (c : T) (a b : SL) | whl (c : T) (b : SL) | for (t : Tg) (it : It) (b : SL)
  | capp (a e : E) | csetk (a k e : E) | cdels (a e : E)
  | raise (c : Nat) (es : EL) | tri (b : SL) (hs : List (Nat × List XI)) | trx (b : SL) (c j : Nat) (xs : List XI)
  | frz (is : List Nat) (s : S)
  deriving DecidableEq
inductive SL where
  | nil | cons (s : S) (r : SL)
  deriving DecidableEq
end


/-! ### the operations on data -/
def dget (kvs : List (Str × D)) (k : Str) : Option D := (kvs.find? fun p => decide (p.1 = k)).map (·.2)
def dput (kvs : List (Str × D)) (k : Str) (d : D) : List (Str × D) :=
  if (kvs.any fun p => decide (p.1 = k)) = true then kvs.map (fun p => if p.1 = k then (p.1, d) else p) else kvs ++ [(k, d)]
def fput (f : Str) (d : D) : List (Str × D) → List (Str × D)
  | [] => [(f, d)]
  | p :: r => if p.1 = f then (p.1, d) :: r else p :: fput f d r
def ddrop (kvs : List (Str × D)) (k : Str) : List (Str × D) := kvs.filter fun p => decide (p.1 ≠ k)

mutual
def D.deep : D → Nat
  | .tup xs => deepL xs + 1
  | .lst xs => deepL xs + 1
  | .dic kvs => deepK kvs + 1
  | _ => 0
def deepL : List D → Nat
  | [] => 0
  | x :: r => max x.deep (deepL r)
def deepK : List (Str × D) → Nat
  | [] => 0
  | p :: r => max p.2.deep (deepK r)
end
mutual
/-- the library's data -/
def D.py : D → PyData
  | .non => .none
  | .bl b => .bool b
  | .int i => .int i
  | .str x => .str x
  | .fn _ => .none
  | .obj _ => .none
  | .tup xs => .tuple (pyL xs)
  | .lst xs => .list (pyL xs)
  | .dic kvs => .dict (pyK kvs)
def pyL : List D → List PyData
  | [] => []
  | x :: r => x.py :: pyL r
def pyK : List (Str × D) → List (PyData × PyData)
  | [] => []
  | p :: r => (.str p.1, p.2.py) :: pyK r
end
mutual
/-- neither defs nor instances within -/
def D.plain : D → Bool
  | .fn _ => false
  | .obj _ => false
  | .tup xs => plainL xs
  | .lst xs => plainL xs
  | .dic kvs => plainK kvs
  | _ => true
def plainL : List D → Bool
  | [] => true
  | x :: r => x.plain && plainL r
def plainK : List (Str × D) → Bool
  | [] => true
  | p :: r => p.2.plain && plainK r
end
mutual
/-- ==, where it is told here -/
def eqd : D → D → Option Bool
  | .non, .non => some true
  | .bl a, .bl b => some (a == b)
  | .bl a, .int b => some ((if a then 1 else 0) == b)
  | .int a, .bl b => some (a == (if b then 1 else 0))
  | .int a, .int b => some (a == b)
  | .str a, .str b => some (a == b)
  | .tup xs, .tup ys => eqdL xs ys
  | .lst xs, .lst ys => if xs.length = ys.length then eqdL xs ys else some false
  | .dic xs, .dic ys => (eqdK xs ys).map fun b => b && xs.length == ys.length
  | .non, .int _ => some false | .non, .str _ => some false | .non, .bl _ => some false
  | .non, .tup _ => some false | .non, .lst _ => some false
  | .int _, .non => some false | .str _, .non => some false | .bl _, .non => some false
  | .tup _, .non => some false | .lst _, .non => some false
  | .int _, .str _ => some false | .str _, .int _ => some false | .bl _, .str _ => some false | .str _, .bl _ => some false
  | .str _, .tup _ => some false | .str _, .lst _ => some false
  | .tup _, .str _ => some false | .lst _, .str _ => some false
  | .int _, .tup _ => some false | .int _, .lst _ => some false
  | .tup _, .int _ => some false | .lst _, .int _ => some false
  | .bl _, .tup _ => some false | .bl _, .lst _ => some false
  | .tup _, .bl _ => some false | .lst _, .bl _ => some false
  | .tup _, .lst _ => some false | .lst _, .tup _ => some false
  | .tup _, .dic _ => some false | .dic _, .tup _ => some false
  | _, _ => none
def eqdL : List D → List D → Option Bool
  | [], [] => some true
  | [], _ :: _ => some false
  | _ :: _, [] => some false
  | x :: xs, y :: ys =>
      match eqd x y, eqdL xs ys with
      | some a, some b => some (a && b)
      | _, _ => none
/-- the pairs of the first dict, looked up in the other one -/
def eqdK : List (Str × D) → List (Str × D) → Option Bool
  | [], _ => some true
  | p :: r, ys =>
    match dget ys p.1 with
    | none => (eqdK r ys).map fun _ => false
    | some u =>
      match eqd p.2 u, eqdK r ys with
      | some a, some b => some (a && b)
      | _, _ => none
end

/-- how a list or text is cut -/
def cut (n d : Nat) : D → Option Nat
  | .non => some d
  | .int v => some (if v < 0 then (v + (n : Int)).toNat else min v.toNat n)
  | _ => none
def ixd (n : Nat) (i : Int) : Option Nat := if 0 ≤ i then (if i < n then some i.toNat else none) else if -(n : Int) ≤ i then some (i + n).toNat else none
def truD : D → Option Bool
  | .non => some false
  | .bl b => some b
  | .int i => some (i != 0)
  | .str x => if x.length ≤ sizeLine then some ((x.length : Int) != 0) else none
  | .tup xs => some !xs.isEmpty
  | .lst xs => some !xs.isEmpty
  | .dic kvs => some !kvs.isEmpty
  | _ => none
def tyD : D → Option Ty
  | .bl _ => some .bool
  | .int _ => some .int
  | .str _ => some .str
  | .tup _ => some .tuple
  | .lst _ => some .list
  | .dic _ => some .dict
  | _ => none
/-- isinstance of one of the types -/
def isiD (d : D) (ts : List Ty) : Option Bool :=
  match d with
  | .non => some false
  | .fn _ => none
  | .obj _ => none
  | .bl _ => some (ts.any fun t => t == .bool || t == .int)
  | d => some (ts.any fun t => tyD d == some t)

def lift {α : Type} (o : Option α) (S : Sto) : Out α := match o with | some a => .ok a S | none => .bad
def strsD : List D → Option (List Str)
  | [] => some []
  | .str x :: r => (strsD r).map (x :: ·)
  | _ => none
def intsD : List D → Option (List Int)
  | [] => some []
  | .int x :: r => (intsD r).map (x :: ·)
  | _ => none
def blsD : List D → Option (List Bool)
  | [] => some []
  | .bl x :: r => (blsD r).map (x :: ·)
  | _ => none
def o2D (o : O2) (a b : D) : Option D :=
  match o, a, b with
  | .add, .int i, .int j => some (.int (i + j))
  | .add, .str x, .str y => if x.length + y.length ≤ sizeLine then some (.str (x ++ y)) else none
  | .add, .lst xs, .lst ys => if xs.length + ys.length ≤ sizeLine then some (.lst (xs ++ ys)) else none
  | .sub, .int i, .int j => some (.int (i - j))
  | .mul, .int i, .int j => if (-(2 ^ 64) < i ∧ i < 2 ^ 64) ∨ (-(2 ^ 64) < j ∧ j < 2 ^ 64) then some (.int (i * j)) else none
  | .fdiv, .int i, .int j => if j ≠ 0 ∧ j.natAbs < 2 ^ 9000 then some (.int (i.fdiv j)) else none
  | .mod, .int i, .int j => if j ≠ 0 then some (.int (i.fmod j)) else none
  | _, _, _ => none
/-- a member, by == of plain scalars; a key -/
def innD (x : D) (y : D) : Option Bool :=
  match x, y with
  | .str x, .dic kvs => some (dget kvs x).isSome
  | .str x, .lst ys => (strsD ys).map fun zs => decide (x ∈ zs)
  | .str x, .tup ys => (strsD ys).map fun zs => decide (x ∈ zs)
  | .int x, .lst ys => (intsD ys).map fun zs => decide (x ∈ zs)
  | .int x, .tup ys => (intsD ys).map fun zs => decide (x ∈ zs)
  | _, _ => none
def eqq (a b : D) : Option Bool := if min a.deep b.deep ≤ 100 then eqd a b else none
def cmD (o : Cm) (a b : D) : Option Bool :=
  match o with
  | .lt => match a, b with | .int i, .int j => some (decide (i < j)) | _, _ => none
  | .le => match a, b with | .int i, .int j => some (decide (i ≤ j)) | _, _ => none
  | .gt => match a, b with | .int i, .int j => some (decide (j < i)) | _, _ => none
  | .ge => match a, b with | .int i, .int j => some (decide (j ≤ i)) | _, _ => none
  | .eq => eqq a b
  | .ne => (eqq a b).map (!·)
  | .inn => innD a b
  | .nin => (innD a b).map (!·)
def lenD : D → Option Int
  | .str x => if x.length ≤ sizeLine then some x.length else none
  | .tup xs => some xs.length
  | .lst xs => some xs.length
  | .dic kvs => some kvs.length
  | _ => none
def keysD (kvs : List (Str × D)) : List D := kvs.map fun p => .str p.1
def maxI : List Int → Option D
  | [] => none
  | n :: r => some (.int (r.foldl (fun a b => if b > a then b else a) n))
def biD (o : Bi) (a : D) : Option D :=
  match o with
  | .len => (lenD a).map .int
  | .int => match a with | .int i => some (.int i) | .bl b => some (.int (if b then 1 else 0)) | _ => none
  | .list => match a with | .lst xs => some (.lst xs) | .tup xs => some (.lst xs) | .dic kvs => some (.lst (keysD kvs)) | _ => none
  | .dict => match a with | .dic kvs => some (.dic kvs) | _ => none
  | .repr => if a.plain = true ∧ a.py.showable = true ∧ a.py.shown.length ≤ sizeLine ∧ a.deep ≤ 100 then some (.str a.py.shown) else none
  | .abs => match a with | .int i => some (.int (if i < 0 then -i else i)) | _ => none
  | .all => match a with | .lst xs => (blsD xs).map fun bs => .bl (bs.all id) | _ => none
  | .sum => match a with | .lst xs => (intsD xs).map fun ns => .int ns.sum | _ => none
  | .max => match a with | .lst xs => (intsD xs).bind maxI | _ => none
def b2D (o : B2) (a b : D) : Option D :=
  match o, a, b with
  | .max, .int i, .int j => some (.int (if j > i then j else i))
  | .min, .int i, .int j => some (.int (if j < i then j else i))
  | _, _, _ => none
def subD (a i : D) : Option D :=
  match a, i with
  | .lst xs, .int i => (ixd xs.length i).bind fun j => xs[j]?
  | .tup xs, .int i => (ixd xs.length i).bind fun j => xs[j]?
  | .str x, .int i => if x.length ≤ sizeLine then ((ixd x.cps.toList.length i).bind fun j => x.cps.toList[j]?).map fun c => .str ⟨#[c]⟩ else none
  | .dic kvs, .str k => dget kvs k
  | _, _ => none
def sliceD (a lo hi : D) : Option D :=
  match a with
  | .lst xs => (cut xs.length 0 lo).bind fun i => (cut xs.length xs.length hi).map fun j => .lst ((xs.drop i).take (j - i))
  | .tup xs => (cut xs.length 0 lo).bind fun i => (cut xs.length xs.length hi).bind fun j => if i = 0 ∧ j = xs.length then none else some (.tup ((xs.drop i).take (j - i)))
  | .str x => if x.length ≤ sizeLine then (match lo, hi with
      | .non, .non => some (.str (Txt.slice x none none))
      | .int i, .non => some (.str (Txt.slice x (some i) none))
      | .non, .int j => some (.str (Txt.slice x none (some j)))
      | .int i, .int j => some (.str (Txt.slice x (some i) (some j)))
      | _, _ => none) else none
  | _ => none
def joinD (x : Str) (a : D) : Option D :=
  match a with
  | .lst xs => (strsD xs).bind fun ys => if (ys.map (·.length)).sum + ys.length * x.length ≤ 16777216 then some (.str (Txt.join x ys)) else none
  | _ => none
/-- {**a, **b} -/
def mrgK (kvs more : List (Str × D)) : List (Str × D) := more.foldl (fun acc p => dput acc p.1 p.2) kvs
def mrgD (kx : List (Str × D)) (b : D) : Option D :=
  match b with
  | .dic ky => if kx.length + ky.length ≤ sizeLine then some (.dic (mrgK (mrgK [] kx) ky)) else none
  | _ => none
/-- binding -/
def bindV (is : List Nat) (ds : List D) (r : Rho) : Option Rho :=
  match is, ds with
  | [], [] => some r
  | i :: is, d :: ds => if i < r.length then bindV is ds (r.set i (some (.v d))) else none
  | _, _ => none
def bindT (t : Tg) (d : D) (r : Rho) : Option Rho :=
  match t with
  | .nm i => if i < r.length then some (r.set i (some (.v d))) else none
  | .tup is => match d with | .tup ds => bindV is ds r | .lst ds => bindV is ds r | _ => none
  | .kv i is => match d with | .tup [a, .tup ds] => if i < r.length then bindV is ds (r.set i (some (.v a))) else none | _ => none
def wipeR (r : Rho) : List Nat → Rho
  | [] => r
  | v :: vs => (wipeR r vs).set v none
/-- a name's data, even if it is the def's own list or dict -/
def look (i : Nat) (r : Rho) : Option D :=
  match r[i]? with
  | some (some (.v d)) => some d
  | some (some (.ol xs)) => some (.lst xs)
  | some (some (.od kvs)) => some (.dic kvs)
  | _ => none
/-- what is only read may be the def's own -/
def rd (e : E) (r : Rho) (S : Sto) (o : Out D) : Out D :=
  match e with
  | .var i => lift (look i r) S
  | _ => o

def intO (o : Out D) : Out D := o.bnd fun x S => match x with | .int i => .ok (.int i) S | _ => .bad
/-- a slice's part: none, or a number -/
def partO (e : E) (S : Sto) (o : Out D) : Out D :=
  match e with
  | .non => .ok .non S
  | _ => intO o

/-- what the defs are worth -/
structure Phi where
  n : Nat
  call : Nat → List D → Sto → Out D
  ini : Nat → Nat
  sub : Nat → Nat → Option Bool
  met : Nat → Str → Option Nat
  tb : Nat → List (Str × D)

def loopL (f : D → Sto → Out (Option D)) : List D → Sto → Out (List D)
  | [], S => .ok [] S
  | x :: r, S => (f x S).bnd fun y S => (loopL f r S).bnd fun ys S => .ok (match y with | some y => y :: ys | none => ys) S
def loopK (f : D → Sto → Out (Option (Str × D))) : List D → List (Str × D) → Sto → Out (List (Str × D))
  | [], acc, S => .ok acc S
  | x :: r, acc, S => (f x S).bnd fun y S => loopK f r (match y with | some p => dput acc p.1 p.2 | none => acc) S
def nox {α : Type} : Out α → Out α
  | .ok a S => .ok a S
  | _ => .bad
/-- one turn of a comprehension: no exception leaves it -/
def lcStep (t : Tg) (vs : List Nat) (r : Rho) (mt : Rho → Sto → Out Bool) (me : Rho → Sto → Out D) : D → Sto → Out (Option D) := fun x S =>
  match bindT t x (wipeR r vs) with
  | some r' => nox ((mt r' S).bnd fun k S => if k = true then (me r' S).bnd fun y S => .ok (some y) S else .ok none S)
  | none => .bad
def dcStep (t : Tg) (vs : List Nat) (r : Rho) (mt : Rho → Sto → Out Bool) (mk me : Rho → Sto → Out D) : D → Sto → Out (Option (Str × D)) := fun x S =>
  match bindT t x (wipeR r vs) with
  | some r' => nox ((mt r' S).bnd fun k S => if k = true then (mk r' S).bnd fun y S => (me r' S).bnd fun z S => (match y with | .str y => .ok (some (y, z)) S | _ => .bad) else .ok none S)
  | none => .bad
def enumD : Nat → List D → List D
  | _, [] => []
  | n, x :: r => .tup [.int n, x] :: enumD (n + 1) r
def zipD : List D → List D → List D
  | x :: xs, y :: ys => .tup [x, y] :: zipD xs ys
  | _, _ => []
/-- a range's bound -/
def fits62 (j : Int) : Bool := decide (-(2 ^ 62) ≤ j) && decide (j < 2 ^ 62)
theorem fits62_ok {j : Int} (h : fits62 j = true) : -(2 ^ 62) ≤ j ∧ j < 2 ^ 62 := by
  unfold fits62 at h
  simpa using h
theorem fits62_of {j : Int} (h0 : 0 ≤ j) (h1 : j < 4611686018427387904) : fits62 j = true := by
  unfold fits62
  simp only [Bool.and_eq_true, decide_eq_true_eq]
  omega
def rngD (i : Int) (n : Nat) : List D := (List.range n).map fun k => .int (i + (k : Nat))

/-- {x} of a text, of a number -/
def fmtD (d : D) : Option D := match d with
  | .str y => if y.length ≤ sizeLine then some (.str y) else none
  | .int i => if i.natAbs.log2 < 1920 then some (.str (toString i)) else none
  | _ => none
/-- a list's last one is taken -/
def popD (S : Sto) (x : D) : Out D := match x with
  | .obj i => (match S[i]? with
    | some (.ol xs) => (match xs.getLast? with
      | some d => .ok d (S.set i (.ol xs.dropLast))
      | none => .bad)
    | _ => .bad)
  | _ => .bad
/-- a new list or dict, as a thing of its own -/
def newD (S : Sto) (x : D) : Out D := match x with
  | .lst xs => .ok (.obj S.length) (S ++ [.ol xs])
  | .dic kvs => .ok (.obj S.length) (S ++ [.od kvs])
  | _ => .bad
/-- what is walked: a thing that may change is locked meanwhile -/
structure Wk where
  w : Option Nat
  xs : List D
/-- who is walked -/
def overD (S : Sto) (x : D) : Out Wk := match x with
  | .lst xs => .ok ⟨none, xs⟩ S
  | .tup xs => .ok ⟨none, xs⟩ S
  | .dic kvs => .ok ⟨none, keysD kvs⟩ S
  | .obj i => (match S[i]? with
    | some (.ol xs) => .ok ⟨some i, xs⟩ (S.set i (.lk (.ol xs)))
    | some (.od kvs) => .ok ⟨some i, keysD kvs⟩ (S.set i (.lk (.od kvs)))
    | _ => .bad)
  | _ => .bad
def Out.unl {α : Type} (w : Option Nat) (o : Out α) : Out α := match o with
  | .ok a S => .ok a (ulS w S)
  | .exc c S => .exc c S
  | .bad => .bad
mutual
def ev (Φ : Phi) : E → Rho → Sto → Out D
  | .var i, r, S => match r[i]? with | some (some (.v d)) => .ok d S | _ => .bad
  | .int n, _, S => .ok (.int n) S
  | .str x, _, S => .ok (.str x) S
  | .bl b, _, S => .ok (.bl b) S
  | .non, _, S => .ok .non S
  | .fn i, _, S => .ok (.fn i) S
  | .bin o a b, r, S => (rd a r S (ev Φ a r S)).bnd fun x S => (rd b r S (ev Φ b r S)).bnd fun y S => lift (o2D o (der S x) (der S y)) S
  | .neg a, r, S => (ev Φ a r S).bnd fun x S => match x with | .int i => .ok (.int (-i)) S | _ => .bad
  | .cmp o a b, r, S => (rd a r S (ev Φ a r S)).bnd fun x S => (rd b r S (ev Φ b r S)).bnd fun y S => (lift (cmD o (der S x) (der S y)) S).bnd fun k S => .ok (.bl k) S
  | .isN a, r, S => (rd a r S (ev Φ a r S)).bnd fun x S => .ok (.bl (match x with | .non => true | _ => false)) S
  | .notN a, r, S => (rd a r S (ev Φ a r S)).bnd fun x S => .ok (.bl (match x with | .non => false | _ => true)) S
  | .chain o p a b c, r, S => (rd a r S (ev Φ a r S)).bnd fun x S => (rd b r S (ev Φ b r S)).bnd fun y S => (lift (cmD o (der S x) (der S y)) S).bnd fun k S =>
      if k = true then (rd c r S (ev Φ c r S)).bnd fun z S => (lift (cmD p (der S y) (der S z)) S).bnd fun k S => .ok (.bl k) S else .ok (.bl false) S
  | .and a b, r, S => (ev Φ a r S).bnd fun x S => (lift (truD (der S x)) S).bnd fun k S => if k = true then ev Φ b r S else .ok x S
  | .or a b, r, S => (ev Φ a r S).bnd fun x S => (lift (truD (der S x)) S).bnd fun k S => if k = true then .ok x S else ev Φ b r S
  | .not a, r, S => (rd a r S (ev Φ a r S)).bnd fun x S => (lift (truD (der S x)) S).bnd fun k S => .ok (.bl (!k)) S
  | .ite c a b, r, S => (evT Φ c r S).bnd fun k S => if k = true then ev Φ a r S else ev Φ b r S
  | .tup es, r, S => (evL Φ es r S).bnd fun xs S => if xs.length ≤ sizeLine then .ok (.tup xs) S else .bad
  | .lst es, r, S => (evL Φ es r S).bnd fun xs S => if xs.length ≤ sizeLine then .ok (.lst xs) S else .bad
  | .dct ps, r, S => evD Φ ps r [] S
  | .call f es, r, S => (evL Φ es r S).bnd fun xs S => Φ.call f xs S
  | .callv i es, r, S => match r[i]? with
      | some (some (.v (.fn f))) => if f < Φ.n then (evL Φ es r S).bnd fun xs S => Φ.call f xs S else .bad
      | _ => .bad
  | .new c es, r, S => (evL Φ es r S).bnd fun xs S => match Φ.call (Φ.ini c) (.obj S.length :: xs) (S ++ [.ins c []]) with
      | .ok .non S' => .ok (.obj S.length) S'
      | _ => .bad
  | .bi o a, r, S => (rd a r S (ev Φ a r S)).bnd fun x S => lift (biD o (der S x)) S
  | .b2 o a b, r, S => (ev Φ a r S).bnd fun x S => (ev Φ b r S).bnd fun y S => lift (b2D o x y) S
  | .isi a ts, r, S => (rd a r S (ev Φ a r S)).bnd fun x S => (lift (isiD (der S x) ts) S).bnd fun k S => .ok (.bl k) S
  | .sub a i, r, S => (rd a r S (ev Φ a r S)).bnd fun x S => (ev Φ i r S).bnd fun y S => lift (subD (der S x) y) S
  | .slice a lo hi, r, S => (rd a r S (ev Φ a r S)).bnd fun x S => (partO lo S (ev Φ lo r S)).bnd fun i S => (partO hi S (ev Φ hi r S)).bnd fun j S => lift (sliceD (der S x) i j) S
  | .attr a f, r, S => (ev Φ a r S).bnd fun x S => match x with
      | .obj i => lift (S[i]?.bind fun o => dget o.fs f) S
      | _ => .bad
  | .join x a, r, S => (rd a r S (ev Φ a r S)).bnd fun y S => lift (joinD x (der S y)) S
  | .get1 a k, r, S => (rd a r S (ev Φ a r S)).bnd fun x S => match der S x with
      | .dic _ => (ev Φ k r S).bnd fun y S => (match der S x, y with
        | .dic kvs, .str k => .ok ((dget kvs k).getD .non) S
        | _, _ => .bad)
      | _ => .bad
  | .get2 a k d, r, S => (rd a r S (ev Φ a r S)).bnd fun x S => match der S x with
      | .dic _ => (ev Φ k r S).bnd fun y S => (ev Φ d r S).bnd fun z S => (match der S x, y with
        | .dic kvs, .str k => .ok ((dget kvs k).getD z) S
        | _, _ => .bad)
      | _ => .bad
  | .lc e t it c vs, r, S => (evI Φ it r S).bnd fun k S => ((loopL (lcStep t vs r (fun r S => evT Φ c r S) (fun r S => ev Φ e r S)) k.xs S).bnd fun ys S => if k.xs.length ≤ sizeLine then .ok (.lst ys) S else .bad).unl k.w
  | .dc k e t it c vs, r, S => (evI Φ it r S).bnd fun w S => ((loopK (dcStep t vs r (fun r S => evT Φ c r S) (fun r S => ev Φ k r S) (fun r S => ev Φ e r S)) w.xs [] S).bnd fun kvs S => if w.xs.length ≤ sizeLine then .ok (.dic kvs) S else .bad).unl w.w
  | .mrg a b, r, S => (ev Φ a r S).bnd fun x S => match x with
      | .dic kx => (ev Φ b r S).bnd fun y S => lift (mrgD kx y) S
      | _ => .bad
  | .lvals a, r, S => (rd a r S (ev Φ a r S)).bnd fun x S => match der S x with
      | .dic kvs => .ok (.lst (kvs.map (·.2))) S
      | _ => .bad
  | .mrg1 a k b, r, S => (ev Φ a r S).bnd fun x S => match x with
      | .dic kx => (ev Φ k r S).bnd fun y S => (ev Φ b r S).bnd fun z S => (match y with
        | .str y => if kx.length < sizeLine then .ok (.dic (dput (mrgK [] kx) y z)) S else .bad
        | _ => .bad)
      | _ => .bad
  | .cell a, r, S => (ev Φ a r S).bnd fun x S => newD S x
  | .cpop a, r, S => (ev Φ a r S).bnd fun x S => popD S x
  | .meth m o es, r, S => (ev Φ o r S).bnd fun x S => match x with
      | .obj i => (match S[i]? with
        | some (.ins c fs) => (match Φ.met c m with
          | some f => if f < Φ.n ∧ dget fs m = none then (evL Φ es r S).bnd fun xs S => Φ.call f (.obj i :: xs) S else .bad
          | none => .bad)
        | _ => .bad)
      | _ => .bad
  | .tsub t k, r, S => (ev Φ k r S).bnd fun y S => match y with
      | .str y => lift (dget (Φ.tb t) y) S
      | _ => .bad
  | .fmt a, r, S => (ev Φ a r S).bnd fun x S => lift (fmtD x) S
  | .fst ps, r, S => evF Φ ps r Str.empty S
def evT (Φ : Phi) : T → Rho → Sto → Out Bool
  | .e a, r, S => (rd a r S (ev Φ a r S)).bnd fun x S => lift (truD (der S x)) S
  | .and a b, r, S => (evT Φ a r S).bnd fun k S => if k = true then evT Φ b r S else .ok false S
  | .or a b, r, S => (evT Φ a r S).bnd fun k S => if k = true then .ok true S else evT Φ b r S
  | .not a, r, S => (evT Φ a r S).bnd fun k S => .ok (!k) S
  | .yes, _, S => .ok true S
def evL (Φ : Phi) : EL → Rho → Sto → Out (List D)
  | .nil, _, S => .ok [] S
  | .cons a l, r, S => (ev Φ a r S).bnd fun x S => (evL Φ l r S).bnd fun xs S => .ok (x :: xs) S
def evF (Φ : Phi) : EL → Rho → Str → Sto → Out D
  | .nil, _, acc, S => .ok (.str acc) S
  | .cons a l, r, acc, S => (ev Φ a r S).bnd fun x S => match x with
      | .str y => if (acc ++ y).length ≤ sizeLine then evF Φ l r (acc ++ y) S else .bad
      | _ => .bad
def evD (Φ : Phi) : KL → Rho → List (Str × D) → Sto → Out D
  | .nil, _, acc, S => .ok (.dic acc) S
  | .cons k e ps, r, acc, S => (ev Φ k r S).bnd fun y S => (ev Φ e r S).bnd fun z S => match y with
      | .str y => evD Φ ps r (dput acc y z) S
      | _ => .bad
def evI (Φ : Phi) : It → Rho → Sto → Out Wk
  | .over a, r, S => (ev Φ a r S).bnd fun x S => overD S x
  | .rng a, r, S => (ev Φ a r S).bnd fun x S => match x with
      | .int j => if fits62 j = true then .ok ⟨none, rngD 0 j.toNat⟩ S else .bad
      | _ => .bad
  | .rng2 a b, r, S => (ev Φ a r S).bnd fun x S => (ev Φ b r S).bnd fun y S => match x, y with
      | .int i, .int j => if fits62 i = true ∧ fits62 j = true then .ok ⟨none, rngD i (j - i).toNat⟩ S else .bad
      | _, _ => .bad
  | .enum a, r, S => (ev Φ a r S).bnd fun x S => match x with | .lst xs => .ok ⟨none, enumD 0 xs⟩ S | _ => .bad
  | .rev a, r, S => (ev Φ a r S).bnd fun x S => match x with | .lst xs => .ok ⟨none, xs.reverse⟩ S | _ => .bad
  | .items a, r, S => (ev Φ a r S).bnd fun x S => match x with | .dic kvs => .ok ⟨none, kvs.map fun p => .tup [.str p.1, p.2]⟩ S | _ => .bad
  | .vals a, r, S => (ev Φ a r S).bnd fun x S => match x with | .dic kvs => .ok ⟨none, kvs.map (·.2)⟩ S | _ => .bad
  | .zip a b, r, S => (ev Φ a r S).bnd fun x S => (ev Φ b r S).bnd fun y S => match x, y with
      | .lst xs, .lst ys => .ok ⟨none, zipD xs ys⟩ S
      | _, _ => .bad
end

/-! ### statements -/
inductive SO where
  | nx (r : Rho) (S : Sto) | rt (d : D) (S : Sto) | bk (r : Rho) (S : Sto) | ct (r : Rho) (S : Sto) | xc (c : Nat) (r : Rho) (S : Sto) | bad
def Out.st {α : Type} (o : Out α) (r : Rho) (f : α → Sto → SO) : SO :=
  match o with
  | .ok a S => f a S
  | .exc c S => .xc c r S
  | .bad => .bad
def ofO (o : Option Rho) (S : Sto) : SO := match o with | some r => .nx r S | none => .bad
def Sl.frz : Sl → Sl
  | .v d => .v d
  | .ol xs => .v (.lst xs)
  | .od kvs => .v (.dic kvs)
def frzR (r : Rho) : List Nat → Rho
  | [] => r
  | i :: is => frzR (match r[i]? with | some (some s) => r.set i (some s.frz) | _ => r) is
/-- a trees' value is new: a list or dict that nobody has yet -/
def E.isNew : E → Bool
  | .lst _ => true
  | .dct _ => true
  | .lc _ _ _ _ _ => true
  | .dc _ _ _ _ _ _ => true
  | .bi .list _ => true
  | .bi .dict _ => true
  | .bin .add _ _ => true
  | .slice _ _ _ => true
  | .mrg _ _ => true
  | .lvals _ => true
  | _ => false
def D.own : D → Sl
  | .lst xs => .ol xs
  | .dic kvs => .od kvs
  | d => .v d
def D.slot (new : Bool) (d : D) : Sl := if new = true then d.own else .v d
def setR (i : Nat) (s : Sl) (r : Rho) : Option Rho := if i < r.length then some (r.set i (some s)) else none
def forS (f : D → Rho → Sto → SO) : List D → Rho → Sto → SO
  | [], r, S => .nx r S
  | x :: xs, r, S => match f x r S with
    | .nx r S => forS f xs r S
    | .ct r S => forS f xs r S
    | .bk r S => .nx r S
    | o => o
def wh (t : Rho → Sto → Out Bool) (b : Rho → Sto → SO) : Nat → Rho → Sto → SO
  | 0, _, _ => .bad
  | n + 1, r, S => (t r S).st r fun k S => if k = true then
      (match b r S with
      | .nx r S => wh t b n r S
      | .ct r S => wh t b n r S
      | .bk r S => .nx r S
      | o => o) else .nx r S
open Classical in
noncomputable def whS (t : Rho → Sto → Out Bool) (b : Rho → Sto → SO) (r : Rho) (S : Sto) : SO :=
  if h : ∃ n, wh t b n r S ≠ .bad then wh t b h.choose r S else .bad
theorem wh_mono {t : Rho → Sto → Out Bool} {b : Rho → Sto → SO} : ∀ {n : Nat} {r : Rho} {S : Sto}, wh t b n r S ≠ .bad → ∀ m, n ≤ m → wh t b m r S = wh t b n r S
  | 0, _, _, h, _, _ => (h rfl).elim
  | n + 1, r, S, h, 0, hm => absurd hm (Nat.not_succ_le_zero n)
  | n + 1, r, S, h, m + 1, hm => by
    have ih := @wh_mono t b n
    unfold wh at h ⊢
    cases ht : t r S with
    | bad => rfl
    | exc c S' => rfl
    | ok k S' =>
      rw [ht] at h
      simp only [Out.st] at h ⊢
      cases k with
      | false => rfl
      | true =>
        simp only [if_true] at h ⊢
        cases hb : b r S' with
        | nx r2 S2 => rw [hb] at h; exact ih h m (Nat.le_of_succ_le_succ hm)
        | ct r2 S2 => rw [hb] at h; exact ih h m (Nat.le_of_succ_le_succ hm)
        | bk _ _ => rfl
        | rt _ _ => rfl
        | xc _ _ _ => rfl
        | bad => rfl
theorem whS_of {t : Rho → Sto → Out Bool} {b : Rho → Sto → SO} {n : Nat} {r : Rho} {S : Sto} {o : SO} (h : wh t b n r S = o) (ho : o ≠ .bad) : whS t b r S = o := by
  have hn : wh t b n r S ≠ .bad := by rw [h]; exact ho
  have hx : ∃ n, wh t b n r S ≠ .bad := ⟨n, hn⟩
  unfold whS
  rw [dif_pos hx]
  rcases Nat.le_total n hx.choose with e | e
  · rw [wh_mono hn _ e, h]
  · rw [← wh_mono hx.choose_spec _ e, h]
theorem whS_n {t : Rho → Sto → Out Bool} {b : Rho → Sto → SO} {r : Rho} {S : Sto} (h : whS t b r S ≠ .bad) : ∃ n, wh t b n r S = whS t b r S := by
  unfold whS at h ⊢
  split
  · exact ⟨_, rfl⟩
  · rename_i hx
    rw [dif_neg hx] at h
    exact (h rfl).elim
/-- one turn -/
theorem whS_eq (t : Rho → Sto → Out Bool) (b : Rho → Sto → SO) (r : Rho) (S : Sto) : whS t b r S = (t r S).st r fun k S => if k = true then
      (match b r S with
      | .nx r S => whS t b r S
      | .ct r S => whS t b r S
      | .bk r S => .nx r S
      | o => o) else .nx r S := by
  classical
  by_cases hx : whS t b r S = .bad
  · rw [hx]
    have no : ∀ n, wh t b n r S = .bad := fun n => by
      cases h : wh t b n r S with
      | bad => rfl
      | _ => rw [whS_of h (by intro q; cases q)] at hx; cases hx
    have n1 : ∀ n, (t r S).st r (fun k S => if k = true then (match b r S with | .nx r S => wh t b n r S | .ct r S => wh t b n r S | .bk r S => .nx r S | o => o) else .nx r S) = .bad := fun n => no (n + 1)
    cases ht : t r S with
    | bad => rfl
    | exc c S' => have := n1 0; rw [ht] at this; exact this.symm
    | ok k S' =>
      rw [ht] at n1
      simp only [Out.st] at n1 ⊢
      cases k with
      | false => exact (n1 0).symm
      | true =>
        simp only [if_true] at n1 ⊢
        cases hb : b r S' with
        | nx r2 S2 =>
          rw [hb] at n1
          simp only at n1 ⊢
          by_cases hy : whS t b r2 S2 = .bad
          · exact hy.symm
          · obtain ⟨n, hn⟩ := whS_n hy
            rw [n1 n] at hn
            exact hn
        | ct r2 S2 =>
          rw [hb] at n1
          simp only at n1 ⊢
          by_cases hy : whS t b r2 S2 = .bad
          · exact hy.symm
          · obtain ⟨n, hn⟩ := whS_n hy
            rw [n1 n] at hn
            exact hn
        | bk _ _ => rw [hb] at n1; exact (n1 0).symm
        | rt _ _ => rw [hb] at n1; exact (n1 0).symm
        | xc _ _ _ => rw [hb] at n1; exact (n1 0).symm
        | bad => rfl
  · obtain ⟨n, hn⟩ := whS_n hx
    rw [← hn] at hx ⊢
    cases n with
    | zero => exact (hx rfl).elim
    | succ n =>
      unfold wh at hx ⊢
      cases ht : t r S with
      | bad => rfl
      | exc c S' => rfl
      | ok k S' =>
        rw [ht] at hx
        simp only [Out.st] at hx ⊢
        cases k with
        | false => rfl
        | true =>
          simp only [if_true] at hx ⊢
          cases hb : b r S' with
          | nx r2 S2 => rw [hb] at hx; exact (whS_of rfl hx).symm
          | ct r2 S2 => rw [hb] at hx; exact (whS_of rfl hx).symm
          | bk _ _ => rfl
          | rt _ _ => rfl
          | xc _ _ _ => rfl
          | bad => rfl

/-- a constant -/
def cst : E → Option D
  | .int n => some (.int n)
  | .str x => some (.str x)
  | .bl b => some (.bl b)
  | .non => some .non
  | _ => none
def rtO (o : Option D) (S : Sto) : SO := match o with | some d => .rt d S | none => .bad
/-- is an exception of class c an instance of all these (none: ValueError) -/
def xAll (sub : Nat → Nat → Option Bool) (c : Nat) : List (Option Nat) → Option Bool
  | [] => some true
  | none :: r => xAll sub c r
  | some k :: r => match sub c k with
    | some true => xAll sub c r
    | some false => some false
    | none => none
/-- a suite, an exception of class c at hand -/
def xiS (sub : Nat → Nat → Option Bool) (c : Nat) : List XI → Rho → Sto → SO
  | [], r, S => .nx r S
  | .ret u :: _, _, S => rtO (cst u) S
  | .ifi i n u :: l, r, S => match r[i]? with
    | some (some (.v (.int m))) => if m = n then rtO (cst u) S else xiS sub c l r S
    | _ => .bad
  | .ifx t u :: l, r, S => match xAll sub c t with
    | some true => rtO (cst u) S
    | some false => xiS sub c l r S
    | none => .bad
def exHs (sub : Nat → Nat → Option Bool) (k : Nat) : List (Nat × List XI) → Rho → Sto → SO
  | [], r, S => .xc k r S
  | (c, l) :: hs, r, S => match sub k c with
    | some true => xiS sub k l r S
    | some false => exHs sub k hs r S
    | none => .bad
/-- at the end of a list that may change; at a place of one, or of a dict -/
def appS (j : Nat) (d : D) (r : Rho) (S : Sto) : SO := match S[j]? with
  | some (.ol xs) => if xs.length < sizeLine then .nx r (S.set j (.ol (xs ++ [d]))) else .bad
  | _ => .bad
def setkS (j : Nat) (k d : D) (r : Rho) (S : Sto) : SO := match S[j]? with
  | some (.od kvs) => (match k with
    | .str k => if kvs.length < sizeLine then .nx r (S.set j (.od (dput kvs k d))) else .bad
    | _ => .bad)
  | some (.ol xs) => (match k with
    | .int i => (match ixd xs.length i with
      | some n => .nx r (S.set j (.ol (xs.set n d)))
      | none => .bad)
    | _ => .bad)
  | _ => .bad
def isOl (S : Sto) (j : Nat) : Bool := match S[j]? with
  | some (.ol _) => true
  | _ => false
mutual
noncomputable def ex (Φ : Phi) : S → Rho → Sto → SO
  | .asg t e, r, S => (ev Φ e r S).st r fun d S => match t with
      | .nm i => ofO (setR i (d.slot e.isNew) r) S
      | .tup is => ofO (bindT (.tup is) d r) S
      | .kv i is => ofO (bindT (.kv i is) d r) S
  | .par i j a b, r, S => (ev Φ a r S).st r fun x S => (ev Φ b r S).st r fun y S => ofO ((setR i (.v x) r).bind (setR j (.v y))) S
  | .aug i o e, r, S => match r[i]? with
      | some (some (.v (.int x))) => (ev Φ e r S).st r fun y S => match y with
        | .int y => (match o with
          | .add => ofO (setR i (.v (.int (x + y))) r) S
          | .sub => ofO (setR i (.v (.int (x - y))) r) S
          | _ => .bad)
        | _ => .bad
      | _ => .bad
  | .setk i k e, r, S => (ev Φ e r S).st r fun d S => match r[i]? with
      | some (some (.od kvs)) => (ev Φ k r S).st r fun k S => match k with
        | .str k => if kvs.length < sizeLine then ofO (setR i (.od (dput kvs k d)) r) S else .bad
        | _ => .bad
      | some (some (.ol xs)) => (ev Φ k r S).st r fun k S => match k with
        | .int z => (match ixd xs.length z with
          | some n => ofO (setR i (.ol (xs.set n d)) r) S
          | none => .bad)
        | _ => .bad
      | some (some (.v (.obj j))) => (ev Φ k r S).st r fun k S => setkS j k d r S
      | _ => .bad
  | .app i e, r, S => match r[i]? with
      | some (some (.ol xs)) => (ev Φ e r S).st r fun d S => if xs.length < sizeLine then ofO (setR i (.ol (xs ++ [d])) r) S else .bad
      | some (some (.v (.obj j))) => if isOl S j = true then (ev Φ e r S).st r fun d S => appS j d r S else .bad
      | _ => .bad
  | .ext i e, r, S => match r[i]? with
      | some (some (.ol xs)) => (ev Φ e r S).st r fun d S => match d with
        | .lst ys => if xs.length + ys.length ≤ sizeLine then ofO (setR i (.ol (xs ++ ys)) r) S else .bad
        | _ => .bad
      | _ => .bad
  | .popl t i, r, S => match r[i]? with
      | some (some (.ol xs)) => (match xs.getLast? with
        | some d => ofO ((setR i (.ol xs.dropLast) r).bind fun r => bindT t d r) S
        | none => .bad)
      | some (some (.v d)) => (popD S d).st r fun d S => ofO (bindT t d r) S
      | _ => .bad
  | .popk i e, r, S => match r[i]? with
      | some (some (.od kvs)) => (ev Φ e r S).st r fun k S => match k with
        | .str k => if (dget kvs k).isSome = true then ofO (setR i (.od (ddrop kvs k)) r) S else .bad
        | _ => .bad
      | _ => .bad
  | .attr a f e, r, S => (ev Φ e r S).st r fun d S => (ev Φ a r S).st r fun x S => match x with
      | .obj i => (match S[i]? with
        | some (.ins c fs) => if fs.length < 1000 then .nx r (S.set i (.ins c (fput f d fs))) else .bad
        | _ => .bad)
      | _ => .bad
  | .capp a e, r, S => (ev Φ a r S).st r fun x S => match x with
      | .obj j => if isOl S j = true then (ev Φ e r S).st r fun d S => appS j d r S else .bad
      | _ => .bad
  | .csetk a k e, r, S => (ev Φ e r S).st r fun d S => (ev Φ a r S).st r fun x S => match x with
      | .obj j => (ev Φ k r S).st r fun k S => setkS j k d r S
      | _ => .bad
  | .cdels a e, r, S => (ev Φ a r S).st r fun x S => match x with
      | .obj j => (ev Φ e r S).st r fun y S => (match S[j]?, y with
        | some (.ol xs), .int i => if 0 ≤ i ∧ i ≤ xs.length then .nx r (S.set j (.ol (xs.take i.toNat))) else .bad
        | _, _ => .bad)
      | _ => .bad
  | .ex e, r, S => (ev Φ e r S).st r fun _ S => .nx r S
  | .ret e, r, S => (ev Φ e r S).st r fun d S => .rt d S
  | .pass, r, S => .nx r S
  | .brk, r, S => .bk r S
  | .cont, r, S => .ct r S
  | .ite c a b, r, S => (evT Φ c r S).st r fun k S => if k = true then exL Φ a r S else exL Φ b r S
  | .whl c b, r, S => whS (evT Φ c) (exL Φ b) r S
  | .for t it b, r, S => (evI Φ it r S).st r fun k S => match k.w with
      | none => forS (fun x r S => match bindT t x r with | some r => exL Φ b r S | none => .bad) k.xs r S
      | some _ => .bad
  | .raise c es, r, S => (evL Φ es r S).st r fun xs S => if xs.length ≤ sizeLine then .xc c r S else .bad
  | .tri b hs, r, S => match exL Φ b r S with
      | .xc k r S => exHs Φ.sub k hs r S
      | o => o
  | .trx b c j xs, r, S => match exL Φ b r S with
      | .xc k r S => if j < r.length then (match Φ.sub k c with
        | some true => xiS Φ.sub k xs (r.set j none) S
        | some false => .xc k r S
        | none => .bad) else .bad
      | o => o
  | .frz is s, r, S => ex Φ s (frzR r is) S
noncomputable def exL (Φ : Phi) : SL → Rho → Sto → SO
  | .nil, r, S => .nx r S
  | .cons s l, r, S => match ex Φ s r S with
      | .nx r S => exL Φ l r S
      | o => o
end
/-- a def: its params' number, its names' number, its body -/
structure DF where
  ps : Nat
  ns : Nat
  body : SL
noncomputable def runF (Φ : Phi) (f : DF) (ds : List D) (S : Sto) : Out D :=
  if ds.length = f.ps then
    match exL Φ f.body (ds.map (fun d => some (.v d)) ++ List.replicate (f.ns - f.ps) none) S with
    | .rt d S => .ok d S
    | .nx _ S => .ok .non S
    | .xc c _ S => .exc c S
    | _ => .bad
  else .bad
/-- what is the same at every depth -/
structure Fix where
  tab : List DF
  ini : Nat → Nat
  sub : Nat → Nat → Option Bool
  met : Nat → Str → Option Nat
  tb : Nat → List (Str × D)
noncomputable def phi (p : Fix) : Nat → Phi
  | 0 => ⟨p.tab.length, fun _ _ _ => .bad, p.ini, p.sub, p.met, p.tb⟩
  | k + 1 => ⟨p.tab.length, fun f ds S => match p.tab[f]? with | some d => runF (phi p k) d ds S | none => .bad, p.ini, p.sub, p.met, p.tb⟩
end Pi

/-! Pi2: how data lies in the abstract heap. -/
namespace Pi
open PySem L2 PySem.Spec PyProof.Rows

/-- what is fixed for a program: the written part, where the defs and classes stand, the exceptions' classes -/
structure GC where
  K : PySem.W.Frag
  fa : Nat → Addr
  ca : Nat → Addr
  xa : Nat → Value

abbrev Al := List (Addr × Addr)
/-- what stands in the store -/
def Cell (al : Al) (a : Addr) : Prop := ∃ (i : Nat) (dx : Addr), al[i]? = some (a, dx)
/-- what stands for a def's own thing in an entry heap: nothing is known of it -/
def dm : HO := .tbl #[]
def Free (H0 : Hp) (a : Addr) : Prop := H0 a = none ∨ H0 a = some dm
/-- a list that stays as it is -/
def LsF (K : PySem.W.Frag) (al : Al) (H : Hp) (a : Addr) (vs : List V) : Prop :=
  ((∃ o, H a = some (.frz o (.lst vs))) ∧ ¬ Cell al a) ∨
    ∃ (o : Obj) (its : Array Value) (n : Nat), K.lookup a = some o ∧ o.cls = .type "list" ∧ o.dict = none ∧ o.data = .seq its n ∧ its.size ≤ sizeLine ∧ Vals vs its.toList
theorem LsF.sq {K : PySem.W.Frag} {al : Al} {H : Hp} {a : Addr} {vs : List V} (h : LsF K al H a vs) : SqL K H a vs := by
  rcases h with ⟨⟨o, h⟩, _⟩ | h
  · exact .inl (.inr ⟨o, h⟩)
  · exact .inr h

/-- .. or that is locked -/
def LsZ (K : PySem.W.Frag) (H : Hp) (a : Addr) (vs : List V) : Prop :=
  (∃ o, H a = some (.frz o (.lst vs))) ∨
    ∃ (o : Obj) (its : Array Value) (n : Nat), K.lookup a = some o ∧ o.cls = .type "list" ∧ o.dict = none ∧ o.data = .seq its n ∧ its.size ≤ sizeLine ∧ Vals vs its.toList
theorem LsF.z {K : PySem.W.Frag} {al : Al} {H : Hp} {a : Addr} {vs : List V} (h : LsF K al H a vs) : LsZ K H a vs := h.imp (·.1) id
theorem LsZ.sq {K : PySem.W.Frag} {H : Hp} {a : Addr} {vs : List V} (h : LsZ K H a vs) : SqL K H a vs := by
  rcases h with ⟨o, h⟩ | h
  · exact .inl (.inr ⟨o, h⟩)
  · exact .inr h

mutual
inductive Dt (g : GC) (al : Al) (H : Hp) : V → D → Prop
  | non : Dt g al H .non .non
  | bl (b : Bool) : Dt g al H (.bl b) (.bl b)
  | int (i : Int) : Dt g al H (.int i) (.int i)
  | str (x : Str) : Dt g al H (.str x) (.str x)
  | fn (i : Nat) : Dt g al H (.ref (g.fa i)) (.fn i)
  | obj {i : Nat} {x dx : Addr} : al[i]? = some (x, dx) → Dt g al H (.ref x) (.obj i)
  | tup {a : Addr} {vs : List V} {ds : List D} : SqT g.K H a vs → DtL g al H vs ds → Dt g al H (.ref a) (.tup ds)
  | lst {a : Addr} {vs : List V} {ds : List D} : LsF g.K al H a vs → DtL g al H vs ds → Dt g al H (.ref a) (.lst ds)
  | dic {a : Addr} {o : Obj} {kvs : List (Key × V)} {rs : List (Str × D)} : H a = some (.frz o (.dK kvs)) → ¬ Cell al a → DtK g al H kvs rs → Dt g al H (.ref a) (.dic rs)
inductive DtL (g : GC) (al : Al) (H : Hp) : List V → List D → Prop
  | nil : DtL g al H [] []
  | cons {v : V} {d : D} {vs : List V} {ds : List D} : Dt g al H v d → DtL g al H vs ds → DtL g al H (v :: vs) (d :: ds)
inductive DtK (g : GC) (al : Al) (H : Hp) : List (Key × V) → List (Str × D) → Prop
  | nil : DtK g al H [] []
  | cons {k : Str} {v : V} {d : D} {kvs : List (Key × V)} {rs : List (Str × D)} : Dt g al H v d → DtK g al H kvs rs → DtK g al H ((.inr k, v) :: kvs) ((k, d) :: rs)
end

/-- what is frozen stays, and tuples -/
structure KeepZ (H H' : Hp) : Prop where
  z : ∀ a o u, H a = some (.frz o u) → H' a = some (.frz o u)
  t : ∀ a xs, H a = some (.tup xs) → H' a = some (.tup xs)
/-- all but what stands in the store is as it was -/
structure Keep (al : Al) (H H' : Hp) : Prop where
  toZ : KeepZ H H'
  k : ∀ a o, H a = some o → ¬ Cell al a → o ≠ dm → H' a = some o
  s : ∀ a o, H a = some o → ∃ o', H' a = some o'
/-- the store has grown by new things -/
structure Ext (al : Al) (H : Hp) (al' : Al) : Prop where
  p : al <+: al'
  n : ∀ a, Cell al' a → Cell al a ∨ H a = none
theorem pre_get {l l' : Al} (p : l <+: l') {i : Nat} {x : Addr × Addr} (h : l[i]? = some x) : l'[i]? = some x := by
  obtain ⟨t, rfl⟩ := p
  rw [List.getElem?_append_left (List.getElem?_eq_some_iff.mp h).1]
  exact h
theorem Cell.pre {l l' : Al} (p : l <+: l') {a : Addr} (h : Cell l a) : Cell l' a := let ⟨i, dx, e⟩ := h; ⟨i, dx, pre_get p e⟩
theorem KeepZ.refl (H : Hp) : KeepZ H H := ⟨fun _ _ _ h => h, fun _ _ h => h⟩
theorem KeepZ.trans {H1 H2 H3 : Hp} (k : KeepZ H1 H2) (l : KeepZ H2 H3) : KeepZ H1 H3 := ⟨fun a o u h => l.z a o u (k.z a o u h), fun a xs h => l.t a xs (k.t a xs h)⟩
theorem Keep.refl (al : Al) (H : Hp) : Keep al H H := ⟨.refl H, fun _ _ h _ _ => h, fun _ o h => ⟨o, h⟩⟩
theorem Ext.refl (al : Al) (H : Hp) : Ext al H al := ⟨List.prefix_refl al, fun _ h => .inl h⟩
theorem Keep.back {al : Al} {H H' : Hp} (k : Keep al H H') {p : Addr} (h : H' p = none) : H p = none := by
  cases q : H p with
  | none => rfl
  | some o => let ⟨o', h'⟩ := k.s _ _ q; rw [h] at h'; cases h'
theorem Keep.trans {al al1 : Al} {H H1 H2 : Hp} (a : Keep al H H1) (p : Ext al H al1) (b : Keep al1 H1 H2) : Keep al H H2 :=
  ⟨a.toZ.trans b.toZ, fun x o h c n => b.k x o (a.k x o h c n) (fun z => (p.n x z).elim c fun w => by rw [h] at w; cases w) n, fun x o h => let ⟨o', h'⟩ := a.s x o h; b.s x o' h'⟩
theorem Ext.trans {al al1 al2 : Al} {H H1 : Hp} (p : Ext al H al1) (a : Keep al H H1) (q : Ext al1 H1 al2) : Ext al H al2 :=
  ⟨p.p.trans q.p, fun x h => (q.n x h).elim (p.n x) fun w => .inr (a.back w)⟩
theorem Keep.of {al : Al} {H H' : Hp} (s : L2.Same H H') : Keep al H H' := ⟨⟨fun a o u h => s a _ h, fun a xs h => s a _ h⟩, fun a o h _ _ => s a o h, fun a o h => ⟨o, s a o h⟩⟩
theorem Keep.then {al : Al} {H H1 H2 : Hp} (a : Keep al H H1) (s : L2.Same H1 H2) : Keep al H H2 := a.trans (.refl al H) (.of s)
theorem same_new {H : Hp} {p : Addr} {o : HO} (h : H p = none) : L2.Same H (upd H p o) := fun b u e => by
  rw [upd_ne (ne_of_none e h)]
  exact e
theorem Ext.from {al al' : Al} {H H1 : Hp} (p : Ext al H1 al') (k : Keep al H H1) : Ext al H al' := ⟨p.p, fun a h => (p.n a h).imp id fun w => k.back w⟩
theorem upd_some {H : Hp} {p a : Addr} {o u : HO} (h : H a = some u) : ∃ o', upd H p o a = some o' := by
  by_cases e : a = p
  · subst e; exact ⟨_, upd_same⟩
  · exact ⟨u, by rw [upd_ne e]; exact h⟩
/-- an object that H did not know changes -/
theorem Keep.mut {al : Al} {H H' : Hp} {p : Addr} {o : HO} (k : Keep al H H') (h : Free H p) : Keep al H (upd H' p o) := by
  have ne : ∀ a u, H a = some u → u ≠ dm → a ≠ p := fun a u e n z => by
    subst z
    rcases h with h | h
    · rw [e] at h; cases h
    · rw [e] at h; cases h; exact n rfl
  exact ⟨⟨fun a ob u e => by rw [upd_ne (ne a _ e (fun z => nomatch z))]; exact k.toZ.z a ob u e, fun a xs e => by rw [upd_ne (ne a _ e (fun z => nomatch z))]; exact k.toZ.t a xs e⟩,
    fun a u e c n => by rw [upd_ne (ne a _ e n)]; exact k.k a u e c n, fun a u e => let ⟨o', h'⟩ := k.s a u e; upd_some h'⟩
/-- a thing of the store changes that was never frozen -/
theorem Keep.cell {al al' : Al} {H H' : Hp} {p : Addr} {o : HO} (k : Keep al H H') (x : Ext al H al') (c : Cell al' p) (hf : ∀ ob u, H p ≠ some (.frz ob u)) (ht : ∀ xs, H p ≠ some (.tup xs)) : Keep al H (upd H' p o) :=
  ⟨⟨fun a ob u e => by rw [upd_ne (fun z => by subst z; exact hf _ _ e)]; exact k.toZ.z a ob u e, fun a xs e => by rw [upd_ne (fun z => by subst z; exact ht _ e)]; exact k.toZ.t a xs e⟩,
    fun a u e c' n => by rw [upd_ne (fun z => by subst z; exact (x.n _ c).elim c' fun w => by rw [e] at w; cases w)]; exact k.k a u e c' n, fun a u e => let ⟨o', h'⟩ := k.s a u e; upd_some h'⟩

section
variable {g : GC} {al al' : Al} {H H' : Hp}
theorem sqT_keepZ {K : PySem.W.Frag} {a : Addr} {xs : List V} (k : KeepZ H H') (h : SqT K H a xs) : SqT K H' a xs := by
  rcases h with (h | ⟨o, h⟩) | h
  · exact .inl (.inl (k.t _ _ h))
  · exact .inl (.inr ⟨o, k.z _ _ _ h⟩)
  · exact .inr h
theorem lsF_keepZ {K : PySem.W.Frag} {a : Addr} {xs : List V} (k : KeepZ H H') (p : Ext al H al') (h : LsF K al H a xs) : LsF K al' H' a xs := by
  rcases h with ⟨⟨o, h⟩, c⟩ | h
  · exact .inl ⟨⟨o, k.z _ _ _ h⟩, fun z => (p.n _ z).elim c fun w => by rw [h] at w; cases w⟩
  · exact .inr h
theorem lsZ_keepZ {K : PySem.W.Frag} {a : Addr} {xs : List V} (k : KeepZ H H') (h : LsZ K H a xs) : LsZ K H' a xs := h.imp (fun ⟨o, h⟩ => ⟨o, k.z _ _ _ h⟩) id
/-- what isn't frozen now wasn't -/
theorem KeepZ.nf (k : KeepZ H H') {p : Addr} {u : HO} (e : H' p = some u) (n : ∀ o w, u ≠ .frz o w) : ∀ ob w, H p ≠ some (.frz ob w) := fun ob w z => by
  have q := k.z _ _ _ z
  rw [e] at q; cases q; exact n _ _ rfl
theorem KeepZ.nt (k : KeepZ H H') {p : Addr} {u : HO} (e : H' p = some u) (n : ∀ xs, u ≠ .tup xs) : ∀ xs, H p ≠ some (.tup xs) := fun xs z => by
  have q := k.t _ _ z
  rw [e] at q; cases q; exact n _ rfl
mutual
theorem Dt.monoZ (k : KeepZ H H') (p : Ext al H al') : ∀ {v : V} {d : D}, Dt g al H v d → Dt g al' H' v d
  | _, _, .non => .non
  | _, _, .bl b => .bl b
  | _, _, .int i => .int i
  | _, _, .str x => .str x
  | _, _, .fn i => .fn i
  | _, _, .obj h => .obj (pre_get p.p h)
  | _, _, .tup h l => .tup (sqT_keepZ k h) (DtL.monoZ k p l)
  | _, _, .lst h l => .lst (lsF_keepZ k p h) (DtL.monoZ k p l)
  | _, _, .dic h c l => .dic (k.z _ _ _ h) (fun z => (p.n _ z).elim c fun w => by rw [h] at w; cases w) (DtK.monoZ k p l)
theorem DtL.monoZ (k : KeepZ H H') (p : Ext al H al') : ∀ {vs : List V} {ds : List D}, DtL g al H vs ds → DtL g al' H' vs ds
  | _, _, .nil => .nil
  | _, _, .cons h t => .cons (Dt.monoZ k p h) (DtL.monoZ k p t)
theorem DtK.monoZ (k : KeepZ H H') (p : Ext al H al') : ∀ {vs : List (Key × V)} {ds : List (Str × D)}, DtK g al H vs ds → DtK g al' H' vs ds
  | _, _, .nil => .nil
  | _, _, .cons h t => .cons (Dt.monoZ k p h) (DtK.monoZ k p t)
end
theorem Dt.mono (k : Keep al H H') (p : Ext al H al') {v : V} {d : D} (h : Dt g al H v d) : Dt g al' H' v d := Dt.monoZ k.toZ p h
theorem DtL.mono (k : Keep al H H') (p : Ext al H al') {vs : List V} {ds : List D} (h : DtL g al H vs ds) : DtL g al' H' vs ds := DtL.monoZ k.toZ p h
theorem DtK.mono (k : Keep al H H') (p : Ext al H al') {vs : List (Key × V)} {ds : List (Str × D)} (h : DtK g al H vs ds) : DtK g al' H' vs ds := DtK.monoZ k.toZ p h
theorem Dt.same (s : L2.Same H H') {v : V} {d : D} (h : Dt g al H v d) : Dt g al H' v d := h.mono (.of s) (.refl al H)
theorem DtL.same (s : L2.Same H H') {vs : List V} {ds : List D} (h : DtL g al H vs ds) : DtL g al H' vs ds := h.mono (.of s) (.refl al H)
theorem DtK.same (s : L2.Same H H') {vs : List (Key × V)} {ds : List (Str × D)} (h : DtK g al H vs ds) : DtK g al H' vs ds := h.mono (.of s) (.refl al H)
/-- what may change without touching data: no tuple; nothing frozen but what stands in the store -/
def Loose (al : Al) (H : Hp) (p : Addr) : Prop := ((∀ o u, H p ≠ some (.frz o u)) ∨ (Cell al p ∧ ∀ o xs, H p ≠ some (.frz o (.tup xs)))) ∧ ∀ xs, H p ≠ some (.tup xs)
theorem sqT_loose {K : PySem.W.Frag} {p a : Addr} {o : HO} {xs : List V} (q : Loose al H p) (h : SqT K H a xs) : SqT K (upd H p o) a xs := by
  rcases h with (h | ⟨ob, h⟩) | h
  · exact .inl (.inl (by rw [upd_ne (fun e => q.2 _ (e ▸ h))]; exact h))
  · exact .inl (.inr ⟨ob, by rw [upd_ne (fun e => by subst e; rcases q.1 with q | q; exact q _ _ h; exact q.2 _ _ h)]; exact h⟩)
  · exact .inr h
theorem lsF_loose {K : PySem.W.Frag} {p a : Addr} {o : HO} {xs : List V} (q : Loose al H p) (h : LsF K al H a xs) : LsF K al (upd H p o) a xs := by
  rcases h with ⟨⟨ob, h⟩, c⟩ | h
  · exact .inl ⟨⟨ob, by rw [upd_ne (fun e => by subst e; rcases q.1 with q | q; exact q _ _ h; exact c q.1)]; exact h⟩, c⟩
  · exact .inr h
mutual
theorem Dt.loose {p : Addr} {o : HO} (q : Loose al H p) : ∀ {v : V} {d : D}, Dt g al H v d → Dt g al (upd H p o) v d
  | _, _, .non => .non
  | _, _, .bl b => .bl b
  | _, _, .int i => .int i
  | _, _, .str x => .str x
  | _, _, .fn i => .fn i
  | _, _, .obj h => .obj h
  | _, _, .tup h l => .tup (sqT_loose q h) (DtL.loose q l)
  | _, _, .lst h l => .lst (lsF_loose q h) (DtL.loose q l)
  | _, _, .dic h c l => .dic (by rw [upd_ne (fun e => by subst e; rcases q.1 with q | q; exact q _ _ h; exact c q.1)]; exact h) c (DtK.loose q l)
theorem DtL.loose {p : Addr} {o : HO} (q : Loose al H p) : ∀ {vs : List V} {ds : List D}, DtL g al H vs ds → DtL g al (upd H p o) vs ds
  | _, _, .nil => .nil
  | _, _, .cons h t => .cons (Dt.loose q h) (DtL.loose q t)
theorem DtK.loose {p : Addr} {o : HO} (q : Loose al H p) : ∀ {vs : List (Key × V)} {ds : List (Str × D)}, DtK g al H vs ds → DtK g al (upd H p o) vs ds
  | _, _, .nil => .nil
  | _, _, .cons h t => .cons (Dt.loose q h) (DtK.loose q t)
end
theorem loose_lst {p : Addr} {xs : List V} (h : H p = some (.lst xs)) : Loose al H p := ⟨.inl fun _ _ e => (by rw [h] at e; cases e), fun _ e => (by rw [h] at e; cases e)⟩
theorem loose_dK {p : Addr} {xs : List (Key × V)} (h : H p = some (.dK xs)) : Loose al H p := ⟨.inl fun _ _ e => (by rw [h] at e; cases e), fun _ e => (by rw [h] at e; cases e)⟩
theorem loose_ins {p C dx : Addr} {fs : List (Str × V)} (h : H p = some (.ins C dx fs)) : Loose al H p := ⟨.inl fun _ _ e => (by rw [h] at e; cases e), fun _ e => (by rw [h] at e; cases e)⟩
theorem loose_none {p : Addr} (h : H p = none) : Loose al H p := ⟨.inl fun _ _ e => (by rw [h] at e; cases e), fun _ e => (by rw [h] at e; cases e)⟩

theorem DtL.length : ∀ {vs : List V} {ds : List D}, DtL g al H vs ds → vs.length = ds.length
  | _, _, .nil => rfl
  | _, _, .cons _ t => by rw [List.length_cons, List.length_cons, DtL.length t]
theorem DtK.length : ∀ {vs : List (Key × V)} {ds : List (Str × D)}, DtK g al H vs ds → vs.length = ds.length
  | _, _, .nil => rfl
  | _, _, .cons _ t => by rw [List.length_cons, List.length_cons, DtK.length t]
theorem DtL.get : ∀ {vs : List V} {ds : List D} {i : Nat} {d : D}, DtL g al H vs ds → ds[i]? = some d → ∃ v, vs[i]? = some v ∧ Dt g al H v d
  | _, _, _, _, .nil, e => by simp at e
  | _, _, 0, _, .cons h _, e => by simp at e; subst e; exact ⟨_, rfl, h⟩
  | _, _, i + 1, _, .cons _ t, e => by
    obtain ⟨v, h1, h2⟩ := DtL.get (i := i) t (by simpa using e)
    exact ⟨v, by simpa using h1, h2⟩
theorem DtL.getV : ∀ {vs : List V} {ds : List D} {i : Nat} {v : V}, DtL g al H vs ds → vs[i]? = some v → ∃ d, ds[i]? = some d ∧ Dt g al H v d
  | _, _, _, _, .nil, e => by simp at e
  | _, _, 0, _, .cons h _, e => by simp at e; subst e; exact ⟨_, rfl, h⟩
  | _, _, i + 1, _, .cons _ t, e => by
    obtain ⟨v, h1, h2⟩ := DtL.getV (i := i) t (by simpa using e)
    exact ⟨v, by simpa using h1, h2⟩
theorem DtL.append : ∀ {vs ws : List V} {ds es : List D}, DtL g al H vs ds → DtL g al H ws es → DtL g al H (vs ++ ws) (ds ++ es)
  | _, _, _, _, .nil, h => h
  | _, _, _, _, .cons h t, h2 => .cons h (DtL.append t h2)
theorem DtL.one {v : V} {d : D} (h : Dt g al H v d) : DtL g al H [v] [d] := .cons h .nil
theorem DtL.take : ∀ {vs : List V} {ds : List D} (n : Nat), DtL g al H vs ds → DtL g al H (vs.take n) (ds.take n)
  | _, _, 0, _ => .nil
  | _, _, _ + 1, .nil => .nil
  | _, _, n + 1, .cons h t => .cons h (DtL.take n t)
theorem DtL.drop : ∀ {vs : List V} {ds : List D} (n : Nat), DtL g al H vs ds → DtL g al H (vs.drop n) (ds.drop n)
  | _, _, 0, h => h
  | _, _, _ + 1, .nil => .nil
  | _, _, n + 1, .cons _ t => DtL.drop n t
theorem DtL.dropLast {vs : List V} {ds : List D} (h : DtL g al H vs ds) : DtL g al H vs.dropLast ds.dropLast := by
  rw [List.dropLast_eq_take, List.dropLast_eq_take, h.length]
  exact h.take _
theorem DtL.reverse : ∀ {vs : List V} {ds : List D}, DtL g al H vs ds → DtL g al H vs.reverse ds.reverse
  | _, _, .nil => .nil
  | _, _, .cons h t => by
    rw [List.reverse_cons, List.reverse_cons]
    exact (DtL.reverse t).append (.one h)
theorem DtL.set : ∀ {vs : List V} {ds : List D} {v : V} {d : D} (i : Nat), DtL g al H vs ds → Dt g al H v d → DtL g al H (vs.set i v) (ds.set i d)
  | _, _, _, _, _, .nil, _ => .nil
  | _, _, _, _, 0, .cons _ t, q => .cons q t
  | _, _, _, _, i + 1, .cons h t, q => .cons h (DtL.set i t q)
theorem DtL.ints : ∀ ns : List Int, DtL g al H (ns.map V.int) (ns.map D.int)
  | [] => .nil
  | n :: r => .cons (.int n) (DtL.ints r)
theorem strsD_of : ∀ {vs : List V} {ds : List D} {ys : List Str}, DtL g al H vs ds → strsD ds = some ys → vs = ys.map V.str
  | _, _, _, .nil, e => by simp [strsD] at e; subst e; rfl
  | _, _, _, .cons (d := .str x) (ds := ds) h t, e => by
    cases h
    cases q : strsD ds with
    | none => simp [strsD, q] at e
    | some zs =>
      simp [strsD, q] at e
      subst e
      rw [strsD_of t q]
      rfl
  | _, _, _, .cons (d := .non) _ _, e => by simp [strsD] at e
  | _, _, _, .cons (d := .bl _) _ _, e => by simp [strsD] at e
  | _, _, _, .cons (d := .int _) _ _, e => by simp [strsD] at e
  | _, _, _, .cons (d := .fn _) _ _, e => by simp [strsD] at e
  | _, _, _, .cons (d := .obj _) _ _, e => by simp [strsD] at e
  | _, _, _, .cons (d := .tup _) _ _, e => by simp [strsD] at e
  | _, _, _, .cons (d := .lst _) _ _, e => by simp [strsD] at e
  | _, _, _, .cons (d := .dic _) _ _, e => by simp [strsD] at e
theorem intsD_of : ∀ {vs : List V} {ds : List D} {ys : List Int}, DtL g al H vs ds → intsD ds = some ys → vs = ys.map V.int
  | _, _, _, .nil, e => by simp [intsD] at e; subst e; rfl
  | _, _, _, .cons (d := .int x) (ds := ds) h t, e => by
    cases h
    cases q : intsD ds with
    | none => simp [intsD, q] at e
    | some zs =>
      simp [intsD, q] at e
      subst e
      rw [intsD_of t q]
      rfl
  | _, _, _, .cons (d := .non) _ _, e => by simp [intsD] at e
  | _, _, _, .cons (d := .bl _) _ _, e => by simp [intsD] at e
  | _, _, _, .cons (d := .str _) _ _, e => by simp [intsD] at e
  | _, _, _, .cons (d := .fn _) _ _, e => by simp [intsD] at e
  | _, _, _, .cons (d := .obj _) _ _, e => by simp [intsD] at e
  | _, _, _, .cons (d := .tup _) _ _, e => by simp [intsD] at e
  | _, _, _, .cons (d := .lst _) _ _, e => by simp [intsD] at e
  | _, _, _, .cons (d := .dic _) _ _, e => by simp [intsD] at e
theorem blsD_of : ∀ {vs : List V} {ds : List D} {ys : List Bool}, DtL g al H vs ds → blsD ds = some ys → vs = ys.map V.bl
  | _, _, _, .nil, e => by simp [blsD] at e; subst e; rfl
  | _, _, _, .cons (d := .bl x) (ds := ds) h t, e => by
    cases h
    cases q : blsD ds with
    | none => simp [blsD, q] at e
    | some zs =>
      simp [blsD, q] at e
      subst e
      rw [blsD_of t q]
      rfl
  | _, _, _, .cons (d := .non) _ _, e => by simp [blsD] at e
  | _, _, _, .cons (d := .int _) _ _, e => by simp [blsD] at e
  | _, _, _, .cons (d := .str _) _ _, e => by simp [blsD] at e
  | _, _, _, .cons (d := .fn _) _ _, e => by simp [blsD] at e
  | _, _, _, .cons (d := .obj _) _ _, e => by simp [blsD] at e
  | _, _, _, .cons (d := .tup _) _ _, e => by simp [blsD] at e
  | _, _, _, .cons (d := .lst _) _ _, e => by simp [blsD] at e
  | _, _, _, .cons (d := .dic _) _ _, e => by simp [blsD] at e
theorem keysD_of : ∀ {kvs : List (Key × V)} {rs : List (Str × D)}, DtK g al H kvs rs → DtL g al H (kvs.map fun kv => kV kv.1) (keysD rs)
  | _, _, .nil => .nil
  | _, _, .cons _ t => .cons (.str _) (keysD_of t)
theorem DtK.valL : ∀ {kvs : List (Key × V)} {rs : List (Str × D)}, DtK g al H kvs rs → DtL g al H (kvs.map (·.2)) (rs.map (·.2))
  | _, _, .nil => .nil
  | _, _, .cons h t => .cons h (DtK.valL t)
theorem DtK.getI : ∀ {kvs : List (Key × V)} {rs : List (Str × D)} {i : Nat} {k : Key} {v : V}, DtK g al H kvs rs → kvs[i]? = some (k, v) → ∃ x d, k = .inr x ∧ rs[i]? = some (x, d) ∧ Dt g al H v d
  | _, _, _, _, _, .nil, e => by simp at e
  | _, _, 0, _, _, .cons h _, e => by
    simp at e
    obtain ⟨rfl, rfl⟩ := e
    exact ⟨_, _, rfl, rfl, h⟩
  | _, _, i + 1, _, _, .cons _ t, e => by
    obtain ⟨x, d, h1, h2, h3⟩ := DtK.getI (i := i) t (by simpa using e)
    exact ⟨x, d, h1, by simpa using h2, h3⟩
theorem inr_eq (a b : Str) : decide ((Sum.inr a : Key) = Sum.inr b) = decide (a = b) := key_rr a b
theorem DtK.val : ∀ {kvs : List (Key × V)} {rs : List (Str × D)} (x : Str), DtK g al H kvs rs → (dget rs x = none ∧ valV kvs (.inr x) = none) ∨ ∃ v d, dget rs x = some d ∧ valV kvs (.inr x) = some v ∧ Dt g al H v d
  | _, _, _, .nil => .inl ⟨rfl, rfl⟩
  | _, _, x, .cons (k := k) (d := d) (v := v) h t => by
    by_cases e : k = x
    · refine .inr ⟨v, d, ?_, ?_, h⟩
      · simp [dget, List.find?_cons, e]
      · exact valV_pos (p := (Sum.inr k, v)) (by rw [e])
    · have h2 : ∀ r : List (Str × D), dget ((k, d) :: r) x = dget r x := fun r => by simp [dget, List.find?_cons, e]
      rw [valV_neg (p := (Sum.inr k, v)) (fun q => e (Sum.inr.inj q)), h2]
      exact DtK.val x t
theorem DtK.any : ∀ {kvs : List (Key × V)} {rs : List (Str × D)} (x : Str), DtK g al H kvs rs → (kvs.any fun kv => decide (kv.1 = Sum.inr x)) = (rs.any fun p => decide (p.1 = x))
  | _, _, _, .nil => rfl
  | _, _, x, .cons (k := k) h t => by
    rw [List.any_cons, List.any_cons, DtK.any x t, inr_eq]
theorem DtK.snoc : ∀ {kvs : List (Key × V)} {rs : List (Str × D)} {x : Str} {v : V} {d : D}, DtK g al H kvs rs → Dt g al H v d → DtK g al H (kvs ++ [(.inr x, v)]) (rs ++ [(x, d)])
  | _, _, _, _, _, .nil, q => .cons q .nil
  | _, _, _, _, _, .cons h t, q => .cons h (DtK.snoc t q)
theorem DtK.mapPut : ∀ {kvs : List (Key × V)} {rs : List (Str × D)} {x : Str} {v : V} {d : D}, DtK g al H kvs rs → Dt g al H v d →
    DtK g al H (kvs.map fun kv => if kv.1 = Sum.inr x then (kv.1, v) else kv) (rs.map fun p => if p.1 = x then (p.1, d) else p)
  | _, _, _, _, _, .nil, _ => .nil
  | _, _, x, _, _, .cons (k := k) h t, q => by
    rw [List.map_cons, List.map_cons]
    by_cases e : k = x
    · rw [if_pos (show (Sum.inr k : Key) = Sum.inr x by rw [e]), if_pos (show k = x from e)]
      exact .cons q (DtK.mapPut t q)
    · rw [if_neg (show ¬ (Sum.inr k : Key) = Sum.inr x from fun z => e (Sum.inr.inj z)), if_neg (show ¬ k = x from e)]
      exact .cons h (DtK.mapPut t q)
theorem DtK.put {kvs : List (Key × V)} {rs : List (Str × D)} {x : Str} {v : V} {d : D} (h : DtK g al H kvs rs) (q : Dt g al H v d) : DtK g al H (putK kvs (.inr x) v) (dput rs x d) := by
  unfold putK dput
  rw [DtK.any x h]
  split
  · exact h.mapPut q
  · exact h.snoc q
theorem DtK.drop : ∀ {kvs : List (Key × V)} {rs : List (Str × D)} (x : Str), DtK g al H kvs rs → DtK g al H (dropK kvs (.inr x)) (ddrop rs x)
  | _, _, _, .nil => .nil
  | _, _, x, .cons (k := k) h t => by
    have ih := DtK.drop x t
    unfold dropK ddrop at ih ⊢
    rw [List.filter_cons, List.filter_cons]
    by_cases e : k = x
    · rw [if_neg (by simp [e]), if_neg (by simp [e])]
      exact ih
    · rw [if_pos (by simp [e]), if_pos (by simp [e])]
      exact .cons h ih

/-- what is only read, at the place: data, or a list or dict that may change -/
def Bt (g : GC) (al : Al) (H : Hp) (v : V) (d : D) : Prop :=
  Dt g al H v d ∨ (∃ a vs ds, v = .ref a ∧ d = .lst ds ∧ Rd H a (.lst vs) ∧ DtL g al H vs ds) ∨ ∃ a kvs rs, v = .ref a ∧ d = .dic rs ∧ Rd H a (.dK kvs) ∧ DtK g al H kvs rs
theorem rd_same {a : Addr} {u : HO} (s : L2.Same H H') (h : Rd H a u) : Rd H' a u := h.imp (s _ _) fun ⟨o, h⟩ => ⟨o, s _ _ h⟩
theorem Bt.same (k : L2.Same H H') {v : V} {d : D} (h : Bt g al H v d) : Bt g al H' v d := by
  rcases h with h | ⟨a, vs, ds, e1, e2, h1, h2⟩ | ⟨a, vs, ds, e1, e2, h1, h2⟩
  · exact .inl (h.same k)
  · exact .inr (.inl ⟨a, vs, ds, e1, e2, rd_same k h1, h2.same k⟩)
  · exact .inr (.inr ⟨a, vs, ds, e1, e2, rd_same k h1, h2.same k⟩)
theorem Bt.lst {v : V} {ds : List D} (h : Bt g al H v (.lst ds)) : ∃ a vs, v = .ref a ∧ SqL g.K H a vs ∧ DtL g al H vs ds := by
  rcases h with h | ⟨a, vs, ds', e1, e2, h1, h2⟩ | ⟨a, vs, ds', e1, e2, h1, h2⟩
  · cases h with
    | lst h l => exact ⟨_, _, rfl, h.sq, l⟩
  · cases e2
    exact ⟨a, vs, e1, .inl h1, h2⟩
  · cases e2
theorem Bt.dic {v : V} {rs : List (Str × D)} (h : Bt g al H v (.dic rs)) : ∃ a kvs, v = .ref a ∧ Rd H a (.dK kvs) ∧ DtK g al H kvs rs := by
  rcases h with h | ⟨a, vs, ds', e1, e2, h1, h2⟩ | ⟨a, vs, ds', e1, e2, h1, h2⟩
  · cases h with
    | dic h c l => exact ⟨_, _, rfl, .inr ⟨_, h⟩, l⟩
  · cases e2
  · cases e2
    exact ⟨a, vs, e1, h1, h2⟩
theorem Bt.tup {v : V} {ds : List D} (h : Bt g al H v (.tup ds)) : ∃ a vs, v = .ref a ∧ SqT g.K H a vs ∧ DtL g al H vs ds := by
  rcases h with h | ⟨a, vs, ds', e1, e2, h1, h2⟩ | ⟨a, vs, ds', e1, e2, h1, h2⟩
  · cases h with
    | tup h l => exact ⟨_, _, rfl, h, l⟩
  · cases e2
  · cases e2
theorem Bt.int {v : V} {i : Int} (h : Bt g al H v (.int i)) : v = .int i := by
  rcases h with h | ⟨_, _, _, _, e, _⟩ | ⟨_, _, _, _, e, _⟩
  · cases h; rfl
  · cases e
  · cases e
theorem Bt.str {v : V} {x : Str} (h : Bt g al H v (.str x)) : v = .str x := by
  rcases h with h | ⟨_, _, _, _, e, _⟩ | ⟨_, _, _, _, e, _⟩
  · cases h; rfl
  · cases e
  · cases e
theorem Bt.bl {v : V} {b : Bool} (h : Bt g al H v (.bl b)) : v = .bl b := by
  rcases h with h | ⟨_, _, _, _, e, _⟩ | ⟨_, _, _, _, e, _⟩
  · cases h; rfl
  · cases e
  · cases e
theorem Bt.non {v : V} (h : Bt g al H v .non) : v = .non := by
  rcases h with h | ⟨_, _, _, _, e, _⟩ | ⟨_, _, _, _, e, _⟩
  · cases h; rfl
  · cases e
  · cases e
theorem Bt.obj {v : V} {i : Nat} (h : Bt g al H v (.obj i)) : ∃ x dx, v = .ref x ∧ al[i]? = some (x, dx) := by
  rcases h with h | ⟨_, _, _, _, e, _⟩ | ⟨_, _, _, _, e, _⟩
  · cases h with
    | obj h => exact ⟨_, _, rfl, h⟩
  · cases e
  · cases e
theorem Bt.nn {v : V} {d : D} (h : Bt g al H v d) : decide (v = .non) = (match d with | .non => true | _ => false) := by
  rcases h with h | ⟨_, _, _, e1, e, _⟩ | ⟨_, _, _, e1, e, _⟩
  · cases h <;> simp
  · subst e1 e; simp
  · subst e1 e; simp
/-- what is only read, and stays: data, or a list or dict of the def's own -/
def Bp (g : GC) (al : Al) (H : Hp) (v : V) (d : D) : Prop :=
  Dt g al H v d ∨ (∃ a vs ds, v = .ref a ∧ d = .lst ds ∧ H a = some (.lst vs) ∧ ¬ Cell al a ∧ DtL g al H vs ds) ∨ ∃ a kvs rs, v = .ref a ∧ d = .dic rs ∧ H a = some (.dK kvs) ∧ ¬ Cell al a ∧ DtK g al H kvs rs
theorem Bp.mono (k : Keep al H H') (p : Ext al H al') {v : V} {d : D} (h : Bp g al H v d) : Bp g al' H' v d := by
  rcases h with h | ⟨a, vs, ds, e1, e2, h1, c, h2⟩ | ⟨a, vs, ds, e1, e2, h1, c, h2⟩
  · exact .inl (h.mono k p)
  · exact .inr (.inl ⟨a, vs, ds, e1, e2, k.k _ _ h1 c (fun z => nomatch z), (fun z => (p.n _ z).elim c fun w => by rw [h1] at w; cases w), h2.mono k p⟩)
  · exact .inr (.inr ⟨a, vs, ds, e1, e2, k.k _ _ h1 c (fun z => nomatch z), (fun z => (p.n _ z).elim c fun w => by rw [h1] at w; cases w), h2.mono k p⟩)
theorem Bp.bt {v : V} {d : D} (h : Bp g al H v d) : Bt g al H v d := by
  rcases h with h | ⟨a, vs, ds, e1, e2, h1, _, h2⟩ | ⟨a, vs, ds, e1, e2, h1, _, h2⟩
  · exact .inl h
  · exact .inr (.inl ⟨a, vs, ds, e1, e2, .inl h1, h2⟩)
  · exact .inr (.inr ⟨a, vs, ds, e1, e2, .inl h1, h2⟩)
end
end Pi

/-! Pi3: the state at a place of a def's body; what an expression, a statement asks, by data. -/
namespace Pi
open PySem L2 PySem.Spec PyProof.Rows

/-- an instance's attributes as they lie -/
def FsOk (g : GC) (al : Al) (H : Hp) (fs : List (Str × V)) (ds : List (Str × D)) : Prop :=
  fs.map (·.1) = ds.map (·.1) ∧ DtL g al H (fs.map (·.2)) (ds.map (·.2))
/-- how a thing of the store lies -/
def ObOk (g : GC) (al : Al) (H : Hp) (x dx : Addr) : Ob → Prop
  | .ins c ds => ∃ fs, H x = some (.ins (g.ca c) dx fs) ∧ FsOk g al H fs ds
  | .ol ds => ∃ vs, H x = some (.lst vs) ∧ DtL g al H vs ds
  | .od ds => ∃ vs, H x = some (.dK vs) ∧ DtK g al H vs ds
  | .lk (.ol ds) => ∃ o vs, H x = some (.frz o (.lst vs)) ∧ DtL g al H vs ds
  | .lk (.od ds) => ∃ o vs, H x = some (.frz o (.dK vs)) ∧ DtK g al H vs ds
  | .lk _ => False
structure StoOk (g : GC) (al : Al) (S : Sto) (H : Hp) : Prop where
  len : al.length = S.length
  at_ : ∀ (i : Nat) (x dx : Addr) (o : Ob), al[i]? = some (x, dx) → S[i]? = some o → ObOk g al H x dx o
  nd : ∀ (i j : Nat) (x dx dx' : Addr), al[i]? = some (x, dx) → al[j]? = some (x, dx') → i = j
section
variable {g : GC} {al al' al0 : Al} {H H' H0 : Hp} {S S' : Sto}
theorem FsOk.mono {fs : List (Str × V)} {ds : List (Str × D)} (k : Keep al H H') (p : Ext al H al') (h : FsOk g al H fs ds) : FsOk g al' H' fs ds := ⟨h.1, h.2.mono k p⟩
theorem FsOk.loose {fs : List (Str × V)} {ds : List (Str × D)} {p : Addr} {o : HO} (q : Loose al H p) (h : FsOk g al H fs ds) : FsOk g al (upd H p o) fs ds := ⟨h.1, h.2.loose q⟩
theorem FsOk.len {fs : List (Str × V)} {ds : List (Str × D)} (h : FsOk g al H fs ds) : fs.length = ds.length := by
  have := congrArg List.length h.1
  simpa using this
theorem FsOk.get : ∀ {fs : List (Str × V)} {ds : List (Str × D)} {f : Str} {d : D}, FsOk g al H fs ds → dget ds f = some d → ∃ v, fs.lookup f = some v ∧ Dt g al H v d
  | [], [], f, d, _, e => by simp [dget] at e
  | [], _ :: _, _, _, h, _ => by have := h.len; simp at this
  | _ :: _, [], _, _, h, _ => by have := h.len; simp at this
  | (x, v) :: fs, (y, c) :: ds, f, d, h, e => by
    obtain ⟨h1, h2⟩ := h
    simp only [List.map_cons, List.cons.injEq] at h1
    obtain ⟨rfl, h1⟩ := h1
    cases h2 with
    | cons q t =>
      by_cases ef : x = f
      · subst ef
        simp [dget, List.find?_cons] at e
        subst e
        exact ⟨v, by simp, q⟩
      · have e' : dget ds f = some d := by simpa [dget, List.find?_cons, ef] using e
        obtain ⟨w, e1, dw⟩ := FsOk.get (fs := fs) ⟨h1, t⟩ e'
        have : (f == x) = false := by simpa using fun z => ef z.symm
        exact ⟨w, by rw [List.lookup_cons, this]; exact e1, dw⟩
theorem ObOk.mono {x dx : Addr} {o : Ob} (k : Keep al H H') (p : Ext al H al') (h : ObOk g al H x dx o) (e : H' x = H x) : ObOk g al' H' x dx o := by
  cases o with
  | ins c ds => obtain ⟨fs, q, f⟩ := h; exact ⟨fs, e ▸ q, f.mono k p⟩
  | ol ds => obtain ⟨fs, q, f⟩ := h; exact ⟨fs, e ▸ q, f.mono k p⟩
  | od ds => obtain ⟨fs, q, f⟩ := h; exact ⟨fs, e ▸ q, f.mono k p⟩
  | lk o =>
    cases o with
    | ol ds => obtain ⟨u, fs, q, f⟩ := h; exact ⟨u, fs, e ▸ q, f.mono k p⟩
    | od ds => obtain ⟨u, fs, q, f⟩ := h; exact ⟨u, fs, e ▸ q, f.mono k p⟩
    | _ => exact h
/-- another thing, that is loose, changes -/
theorem ObOk.loose {x dx p : Addr} {u : HO} {o : Ob} (q : Loose al H p) (h : ObOk g al H x dx o) (n : x ≠ p) : ObOk g al (upd H p u) x dx o := by
  have e : upd H p u x = H x := upd_ne n
  cases o with
  | ins c ds => obtain ⟨fs, y, f⟩ := h; exact ⟨fs, e ▸ y, f.loose q⟩
  | ol ds => obtain ⟨fs, y, f⟩ := h; exact ⟨fs, e ▸ y, f.loose q⟩
  | od ds => obtain ⟨fs, y, f⟩ := h; exact ⟨fs, e ▸ y, f.loose q⟩
  | lk o =>
    cases o with
    | ol ds => obtain ⟨w, fs, y, f⟩ := h; exact ⟨w, fs, e ▸ y, f.loose q⟩
    | od ds => obtain ⟨w, fs, y, f⟩ := h; exact ⟨w, fs, e ▸ y, f.loose q⟩
    | _ => exact h
theorem ObOk.some {x dx : Addr} {o : Ob} (h : ObOk g al H x dx o) : ∃ u, H x = some u := by
  cases o with
  | ins c ds => obtain ⟨fs, q, f⟩ := h; exact ⟨_, q⟩
  | ol ds => obtain ⟨fs, q, f⟩ := h; exact ⟨_, q⟩
  | od ds => obtain ⟨fs, q, f⟩ := h; exact ⟨_, q⟩
  | lk o =>
    cases o with
    | ol ds => obtain ⟨u, fs, q, f⟩ := h; exact ⟨_, q⟩
    | od ds => obtain ⟨u, fs, q, f⟩ := h; exact ⟨_, q⟩
    | _ => exact h.elim
theorem StoOk.cell (h : StoOk g al S H) {a : Addr} (c : Cell al a) : ∃ u, H a = some u := by
  obtain ⟨i, dx, e⟩ := c
  have hi : i < S.length := by rw [← h.len]; exact (List.getElem?_eq_some_iff.mp e).1
  exact (h.at_ i a dx _ e (List.getElem?_eq_getElem hi)).some
theorem StoOk.nc (h : StoOk g al S H) {a : Addr} (n : H a = none) : ¬ Cell al a := fun c => by
  obtain ⟨u, e⟩ := h.cell c
  rw [n] at e; cases e
theorem StoOk.same (s : L2.Same H H') (h : StoOk g al S H) : StoOk g al S H' :=
  ⟨h.len, fun i x dx o e1 e2 => by
    have q := h.at_ i x dx o e1 e2
    obtain ⟨u, e⟩ := q.some
    exact q.mono (.of s) (.refl al H) (by rw [e, s _ _ e]), h.nd⟩
/-- a loose thing that isn't of the store changes -/
theorem StoOk.loose {p : Addr} {o : HO} (q : Loose al H p) (n : ¬ Cell al p) (h : StoOk g al S H) : StoOk g al S (upd H p o) :=
  ⟨h.len, fun i x dx ob e1 e2 => (h.at_ i x dx ob e1 e2).loose q fun z => n ⟨i, dx, z ▸ e1⟩, h.nd⟩
/-- a thing of the store changes -/
theorem StoOk.set {p dp : Addr} {o : HO} {k : Nat} {ob : Ob} (q : Loose al H p) (h : StoOk g al S H) (e : al[k]? = some (p, dp)) (new : ObOk g al (upd H p o) p dp ob) : StoOk g al (S.set k ob) (upd H p o) :=
  ⟨by rw [List.length_set]; exact h.len, fun i x dx u e1 e2 => by
    by_cases hi : i = k
    · subst hi
      have hk : i < S.length := by rw [← h.len]; exact (List.getElem?_eq_some_iff.mp e).1
      rw [List.getElem?_set_self hk] at e2
      cases e2
      rw [e] at e1
      cases e1
      exact new
    · rw [List.getElem?_set_ne (Ne.symm hi)] at e2
      exact (h.at_ i x dx u e1 e2).loose q fun z => hi (h.nd i k x dx dp e1 (by rw [z]; exact e)), h.nd⟩

def Sl.own : Sl → Bool
  | .v _ => false
  | _ => true
/-- what a name holds -/
def SlOk (g : GC) (al : Al) (H0 H : Hp) (v : V) : Sl → Prop
  | .v d => Dt g al H v d
  | .ol ds => ∃ a vs, v = .ref a ∧ (Free H0 a ∧ ¬ Cell al a) ∧ H a = some (.lst vs) ∧ DtL g al H vs ds
  | .od rs => ∃ a kvs, v = .ref a ∧ (Free H0 a ∧ ¬ Cell al a) ∧ H a = some (.dK kvs) ∧ DtK g al H kvs rs
theorem nc_ext {a : Addr} {o : HO} (p : Ext al H al') (h : H a = some o) (c : ¬ Cell al a) : ¬ Cell al' a := fun z => (p.n _ z).elim c fun w => by rw [h] at w; cases w
theorem SlOk.mono {v : V} {s : Sl} (k : Keep al H H') (p : Ext al H al') (h : SlOk g al H0 H v s) : SlOk g al' H0 H' v s := by
  cases s with
  | v d => exact Dt.mono k p h
  | ol ds =>
    obtain ⟨a, vs, e, ⟨z, c⟩, q, l⟩ := h
    exact ⟨a, vs, e, ⟨z, nc_ext p q c⟩, k.k _ _ q c (fun z => nomatch z), l.mono k p⟩
  | od rs =>
    obtain ⟨a, vs, e, ⟨z, c⟩, q, l⟩ := h
    exact ⟨a, vs, e, ⟨z, nc_ext p q c⟩, k.k _ _ q c (fun z => nomatch z), l.mono k p⟩
theorem SlOk.loose {v : V} {s : Sl} {p : Addr} {o : HO} (q : Loose al H p) (hn : s.own = true → v ≠ .ref p) (h : SlOk g al H0 H v s) : SlOk g al H0 (upd H p o) v s := by
  cases s with
  | v d => exact Dt.loose q h
  | ol ds =>
    obtain ⟨a, vs, e, z, y, l⟩ := h
    exact ⟨a, vs, e, z, by rw [upd_ne (fun w => hn rfl (by rw [e, w]))]; exact y, l.loose q⟩
  | od rs =>
    obtain ⟨a, vs, e, z, y, l⟩ := h
    exact ⟨a, vs, e, z, by rw [upd_ne (fun w => hn rfl (by rw [e, w]))]; exact y, l.loose q⟩
theorem SlOk.bp {v : V} {s : Sl} {d : D} (h : SlOk g al H0 H v s) (e : s.frz = .v d) : Bp g al H v d := by
  cases s with
  | v d' => cases e; exact .inl h
  | ol ds =>
    cases e
    obtain ⟨a, vs, e, ⟨z, c⟩, y, l⟩ := h
    exact .inr (.inl ⟨a, vs, ds, e, rfl, y, c, l⟩)
  | od rs =>
    cases e
    obtain ⟨a, vs, e, ⟨z, c⟩, y, l⟩ := h
    exact .inr (.inr ⟨a, vs, rs, e, rfl, y, c, l⟩)
/-- what is read at the place -/
theorem Bp.der {v : V} {d : D} (h : Bp g al H v d) (st : StoOk g al S H) : Bt g al H v (der S d) := by
  cases d with
  | obj i =>
    rcases h with h | ⟨_, _, _, _, e, _⟩ | ⟨_, _, _, _, e, _⟩
    · cases h with
      | @obj _ x dx ea =>
        show Bt g al H (.ref x) (match S[i]? with | some o => o.dat.getD (.obj i) | none => .obj i)
        cases es : S[i]? with
        | none => exact .inl (.obj ea)
        | some o =>
          have q := st.at_ i x dx o ea es
          cases o with
          | ins c ds => exact .inl (.obj ea)
          | ol ds => obtain ⟨vs, y, l⟩ := q; exact .inr (.inl ⟨x, vs, ds, rfl, rfl, .inl y, l⟩)
          | od ds => obtain ⟨vs, y, l⟩ := q; exact .inr (.inr ⟨x, vs, ds, rfl, rfl, .inl y, l⟩)
          | lk o =>
            cases o with
            | ol ds => obtain ⟨o, vs, y, l⟩ := q; exact .inr (.inl ⟨x, vs, ds, rfl, rfl, .inr ⟨o, y⟩, l⟩)
            | od ds => obtain ⟨o, vs, y, l⟩ := q; exact .inr (.inr ⟨x, vs, ds, rfl, rfl, .inr ⟨o, y⟩, l⟩)
            | ins c ds => exact .inl (.obj ea)
            | lk o => exact q.elim
    · cases e
    · cases e
  | _ => exact h.bt

theorem Keep.own {a : Addr} {o : HO} (k : Keep al H H') (p : Ext al H al') (h : H a = some o ∧ ¬ Cell al a) (n : o ≠ dm) : H' a = some o ∧ ¬ Cell al' a := ⟨k.k a o h.1 h.2 n, nc_ext p h.1 h.2⟩
/-- the state at a place: H0, al0 at the def's entry -/
structure RS (g : GC) (H0 : Hp) (al0 : Al) (r : Rho) (S : Sto) (al : Al) (σ : L2.St) (H : Hp) : Prop where
  keep : Keep al0 H0 H
  pre : Ext al0 H0 al
  sto : StoOk g al S H
  len : σ.length = r.length
  sl : ∀ (i : Nat) (s : Sl), r[i]? = some (some s) → ∃ v, σ[i]? = some (some v) ∧ SlOk g al H0 H v s
  nd : ∀ (i j : Nat) (s t : Sl) (a : Addr), i ≠ j → r[i]? = some (some s) → r[j]? = some (some t) → Sl.own s = true → Sl.own t = true → σ[i]? = some (some (V.ref a)) → σ[j]? ≠ some (some (V.ref a))
variable {r : Rho} {σ : L2.St}
theorem RS.step (h : RS g H0 al0 r S al σ H) (k : Keep al H H') (p : Ext al H al') (s : StoOk g al' S' H') : RS g H0 al0 r S' al' σ H' :=
  ⟨h.keep.trans h.pre k, h.pre.trans h.keep p, s, h.len, fun i sl e => let ⟨v, e2, q⟩ := h.sl i sl e; ⟨v, e2, q.mono k p⟩, h.nd⟩
theorem RS.same (h : RS g H0 al0 r S al σ H) (s : L2.Same H H') : RS g H0 al0 r S al σ H' := h.step (.of s) (.refl al H) (h.sto.same s)
theorem RS.new {p : Addr} {o : HO} (h : RS g H0 al0 r S al σ H) (n : H p = none) : RS g H0 al0 r S al σ (upd H p o) := h.same (same_new n)
theorem RS.nc (h : RS g H0 al0 r S al σ H) {p : Addr} (n : H p = none) : ¬ Cell al p := h.sto.nc n
/-- the own things' addresses -/
def OwnAt (r : Rho) (σ : L2.St) (p : Addr) : Prop := ∃ (i : Nat) (s : Sl), r[i]? = some (some s) ∧ s.own = true ∧ σ[i]? = some (some (V.ref p))
theorem RS.own_at (h : RS g H0 al0 r S al σ H) {p : Addr} (o : OwnAt r σ p) : (Free H0 p ∧ ¬ Cell al p) ∧ ((∃ vs, H p = some (.lst vs)) ∨ ∃ kvs, H p = some (.dK kvs)) := by
  obtain ⟨i, s, e, w, q⟩ := o
  obtain ⟨v, e2, k⟩ := h.sl i s e
  rw [q] at e2
  cases e2
  cases s with
  | v d => cases w
  | ol ds =>
    obtain ⟨a, vs, e, z, y, _⟩ := k
    cases e
    exact ⟨z, .inl ⟨vs, y⟩⟩
  | od rs =>
    obtain ⟨a, vs, e, z, y, _⟩ := k
    cases e
    exact ⟨z, .inr ⟨vs, y⟩⟩
theorem RS.own_some (h : RS g H0 al0 r S al σ H) {p : Addr} (o : OwnAt r σ p) : (∃ vs, H p = some (.lst vs)) ∨ ∃ kvs, H p = some (.dK kvs) := (h.own_at o).2
theorem RS.own_nc (h : RS g H0 al0 r S al σ H) {p : Addr} (o : OwnAt r σ p) : ¬ Cell al p := (h.own_at o).1.2
/-- a thing of nobody's name changes -/
theorem RS.free {p : Addr} {o : HO} (h : RS g H0 al0 r S al σ H) (q : Loose al H p) (n : ¬ Cell al p) (h0 : Free H0 p) (no : ¬ OwnAt r σ p) : RS g H0 al0 r S al σ (upd H p o) :=
  ⟨h.keep.mut h0, h.pre, h.sto.loose q n, h.len, fun i sl e => by
    obtain ⟨v, e2, k⟩ := h.sl i sl e
    exact ⟨v, e2, k.loose q fun w z => no ⟨i, sl, e, w, by rw [e2, z]⟩⟩, h.nd⟩
/-- a thing of the store changes -/
theorem RS.cell {p dp : Addr} {o : HO} {k : Nat} {ob : Ob} (h : RS g H0 al0 r S al σ H) (e : al[k]? = some (p, dp)) (q : Loose al H p) (hf : ∀ ob u, H0 p ≠ some (.frz ob u)) (ht : ∀ xs, H0 p ≠ some (.tup xs)) (new : ObOk g al (upd H p o) p dp ob) : RS g H0 al0 r (S.set k ob) al σ (upd H p o) :=
  ⟨h.keep.cell h.pre ⟨k, dp, e⟩ hf ht, h.pre, h.sto.set q e new, h.len, fun i sl ei => by
    obtain ⟨v, e2, kk⟩ := h.sl i sl ei
    exact ⟨v, e2, kk.loose q fun w z => h.own_nc ⟨i, sl, ei, w, by rw [e2, z]⟩ ⟨k, dp, e⟩⟩, h.nd⟩
/-- what is loose now was not frozen at the entry -/
theorem RS.nf (h : RS g H0 al0 r S al σ H) {p : Addr} {u : HO} (e : H p = some u) (n : ∀ o w, u ≠ .frz o w) : ∀ ob w, H0 p ≠ some (.frz ob w) := fun ob w z => by
  have q := h.keep.toZ.z _ _ _ z
  rw [e] at q; cases q; exact n _ _ rfl
theorem RS.nt (h : RS g H0 al0 r S al σ H) {p : Addr} {u : HO} (e : H p = some u) (n : ∀ xs, u ≠ .tup xs) : ∀ xs, H0 p ≠ some (.tup xs) := fun xs z => by
  have q := h.keep.toZ.t _ _ z
  rw [e] at q; cases q; exact n _ rfl

/-! ### the wishes -/
/-- how a value lies: as data, as data or own, new (Hs: the heap ahead) -/
abbrev RR (α : Type) := Hp → Al → Hp → V → α → Prop
def RV (g : GC) : RR D := fun _ al H v d => Dt g al H v d
def RB (g : GC) : RR D := fun _ al H v d => Bp g al H v d
/-- a list or dict that nobody has -/
def RF (g : GC) : RR D := fun Hs al H v d =>
  match d with
  | .lst ds => ∃ a vs, v = .ref a ∧ (Hs a = none ∧ ¬ Cell al a) ∧ H a = some (.lst vs) ∧ DtL g al H vs ds
  | .dic rs => ∃ a kvs, v = .ref a ∧ (Hs a = none ∧ ¬ Cell al a) ∧ H a = some (.dK kvs) ∧ DtK g al H kvs rs
  | d => Dt g al H v d
theorem RF.bp {Hs : Hp} {v : V} {d : D} (h : RF g Hs al H v d) : Bp g al H v d := by
  cases d with
  | lst ds =>
    obtain ⟨a, vs, e, ⟨_, c⟩, y, l⟩ := h
    exact .inr (.inl ⟨a, vs, ds, e, rfl, y, c, l⟩)
  | dic rs =>
    obtain ⟨a, vs, e, ⟨_, c⟩, y, l⟩ := h
    exact .inr (.inr ⟨a, vs, rs, e, rfl, y, c, l⟩)
  | _ => exact .inl h

/-- what is wanted behind a reckoning that comes to o -/
def Pst {α β : Type} (g : GC) (W : WX) (H0 : Hp) (al0 : Al) (r : Rho) (σ : L2.St) (al : Al) (H : Hp) (R : Al → Hp → β → α → Prop) (o : Out α) (Q : β → Hp → Prop) : Prop :=
  match o with
  | .ok d S' => ∀ H' al' v, RS g H0 al0 r S' al' σ H' → Keep al H H' → Ext al H al' → R al' H' v d → Q v H'
  | .exc c S' => ∀ H' al', RS g H0 al0 r S' al' σ H' → W (g.xa c) none σ H'
  | .bad => False
/-- the reading by data -/
def TR (g : GC) (W : WX) (R : RR D) (m : Rho → Sto → Out D) : TE := fun σ H Q =>
  ∃ H0 al0 al r S, RS g H0 al0 r S al σ H ∧ Pst g W H0 al0 r σ al H (R H) (m r S) Q
def TT' (g : GC) (W : WX) (m : Rho → Sto → Out Bool) : TT := fun σ H Q =>
  ∃ H0 al0 al r S, RS g H0 al0 r S al σ H ∧ Pst g W H0 al0 r σ al H (fun _ _ (b : Bool) d => b = d) (m r S) Q
def TAs (g : GC) (W : WX) (m : Rho → Sto → Out (List D)) : TA := fun σ H Q =>
  ∃ H0 al0 al r S, RS g H0 al0 r S al σ H ∧ Pst g W H0 al0 r σ al H (fun al H vs ds => DtL g al H vs ds) (m r S) Q
def PstS (g : GC) (W : WX) (H0 : Hp) (al0 : Al) (o : SO) (D : Ends) : Prop :=
  match o with
  | .nx r S => ∀ σ H al, RS g H0 al0 r S al σ H → D.nx σ H
  | .bk r S => ∀ σ H al, RS g H0 al0 r S al σ H → D.bk σ H
  | .ct r S => ∀ σ H al, RS g H0 al0 r S al σ H → D.ct σ H
  | .rt d S => ∀ v H al, Keep al0 H0 H → Ext al0 H0 al → StoOk g al S H → Dt g al H v d → D.rt v H
  | .xc c r S => ∀ σ H al, RS g H0 al0 r S al σ H → W (g.xa c) none σ H
  | .bad => False
def TSt (g : GC) (W : WX) (m : Rho → Sto → SO) : TS := fun D σ H =>
  ∃ H0 al0 al r S, RS g H0 al0 r S al σ H ∧ PstS g W H0 al0 (m r S) D

section
variable {α β γ δ : Type} {W : WX} {R : Al → Hp → β → α → Prop} {R1 : Al → Hp → δ → γ → Prop} {Q : β → Hp → Prop}
/-- one step, then the rest -/
theorem Pst.bnd {o : Out γ} {k : γ → Sto → Out α} (h : Pst g W H0 al0 r σ al H R (o.bnd k) Q) :
    Pst g W H0 al0 r σ al H R1 o fun (v : δ) H1 => ∃ al1 x S1, RS g H0 al0 r S1 al1 σ H1 ∧ Keep al H H1 ∧ Ext al H al1 ∧ R1 al1 H1 v x ∧ Pst g W H0 al0 r σ al1 H1 R (k x S1) Q := by
  cases o with
  | bad => exact h
  | exc c S' => exact h
  | ok x S' =>
    intro H1 al1 v rs kp pr q
    refine ⟨al1, x, S', rs, kp, pr, q, ?_⟩
    have h2 : Pst g W H0 al0 r σ al H R (k x S') Q := h
    revert h2
    cases k x S' with
    | bad => exact id
    | exc c S2 => exact id
    | ok d S2 => exact fun h2 H' al' v' rs' kp' pr' q' => h2 H' al' v' rs' (kp.trans pr kp') (pr.trans kp pr') q'
theorem Pst.imp {o : Out α} {Q' : β → Hp → Prop} (h : Pst g W H0 al0 r σ al H R o Q) (i : ∀ v H', Q v H' → Q' v H') : Pst g W H0 al0 r σ al H R o Q' := by
  cases o with
  | bad => exact h
  | exc c S' => exact h
  | ok x S' => exact fun H' al' v rs k p q => i _ _ (h H' al' v rs k p q)
theorem Pst.lift {x : Option α} {S : Sto} (h : Pst g W H0 al0 r σ al H R (lift x S) Q) : ∃ a, x = some a ∧ Pst g W H0 al0 r σ al H R (.ok a S) Q := by
  cases x with
  | none => exact h.elim
  | some a => exact ⟨a, rfl, h⟩
/-- the end, where the heap is the same -/
theorem Pst.here {d : α} {v : β} (rs : RS g H0 al0 r S al σ H) (h : Pst g W H0 al0 r σ al H R (.ok d S) Q) (q : R al H v d) : Q v H :=
  h H al v rs (Keep.refl al H) (Ext.refl al H) q
/-- .. where a new thing was laid -/
theorem Pst.new {d : α} {v : β} {p : Addr} {o : HO} (rs : RS g H0 al0 r S al σ H) (h : Pst g W H0 al0 r σ al H R (.ok d S) Q) (n : H p = none) (q : R al (upd H p o) v d) : Q v (upd H p o) :=
  h _ al v (rs.new n) (.of (same_new n)) (Ext.refl al H) q
end
theorem PE.imp {X : Cx} {e : Expr} {t t' : TE} (h : PE X e t) (i : ∀ σ H Q, t' σ H Q → t σ H Q) : PE X e t' := ⟨fun pins s σ H Q I q => h.run pins s σ H Q I (i σ H Q q)⟩
theorem PT.imp {X : Cx} {e : Expr} {t t' : TT} (h : PT X e t) (i : ∀ σ H Q, t' σ H Q → t σ H Q) : PT X e t' := ⟨fun pins s σ H Q I q => h.run pins s σ H Q I (i σ H Q q)⟩
theorem PA.imp {X : Cx} {e : List Expr} {t t' : TA} (h : PA X e t) (i : ∀ σ H Q, t' σ H Q → t σ H Q) : PA X e t' := ⟨fun pos pins s σ H Q I q => h.run pos pins s σ H Q I (i σ H Q q)⟩
theorem PS.imp {X : Cx} {e : Stmt} {t t' : TS} (h : PS X e t) (i : ∀ D σ H, t' D σ H → t D σ H) : PS X e t' := ⟨fun pins s σ H D I q => h.run pins s σ H D I (i D σ H q)⟩
theorem PSs.imp {X : Cx} {e : List Stmt} {t t' : TS} (h : PSs X e t) (i : ∀ D σ H, t' D σ H → t D σ H) : PSs X e t' := ⟨fun pins s σ H D I q => h.run pins s σ H D I (i D σ H q)⟩

/-! ### freezing, without a step of the program -/
/-- a new value becomes data -/
theorem PE.frz {X : Cx} {W : WX} {e : Expr} {m : Rho → Sto → Out D} (h : PE X e (TR g W (RF g) m)) : PE X e (TR g W (RV g) m) := by
  refine ⟨fun pins s σ H Q I hq => ?_⟩
  obtain ⟨H0, al0, al, r, S, rs, hq⟩ := hq
  refine thn (h.run pins s σ H (fun v H1 => ∃ al1 d S1, RS g H0 al0 r S1 al1 σ H1 ∧ Keep al H H1 ∧ Ext al H al1 ∧ RF g H al1 H1 v d ∧ Pst g W H0 al0 r σ al H (RV g H) (.ok d S1) Q) I ?_) ?_
  · refine ⟨H0, al0, al, r, S, rs, ?_⟩
    cases q : m r S with
    | bad => rw [q] at hq; exact hq
    | exc c S' => rw [q] at hq; exact hq
    | ok d S' => rw [q] at hq; exact fun H' al' v rs' k p q => ⟨al', d, S', rs', k, p, q, hq⟩
  · rintro u s' ⟨v, H1, I1, rv, al1, d, S1, rs1, k, p, q, fin⟩
    cases d with
    | lst ds =>
      obtain ⟨a, vs, rfl, ⟨h0, hc⟩, y, l⟩ := q
      obtain ⟨od, I2⟩ := I1.lock y trivial
      have lo : Loose al1 H1 a := loose_lst y
      refine ⟨.ref a, _, I2, rv, fin _ al1 _ (rs1.free lo hc (.inl (rs.keep.back h0)) fun o => ?_) (k.mut (.inl h0)) p (.lst (.inl ⟨⟨od, upd_same⟩, hc⟩) (l.loose lo))⟩
      rcases rs.own_some o with ⟨_, z⟩ | ⟨_, z⟩ <;> (rw [h0] at z; cases z)
    | dic es =>
      obtain ⟨a, vs, rfl, ⟨h0, hc⟩, y, l⟩ := q
      obtain ⟨od, I2⟩ := I1.lock y trivial
      have lo : Loose al1 H1 a := loose_dK y
      refine ⟨.ref a, _, I2, rv, fin _ al1 _ (rs1.free lo hc (.inl (rs.keep.back h0)) fun o => ?_) (k.mut (.inl h0)) p (.dic upd_same hc (l.loose lo))⟩
      rcases rs.own_some o with ⟨_, z⟩ | ⟨_, z⟩ <;> (rw [h0] at z; cases z)
    | _ => exact ⟨v, H1, I1, rv, fin H1 al1 v rs1 k p q⟩
/-- the def's own things become data -/
theorem RS.frz1 {X : Cx} {pins : List (Addr × Obj)} {s : Shared} (rs : RS g H0 al0 r S al σ H) (I : Inv X pins σ H s) (i : Nat) :
    ∃ H', Inv X pins σ H' s ∧ RS g H0 al0 (match r[i]? with | some (some s) => r.set i (some s.frz) | _ => r) S al σ H' := by
  cases e : r[i]? with
  | none => exact ⟨H, I, rs⟩
  | some o =>
    cases o with
    | none => exact ⟨H, I, rs⟩
    | some sl =>
      obtain ⟨v, ev, k⟩ := rs.sl i sl e
      have hi : i < r.length := (List.getElem?_eq_some_iff.mp e).1
      -- the new state, from a heap where the i-th thing is data
      have fin : ∀ H' d, sl.frz = .v d → Dt g al H' v d → Keep al0 H0 H' → StoOk g al S H' → (∀ j t w, j ≠ i → r[j]? = some (some t) → σ[j]? = some (some w) → SlOk g al H0 H w t → SlOk g al H0 H' w t) →
          RS g H0 al0 (r.set i (some sl.frz)) S al σ H' := fun H' d ed dt kp st ot => by
        refine ⟨kp, rs.pre, st, by rw [List.length_set]; exact rs.len, fun j t ej => ?_, fun j j' t t' a ne ej ej' w w' => ?_⟩
        · by_cases hj : j = i
          · subst hj
            rw [List.getElem?_set_self hi] at ej
            cases ej
            rw [ed]
            exact ⟨v, ev, dt⟩
          · rw [List.getElem?_set_ne (Ne.symm hj)] at ej
            obtain ⟨x, ex, kx⟩ := rs.sl j t ej
            exact ⟨x, ex, ot j t x hj ej ex kx⟩
        · have nown : ∀ (q : Nat) (u : Sl), (r.set i (some sl.frz))[q]? = some (some u) → u.own = true → q ≠ i := fun q u eq wu z => by
            subst z
            rw [List.getElem?_set_self hi] at eq
            cases eq
            rw [ed] at wu
            cases wu
          have n1 := nown j t ej w
          have n2 := nown j' t' ej' w'
          rw [List.getElem?_set_ne (Ne.symm n1)] at ej
          rw [List.getElem?_set_ne (Ne.symm n2)] at ej'
          exact rs.nd j j' t t' a ne ej ej' w w'
      cases sl with
      | v d => exact ⟨H, I, fin H d rfl k rs.keep rs.sto fun _ _ _ _ _ _ q => q⟩
      | ol ds =>
        obtain ⟨a, vs, rfl, ⟨h0, hc⟩, y, l⟩ := k
        obtain ⟨od, I2⟩ := I.lock y trivial
        have lo : Loose al H a := loose_lst y
        refine ⟨_, I2, fin _ _ rfl (.lst (.inl ⟨⟨od, upd_same⟩, hc⟩) (l.loose lo)) (rs.keep.mut h0) (rs.sto.loose lo hc) fun j t w hj ej ew q => q.loose lo fun ow z => ?_⟩
        subst z
        exact rs.nd i j _ t a (Ne.symm hj) e ej rfl ow ev ew
      | od es =>
        obtain ⟨a, vs, rfl, ⟨h0, hc⟩, y, l⟩ := k
        obtain ⟨od, I2⟩ := I.lock y trivial
        have lo : Loose al H a := loose_dK y
        refine ⟨_, I2, fin _ _ rfl (.dic upd_same hc (l.loose lo)) (rs.keep.mut h0) (rs.sto.loose lo hc) fun j t w hj ej ew q => q.loose lo fun ow z => ?_⟩
        subst z
        exact rs.nd i j _ t a (Ne.symm hj) e ej rfl ow ev ew
theorem RS.frz {X : Cx} {pins : List (Addr × Obj)} {s : Shared} : ∀ (is : List Nat) {r : Rho} {H : Hp}, RS g H0 al0 r S al σ H → Inv X pins σ H s → ∃ H', Inv X pins σ H' s ∧ RS g H0 al0 (frzR r is) S al σ H'
  | [], _, H, rs, I => ⟨H, I, rs⟩
  | i :: is, _, _, rs, I => by
    obtain ⟨H1, I1, rs1⟩ := rs.frz1 I i
    exact RS.frz is rs1 I1
theorem PS.frz {X : Cx} {W : WX} {st : Stmt} {m : Rho → Sto → SO} (is : List Nat) (h : PS X st (TSt g W m)) : PS X st (TSt g W fun r S => m (frzR r is) S) := by
  refine ⟨fun pins s σ H D I hq => ?_⟩
  obtain ⟨H0, al0, al, r, S, rs, hq⟩ := hq
  obtain ⟨H1, I1, rs1⟩ := rs.frz is I
  exact h.run pins s σ H1 D I1 ⟨H0, al0, al, _, S, rs1, hq⟩
end
end Pi

/-! Pi4: operations by data: ==. -/
namespace PySem.SeqAt
open PySem MeetsSeq MeetsSeq2 MeetsSeq3 SeqRoads2 PyProof.Rows
theorem pi_tuple_declines_dict (l b : Addr) (items : Array Value) (n : Nat) (dd : Option Addr) (sl : Array (Option Value)) (ob : Obj) (hc : ob.cls = .type "dict") :
    Meets (Builtin.«tuple.__eq__» ⟨[.ref l, .ref b], []⟩) (fun _ R s => s.heap.get? l = some { cls := .type "tuple", dict := dd, data := .seq items n, slots := sl } ∧ s.heap.get? b = some ob ∧ R (.ok (.ret .notImplemented)) s) :=
  .of_wp fun prog w A R s h => by
    obtain ⟨hp, g, d, tk, os⟩ := s
    obtain ⟨hl, hb, h⟩ := h
    have f1 := F.sub_dict_tuple
    obtain ⟨c, di, da, ss⟩ := ob
    simp only at hc
    subst hc
    wp_walk using wpAny_loadPart' hl, wpAny_loadPart' hb
    exact ⟨_, rfl, h⟩
theorem pi_dict_declines {prog : Program} {w : World} {A : Around} {E : Value → Shared → Prop} {s : Shared} {b : Addr} {v : Value} {T : String} {Q : Value → Shared → Prop}
    (tb : s.TypeIs (.ref b) "dict") (tv : s.TypeIs v T) (sub : isSubtype (.type T) (.type "dict") = pure false) (h : Q .notImplemented s) : wpAny (model prog w) A (call (.builtin "dict.__eq__") [.ref b, v]) Q E s := by
  refine wpAny_call_entry PySem.F.slot_dict_eq tb PySem.F.entry_dict_eq ?_ (PySem.F.args_dict_eq_2 _ _)
  show wpAny _ _ (Builtin.Dict.dictSlotArgs "__eq__" ⟨[.ref b, v], []⟩ >>= _) _ _ s
  refine wpAny_bind ?_
  unfold Builtin.Dict.dictSlotArgs
  refine wpAny_bind (wpAny_notOrdered_dict tb ?_)
  show wpAny _ _ (pure (Value.ref b, v)) _ _ s
  refine wpAny_pure ?_
  refine wpAny_bind (wpAny_isInstance (T := T) tv sub ?_)
  simp only [Bool.not_false, if_true]
  refine wpAny_bind (wpAny_rule ?_)
  exact wpAny_pure ⟨_, rfl, h⟩
theorem pi_rc_tuple_dict {A : Around} {s : Shared} {l b : Addr} {items : Array Value} {ob : Obj} (hl : s.heap.IsTuple l items) (hb : s.heap.get? b = some ob) (hcb : ob.cls = .type "dict") (hne : l ≠ b) (hu : A.units < cLine) : RcAt A s (.ref l) (.ref b) false := fun prog w E Q h => by
  obtain ⟨⟨cls, dd, data, sl⟩, ho, hc, n, hd⟩ := id hl
  simp only at hc hd
  subst hc hd
  exact (rc_eq_decline_or (k := false) ⟨_, ho, rfl⟩ ⟨_, hb, hcb⟩ (by decide) F.sub_dict_tuple F.slot_tuple_eq F.slot_dict_eq_refl
    (fun _ hq => call_meets F.slot_tuple_eq ⟨_, ho, rfl⟩ F.entry_tuple_eq (F.args_tuple_eq_2 _ _) (pi_tuple_declines_dict l b items n dd sl ob hcb) ⟨ho, hb, hq⟩)
    (fun _ hq => pi_dict_declines (T := "tuple") ⟨_, hb, hcb⟩ ⟨_, ho, rfl⟩ F.sub_tuple_dict hq)
    (fun _ hq => wpAny_isSame_ref_other' hne ho hb (by rw [hcb]; simp) hq) (.inr hu) h)
theorem pi_rc_dict_tuple {A : Around} {s : Shared} {l b : Addr} {items : Array Value} {ob : Obj} (hl : s.heap.IsTuple l items) (hb : s.heap.get? b = some ob) (hcb : ob.cls = .type "dict") (hne : b ≠ l) (hu : A.units < cLine) : RcAt A s (.ref b) (.ref l) false := fun prog w E Q h => by
  obtain ⟨⟨cls, dd, data, sl⟩, ho, hc, n, hd⟩ := id hl
  simp only at hc hd
  subst hc hd
  exact (rc_eq_decline_or (k := false) ⟨_, hb, hcb⟩ ⟨_, ho, rfl⟩ (by decide) F.sub_tuple_dict F.slot_dict_eq F.slot_tuple_eq_refl
    (fun _ hq => pi_dict_declines (T := "tuple") ⟨_, hb, hcb⟩ ⟨_, ho, rfl⟩ F.sub_tuple_dict hq)
    (fun _ hq => call_meets F.slot_tuple_eq_refl ⟨_, ho, rfl⟩ F.entry_tuple_eq (F.args_tuple_eq_2 _ _) (pi_tuple_declines_dict l b items n dd sl ob hcb) ⟨ho, hb, hq⟩)
    (fun _ hq => wpAny_isSame_ref_other hne hb ho (by rw [hcb]; simp) hq) (.inr hu) h)
end PySem.SeqAt

namespace Pi
open PySem L2 PySem.Spec PyProof.Rows
section
variable {g : GC} {al : Al} {H : Hp} {X : Cx} {pins : List (Addr × Obj)} {σ : L2.St} {s : Shared}
/-- one and the same datum -/
theorem lsF_inj (hK : g.K = X.K) (I : Inv X pins σ H s) {a : Addr} {xs ys : List V} (h : SqL g.K H a xs) (h' : SqL g.K H a ys) : xs = ys := by
  rw [hK] at h h'
  exact I.list_inj h h'
theorem sqT_inj (hK : g.K = X.K) (I : Inv X pins σ H s) {a : Addr} {xs ys : List V} (h : SqT g.K H a xs) (h' : SqT g.K H a ys) : xs = ys := by
  rw [hK] at h h'
  exact I.tuple_inj h h'
theorem rd_clash_lt (hK : g.K = X.K) (I : Inv X pins σ H s) {a : Addr} {xs ys : List V} (h : SqL g.K H a xs) (h' : SqT g.K H a ys) : False := by
  rw [hK] at h h'
  obtain ⟨its, _, ⟨o, n, e, hc, _⟩, _⟩ := I.list h
  obtain ⟨its', _, ⟨o', e', hc', _⟩, _⟩ := I.tuple h'
  rw [e] at e'
  cases e'
  rw [hc] at hc'
  simp at hc'
theorem rd_dict (I : Inv X pins σ H s) {a : Addr} {kvs : List (Key × V)} (h : Rd H a (.dK kvs)) : (a == sysModules) = false ∧ ∃ vs, KV kvs vs ∧ s.heap.DictOf (mixKind X.prog X.w) a vs ∧ kvs.length ≤ sizeLine := by
  obtain ⟨z, y, vs, r, d⟩ := h.ok I.hok
  exact ⟨y, vs, r, d, z⟩
theorem dict_cls (I : Inv X pins σ H s) {a : Addr} {kvs : List (Key × V)} (h : Rd H a (.dK kvs)) : ∃ ob, s.heap.get? a = some ob ∧ ob.cls = .type "dict" := by
  obtain ⟨_, vs, _, d, _⟩ := rd_dict I h
  obtain ⟨o, e, c⟩ := d.typeIs
  exact ⟨o, e, c⟩
theorem rd_clash_lk (hK : g.K = X.K) (I : Inv X pins σ H s) {a : Addr} {xs : List V} {kvs : List (Key × V)} (h : SqL g.K H a xs) (h' : Rd H a (.dK kvs)) : False := by
  rw [hK] at h
  obtain ⟨its, _, ⟨o, n, e, hc, _⟩, _⟩ := I.list h
  obtain ⟨o', e', hc'⟩ := dict_cls I h'
  rw [e] at e'
  cases e'
  rw [hc] at hc'
  simp at hc'
theorem rd_clash_tk (hK : g.K = X.K) (I : Inv X pins σ H s) {a : Addr} {xs : List V} {kvs : List (Key × V)} (h : SqT g.K H a xs) (h' : Rd H a (.dK kvs)) : False := by
  rw [hK] at h
  obtain ⟨its, _, ⟨o, e, hc, _⟩, _⟩ := I.tuple h
  obtain ⟨o', e', hc'⟩ := dict_cls I h'
  rw [e] at e'
  cases e'
  rw [hc] at hc'
  simp at hc'
theorem rd_inj {a : Addr} {ks ls : List (Key × V)} (h : Rd H a (.dK ks)) (h' : Rd H a (.dK ls)) : ks = ls := by
  rcases h with h | ⟨o, h⟩ <;> rcases h' with h' | ⟨o', h'⟩ <;> (rw [h] at h'; cases h'; try rfl)
theorem kv_keys : ∀ {kvs : List (Key × V)} {vs : List (Key × Value)}, KV kvs vs → vs.map (·.1) = kvs.map (·.1) := by
  intro kvs vs r
  unfold KV at r
  induction r with
  | nil => rfl
  | cons h t ih => rw [List.map_cons, List.map_cons, ih, h.1]
theorem dtk_keys : ∀ {kvs : List (Key × V)} {rs : List (Str × D)}, DtK g al H kvs rs → kvs.map (·.1) = (rs.map (·.1)).map Sum.inr
  | _, _, .nil => rfl
  | _, _, .cons _ t => by rw [List.map_cons, dtk_keys t]; rfl
theorem keys_nd (I : Inv X pins σ H s) {a : Addr} {kvs : List (Key × V)} {rs : List (Str × D)} (h : Rd H a (.dK kvs)) (l : DtK g al H kvs rs) : (rs.map (·.1)).Nodup := by
  obtain ⟨_, vs, r, ⟨_, _, _, _, _, _, _, _, nd⟩, _⟩ := rd_dict I h
  rw [kv_keys r, dtk_keys l] at nd
  exact (List.pairwise_map.mp nd).imp fun h e => h (by rw [e])
theorem dget_mem {rs : List (Str × D)} (nd : (rs.map (·.1)).Nodup) {k : Str} {d : D} (h : (k, d) ∈ rs) : dget rs k = some d := by
  induction rs with
  | nil => cases h
  | cons p r ih =>
    rw [List.map_cons, List.nodup_cons] at nd
    rcases List.mem_cons.mp h with e | h
    · subst e
      simp [dget, List.find?_cons]
    · have hne : p.1 ≠ k := fun e => nd.1 (List.mem_map.mpr ⟨_, h, e.symm⟩)
      have := ih nd.2 h
      simp only [dget, List.find?_cons] at this ⊢
      rw [decide_eq_false hne]
      exact this

mutual
theorem same_true (hK : g.K = X.K) (I : Inv X pins σ H s) : ∀ (x y : D) (v : V) (b : Bool), Bt g al H v x → Bt g al H v y → eqd x y = some b → b = true
  | .non, y, v, b, hx, hy, h => by
    have e := hx.non
    subst e
    cases y with
    | non => simp [eqd] at h; exact h
    | bl _ => have := hy.bl; cases this
    | int _ => have := hy.int; cases this
    | str _ => have := hy.str; cases this
    | tup _ => obtain ⟨_, _, e, _⟩ := hy.tup; cases e
    | lst _ => obtain ⟨_, _, e, _⟩ := hy.lst; cases e
    | _ => simp [eqd] at h
  | .bl i, y, v, b, hx, hy, h => by
    have e := hx.bl
    subst e
    cases y with
    | non => have := hy.non; cases this
    | bl _ => have := hy.bl; cases this; simp [eqd] at h; exact h
    | int _ => have := hy.int; cases this
    | str _ => have := hy.str; cases this
    | tup _ => obtain ⟨_, _, e, _⟩ := hy.tup; cases e
    | lst _ => obtain ⟨_, _, e, _⟩ := hy.lst; cases e
    | _ => simp [eqd] at h
  | .int i, y, v, b, hx, hy, h => by
    have e := hx.int
    subst e
    cases y with
    | non => have := hy.non; cases this
    | bl _ => have := hy.bl; cases this
    | int _ => have := hy.int; cases this; simp [eqd] at h; exact h
    | str _ => have := hy.str; cases this
    | tup _ => obtain ⟨_, _, e, _⟩ := hy.tup; cases e
    | lst _ => obtain ⟨_, _, e, _⟩ := hy.lst; cases e
    | _ => simp [eqd] at h
  | .str i, y, v, b, hx, hy, h => by
    have e := hx.str
    subst e
    cases y with
    | non => have := hy.non; cases this
    | bl _ => have := hy.bl; cases this
    | int _ => have := hy.int; cases this
    | str _ => have := hy.str; cases this; simp [eqd] at h; exact h
    | tup _ => obtain ⟨_, _, e, _⟩ := hy.tup; cases e
    | lst _ => obtain ⟨_, _, e, _⟩ := hy.lst; cases e
    | _ => simp [eqd] at h
  | .fn _, y, v, b, hx, hy, h => by cases y <;> simp [eqd] at h
  | .obj _, y, v, b, hx, hy, h => by cases y <;> simp [eqd] at h
  | .tup xs, y, v, b, hx, hy, h => by
    obtain ⟨a, vs, rfl, q, l⟩ := hx.tup
    cases y with
    | non => have := hy.non; cases this
    | bl _ => have := hy.bl; cases this
    | int _ => have := hy.int; cases this
    | str _ => have := hy.str; cases this
    | tup ys =>
      obtain ⟨a', vs', e, q', l'⟩ := hy.tup
      cases e
      cases sqT_inj hK I q q'
      simp only [eqd] at h
      exact same_trueL hK I xs ys vs b l l' h
    | lst _ => obtain ⟨_, _, e, q', _⟩ := hy.lst; cases e; exact (rd_clash_lt hK I q' q).elim
    | dic _ => obtain ⟨_, _, e, q', _⟩ := hy.dic; cases e; exact (rd_clash_tk hK I q q').elim
    | _ => simp [eqd] at h
  | .lst xs, y, v, b, hx, hy, h => by
    obtain ⟨a, vs, rfl, q, l⟩ := hx.lst
    cases y with
    | non => have := hy.non; cases this
    | bl _ => have := hy.bl; cases this
    | int _ => have := hy.int; cases this
    | str _ => have := hy.str; cases this
    | tup ys => obtain ⟨_, _, e, q', _⟩ := hy.tup; cases e; exact (rd_clash_lt hK I q q').elim
    | lst ys =>
      obtain ⟨a', vs', e, q', l'⟩ := hy.lst
      cases e
      cases lsF_inj hK I q q'
      simp only [eqd] at h
      rw [if_pos (by rw [← l.length, ← l'.length])] at h
      exact same_trueL hK I xs ys vs b l l' h
    | _ => simp [eqd] at h
  | .dic xs, y, v, b, hx, hy, h => by
    obtain ⟨a, vs, rfl, q, l⟩ := hx.dic
    cases y with
    | tup ys => obtain ⟨_, _, e, q', _⟩ := hy.tup; cases e; exact (rd_clash_tk hK I q' q).elim
    | dic ys =>
      obtain ⟨a', vs', e, q', l'⟩ := hy.dic
      cases e
      cases rd_inj q q'
      simp only [eqd] at h
      have nd := keys_nd I q l'
      have hl : xs.length = ys.length := by rw [← l.length, ← l'.length]
      cases eb : eqdK xs ys with
      | none => rw [eb] at h; cases h
      | some c =>
      rw [eb] at h
      have hb : c = b := by simpa [hl] using h
      subst hb
      refine same_trueK hK I xs ys c (fun p hp => ?_) eb
      have get : ∀ (vs : List (Key × V)) (xs ys : List (Str × D)), DtK g al H vs xs → DtK g al H vs ys → p ∈ xs → ∃ u w, (p.1, u) ∈ ys ∧ Dt g al H w p.2 ∧ Dt g al H w u := by
        intro vs
        induction vs with
        | nil => intro xs ys l l' hp; cases l; cases hp
        | cons z r ih =>
          intro xs ys l l' hp
          cases l with
          | cons h1 t1 =>
            cases l' with
            | cons h2 t2 =>
              rcases List.mem_cons.mp hp with e | hp
              · subst e
                exact ⟨_, _, List.mem_cons_self, h1, h2⟩
              · obtain ⟨u, w, m, r1, r2⟩ := ih _ _ t1 t2 hp
                exact ⟨u, w, List.mem_cons_of_mem _ m, r1, r2⟩
      obtain ⟨u, w, m, r1, r2⟩ := get vs xs ys l l' hp
      exact ⟨u, w, dget_mem nd m, .inl r1, .inl r2⟩
    | _ => simp [eqd] at h
theorem same_trueL (hK : g.K = X.K) (I : Inv X pins σ H s) : ∀ (xs ys : List D) (vs : List V) (b : Bool), DtL g al H vs xs → DtL g al H vs ys → eqdL xs ys = some b → b = true
  | [], ys, vs, b, l, l', h => by
    cases l
    cases l'
    simp [eqdL] at h
    exact h
  | x :: xs, ys, vs, b, l, l', h => by
    cases l with
    | cons h1 t1 =>
      cases l' with
      | @cons _ y _ ys h2 t2 =>
        simp only [eqdL] at h
        cases e1 : eqd x y with
        | none => rw [e1] at h; simp at h
        | some a =>
          cases e2 : eqdL xs ys with
          | none => rw [e1, e2] at h; simp at h
          | some c =>
            rw [e1, e2] at h
            have q1 := same_true hK I x y _ a (.inl h1) (.inl h2) e1
            have q2 := same_trueL hK I xs ys _ c t1 t2 e2
            subst q1 q2
            simpa using h.symm
theorem same_trueK (hK : g.K = X.K) (I : Inv X pins σ H s) : ∀ (xs ys : List (Str × D)) (b : Bool), (∀ p ∈ xs, ∃ u w, dget ys p.1 = some u ∧ Bt g al H w p.2 ∧ Bt g al H w u) → eqdK xs ys = some b → b = true
  | [], ys, b, _, h => by simp [eqdK] at h; exact h
  | p :: xs, ys, b, hp, h => by
    obtain ⟨u, w, e0, h1, h2⟩ := hp p List.mem_cons_self
    simp only [eqdK, e0] at h
    cases e1 : eqd p.2 u with
    | none => rw [e1] at h; simp at h
    | some a =>
      cases e2 : eqdK xs ys with
      | none => rw [e1, e2] at h; simp at h
      | some c =>
        rw [e1, e2] at h
        have q1 := same_true hK I p.2 u _ a h1 h2 e1
        have q2 := same_trueK hK I xs ys c (fun q hq => hp q (List.mem_cons_of_mem _ hq)) e2
        subst q1 q2
        simpa using h.symm
end

theorem is_list (hK : g.K = X.K) (I : Inv X pins σ H s) {a : Addr} {vs : List V} (h : SqL g.K H a vs) : ∃ its : List Value, Vals vs its ∧ s.heap.IsList a its.toArray := by
  rw [hK] at h
  obtain ⟨its, r, p, _⟩ := I.list h
  exact ⟨its, r, p.isList⟩
theorem is_tuple (hK : g.K = X.K) (I : Inv X pins σ H s) {a : Addr} {vs : List V} (h : SqT g.K H a vs) : ∃ its : List Value, Vals vs its ∧ s.heap.IsTuple a its.toArray := by
  rw [hK] at h
  obtain ⟨its, r, p, _⟩ := I.tuple h
  exact ⟨its, r, p⟩
theorem isTuple_get {a : Addr} {its : Array Value} (h : s.heap.IsTuple a its) : ∃ o, s.heap.get? a = some o ∧ o.cls = .type "tuple" := let ⟨o, e, c, _⟩ := h; ⟨o, e, c⟩

/-- what the items come to -/
def eqAll (xs ys : List D) (j : Nat) : Bool :=
  match xs[j]?, ys[j]? with
  | some x, some y => (eqd x y).getD false
  | _, _ => false
theorem eqdL_all : ∀ (xs ys : List D) (b : Bool), eqdL xs ys = some b → (∀ j x y, xs[j]? = some x → ys[j]? = some y → eqd x y = some (eqAll xs ys j)) ∧ b = ((List.range (min xs.length ys.length)).all (eqAll xs ys) && xs.length == ys.length)
  | [], [], b, h => by
    simp [eqdL] at h
    exact ⟨fun j x y e => by simp at e, by simp [h]⟩
  | [], _ :: _, b, h => by
    simp [eqdL] at h
    exact ⟨fun j x y e => by simp at e, by simp [h]⟩
  | _ :: _, [], b, h => by
    simp [eqdL] at h
    exact ⟨fun j x y _ e => by simp at e, by simp [h]⟩
  | x :: xs, y :: ys, b, h => by
    simp only [eqdL] at h
    cases e1 : eqd x y with
    | none => rw [e1] at h; simp at h
    | some a =>
      cases e2 : eqdL xs ys with
      | none => rw [e1, e2] at h; simp at h
      | some c =>
        rw [e1, e2] at h
        obtain ⟨i1, i2⟩ := eqdL_all xs ys c e2
        have h' : (a && c) = b := by simpa using h
        have z0 : eqAll (x :: xs) (y :: ys) 0 = a := by simp [eqAll, e1]
        have zs : ∀ j, eqAll (x :: xs) (y :: ys) (j + 1) = eqAll xs ys j := fun j => by simp [eqAll]
        refine ⟨fun j p q ep eq => ?_, ?_⟩
        · cases j with
          | zero =>
            simp at ep eq
            subst ep eq
            rw [z0, e1]
          | succ j =>
            rw [zs]
            exact i1 j p q (by simpa using ep) (by simpa using eq)
        · rw [← h', i2, List.length_cons, List.length_cons, show min (xs.length + 1) (ys.length + 1) = min xs.length ys.length + 1 by omega, List.range_succ_eq_map, List.all_cons, z0, List.all_map]
          have e8 : eqAll (x :: xs) (y :: ys) ∘ Nat.succ = eqAll xs ys := funext zs
          have e9 : (xs.length + 1 == ys.length + 1) = (xs.length == ys.length) := by simp
          rw [e8, Bool.and_assoc, e9]
theorem List.all_congr_mem {α : Type} {p q : α → Bool} : ∀ {l : List α}, (∀ a ∈ l, p a = q a) → l.all p = l.all q
  | [], _ => rfl
  | a :: l, h => by rw [List.all_cons, List.all_cons, h a List.mem_cons_self, List.all_congr_mem fun b hb => h b (List.mem_cons_of_mem _ hb)]
theorem deepL_le {xs : List D} {j : Nat} {x : D} (h : xs[j]? = some x) : x.deep ≤ deepL xs := by
  induction xs generalizing j with
  | nil => simp at h
  | cons y r ih =>
    cases j with
    | zero => simp at h; subst h; simp only [deepL]; omega
    | succ j => have := ih (j := j) (by simpa using h); simp only [deepL]; omega
theorem deepK_le {xs : List (Str × D)} {p : Str × D} (h : p ∈ xs) : p.2.deep ≤ deepK xs := by
  induction xs with
  | nil => cases h
  | cons y r ih =>
    rcases List.mem_cons.mp h with e | h
    · subst e; simp only [deepK]; omega
    · have := ih h; simp only [deepK]; omega
def eqKey (xs ys : List (Str × D)) (k : Key) : Bool :=
  match k with
  | .inr k => match dget xs k, dget ys k with
    | some x, some y => (eqd x y).getD false
    | _, _ => false
  | _ => false
theorem eqdK_all (ys : List (Str × D)) : ∀ (xs : List (Str × D)) (b : Bool), eqdK xs ys = some b → (∀ p ∈ xs, ∀ u, dget ys p.1 = some u → (eqd p.2 u).isSome = true) ∧
    b = xs.all fun p => match dget ys p.1 with | some u => (eqd p.2 u).getD false | none => false
  | [], b, h => by
    simp [eqdK] at h
    exact ⟨fun p hp => (by cases hp), (by simp [h])⟩
  | p :: xs, b, h => by
    simp only [eqdK] at h
    cases e0 : dget ys p.1 with
    | none =>
      simp only [e0] at h
      cases e2 : eqdK xs ys with
      | none => rw [e2] at h; simp at h
      | some c =>
        rw [e2] at h
        obtain ⟨i1, i2⟩ := eqdK_all ys xs c e2
        refine ⟨fun q hq u eu => ?_, ?_⟩
        · rcases List.mem_cons.mp hq with e | hq
          · subst e; rw [e0] at eu; cases eu
          · exact i1 q hq u eu
        · rw [List.all_cons, e0]
          simpa using h.symm
    | some u =>
      simp only [e0] at h
      cases e1 : eqd p.2 u with
      | none => rw [e1] at h; simp at h
      | some a =>
        cases e2 : eqdK xs ys with
        | none => rw [e1, e2] at h; simp at h
        | some c =>
          rw [e1, e2] at h
          obtain ⟨i1, i2⟩ := eqdK_all ys xs c e2
          refine ⟨fun q hq u' eu => ?_, ?_⟩
          · rcases List.mem_cons.mp hq with e | hq
            · subst e; rw [e0] at eu; cases eu; rw [e1]; rfl
            · exact i1 q hq u' eu
          · rw [List.all_cons, e0]
            simp only [e1, Option.getD_some, ← i2]
            simpa using h.symm

/-- what a value of data is -/
def flatD : D → Bool
  | .non => true | .bl _ => true | .int _ => true | .str _ => true
  | _ => false
def toV : D → V
  | .bl b => .bl b | .int i => .int i | .str x => .str x
  | _ => .non
theorem Bt.flat {v : V} {d : D} (h : Bt g al H v d) (f : flatD d = true) : v = toV d := by
  cases d with
  | non => exact h.non
  | bl _ => exact h.bl
  | int _ => exact h.int
  | str _ => exact h.str
  | _ => cases f
theorem flat_tree {n : Nat} {x y : D} {vv uu : Value} {b : Bool} (fx : flatD x = true) (fy : flatD y = true) (rv : RelV (toV x) vv) (ru : RelV (toV y) uu) (h : eqd x y = some b) : PySem.W.EqTree X.prog X.w s n vv uu b := by
  refine .leaf fun A hu => ?_
  have q := eqAt_V (A := A) (s := s) rv ru (by cases x <;> first | rfl | cases fx) (by cases y <;> first | rfl | cases fy)
  have e : eqV (toV x) (toV y) = b := by
    cases x <;> cases y <;> first | (simp only [eqd, Option.some.injEq] at h; exact h) | (cases fx; done) | (cases fy; done)
  rw [e] at q
  exact q
theorem tup_flat {n : Nat} {a : Addr} {its : Array Value} {y : D} {uu : Value} (ht : s.heap.IsTuple a its) (fy : flatD y = true) (ru : RelV (toV y) uu) : PySem.W.EqTree X.prog X.w s n (.ref a) uu false := by
  refine .leaf fun A hu => ?_
  have hu' : A.units < cLine := by omega
  cases y with
  | non => cases ru; exact SeqAt.EqAt.tuple_none ht hu'
  | bl c => cases ru; exact SeqAt.EqAt.tuple_bool c ht hu'
  | int c => obtain ⟨t, rfl⟩ := ru; exact SeqAt.EqAt.tuple_int c t ht hu'
  | str c => obtain ⟨t, rfl⟩ := ru; exact SeqAt.EqAt.tuple_str c t ht hu'
  | _ => cases fy
theorem flat_tup {n : Nat} {a : Addr} {its : Array Value} {y : D} {uu : Value} (ht : s.heap.IsTuple a its) (fy : flatD y = true) (ru : RelV (toV y) uu) : PySem.W.EqTree X.prog X.w s n uu (.ref a) false := by
  refine .leaf fun A hu => ?_
  have hu' : A.units < cLine := by omega
  cases y with
  | non => cases ru; exact SeqAt.EqAt.none_tuple ht hu'
  | bl c => cases ru; exact SeqAt.EqAt.bool_tuple c ht hu'
  | int c => obtain ⟨t, rfl⟩ := ru; exact SeqAt.EqAt.int_tuple c t ht hu'
  | str c => obtain ⟨t, rfl⟩ := ru; exact SeqAt.EqAt.str_tuple c t ht hu'
  | _ => cases fy
theorem lst_flat {n : Nat} {a : Addr} {its : Array Value} {y : D} {uu : Value} (ht : s.heap.IsList a its) (fy : flatD y = true) (ru : RelV (toV y) uu) : PySem.W.EqTree X.prog X.w s n (.ref a) uu false := by
  refine .leaf fun A hu => ?_
  have hu' : A.units < cLine := by omega
  cases y with
  | non => cases ru; exact SeqAt.EqAt.list_none ht hu'
  | bl c => cases ru; exact SeqAt.EqAt.list_bool c ht hu'
  | int c => obtain ⟨t, rfl⟩ := ru; exact SeqAt.EqAt.list_int c t ht hu'
  | str c => obtain ⟨t, rfl⟩ := ru; exact SeqAt.EqAt.list_str c t ht hu'
  | _ => cases fy
theorem flat_lst {n : Nat} {a : Addr} {its : Array Value} {y : D} {uu : Value} (ht : s.heap.IsList a its) (fy : flatD y = true) (ru : RelV (toV y) uu) : PySem.W.EqTree X.prog X.w s n uu (.ref a) false := by
  refine .leaf fun A hu => ?_
  have hu' : A.units < cLine := by omega
  cases y with
  | non => cases ru; exact SeqAt.EqAt.none_list ht hu'
  | bl c => cases ru; exact SeqAt.EqAt.bool_list c ht hu'
  | int c => obtain ⟨t, rfl⟩ := ru; exact SeqAt.EqAt.int_list c t ht hu'
  | str c => obtain ⟨t, rfl⟩ := ru; exact SeqAt.EqAt.str_list c t ht hu'
  | _ => cases fy
/-- two sequences' items -/
theorem items_tree {n : Nat} {xs ys : List D} {vs us : List V} {its its' : List Value} (ih : ∀ (x y : D) (v u : V) (vv uu : Value) (b : Bool), Bt g al H v x → Bt g al H u y → RelV v vv → RelV u uu → eqd x y = some b → min x.deep y.deep ≤ n → PySem.W.EqTree X.prog X.w s n vv uu b)
    (l : DtL g al H vs xs) (l' : DtL g al H us ys) (r : Vals vs its) (r' : Vals us its') (hd : min (deepL xs) (deepL ys) ≤ n) (he : ∀ j x y, xs[j]? = some x → ys[j]? = some y → eqd x y = some (eqAll xs ys j)) :
    ∀ j (h1 : j < its.toArray.size) (h2 : j < its'.toArray.size), PySem.W.EqTree X.prog X.w s n its.toArray[j] its'.toArray[j] (eqAll xs ys j) := by
  intro j h1 h2
  have n1 : j < vs.length := by rw [r.length]; simpa using h1
  have n2 : j < us.length := by rw [r'.length]; simpa using h2
  obtain ⟨x, ex, dx⟩ := l.getV (List.getElem?_eq_getElem n1)
  obtain ⟨y, ey, dy⟩ := l'.getV (List.getElem?_eq_getElem n2)
  obtain ⟨w, ew, rw'⟩ := r.get (List.getElem?_eq_getElem n1)
  obtain ⟨z, ez, rz⟩ := r'.get (List.getElem?_eq_getElem n2)
  have e1 : its.toArray[j] = w := by
    have : its[j]? = some w := ew
    rw [List.getElem?_eq_some_iff] at this
    obtain ⟨_, q⟩ := this
    simpa using q
  have e2 : its'.toArray[j] = z := by
    have : its'[j]? = some z := ez
    rw [List.getElem?_eq_some_iff] at this
    obtain ⟨_, q⟩ := this
    simpa using q
  rw [e1, e2]
  refine ih x y _ _ w z _ (.inl dx) (.inl dy) rw' rz (he j x y ex ey) ?_
  have := deepL_le ex
  have := deepL_le ey
  omega
/-- two dicts' values -/
theorem dicts_tree {n : Nat} {xs ys : List (Str × D)} {vs us : List (Key × V)} {kv kv' : List (Key × Value)} {b : Bool}
    (ih : ∀ (x y : D) (v u : V) (vv uu : Value) (b : Bool), Bt g al H v x → Bt g al H u y → RelV v vv → RelV u uu → eqd x y = some b → min x.deep y.deep ≤ n → PySem.W.EqTree X.prog X.w s n vv uu b)
    (nd : (xs.map (·.1)).Nodup) (l : DtK g al H vs xs) (l' : DtK g al H us ys) (r : KV vs kv) (r' : KV us kv') (h : eqd (.dic xs) (.dic ys) = some b) (hn : min (deepK xs) (deepK ys) ≤ n) :
    (∀ k v y, (k, v) ∈ kv → valueAt kv' k = some y → PySem.W.EqTree X.prog X.w s n v y (eqKey xs ys k)) ∧ (kv.length == kv'.length && kv.all fun p => (valueAt kv' p.1).isSome && eqKey xs ys p.1) = b := by
  simp only [eqd] at h
  cases eb : eqdK xs ys with
  | none => rw [eb] at h; cases h
  | some c =>
  rw [eb] at h
  obtain ⟨he, hb⟩ := eqdK_all ys xs c eb
  refine ⟨fun k v y hm hv => ?_, ?_⟩
  · obtain ⟨i, hi, ei⟩ := List.getElem_of_mem hm
    have ei' : kv[i]? = some (k, v) := by rw [List.getElem?_eq_getElem hi, ei]
    have hi' : i < vs.length := by rw [Paired.length r]; exact hi
    obtain ⟨p, ep, e1, rw1⟩ : ∃ p, vs[i]? = some p ∧ p.1 = k ∧ RelV p.2 v := by
      obtain ⟨b, eb', h1, h2⟩ := paired_get r (List.getElem?_eq_getElem hi')
      rw [ei'] at eb'
      cases eb'
      exact ⟨_, List.getElem?_eq_getElem hi', h1, h2⟩
    obtain ⟨pk, pv⟩ := p
    obtain ⟨x, d, ek, ex, dx⟩ := l.getI ep
    subst ek
    have e1' : Sum.inr x = k := e1
    subst e1'
    have rr := r'.val (.inr x)
    rw [hv] at rr
    rcases DtK.val x l' with ⟨z1, z2⟩ | ⟨w, d', z1, z2, z3⟩
    · rw [z2] at rr
      exact rr.elim
    · rw [z2] at rr
      have hmem := List.mem_of_getElem? ex
      have hq := he (x, d) hmem d' z1
      obtain ⟨bb, eb2⟩ := Option.isSome_iff_exists.mp hq
      have ek2 : eqKey xs ys (.inr x) = bb := by simp [eqKey, dget_mem nd hmem, z1, eb2]
      rw [ek2]
      refine ih d d' pv w v y bb (.inl dx) (.inl z3) rw1 rr eb2 ?_
      have q1 : d.deep ≤ deepK xs := deepK_le hmem
      have q2 : d'.deep ≤ deepK ys := by
        unfold dget at z1
        cases ef : ys.find? (fun p => decide (p.1 = x)) with
        | none => rw [ef] at z1; cases z1
        | some p2 =>
          rw [ef] at z1
          cases z1
          exact deepK_le (List.mem_of_find?_eq_some ef)
      omega
  · have h2 : (c && xs.length == ys.length) = b := by simpa using h
    have el1 : kv.length = xs.length := by rw [← l.length]; exact (Paired.length r).symm
    have el2 : kv'.length = ys.length := by rw [← l'.length]; exact (Paired.length r').symm
    have ea : (kv.all fun p => (valueAt kv' p.1).isSome && eqKey xs ys p.1) = c := by
      have e1 : (kv.all fun p => (valueAt kv' p.1).isSome && eqKey xs ys p.1) = ((kv.map (·.1)).all fun z => (valueAt kv' z).isSome && eqKey xs ys z) := by rw [List.all_map]; rfl
      rw [e1, kv_keys r, dtk_keys l, List.all_map, List.all_map, hb]
      refine List.all_congr_mem fun p hp => ?_
      have hx := dget_mem nd (show (p.1, p.2) ∈ xs from hp)
      have rr := r'.val (.inr p.1)
      rcases DtK.val p.1 l' with ⟨z1, z2⟩ | ⟨w, d, z1, z2, _⟩
      · rw [z2] at rr
        have : valueAt kv' (Sum.inr p.1) = none := by
          cases ev : valueAt kv' (Sum.inr p.1) with
          | none => rfl
          | some _ => rw [ev] at rr; exact rr.elim
        show ((valueAt kv' (Sum.inr p.1)).isSome && eqKey xs ys (.inr p.1)) = _
        rw [this, z1]
        rfl
      · rw [z2] at rr
        obtain ⟨y, hy, _⟩ := rr.some_of
        show ((valueAt kv' (Sum.inr p.1)).isSome && eqKey xs ys (.inr p.1)) = _
        rw [hy, z1]
        simp [eqKey, hx, z1]
    rw [ea, el1, el2, Bool.and_comm, h2]
/-- == of data, both answers, as the library's tree -/
theorem eq_tree (hK : g.K = X.K) (I : Inv X pins σ H s) : ∀ (n : Nat) (x y : D) (v u : V) (vv uu : Value) (b : Bool), Bt g al H v x → Bt g al H u y → RelV v vv → RelV u uu → eqd x y = some b → min x.deep y.deep ≤ n →
    PySem.W.EqTree X.prog X.w s n vv uu b := by
  intro n
  induction n with
  | zero =>
    intro x y v u vv uu b hx hy rv ru h hn
    by_cases fx : flatD x = true
    · cases hx.flat fx
      by_cases fy : flatD y = true
      · cases hy.flat fy
        exact flat_tree fx fy rv ru h
      · cases y with
        | tup ys =>
          obtain ⟨a, vs, rfl, q, l⟩ := hy.tup
          obtain ⟨its, r, t⟩ := is_tuple hK I q
          cases ru
          have e : b = false := by cases x <;> first | (simp only [eqd, Option.some.injEq] at h; exact h.symm) | (cases fx; done)
          subst e
          exact flat_tup t fx rv
        | lst ys =>
          obtain ⟨a, vs, rfl, q, l⟩ := hy.lst
          obtain ⟨its, r, t⟩ := is_list hK I q
          cases ru
          have e : b = false := by cases x <;> first | (simp only [eqd, Option.some.injEq] at h; exact h.symm) | (cases fx; done)
          subst e
          exact flat_lst t fx rv
        | dic _ => cases x <;> first | (simp [eqd] at h; done) | (cases fx; done)
        | fn _ => cases x <;> simp [eqd] at h
        | obj _ => cases x <;> simp [eqd] at h
        | _ => exact absurd rfl fy
    · by_cases fy : flatD y = true
      · cases hy.flat fy
        cases x with
        | tup ys =>
          obtain ⟨a, vs, rfl, q, l⟩ := hx.tup
          obtain ⟨its, r, t⟩ := is_tuple hK I q
          cases rv
          have e : b = false := by cases y <;> first | (simp only [eqd, Option.some.injEq] at h; exact h.symm) | (cases fy; done)
          subst e
          exact tup_flat t fy ru
        | lst ys =>
          obtain ⟨a, vs, rfl, q, l⟩ := hx.lst
          obtain ⟨its, r, t⟩ := is_list hK I q
          cases rv
          have e : b = false := by cases y <;> first | (simp only [eqd, Option.some.injEq] at h; exact h.symm) | (cases fy; done)
          subst e
          exact lst_flat t fy ru
        | dic _ => cases y <;> first | (simp [eqd] at h; done) | (cases fy; done)
        | fn _ => cases y <;> simp [eqd] at h
        | obj _ => cases y <;> simp [eqd] at h
        | _ => exact absurd rfl fx
      · exfalso
        cases x <;> cases y <;> first | (simp [eqd] at h; done) | exact absurd rfl fx | exact absurd rfl fy | (simp only [D.deep] at hn; omega)
  | succ n ih =>
    intro x y v u vv uu b hx hy rv ru h hn
    by_cases fx : flatD x = true
    · cases hx.flat fx
      by_cases fy : flatD y = true
      · cases hy.flat fy
        exact flat_tree fx fy rv ru h
      · cases y with
        | tup ys =>
          obtain ⟨a, vs, rfl, q, l⟩ := hy.tup
          obtain ⟨its, r, t⟩ := is_tuple hK I q
          cases ru
          have e : b = false := by cases x <;> first | (simp only [eqd, Option.some.injEq] at h; exact h.symm) | (cases fx; done)
          subst e
          exact flat_tup t fx rv
        | lst ys =>
          obtain ⟨a, vs, rfl, q, l⟩ := hy.lst
          obtain ⟨its, r, t⟩ := is_list hK I q
          cases ru
          have e : b = false := by cases x <;> first | (simp only [eqd, Option.some.injEq] at h; exact h.symm) | (cases fx; done)
          subst e
          exact flat_lst t fx rv
        | dic _ => cases x <;> first | (simp [eqd] at h; done) | (cases fx; done)
        | fn _ => cases x <;> simp [eqd] at h
        | obj _ => cases x <;> simp [eqd] at h
        | _ => exact absurd rfl fy
    · by_cases fy : flatD y = true
      · cases hy.flat fy
        cases x with
        | tup ys =>
          obtain ⟨a, vs, rfl, q, l⟩ := hx.tup
          obtain ⟨its, r, t⟩ := is_tuple hK I q
          cases rv
          have e : b = false := by cases y <;> first | (simp only [eqd, Option.some.injEq] at h; exact h.symm) | (cases fy; done)
          subst e
          exact tup_flat t fy ru
        | lst ys =>
          obtain ⟨a, vs, rfl, q, l⟩ := hx.lst
          obtain ⟨its, r, t⟩ := is_list hK I q
          cases rv
          have e : b = false := by cases y <;> first | (simp only [eqd, Option.some.injEq] at h; exact h.symm) | (cases fy; done)
          subst e
          exact lst_flat t fy ru
        | dic _ => cases y <;> first | (simp [eqd] at h; done) | (cases fy; done)
        | fn _ => cases y <;> simp [eqd] at h
        | obj _ => cases y <;> simp [eqd] at h
        | _ => exact absurd rfl fx
      · cases x with
        | tup xs =>
          obtain ⟨a, vs, rfl, q, l⟩ := hx.tup
          obtain ⟨its, r, t⟩ := is_tuple hK I q
          cases rv
          cases y with
          | tup ys =>
            obtain ⟨a', vs', rfl, q', l'⟩ := hy.tup
            obtain ⟨its', r', t'⟩ := is_tuple hK I q'
            cases ru
            by_cases e : a = a'
            · subst e
              cases same_true hK I _ _ _ b hx hy h
              exact .same
            · simp only [eqd] at h
              obtain ⟨he, hb⟩ := eqdL_all xs ys b h
              have hs1 : its.toArray.size = xs.length := by simp [← r.length, l.length]
              have hs2 : its'.toArray.size = ys.length := by simp [← r'.length, l'.length]
              have k := PySem.W.EqTree.tuples (prog := X.prog) (w := X.w) (n := n) e t t' (items_tree ih l l' r r' (by simp only [D.deep] at hn; omega) he)
              rw [hs1, hs2, ← hb] at k
              exact k
          | lst ys =>
            obtain ⟨a', vs', rfl, q', l'⟩ := hy.lst
            obtain ⟨its', r', t'⟩ := is_list hK I q'
            cases ru
            simp only [eqd, Option.some.injEq] at h
            subst h
            exact .leaf fun A hu => SeqAt.EqAt.tuple_list t t' (by omega)
          | dic ys =>
            obtain ⟨a', vs', rfl, q', l'⟩ := hy.dic
            cases ru
            simp only [eqd, Option.some.injEq] at h
            subst h
            obtain ⟨ob, eo, ec⟩ := dict_cls I q'
            have hne : a ≠ a' := fun e => by subst e; exact rd_clash_tk hK I q q'
            exact .leaf fun A hu => SeqAt.EqAt.of_refs hne (SeqAt.pi_rc_tuple_dict t eo ec hne (by omega))
          | fn _ => simp [eqd] at h
          | obj _ => simp [eqd] at h
          | _ => exact absurd rfl fy
        | lst xs =>
          obtain ⟨a, vs, rfl, q, l⟩ := hx.lst
          obtain ⟨its, r, t⟩ := is_list hK I q
          cases rv
          cases y with
          | tup ys =>
            obtain ⟨a', vs', rfl, q', l'⟩ := hy.tup
            obtain ⟨its', r', t'⟩ := is_tuple hK I q'
            cases ru
            simp only [eqd, Option.some.injEq] at h
            subst h
            exact .leaf fun A hu => SeqAt.EqAt.list_tuple t t' (by omega)
          | lst ys =>
            obtain ⟨a', vs', rfl, q', l'⟩ := hy.lst
            obtain ⟨its', r', t'⟩ := is_list hK I q'
            cases ru
            by_cases e : a = a'
            · subst e
              cases same_true hK I _ _ _ b hx hy h
              exact .same
            · simp only [eqd] at h
              have hs1 : its.toArray.size = xs.length := by simp [← r.length, l.length]
              have hs2 : its'.toArray.size = ys.length := by simp [← r'.length, l'.length]
              by_cases ez : xs.length = ys.length
              · rw [if_pos ez] at h
                obtain ⟨he, hb⟩ := eqdL_all xs ys b h
                have k := PySem.W.EqTree.lists (prog := X.prog) (w := X.w) (n := n) e t t' (by rw [hs1, hs2, ez]) (items_tree ih l l' r r' (by simp only [D.deep] at hn; omega) he)
                have hb' : b = (List.range its.toArray.size).all (eqAll xs ys) := by
                  rw [hb, hs1, ← ez, Nat.min_self]
                  simp
                rw [hb']
                exact k
              · rw [if_neg ez] at h
                cases h
                exact .listsLen e t t' (by rw [hs1, hs2]; simpa using ez)
          | fn _ => simp [eqd] at h
          | obj _ => simp [eqd] at h
          | dic _ => simp [eqd] at h
          | _ => exact absurd rfl fy
        | dic xs =>
          obtain ⟨a, vs, rfl, q, l⟩ := hx.dic
          cases rv
          cases y with
          | tup ys =>
            obtain ⟨a', vs', rfl, q', l'⟩ := hy.tup
            obtain ⟨its', r', t'⟩ := is_tuple hK I q'
            cases ru
            simp only [eqd, Option.some.injEq] at h
            subst h
            obtain ⟨ob, eo, ec⟩ := dict_cls I q
            have hne : a ≠ a' := fun e => by subst e; exact rd_clash_tk hK I q' q
            exact .leaf fun A hu => SeqAt.EqAt.of_refs hne (SeqAt.pi_rc_dict_tuple t' eo ec hne (by omega))
          | dic ys =>
            obtain ⟨a', vs', rfl, q', l'⟩ := hy.dic
            cases ru
            by_cases e : a = a'
            · subst e
              cases same_true hK I _ _ _ b hx hy h
              exact .same
            · obtain ⟨y1, kv, r, d1, _⟩ := rd_dict I q
              obtain ⟨y2, kv', r', d2, _⟩ := rd_dict I q'
              obtain ⟨k1, k2⟩ := dicts_tree ih (keys_nd I q l) l l' r r' h (by simp only [D.deep] at hn; omega)
              have k := PySem.W.EqTree.dicts (prog := X.prog) (w := X.w) (n := n) (e := eqKey xs ys) e y1 y2 d1 d2 k1
              rw [k2] at k
              exact k
          | fn _ => simp [eqd] at h
          | obj _ => simp [eqd] at h
          | lst _ => simp [eqd] at h
          | _ => exact absurd rfl fy
        | fn _ => cases y <;> simp [eqd] at h
        | obj _ => cases y <;> simp [eqd] at h
        | _ => exact absurd rfl fx
end
end Pi

/-! Pi4n: != of data that nests dicts, for one program and one world: the library's own way for ==, turned. -/
namespace PySem.SeqAt
open AutoSeq1 (wpAny_loadPart')
open MeetsSeq MeetsSeq2 MeetsSeq3 SeqRoads2
section
variable {prog : Program} {w : World}
theorem pi_ne_loop (l b : Addr) (items items2 : Array Value) (n n2 : Nat) (dd dd2 : Option Addr) (sl sl2 : Array (Option Value)) (hsz : items.size = items2.size) (e : Nat → Bool) (k : Nat) :
    ∀ i : Nat, items.size - i = k → MeetsIn prog w (Builtin.«list.__eq__.loop» ⟨[.ref l, .ref b, rawInt i, rawInt 3], []⟩)
      (fun A R s => s.heap.get? l = some { cls := .type "list", dict := dd, data := .seq items n, slots := sl } ∧ s.heap.get? b = some { cls := .type "list", dict := dd2, data := .seq items2 n2, slots := sl2 } ∧
        (∀ j (h1 : j < items.size) (h2 : j < items2.size), EqIn prog w A.in1 s items[j] items2[j] (e j)) ∧
        R (.ok (.ret (.bool (!((List.range items.size).drop i).all e)))) s) := by
  induction k with
  | zero =>
    intro i hk A R s h
    obtain ⟨hp, g, d, tk, os⟩ := s; obtain ⟨hl, hb, he, h⟩ := h
    wp_walk using wpAny_loadPart' hl, wpAny_loadPart' hb
    have hi1 : items[((i : Nat) : Int).toNat]? = none := by simp; omega
    have hi2 : items2[((i : Nat) : Int).toNat]? = none := by simp; omega
    have hd : (List.range items.size).drop i = [] := by simp; omega
    rw [hd] at h
    rw [hi1, hi2]
    wp_walk using wpAny_loadPart' hl, wpAny_loadPart' hb
    show R (.ok (.ret (.bool (items.size != items2.size)))) _
    rw [hsz]
    simpa using h
  | succ k ih =>
    intro i hk A R s h
    obtain ⟨hp, g, d, tk, os⟩ := s; obtain ⟨hl, hb, he, h⟩ := h
    wp_walk using wpAny_loadPart' hl, wpAny_loadPart' hb
    have hlt : i < items.size := by omega
    have hlt2 : i < items2.size := by omega
    have hi1 : items[((i : Nat) : Int).toNat]? = some items[i] := by simp [hlt]
    have hi2 : items2[((i : Nat) : Int).toNat]? = some items2[i] := by simp [hlt2]
    have hd : (List.range items.size).drop i = i :: (List.range items.size).drop (i + 1) := by simp [List.drop_eq_getElem_cons, hlt]
    have hc : ((i : Int) + 1) = ((i + 1 : Nat) : Int) := by push_cast; rfl
    rw [hd, List.all_cons] at h
    rw [hi1, hi2]
    refine wpAny_bind (he i hlt hlt2 _ _ ?_)
    cases hb' : e i with
    | true =>
      rw [hb'] at h
      wp_walk
      rw [hc]
      exact ⟨plainId_quiet plain_eq_loop _, codeAny_builtin entry_eq_loop (by
        rw [Around.under_plainId plain_eq_loop _]
        exact ih (i + 1) (by omega) A R _ ⟨hl, hb, he, by simpa using h⟩)⟩
    | false =>
      rw [hb'] at h
      wp_walk using wpAny_loadPart' hl, wpAny_loadPart' hb
      rw [hi1, hi2]
      wp_walk
      simpa using h
theorem pi_list_ne (l b : Addr) (items items2 : Array Value) (n n2 : Nat) (dd dd2 : Option Addr) (sl sl2 : Array (Option Value)) (hsz : items.size = items2.size) (e : Nat → Bool) :
    MeetsIn prog w (Builtin.«list.__ne__» ⟨[.ref l, .ref b], []⟩)
      (fun A R s => s.heap.get? l = some { cls := .type "list", dict := dd, data := .seq items n, slots := sl } ∧ s.heap.get? b = some { cls := .type "list", dict := dd2, data := .seq items2 n2, slots := sl2 } ∧
        (∀ j (h1 : j < items.size) (h2 : j < items2.size), EqIn prog w A.in1 s items[j] items2[j] (e j)) ∧
        R (.ok (.ret (.bool (!(List.range items.size).all e)))) s) := by
  intro A R s h
  obtain ⟨hp, g, d, tk, os⟩ := s; obtain ⟨hl, hb, he, h⟩ := h
  have f3 := AutoSeq1.sub_list_list
  have hne : ¬ (items.size != items2.size) = true := by simp [hsz]
  wp_walk using wpAny_loadPart' hl, wpAny_loadPart' hb
  exact ⟨plainId_quiet plain_eq_loop _, codeAny_builtin entry_eq_loop (by
    rw [Around.under_plainId plain_eq_loop _]
    exact pi_ne_loop l b items items2 n n2 dd dd2 sl sl2 hsz e _ 0 rfl A R _ ⟨hl, hb, he, by simpa using h⟩)⟩
theorem pi_tuple_ne (l b : Addr) (items items2 : Array Value) (n n2 : Nat) (dd dd2 : Option Addr) (sl sl2 : Array (Option Value)) (e : Nat → Bool) :
    MeetsIn prog w (Builtin.«tuple.__ne__» ⟨[.ref l, .ref b], []⟩)
      (fun A R s => s.heap.get? l = some { cls := .type "tuple", dict := dd, data := .seq items n, slots := sl } ∧ s.heap.get? b = some { cls := .type "tuple", dict := dd2, data := .seq items2 n2, slots := sl2 } ∧
        (∀ j (h1 : j < items.size) (h2 : j < items2.size), EqIn prog w A.in1 s items[j] items2[j] (e j)) ∧
        R (.ok (.ret (.bool (!((List.range (min items.size items2.size)).all e && items.size == items2.size))))) s) :=
  .of_wp fun A R s h => by
    obtain ⟨hp, g, d, tk, os⟩ := s; obtain ⟨hl, hb, he, h⟩ := h
    have f2 := AutoSeq1.sub_tuple_tuple
    have hZ : (items.toList.zip items2.toList).length = min items.size items2.size := by simp
    wp_walk using wpAny_loadPart' hl, wpAny_loadPart' hb, wpAny_forIn_list _ (fun rest b s' => b.1 = none ∧ s' = ⟨hp, g, d, tk, os⟩ ∧ ∃ i, rest = (items.toList.zip items2.toList).drop i ∧
      R (.ok (.ret (.bool (!(((List.range (min items.size items2.size)).drop i).all e && items.size == items2.size))))) ⟨hp, g, d, tk, os⟩) _
    case turn =>
      rintro ⟨y, x⟩ rest b s' ⟨hb', rfl, i, hz, hR⟩
      have hlt : i < (items.toList.zip items2.toList).length := by
        rcases Nat.lt_or_ge i (items.toList.zip items2.toList).length with h' | h'
        · exact h'
        · rw [List.drop_of_length_le h'] at hz; cases hz
      have hm : i < min items.size items2.size := hZ ▸ hlt
      have h1 : i < items.size := Nat.lt_of_lt_of_le hm (Nat.min_le_left _ _)
      have h2 : i < items2.size := Nat.lt_of_lt_of_le hm (Nat.min_le_right _ _)
      rw [List.drop_eq_getElem_cons hlt] at hz
      injection hz with hyx hrest
      have hy : y = items[i] := by have := congrArg Prod.fst hyx; simpa using this
      have hx : x = items2[i] := by have := congrArg Prod.snd hyx; simpa using this
      subst hy hx
      have hd : (List.range (min items.size items2.size)).drop i = i :: (List.range (min items.size items2.size)).drop (i + 1) := by simp [List.drop_eq_getElem_cons, hm]
      rw [hd, List.all_cons] at hR
      refine wpAny_bind (he i h1 h2 _ _ ?_)
      cases hy : e i with
      | true =>
        rw [hy] at hR
        wp_walk
        exact ⟨rfl, rfl, i + 1, hrest, by simpa using hR⟩
      | false =>
        rw [hy] at hR
        wp_walk
        exact ⟨_, rfl, by simpa using hR⟩
    case fin =>
      rintro ⟨b1, b2⟩ s' ⟨hb', rfl, i, hz, hR⟩
      simp only at hb'
      subst hb'
      have hge : min items.size items2.size ≤ i := by
        rcases Nat.lt_or_ge i (items.toList.zip items2.toList).length with h' | h'
        · rw [List.drop_eq_getElem_cons h'] at hz; cases hz
        · exact hZ ▸ h'
      rw [List.drop_of_length_le (by simpa using hge)] at hR
      wp_walk
      exact ⟨_, rfl, by simpa [Builtin.Tuple.tupleCompareSizes, bne] using hR⟩
    case h =>
      exact ⟨rfl, rfl, 0, rfl, by simpa using h⟩

end
section
variable {prog : Program} {w : World} {A : Around} {s : Shared}
theorem pi_ne_lists {E : Value → Shared → Prop} {l b : Addr} {items items2 : Array Value} {e : Nat → Bool} {Q : Value → Shared → Prop} (hl : s.heap.IsList l items) (hb : s.heap.IsList b items2) (hsz : items.size = items2.size) (hu : A.units < cLine)
    (he : ∀ j (h1 : j < items.size) (h2 : j < items2.size), EqIn prog w A.in1 s items[j] items2[j] (e j)) (h : Q (.bool (!(List.range items.size).all e)) s) : wpAny (model prog w) A (compareOp .NotEq (.ref l) (.ref b)) Q E s := by
  obtain ⟨⟨cls, dd, data, sl⟩, ho, hc, n, hd⟩ := id hl
  obtain ⟨⟨cls2, dd2, data2, sl2⟩, ho2, hc2, n2, hd2⟩ := id hb
  simp only at hc hd hc2 hd2
  subst hc hd hc2 hd2
  exact wpAny_richCompare_same_room (T := "list") (op := .NotEq) ⟨_, ho, rfl⟩ ⟨_, ho2, rfl⟩ F.slot_list_ne (call_meetsIn F.slot_list_ne ⟨_, ho, rfl⟩ F.entry_list_ne (F.args_list_ne_2 _ _) (pi_list_ne l b items items2 n n2 dd dd2 sl sl2 hsz e)
    ⟨ho, ho2, he, show Value.bool (!(List.range items.size).all e) ≠ Value.notImplemented ∧ Q (.bool (!(List.range items.size).all e)) s from ⟨(fun x => nomatch x), h⟩⟩) hu
theorem pi_ne_tuples {E : Value → Shared → Prop} {l b : Addr} {items items2 : Array Value} {e : Nat → Bool} {Q : Value → Shared → Prop} (hl : s.heap.IsTuple l items) (hb : s.heap.IsTuple b items2) (hu : A.units < cLine)
    (he : ∀ j (h1 : j < items.size) (h2 : j < items2.size), EqIn prog w A.in1 s items[j] items2[j] (e j)) (h : Q (.bool (!((List.range (min items.size items2.size)).all e && items.size == items2.size))) s) :
    wpAny (model prog w) A (compareOp .NotEq (.ref l) (.ref b)) Q E s := by
  obtain ⟨⟨cls, dd, data, sl⟩, ho, hc, n, hd⟩ := id hl
  obtain ⟨⟨cls2, dd2, data2, sl2⟩, ho2, hc2, n2, hd2⟩ := id hb
  simp only at hc hd hc2 hd2
  subst hc hd hc2 hd2
  exact wpAny_richCompare_same_room (T := "tuple") (op := .NotEq) ⟨_, ho, rfl⟩ ⟨_, ho2, rfl⟩ F.slot_tuple_ne (call_meetsIn F.slot_tuple_ne ⟨_, ho, rfl⟩ F.entry_tuple_ne (F.args_tuple_ne_2 _ _) (pi_tuple_ne l b items items2 n n2 dd dd2 sl sl2 e)
    ⟨ho, ho2, he, show Value.bool (!((List.range (min items.size items2.size)).all e && items.size == items2.size)) ≠ Value.notImplemented ∧ Q (.bool (!((List.range (min items.size items2.size)).all e && items.size == items2.size))) s from ⟨(fun x => nomatch x), h⟩⟩) hu
end
theorem pi_tuple_ne_dict (l b : Addr) (items : Array Value) (n : Nat) (dd : Option Addr) (sl : Array (Option Value)) (ob : Obj) (hc : ob.cls = .type "dict") :
    Meets (Builtin.«tuple.__ne__» ⟨[.ref l, .ref b], []⟩) (fun _ R s => s.heap.get? l = some { cls := .type "tuple", dict := dd, data := .seq items n, slots := sl } ∧ s.heap.get? b = some ob ∧ R (.ok (.ret .notImplemented)) s) :=
  .of_wp fun prog w A R s h => by
    obtain ⟨hp, g, d, tk, os⟩ := s
    obtain ⟨hl, hb, h⟩ := h
    have f1 := F.sub_dict_tuple
    obtain ⟨c, di, da, ss⟩ := ob
    simp only at hc
    subst hc
    wp_walk using wpAny_loadPart' hl, wpAny_loadPart' hb
    exact ⟨_, rfl, h⟩
theorem pi_dict_ne_declines {prog : Program} {w : World} {A : Around} {E : Value → Shared → Prop} {s : Shared} {b : Addr} {v : Value} {T : String} {Q : Value → Shared → Prop}
    (tb : s.TypeIs (.ref b) "dict") (tv : s.TypeIs v T) (sub : isSubtype (.type T) (.type "dict") = pure false) (h : Q .notImplemented s) : wpAny (model prog w) A (call (.builtin "dict.__ne__") [.ref b, v]) Q E s := by
  refine wpAny_call_entry PySem.F.slot_dict_ne tb PySem.F.entry_dict_ne ?_ (PySem.F.args_dict_ne_2 _ _)
  show wpAny _ _ (Builtin.Dict.dictSlotArgs "__ne__" ⟨[.ref b, v], []⟩ >>= _) _ _ s
  refine wpAny_bind ?_
  unfold Builtin.Dict.dictSlotArgs
  refine wpAny_bind (wpAny_notOrdered_dict tb ?_)
  show wpAny _ _ (pure (Value.ref b, v)) _ _ s
  refine wpAny_pure ?_
  refine wpAny_bind (wpAny_isInstance (T := T) tv sub ?_)
  simp only [Bool.not_false, if_true]
  refine wpAny_bind (wpAny_rule ?_)
  exact wpAny_pure ⟨_, rfl, h⟩
theorem pi_rcne_tuple_dict {A : Around} {s : Shared} {l b : Addr} {items : Array Value} {ob : Obj} (hl : s.heap.IsTuple l items) (hb : s.heap.get? b = some ob) (hcb : ob.cls = .type "dict") (hne : l ≠ b) (hu : A.units < cLine) : RcNeAt A s (.ref l) (.ref b) true := fun prog w E Q h => by
  obtain ⟨⟨cls, dd, data, sl⟩, ho, hc, n, hd⟩ := id hl
  simp only at hc hd
  subst hc hd
  exact (rc_ne_decline_or (k := false) ⟨_, ho, rfl⟩ ⟨_, hb, hcb⟩ (by decide) F.sub_dict_tuple F.slot_tuple_ne F.slot_dict_ne_refl
    (fun _ hq => call_meets F.slot_tuple_ne ⟨_, ho, rfl⟩ F.entry_tuple_ne (F.args_tuple_ne_2 _ _) (pi_tuple_ne_dict l b items n dd sl ob hcb) ⟨ho, hb, hq⟩)
    (fun _ hq => pi_dict_ne_declines (T := "tuple") ⟨_, hb, hcb⟩ ⟨_, ho, rfl⟩ F.sub_tuple_dict hq)
    (fun _ hq => wpAny_isSame_ref_other' hne ho hb (by rw [hcb]; simp) hq) (.inr hu) h)
theorem pi_rcne_dict_tuple {A : Around} {s : Shared} {l b : Addr} {items : Array Value} {ob : Obj} (hl : s.heap.IsTuple l items) (hb : s.heap.get? b = some ob) (hcb : ob.cls = .type "dict") (hne : b ≠ l) (hu : A.units < cLine) : RcNeAt A s (.ref b) (.ref l) true := fun prog w E Q h => by
  obtain ⟨⟨cls, dd, data, sl⟩, ho, hc, n, hd⟩ := id hl
  simp only at hc hd
  subst hc hd
  exact (rc_ne_decline_or (k := false) ⟨_, hb, hcb⟩ ⟨_, ho, rfl⟩ (by decide) F.sub_tuple_dict F.slot_dict_ne F.slot_tuple_ne_refl
    (fun _ hq => pi_dict_ne_declines (T := "tuple") ⟨_, hb, hcb⟩ ⟨_, ho, rfl⟩ F.sub_tuple_dict hq)
    (fun _ hq => call_meets F.slot_tuple_ne_refl ⟨_, ho, rfl⟩ F.entry_tuple_ne (F.args_tuple_ne_2 _ _) (pi_tuple_ne_dict l b items n dd sl ob hcb) ⟨ho, hb, hq⟩)
    (fun _ hq => wpAny_isSame_ref_other hne hb ho (by rw [hcb]; simp) hq) (.inr hu) h)
end PySem.SeqAt
namespace PySem.W
open PySem PySem.Calls PyProof.Rows PySem.Spec
open PySem.SeqAt (EqIn EqAt)
section
variable {prog : Program} {w : World} {K : Type} [DecidableEq K] {knd : KeyKind prog w K} {A : Around} {E : Value → Shared → Prop} {s : Shared}
theorem pi_ne_dicts {a b : Addr} {ka kb : List (K × Value)} {r : Bool} {Q : Value → Shared → Prop} (ha : (a == sysModules) = false) (hb : (b == sysModules) = false)
    (da : s.heap.DictOf knd a ka) (db : s.heap.DictOf knd b kb) (hu : A.units < cLine) (hits : ka.length = kb.length → KeqHitsIn prog w A.in1 s kb ka r) (h : Q (.bool (!(ka.length == kb.length && r))) s) :
    wpAny (model prog w) A (compareOp .NotEq (.ref a) (.ref b)) Q E s := by
  refine wpAny_richCompare_same_room (op := .NotEq) da.typeIs db.typeIs PySem.F.slot_dict_ne (wpAny_call_entry PySem.F.slot_dict_ne da.typeIs PySem.F.entry_dict_ne ?_ (PySem.F.args_dict_ne_2 _ _)) hu
  show wpAny _ _ (Builtin.Dict.dictSlotArgs "__ne__" ⟨[.ref a, .ref b], []⟩ >>= _) _ _ s
  refine wpAny_bind ?_
  unfold Builtin.Dict.dictSlotArgs
  refine wpAny_bind (wpAny_notOrdered_dict da.typeIs ?_)
  show wpAny _ _ (pure (Value.ref a, Value.ref b)) _ _ s
  refine wpAny_pure ?_
  refine wpAny_bind (wpAny_isInstance (T := "dict") db.typeIs PySem.F.sub_dict_dict ?_)
  simp only [Bool.not_true, Bool.false_eq_true, if_false]
  refine wpAny_bind (wpAny_pure (wpAny_bind (wpAny_pure ?_)))
  refine wpAny_bind (keq_samePairsIn ha hb da db hits ?_)
  refine wpAny_pure ⟨_, rfl, ?_, ?_⟩
  · exact fun x => nomatch x
  · simpa using h
end
end PySem.W

/-! Pi5: operations by data: the built-in ones. -/
namespace PySem.AutoSeq1
theorem pi_list_add (l : Addr) (items : Array Value) (n : Nat) (sl : Array (Option Value)) (b : Addr) (items2 : Array Value) (n2 : Nat) (sl2 : Array (Option Value)) (hc0 : items.size + items2.size ≤ sizeLine) :
    Meets (Builtin.«list.__add__» ⟨[.ref l, .ref b], []⟩) (fun _ R s => s.heap.get? l = some { cls := .type "list", dict := none, data := .seq items n, slots := sl } ∧ s.heap.get? b = some { cls := .type "list", dict := none, data := .seq items2 n2, slots := sl2 } ∧ R (.ok (.ret (Value.ref s.heap.objs.size))) { s with heap := s.heap.push { cls := Value.type "list", data := Data.seq (items ++ items2) }, toks := s.toks }) :=
  .of_wp fun prog w A R s h => by obtain ⟨hp, g, d, tk, os⟩ := s; obtain ⟨hl, hb, h⟩ := h; have f1 := idx_int; have f2 := sub_tuple_tuple; have f3 := sub_list_list; have f4 := sub_tuple_list; have f5 := sub_list_tuple; wp_walk using wpAny_loadPart' hl, wpAny_loadPart' hb; exact ⟨_, rfl, h⟩
theorem pi_list_extend (l : Addr) (items : Array Value) (n : Nat) (b : Addr) (items2 : Array Value) (n2 : Nat) (sl2 : Array (Option Value)) (hc0 : ¬(!items.isEmpty && Builtin.List.listTooLong (items.size + items2.size)) = true) (hc1 : items.size ≤ sizeLine) (hs2 : items.size + items2.size ≤ sizeLine + 1) :
    Meets (Builtin.«list.extend» ⟨[.ref l, .ref b], []⟩) (fun _ R s => s.heap.get? l = some { cls := .type "list", dict := none, data := .seq items n, slots := #[] } ∧ s.heap.get? b = some { cls := .type "list", dict := none, data := .seq items2 n2, slots := sl2 } ∧ R (.ok (.ret Value.none)) { s with heap := s.heap.update l (Obj.mapSeq fun x => x ++ items2), toks := s.toks }) :=
  .of_wp fun prog w A R s h => by
    obtain ⟨hp, g, d, tk, os⟩ := s; obtain ⟨hl, hb, h⟩ := h; have f1 := idx_int; have f2 := sub_tuple_tuple; have f3 := sub_list_list; have f4 := sub_tuple_list; have f5 := sub_list_tuple;
    have hz' : (items ++ items2).size ≤ sizeLine + 1 := by rw [Array.size_append]; exact hs2
    wp_walk using (wpAny_updateSeq hl rfl (hz := hc1) (_hz' := hz')), wpAny_loadPart' hl, wpAny_loadPart' hb; exact ⟨_, rfl, h⟩
end PySem.AutoSeq1

namespace Pi
open PySem L2 PySem.Spec PyProof.Rows

/-- what a rule is used with -/
structure XG (g : GC) (X : Cx) : Prop where
  hK : g.K = X.K
  calm : X.calm = true
  room : X.A.units + 200 < cLine
  nd : X.N.Nodup

/-- what is wanted of an operation's datum: a list or dict is new -/
def Res (g : GC) (al : Al) (H : Hp) (d : D) (Q : VK) : Prop :=
  match d with
  | .lst ds => ∀ p vs, H p = none → DtL g al H vs ds → Q (.ref p) (upd H p (.lst vs))
  | .dic rs => ∀ p kvs, H p = none → DtK g al H kvs rs → Q (.ref p) (upd H p (.dK kvs))
  | .tup ds => (∀ v, Dt g al H v (.tup ds) → Q v H) ∧ ∀ p vs, H p = none → DtL g al H vs ds → Q (.ref p) (upd H p (.tup vs))
  | d => ∀ v, Dt g al H v d → Q v H
section
variable {g : GC} {al al' al0 : Al} {H H' H0 Hs : Hp} {S S' : Sto} {r : Rho} {σ : L2.St} {W : WX} {X : Cx}
/-- a new thing, made at the end -/
theorem Pst.res {d : D} {Q : VK} (rs : RS g H0 al0 r S al σ H) (k : ∀ p, H p = none → Hs p = none) (h : Pst g W H0 al0 r σ al H (RF g Hs) (.ok d S) Q) : Res g al H d Q := by
  cases d with
  | lst ds => exact fun p vs n l => h.new rs n ⟨p, vs, rfl, ⟨k p n, rs.nc n⟩, upd_same, l.same (same_new n)⟩
  | dic ds => exact fun p vs n l => h.new rs n ⟨p, vs, rfl, ⟨k p n, rs.nc n⟩, upd_same, l.same (same_new n)⟩
  | non => exact fun v q => h.here rs q
  | bl _ => exact fun v q => h.here rs q
  | int _ => exact fun v q => h.here rs q
  | str _ => exact fun v q => h.here rs q
  | fn _ => exact fun v q => h.here rs q
  | obj _ => exact fun v q => h.here rs q
  | tup _ => exact ⟨fun v q => h.here rs q, fun p vs n l => h.new rs n (.tup (.inl (.inl upd_same)) (l.same (same_new n)))⟩

/-! ### two operands, one operand -/
def rD2 (g : GC) (f : D → D → Option D) : R2 := fun x y H Q => ∃ al dx dy dz, Bt g al H x dx ∧ Bt g al H y dy ∧ f dx dy = some dz ∧ Res g al H dz Q
theorem op2_of {ma mb : Rho → Sto → Out D} {f : D → D → Option D} : ∀ σ H Q, TR g W (RF g) (fun r S => (ma r S).bnd fun x S => (mb r S).bnd fun y S => lift (f (der S x) (der S y)) S) σ H Q →
    tOp (rD2 g f) (TR g W (RB g) ma) (TR g W (RB g) mb) σ H Q := by
  rintro σ H Q ⟨H0, al0, al, r, S, rs, h⟩
  refine ⟨H0, al0, al, r, S, rs, (h.bnd (R1 := RB g H)).imp ?_⟩
  rintro vx H1 ⟨al1, x, S1, rs1, k1, p1, b1, h⟩
  refine ⟨H0, al0, al1, r, S1, rs1, (h.bnd (R1 := RB g H1)).imp ?_⟩
  rintro vy H2 ⟨al2, y, S2, rs2, k2, p2, b2, h⟩
  obtain ⟨z, ez, h⟩ := h.lift
  exact ⟨al2, der S2 x, der S2 y, z, (Bp.mono k2 p2 b1).der rs2.sto, Bp.der b2 rs2.sto, ez, h.res rs2 fun p n => k1.back (k2.back n)⟩

def opOf : O2 → Operator
  | .add => .Add | .sub => .Sub | .mul => .Mult | .fdiv => .FloorDiv | .mod => .Mod
theorem lst_obj (hK : g.K = X.K) {pins : List (Addr × Obj)} {s : Shared} (I : Inv X pins σ H s) {a : Addr} {vs : List V} (h : SqL g.K H a vs) :
    ∃ its : List Value, ∃ n sl, Vals vs its ∧ s.heap.get? a = some { cls := .type "list", dict := none, data := .seq its.toArray n, slots := sl } ∧ vs.length ≤ sizeLine := by
  rw [hK] at h
  obtain ⟨its, rv, ⟨o, n, e, h1, h2, h3⟩, z⟩ := I.list h
  obtain ⟨c, d, da, sl⟩ := o
  simp only at h1 h2 h3
  subst h1 h2 h3
  exact ⟨its, n, sl, rv, e, z⟩
theorem op_bin (G : XG g X) (o : O2) : OpR X (binaryOp (opOf o)) (rD2 g (o2D o)) := by
  intro pins s σ H x y v u Q I rx ry h
  obtain ⟨al, dx, dy, dz, bx, bY, e, q⟩ := h
  cases o with
  | add =>
    cases dx with
    | int i =>
      cases dy <;> simp only [o2D] at e <;> try (cases e; done)
      rename_i j
      cases e
      exact op_add pins s σ H x y v u Q I rx ry ⟨i, j, bx.int, bY.int, q _ (.int _)⟩
    | str i =>
      cases dy <;> simp only [o2D] at e <;> try (cases e; done)
      rename_i j
      split at e <;> cases e
      rename_i hz
      exact op_add_str pins s σ H x y v u Q I rx ry ⟨i, j, bx.str, bY.str, hz, q _ (.str _)⟩
    | lst xs =>
      cases dy <;> simp only [o2D] at e <;> try (cases e; done)
      rename_i ys
      split at e <;> cases e
      rename_i hz
      obtain ⟨a, vs, rfl, q1, l1⟩ := bx.lst
      obtain ⟨b, us, rfl, q2, l2⟩ := bY.lst
      cases rx
      cases ry
      obtain ⟨its, n, sl, r1, e1, z1⟩ := lst_obj G.hK I q1
      obtain ⟨its', n', sl', r2, e2, z2⟩ := lst_obj G.hK I q2
      have h1 : vs.length = xs.length := l1.length
      have h2 : us.length = ys.length := l2.length
      have h3 : vs.length = its.length := r1.length
      have h4 : us.length = its'.length := r2.length
      refine concat_meets ⟨_, e1, rfl⟩ ⟨_, e2, rfl⟩ noFill_list_add seq_list_add F.slot_list_add F.entry_list_add (F.args_list_add_2 _ _) (AutoSeq1.pi_list_add a its.toArray n sl b its'.toArray n' sl' (by rw [List.size_toArray, List.size_toArray]; omega)) ⟨e1, e2, ?_⟩
      have ea : its.toArray ++ its'.toArray = (its ++ its').toArray := by simp
      rw [ea]
      exact ⟨.ref _, _, I.lnew (t' := s.toks) (r1.append r2) (by rw [List.length_append]; omega), rfl, q _ _ I.fresh (l1.append l2)⟩
    | _ => cases dy <;> simp [o2D] at e
  | sub =>
    cases dx with
    | int i =>
      cases dy <;> simp only [o2D] at e <;> try (cases e; done)
      rename_i j
      cases e
      exact op_sub pins s σ H x y v u Q I rx ry ⟨i, j, bx.int, bY.int, q _ (.int _)⟩
    | _ => cases dy <;> simp [o2D] at e
  | mul =>
    cases dx with
    | int i =>
      cases dy <;> simp only [o2D] at e <;> try (cases e; done)
      rename_i j
      split at e <;> cases e
      rename_i hc
      exact op_mul pins s σ H x y v u Q I rx ry ⟨i, j, bx.int, bY.int, hc, q _ (.int _)⟩
    | _ => cases dy <;> simp [o2D] at e
  | fdiv =>
    cases dx with
    | int i =>
      cases dy <;> simp only [o2D] at e <;> try (cases e; done)
      rename_i j
      split at e <;> cases e
      rename_i hc
      obtain ⟨t, rfl⟩ := (show RelV (V.int i) v from bx.int ▸ rx)
      obtain ⟨t', rfl⟩ := (show RelV (V.int j) u from bY.int ▸ ry)
      refine floordiv_int hc.1 ?_ (.inl (PyProof.noPylong_of_log2 (PySem.Flt.log2_lt_of (by decide) hc.2)))
      exact ⟨.int (i.fdiv j), H, I.tok _, ⟨_, rfl⟩, q _ (.int _)⟩
    | _ => cases dy <;> simp [o2D] at e
  | mod =>
    cases dx with
    | int i =>
      cases dy <;> simp only [o2D] at e <;> try (cases e; done)
      rename_i j
      split at e <;> cases e
      rename_i hc
      exact op_modN pins s σ H x y v u Q I rx ry ⟨i, j, bx.int, bY.int, hc, q _ (.int _)⟩
    | _ => cases dy <;> simp [o2D] at e

/-! ### comparisons -/
def rCm (g : GC) (f : D → D → Option Bool) : R2 := fun x y H Q => ∃ al dx dy b, Bt g al H x dx ∧ Bt g al H y dy ∧ f dx dy = some b ∧ Q (.bl b) H
theorem rc_flat {x y : D} {vv uu : Value} {b : Bool} {A : Around} {s : Shared} (fx : flatD x = true) (fy : flatD y = true) (rv : RelV (toV x) vv) (ru : RelV (toV y) uu) (h : eqd x y = some b) : SeqAt.RcAt A s vv uu b ∧ SeqAt.RcNeAt A s vv uu (!b) := by
  cases x with
  | non =>
    cases rv
    cases y with
    | non => cases ru; cases h; exact ⟨SeqAt.RcAt.none_none, SeqAt.RcNeAt.none_none⟩
    | bl j => cases ru; cases h; exact ⟨SeqAt.RcAt.none_bool j, SeqAt.RcNeAt.none_bool j⟩
    | int j => obtain ⟨t, rfl⟩ := ru; cases h; exact ⟨SeqAt.RcAt.none_int j t, SeqAt.RcNeAt.none_int j t⟩
    | str j => obtain ⟨t, rfl⟩ := ru; cases h; exact ⟨SeqAt.RcAt.none_str j t, SeqAt.RcNeAt.none_str j t⟩
    | _ => cases fy
  | bl i =>
    cases rv
    cases y with
    | non => cases ru; cases h; exact ⟨SeqAt.RcAt.bool_none i, SeqAt.RcNeAt.bool_none i⟩
    | bl j => cases ru; cases h; exact ⟨SeqAt.RcAt.bool_bool i j, SeqAt.RcNeAt.bool_bool i j⟩
    | int j => obtain ⟨t, rfl⟩ := ru; cases h; exact ⟨SeqAt.RcAt.bool_int i j t, SeqAt.RcNeAt.bool_int i j t⟩
    | str j => obtain ⟨t, rfl⟩ := ru; cases h; exact ⟨SeqAt.RcAt.bool_str i j t, SeqAt.RcNeAt.bool_str i j t⟩
    | _ => cases fy
  | int i =>
    obtain ⟨t', rfl⟩ := rv
    cases y with
    | non => cases ru; cases h; exact ⟨SeqAt.RcAt.int_none i t', SeqAt.RcNeAt.int_none i t'⟩
    | bl j => cases ru; cases h; exact ⟨SeqAt.RcAt.int_bool i t' j, SeqAt.RcNeAt.int_bool i t' j⟩
    | int j => obtain ⟨t, rfl⟩ := ru; cases h; exact ⟨SeqAt.RcAt.int_int i t' j t, SeqAt.RcNeAt.int_int i t' j t⟩
    | str j => obtain ⟨t, rfl⟩ := ru; cases h; exact ⟨SeqAt.RcAt.int_str i t' j t, SeqAt.RcNeAt.int_str i t' j t⟩
    | _ => cases fy
  | str i =>
    obtain ⟨t', rfl⟩ := rv
    cases y with
    | non => cases ru; cases h; exact ⟨SeqAt.RcAt.str_none i t', SeqAt.RcNeAt.str_none i t'⟩
    | bl j => cases ru; cases h; exact ⟨SeqAt.RcAt.str_bool i t' j, SeqAt.RcNeAt.str_bool i t' j⟩
    | int j => obtain ⟨t, rfl⟩ := ru; cases h; exact ⟨SeqAt.RcAt.str_int i t' j t, SeqAt.RcNeAt.str_int i t' j t⟩
    | str j => obtain ⟨t, rfl⟩ := ru; cases h; exact ⟨SeqAt.RcAt.str_str i t' j t, SeqAt.RcNeAt.str_str i t' j t⟩
    | _ => cases fy
  | _ => cases fx
theorem rc_top (G : XG g X) {pins : List (Addr × Obj)} {s : Shared} (I : Inv X pins σ H s) {x y : D} {v u : V} {vv uu : Value} {b : Bool} (hx : Bt g al H v x) (hy : Bt g al H u y) (rv : RelV v vv) (ru : RelV u uu) (h : eqd x y = some b) (hd : min x.deep y.deep ≤ 100)
    {E Q : Value → Shared → Prop} (q0 : Q (.bool b) s) : wpAny (model X.prog X.w) X.A (compareOp .Eq vv uu) Q E s := by
  have hu := G.room
  have hu1 : X.A.units < cLine := by omega
  by_cases fx : flatD x = true
  · cases hx.flat fx
    by_cases fy : flatD y = true
    · cases hy.flat fy
      exact (rc_flat fx fy rv ru h).1 _ _ _ _ q0
    · cases y with
      | tup ys =>
        obtain ⟨a, vs, rfl, qq, l⟩ := hy.tup
        obtain ⟨its, r, t⟩ := is_tuple G.hK I qq
        cases ru
        have e : b = false := by cases x <;> first | (simp only [eqd, Option.some.injEq] at h; exact h.symm) | (cases fx; done)
        subst e
        cases x with
        | non => cases rv; exact SeqAt.RcAt.none_tuple t hu1 _ _ _ _ q0
        | bl c => cases rv; exact SeqAt.RcAt.bool_tuple c t hu1 _ _ _ _ q0
        | int c => obtain ⟨t', rfl⟩ := rv; exact SeqAt.RcAt.int_tuple c t' t hu1 _ _ _ _ q0
        | str c => obtain ⟨t', rfl⟩ := rv; exact SeqAt.RcAt.str_tuple c t' t hu1 _ _ _ _ q0
        | _ => cases fx
      | lst ys =>
        obtain ⟨a, vs, rfl, qq, l⟩ := hy.lst
        obtain ⟨its, r, t⟩ := is_list G.hK I qq
        cases ru
        have e : b = false := by cases x <;> first | (simp only [eqd, Option.some.injEq] at h; exact h.symm) | (cases fx; done)
        subst e
        cases x with
        | non => cases rv; exact SeqAt.RcAt.none_list t hu1 _ _ _ _ q0
        | bl c => cases rv; exact SeqAt.RcAt.bool_list c t hu1 _ _ _ _ q0
        | int c => obtain ⟨t', rfl⟩ := rv; exact SeqAt.RcAt.int_list c t' t hu1 _ _ _ _ q0
        | str c => obtain ⟨t', rfl⟩ := rv; exact SeqAt.RcAt.str_list c t' t hu1 _ _ _ _ q0
        | _ => cases fx
      | dic _ => cases x <;> first | (simp [eqd] at h; done) | (cases fx; done)
      | fn _ => cases x <;> simp [eqd] at h
      | obj _ => cases x <;> simp [eqd] at h
      | _ => exact absurd rfl fy
  · by_cases fy : flatD y = true
    · cases hy.flat fy
      cases x with
      | tup ys =>
        obtain ⟨a, vs, rfl, qq, l⟩ := hx.tup
        obtain ⟨its, r, t⟩ := is_tuple G.hK I qq
        cases rv
        have e : b = false := by cases y <;> first | (simp only [eqd, Option.some.injEq] at h; exact h.symm) | (cases fy; done)
        subst e
        cases y with
        | non => cases ru; exact SeqAt.RcAt.tuple_none t hu1 _ _ _ _ q0
        | bl c => cases ru; exact SeqAt.RcAt.tuple_bool c t hu1 _ _ _ _ q0
        | int c => obtain ⟨t', rfl⟩ := ru; exact SeqAt.RcAt.tuple_int c t' t hu1 _ _ _ _ q0
        | str c => obtain ⟨t', rfl⟩ := ru; exact SeqAt.RcAt.tuple_str c t' t hu1 _ _ _ _ q0
        | _ => cases fy
      | lst ys =>
        obtain ⟨a, vs, rfl, qq, l⟩ := hx.lst
        obtain ⟨its, r, t⟩ := is_list G.hK I qq
        cases rv
        have e : b = false := by cases y <;> first | (simp only [eqd, Option.some.injEq] at h; exact h.symm) | (cases fy; done)
        subst e
        cases y with
        | non => cases ru; exact SeqAt.RcAt.list_none t hu1 _ _ _ _ q0
        | bl c => cases ru; exact SeqAt.RcAt.list_bool c t hu1 _ _ _ _ q0
        | int c => obtain ⟨t', rfl⟩ := ru; exact SeqAt.RcAt.list_int c t' t hu1 _ _ _ _ q0
        | str c => obtain ⟨t', rfl⟩ := ru; exact SeqAt.RcAt.list_str c t' t hu1 _ _ _ _ q0
        | _ => cases fy
      | dic _ => cases y <;> first | (simp [eqd] at h; done) | (cases fy; done)
      | fn _ => cases y <;> simp [eqd] at h
      | obj _ => cases y <;> simp [eqd] at h
      | _ => exact absurd rfl fx
    · -- two compound ones: the tree of the items, and the top by its rule
      have tr := fun n => eq_tree (al := al) G.hK I n
      cases x with
      | tup xs =>
        obtain ⟨a, vs, rfl, qq, l⟩ := hx.tup
        obtain ⟨its, r, t⟩ := is_tuple G.hK I qq
        cases rv
        cases y with
        | tup ys =>
          obtain ⟨a', vs', rfl, q', l'⟩ := hy.tup
          obtain ⟨its', r', t'⟩ := is_tuple G.hK I q'
          cases ru
          simp only [eqd] at h
          obtain ⟨he, hb⟩ := eqdL_all xs ys b h
          have hs1 : its.toArray.size = xs.length := by simp [← r.length, l.length]
          have hs2 : its'.toArray.size = ys.length := by simp [← r'.length, l'.length]
          refine SeqAt.rcIn_tuples t t' hu1 (fun j h1 h2 => (items_tree (tr 100) l l' r r' (by simp only [D.deep] at hd; omega) he j h1 h2).at X.A.in1 (by show X.A.units + 1 + _ < cLine; omega)) ?_
          rw [hs1, hs2, ← hb]
          exact q0
        | lst ys =>
          obtain ⟨a', vs', rfl, q', l'⟩ := hy.lst
          obtain ⟨its', r', t'⟩ := is_list G.hK I q'
          cases ru
          simp only [eqd, Option.some.injEq] at h
          subst h
          exact SeqAt.RcAt.tuple_list t t' hu1 _ _ _ _ q0
        | dic ys =>
          obtain ⟨a', vs', rfl, q', l'⟩ := hy.dic
          cases ru
          simp only [eqd, Option.some.injEq] at h
          subst h
          obtain ⟨ob, eo, ec⟩ := dict_cls I q'
          have hne : a ≠ a' := fun e => by subst e; exact rd_clash_tk G.hK I qq q'
          exact SeqAt.pi_rc_tuple_dict t eo ec hne hu1 _ _ _ _ q0
        | fn _ => simp [eqd] at h
        | obj _ => simp [eqd] at h
        | _ => exact absurd rfl fy
      | lst xs =>
        obtain ⟨a, vs, rfl, qq, l⟩ := hx.lst
        obtain ⟨its, r, t⟩ := is_list G.hK I qq
        cases rv
        cases y with
        | tup ys =>
          obtain ⟨a', vs', rfl, q', l'⟩ := hy.tup
          obtain ⟨its', r', t'⟩ := is_tuple G.hK I q'
          cases ru
          simp only [eqd, Option.some.injEq] at h
          subst h
          exact SeqAt.RcAt.list_tuple t t' hu1 _ _ _ _ q0
        | lst ys =>
          obtain ⟨a', vs', rfl, q', l'⟩ := hy.lst
          obtain ⟨its', r', t'⟩ := is_list G.hK I q'
          cases ru
          simp only [eqd] at h
          have hs1 : its.toArray.size = xs.length := by simp [← r.length, l.length]
          have hs2 : its'.toArray.size = ys.length := by simp [← r'.length, l'.length]
          by_cases ez : xs.length = ys.length
          · rw [if_pos ez] at h
            obtain ⟨he, hb⟩ := eqdL_all xs ys b h
            refine SeqAt.rcIn_lists t t' (by rw [hs1, hs2, ez]) hu1 (fun j h1 h2 => (items_tree (tr 100) l l' r r' (by simp only [D.deep] at hd; omega) he j h1 h2).at X.A.in1 (by show X.A.units + 1 + _ < cLine; omega)) ?_
            have hb' : b = (List.range its.toArray.size).all (eqAll xs ys) := by
              rw [hb, hs1, ← ez, Nat.min_self]
              simp
            rw [← hb']
            exact q0
          · rw [if_neg ez] at h
            cases h
            exact SeqAt.RcAt.lists_lengths t t' (by rw [hs1, hs2]; simpa using ez) hu1 _ _ _ _ q0
        | fn _ => simp [eqd] at h
        | obj _ => simp [eqd] at h
        | dic _ => simp [eqd] at h
        | _ => exact absurd rfl fy
      | dic xs =>
        obtain ⟨a, vs, rfl, qq, l⟩ := hx.dic
        cases rv
        cases y with
        | tup ys =>
          obtain ⟨a', vs', rfl, q', l'⟩ := hy.tup
          obtain ⟨its', r', t'⟩ := is_tuple G.hK I q'
          cases ru
          simp only [eqd, Option.some.injEq] at h
          subst h
          obtain ⟨ob, eo, ec⟩ := dict_cls I qq
          have hne : a ≠ a' := fun e => by subst e; exact rd_clash_tk G.hK I q' qq
          exact SeqAt.pi_rc_dict_tuple t' eo ec hne hu1 _ _ _ _ q0
        | dic ys =>
          obtain ⟨a', vs', rfl, q', l'⟩ := hy.dic
          cases ru
          obtain ⟨y1, kv, r, d1, _⟩ := rd_dict I qq
          obtain ⟨y2, kv', r', d2, _⟩ := rd_dict I q'
          obtain ⟨k1, k2⟩ := dicts_tree (tr 100) (keys_nd I qq l) l l' r r' h (by simp only [D.deep] at hd; omega)
          refine PySem.W.keq_eqIn y1 y2 d1 d2 hu1 (fun _ => PySem.W.KeqHitsIn.of _ fun k v y hm hv => (k1 k v y hm hv).at X.A.in1 (by show X.A.units + 1 + _ < cLine; omega)) ?_
          rw [k2]
          exact q0
        | fn _ => simp [eqd] at h
        | obj _ => simp [eqd] at h
        | lst _ => simp [eqd] at h
        | _ => exact absurd rfl fy
      | fn _ => cases y <;> simp [eqd] at h
      | obj _ => cases y <;> simp [eqd] at h
      | _ => exact absurd rfl fx
theorem rcne_top (G : XG g X) {pins : List (Addr × Obj)} {s : Shared} (I : Inv X pins σ H s) {x y : D} {v u : V} {vv uu : Value} {b : Bool} (hx : Bt g al H v x) (hy : Bt g al H u y) (rv : RelV v vv) (ru : RelV u uu) (h : eqd x y = some b) (hd : min x.deep y.deep ≤ 100)
    {E Q : Value → Shared → Prop} (q0 : Q (.bool (!b)) s) : wpAny (model X.prog X.w) X.A (compareOp .NotEq vv uu) Q E s := by
  have hu := G.room
  have hu1 : X.A.units < cLine := by omega
  by_cases fx : flatD x = true
  · cases hx.flat fx
    by_cases fy : flatD y = true
    · cases hy.flat fy
      exact (rc_flat fx fy rv ru h).2 _ _ _ _ q0
    · cases y with
      | tup ys =>
        obtain ⟨a, vs, rfl, qq, l⟩ := hy.tup
        obtain ⟨its, r, t⟩ := is_tuple G.hK I qq
        cases ru
        have e : b = false := by cases x <;> first | (simp only [eqd, Option.some.injEq] at h; exact h.symm) | (cases fx; done)
        subst e
        cases x with
        | non => cases rv; exact SeqAt.RcNeAt.none_tuple t hu1 _ _ _ _ q0
        | bl c => cases rv; exact SeqAt.RcNeAt.bool_tuple c t hu1 _ _ _ _ q0
        | int c => obtain ⟨t', rfl⟩ := rv; exact SeqAt.RcNeAt.int_tuple c t' t hu1 _ _ _ _ q0
        | str c => obtain ⟨t', rfl⟩ := rv; exact SeqAt.RcNeAt.str_tuple c t' t hu1 _ _ _ _ q0
        | _ => cases fx
      | lst ys =>
        obtain ⟨a, vs, rfl, qq, l⟩ := hy.lst
        obtain ⟨its, r, t⟩ := is_list G.hK I qq
        cases ru
        have e : b = false := by cases x <;> first | (simp only [eqd, Option.some.injEq] at h; exact h.symm) | (cases fx; done)
        subst e
        cases x with
        | non => cases rv; exact SeqAt.RcNeAt.none_list t hu1 _ _ _ _ q0
        | bl c => cases rv; exact SeqAt.RcNeAt.bool_list c t hu1 _ _ _ _ q0
        | int c => obtain ⟨t', rfl⟩ := rv; exact SeqAt.RcNeAt.int_list c t' t hu1 _ _ _ _ q0
        | str c => obtain ⟨t', rfl⟩ := rv; exact SeqAt.RcNeAt.str_list c t' t hu1 _ _ _ _ q0
        | _ => cases fx
      | dic _ => cases x <;> first | (simp [eqd] at h; done) | (cases fx; done)
      | fn _ => cases x <;> simp [eqd] at h
      | obj _ => cases x <;> simp [eqd] at h
      | _ => exact absurd rfl fy
  · by_cases fy : flatD y = true
    · cases hy.flat fy
      cases x with
      | tup ys =>
        obtain ⟨a, vs, rfl, qq, l⟩ := hx.tup
        obtain ⟨its, r, t⟩ := is_tuple G.hK I qq
        cases rv
        have e : b = false := by cases y <;> first | (simp only [eqd, Option.some.injEq] at h; exact h.symm) | (cases fy; done)
        subst e
        cases y with
        | non => cases ru; exact SeqAt.RcNeAt.tuple_none t hu1 _ _ _ _ q0
        | bl c => cases ru; exact SeqAt.RcNeAt.tuple_bool c t hu1 _ _ _ _ q0
        | int c => obtain ⟨t', rfl⟩ := ru; exact SeqAt.RcNeAt.tuple_int c t' t hu1 _ _ _ _ q0
        | str c => obtain ⟨t', rfl⟩ := ru; exact SeqAt.RcNeAt.tuple_str c t' t hu1 _ _ _ _ q0
        | _ => cases fy
      | lst ys =>
        obtain ⟨a, vs, rfl, qq, l⟩ := hx.lst
        obtain ⟨its, r, t⟩ := is_list G.hK I qq
        cases rv
        have e : b = false := by cases y <;> first | (simp only [eqd, Option.some.injEq] at h; exact h.symm) | (cases fy; done)
        subst e
        cases y with
        | non => cases ru; exact SeqAt.RcNeAt.list_none t hu1 _ _ _ _ q0
        | bl c => cases ru; exact SeqAt.RcNeAt.list_bool c t hu1 _ _ _ _ q0
        | int c => obtain ⟨t', rfl⟩ := ru; exact SeqAt.RcNeAt.list_int c t' t hu1 _ _ _ _ q0
        | str c => obtain ⟨t', rfl⟩ := ru; exact SeqAt.RcNeAt.list_str c t' t hu1 _ _ _ _ q0
        | _ => cases fy
      | dic _ => cases y <;> first | (simp [eqd] at h; done) | (cases fy; done)
      | fn _ => cases y <;> simp [eqd] at h
      | obj _ => cases y <;> simp [eqd] at h
      | _ => exact absurd rfl fx
    · -- two compound ones: the tree of the items, and the top by its rule
      have tr := fun n => eq_tree (al := al) G.hK I n
      cases x with
      | tup xs =>
        obtain ⟨a, vs, rfl, qq, l⟩ := hx.tup
        obtain ⟨its, r, t⟩ := is_tuple G.hK I qq
        cases rv
        cases y with
        | tup ys =>
          obtain ⟨a', vs', rfl, q', l'⟩ := hy.tup
          obtain ⟨its', r', t'⟩ := is_tuple G.hK I q'
          cases ru
          simp only [eqd] at h
          obtain ⟨he, hb⟩ := eqdL_all xs ys b h
          have hs1 : its.toArray.size = xs.length := by simp [← r.length, l.length]
          have hs2 : its'.toArray.size = ys.length := by simp [← r'.length, l'.length]
          refine SeqAt.pi_ne_tuples t t' hu1 (fun j h1 h2 => (items_tree (tr 100) l l' r r' (by simp only [D.deep] at hd; omega) he j h1 h2).at X.A.in1 (by show X.A.units + 1 + _ < cLine; omega)) ?_
          rw [hs1, hs2, ← hb]
          exact q0
        | lst ys =>
          obtain ⟨a', vs', rfl, q', l'⟩ := hy.lst
          obtain ⟨its', r', t'⟩ := is_list G.hK I q'
          cases ru
          simp only [eqd, Option.some.injEq] at h
          subst h
          exact SeqAt.RcNeAt.tuple_list t t' hu1 _ _ _ _ q0
        | dic ys =>
          obtain ⟨a', vs', rfl, q', l'⟩ := hy.dic
          cases ru
          simp only [eqd, Option.some.injEq] at h
          subst h
          obtain ⟨ob, eo, ec⟩ := dict_cls I q'
          have hne : a ≠ a' := fun e => by subst e; exact rd_clash_tk G.hK I qq q'
          exact SeqAt.pi_rcne_tuple_dict t eo ec hne hu1 _ _ _ _ q0
        | fn _ => simp [eqd] at h
        | obj _ => simp [eqd] at h
        | _ => exact absurd rfl fy
      | lst xs =>
        obtain ⟨a, vs, rfl, qq, l⟩ := hx.lst
        obtain ⟨its, r, t⟩ := is_list G.hK I qq
        cases rv
        cases y with
        | tup ys =>
          obtain ⟨a', vs', rfl, q', l'⟩ := hy.tup
          obtain ⟨its', r', t'⟩ := is_tuple G.hK I q'
          cases ru
          simp only [eqd, Option.some.injEq] at h
          subst h
          exact SeqAt.RcNeAt.list_tuple t t' hu1 _ _ _ _ q0
        | lst ys =>
          obtain ⟨a', vs', rfl, q', l'⟩ := hy.lst
          obtain ⟨its', r', t'⟩ := is_list G.hK I q'
          cases ru
          simp only [eqd] at h
          have hs1 : its.toArray.size = xs.length := by simp [← r.length, l.length]
          have hs2 : its'.toArray.size = ys.length := by simp [← r'.length, l'.length]
          by_cases ez : xs.length = ys.length
          · rw [if_pos ez] at h
            obtain ⟨he, hb⟩ := eqdL_all xs ys b h
            refine SeqAt.pi_ne_lists t t' (by rw [hs1, hs2, ez]) hu1 (fun j h1 h2 => (items_tree (tr 100) l l' r r' (by simp only [D.deep] at hd; omega) he j h1 h2).at X.A.in1 (by show X.A.units + 1 + _ < cLine; omega)) ?_
            have hb' : b = (List.range its.toArray.size).all (eqAll xs ys) := by
              rw [hb, hs1, ← ez, Nat.min_self]
              simp
            rw [← hb']
            exact q0
          · rw [if_neg ez] at h
            cases h
            exact SeqAt.RcNeAt.lists_lengths t t' (by rw [hs1, hs2]; simpa using ez) hu1 _ _ _ _ q0
        | fn _ => simp [eqd] at h
        | obj _ => simp [eqd] at h
        | dic _ => simp [eqd] at h
        | _ => exact absurd rfl fy
      | dic xs =>
        obtain ⟨a, vs, rfl, qq, l⟩ := hx.dic
        cases rv
        cases y with
        | tup ys =>
          obtain ⟨a', vs', rfl, q', l'⟩ := hy.tup
          obtain ⟨its', r', t'⟩ := is_tuple G.hK I q'
          cases ru
          simp only [eqd, Option.some.injEq] at h
          subst h
          obtain ⟨ob, eo, ec⟩ := dict_cls I qq
          have hne : a ≠ a' := fun e => by subst e; exact rd_clash_tk G.hK I q' qq
          exact SeqAt.pi_rcne_dict_tuple t' eo ec hne hu1 _ _ _ _ q0
        | dic ys =>
          obtain ⟨a', vs', rfl, q', l'⟩ := hy.dic
          cases ru
          obtain ⟨y1, kv, r, d1, _⟩ := rd_dict I qq
          obtain ⟨y2, kv', r', d2, _⟩ := rd_dict I q'
          obtain ⟨k1, k2⟩ := dicts_tree (tr 100) (keys_nd I qq l) l l' r r' h (by simp only [D.deep] at hd; omega)
          refine PySem.W.pi_ne_dicts y1 y2 d1 d2 hu1 (fun _ => PySem.W.KeqHitsIn.of _ fun k v y hm hv => (k1 k v y hm hv).at X.A.in1 (by show X.A.units + 1 + _ < cLine; omega)) ?_
          rw [k2]
          exact q0
        | fn _ => simp [eqd] at h
        | obj _ => simp [eqd] at h
        | lst _ => simp [eqd] at h
        | _ => exact absurd rfl fy
      | fn _ => cases y <;> simp [eqd] at h
      | obj _ => cases y <;> simp [eqd] at h
      | _ => exact absurd rfl fx

theorem op_eqq (G : XG g X) : OpR X (compareOp .Eq) (rCm g eqq) := by
  intro pins s σ H x y v u Q I rx ry h
  obtain ⟨al, dx, dy, b, bx, bY, e, q⟩ := h
  unfold eqq at e
  split at e
  · rename_i hz
    exact rc_top G I bx bY rx ry e hz ⟨.bl b, H, I, rfl, q⟩
  · cases e
theorem op_neq (G : XG g X) : OpR X (compareOp .NotEq) (rCm g fun a b => (eqq a b).map (!·)) := by
  intro pins s σ H x y v u Q I rx ry h
  obtain ⟨al, dx, dy, b, bx, bY, e, q⟩ := h
  have e : (eqq dx dy).map (!·) = some b := e
  unfold eqq at e
  split at e
  · rename_i hz
    cases eb : eqd dx dy with
    | none => rw [eb] at e; cases e
    | some c =>
      rw [eb] at e
      cases e
      exact rcne_top G I bx bY rx ry eb hz ⟨.bl (!c), H, I, rfl, q⟩
  · cases e

def cmOf : Cm → CmpOp
  | .lt => .Lt | .le => .LtE | .gt => .Gt | .ge => .GtE | .eq => .Eq | .ne => .NotEq | .inn => .In | .nin => .NotIn
theorem in_strs (x : Str) : ∀ zs : List Str, inV (.str x) (zs.map V.str) = decide (x ∈ zs)
  | [] => rfl
  | z :: r => by
    have ih := in_strs x r
    unfold inV at ih ⊢
    rw [List.map_cons, List.any_cons, ih]
    by_cases e : x = z
    · subst e; simp [eqV]
    · have : (z == x) = false := by simpa using fun h => e h.symm
      simp [eqV, this, e]
theorem in_ints (x : Int) : ∀ zs : List Int, inV (.int x) (zs.map V.int) = decide (x ∈ zs)
  | [] => rfl
  | z :: r => by
    have ih := in_ints x r
    unfold inV at ih ⊢
    rw [List.map_cons, List.any_cons, ih]
    by_cases e : x = z
    · subst e; simp [eqV]
    · have : (z == x) = false := by simpa using fun h => e h.symm
      simp [eqV, this, e]
theorem flat_strs (zs : List Str) : (zs.map V.str).all flatV = true := by simp [List.all_map, flatV]
theorem flat_ints (zs : List Int) : (zs.map V.int).all flatV = true := by simp [List.all_map, flatV]
/-- what a membership asks -/
theorem inn_of (G : XG g X) {x y : V} {dx dy : D} {b : Bool} (bx : Bt g al H x dx) (bY : Bt g al H y dy) (e : innD dx dy = some b) :
    (∃ a o, y = .ref a ∧ DGet H a x o ∧ b = o.isSome) ∨ ∃ p xs, y = .ref p ∧ (SqL X.K H p xs ∨ SqT X.K H p xs) ∧ flatV x = true ∧ xs.all flatV = true ∧ b = inV x xs := by
  have hK := G.hK
  cases dx with
  | str s =>
    have ex := bx.str
    subst ex
    cases dy with
    | dic rs =>
      obtain ⟨a, kvs, rfl, q, l⟩ := bY.dic
      simp only [innD, Option.some.injEq] at e
      refine .inl ⟨a, valV kvs (.inr s), rfl, .inl ⟨kvs, .inr s, q, rfl, rfl⟩, ?_⟩
      rcases DtK.val s l with ⟨z1, z2⟩ | ⟨v, d, z1, z2, _⟩ <;> rw [← e, z1, z2] <;> rfl
    | lst ys =>
      obtain ⟨a, vs, rfl, q, l⟩ := bY.lst
      simp only [innD] at e
      cases es : strsD ys with
      | none => rw [es] at e; cases e
      | some zs =>
        rw [es] at e
        have ev := strsD_of l es
        subst ev
        refine .inr ⟨a, _, rfl, .inl (hK ▸ q), rfl, flat_strs zs, ?_⟩
        rw [in_strs]
        simpa using e.symm
    | tup ys =>
      obtain ⟨a, vs, rfl, q, l⟩ := bY.tup
      simp only [innD] at e
      cases es : strsD ys with
      | none => rw [es] at e; cases e
      | some zs =>
        rw [es] at e
        have ev := strsD_of l es
        subst ev
        refine .inr ⟨a, _, rfl, .inr (hK ▸ q), rfl, flat_strs zs, ?_⟩
        rw [in_strs]
        simpa using e.symm
    | _ => simp [innD] at e
  | int s =>
    have ex := bx.int
    subst ex
    cases dy with
    | lst ys =>
      obtain ⟨a, vs, rfl, q, l⟩ := bY.lst
      simp only [innD] at e
      cases es : intsD ys with
      | none => rw [es] at e; cases e
      | some zs =>
        rw [es] at e
        have ev := intsD_of l es
        subst ev
        refine .inr ⟨a, _, rfl, .inl (hK ▸ q), rfl, flat_ints zs, ?_⟩
        rw [in_ints]
        simpa using e.symm
    | tup ys =>
      obtain ⟨a, vs, rfl, q, l⟩ := bY.tup
      simp only [innD] at e
      cases es : intsD ys with
      | none => rw [es] at e; cases e
      | some zs =>
        rw [es] at e
        have ev := intsD_of l es
        subst ev
        refine .inr ⟨a, _, rfl, .inr (hK ▸ q), rfl, flat_ints zs, ?_⟩
        rw [in_ints]
        simpa using e.symm
    | _ => simp [innD] at e
  | _ => cases dy <;> simp [innD] at e
theorem op_cm (G : XG g X) (o : Cm) : OpR X (compareOp (cmOf o)) (rCm g (cmD o)) := by
  cases o with
  | eq => exact op_eqq G
  | ne => exact op_neq G
  | inn =>
    intro pins s σ H x y v u Q I rx ry h
    obtain ⟨al, dx, dy, b, bx, bY, e, q⟩ := h
    rcases inn_of G bx bY e with ⟨a, o, rfl, g1, rfl⟩ | ⟨p, xs, rfl, h1, h2, h3, rfl⟩
    · cases ry
      exact d_in (by have := G.room; omega) I g1 rx fun s' I' => ⟨.bl _, H, I', rfl, q⟩
    · exact op_in_seq pins s σ H x _ v u Q I rx ry ⟨p, xs, rfl, h1, h2, h3, q⟩
  | nin =>
    intro pins s σ H x y v u Q I rx ry h
    obtain ⟨al, dx, dy, b, bx, bY, e, q⟩ := h
    have e : (innD dx dy).map (!·) = some b := e
    cases ei : innD dx dy with
    | none => rw [ei] at e; cases e
    | some c =>
      rw [ei] at e
      cases e
      rcases inn_of G bx bY ei with ⟨a, o, rfl, g1, rfl⟩ | ⟨p, xs, rfl, h1, h2, h3, rfl⟩
      · cases ry
        exact d_notIn (by have := G.room; omega) I g1 rx fun s' I' => ⟨.bl _, H, I', rfl, q⟩
      · exact op_notIn_seq pins s σ H x _ v u Q I rx ry ⟨p, xs, rfl, h1, h2, h3, q⟩
  | lt =>
    intro pins s σ H x y v u Q I rx ry h
    obtain ⟨al, dx, dy, b, bx, bY, e, q⟩ := h
    cases dx <;> cases dy <;> simp only [cmD] at e <;> try (cases e; done)
    cases e
    exact op_lt pins s σ H x y v u Q I rx ry ⟨_, _, bx.int, bY.int, q⟩
  | le =>
    intro pins s σ H x y v u Q I rx ry h
    obtain ⟨al, dx, dy, b, bx, bY, e, q⟩ := h
    cases dx <;> cases dy <;> simp only [cmD] at e <;> try (cases e; done)
    cases e
    exact op_le pins s σ H x y v u Q I rx ry ⟨_, _, bx.int, bY.int, q⟩
  | gt =>
    intro pins s σ H x y v u Q I rx ry h
    obtain ⟨al, dx, dy, b, bx, bY, e, q⟩ := h
    cases dx <;> cases dy <;> simp only [cmD] at e <;> try (cases e; done)
    cases e
    exact op_gt pins s σ H x y v u Q I rx ry ⟨_, _, bx.int, bY.int, q⟩
  | ge =>
    intro pins s σ H x y v u Q I rx ry h
    obtain ⟨al, dx, dy, b, bx, bY, e, q⟩ := h
    cases dx <;> cases dy <;> simp only [cmD] at e <;> try (cases e; done)
    cases e
    exact op_ge pins s σ H x y v u Q I rx ry ⟨_, _, bx.int, bY.int, q⟩

/-! ### truth, length, kinds -/
def rTru (g : GC) : V → Hp → (Bool → Hp → Prop) → Prop := fun x H Q => ∃ al d k, Bt g al H x d ∧ truD d = some k ∧ Q k H
theorem tru_d (G : XG g X) : TruR X (rTru g) := by
  intro pins s σ H x v Q I rx h
  obtain ⟨al, d, k, bx, e, q⟩ := h
  have hK := G.hK
  cases d with
  | non => cases bx.non; cases e; exact tru_ok pins s σ H _ v Q I rx ⟨_, rfl, q⟩
  | bl _ => cases bx.bl; cases e; exact tru_ok pins s σ H _ v Q I rx ⟨_, rfl, q⟩
  | int _ => cases bx.int; cases e; exact tru_ok pins s σ H _ v Q I rx ⟨_, rfl, q⟩
  | str _ =>
    cases bx.str
    simp only [truD] at e
    split at e <;> cases e
    rename_i hz
    exact tru_ok pins s σ H _ v Q I rx ⟨_, ⟨hz, rfl⟩, q⟩
  | fn _ => cases e
  | obj _ => cases e
  | tup ds =>
    obtain ⟨a, vs, rfl, q1, l⟩ := bx.tup
    cases e
    refine tru_ok pins s σ H _ v Q I rx ⟨_, .inr (.inl ⟨vs, hK ▸ q1, rfl⟩), ?_⟩
    rw [show vs.isEmpty = ds.isEmpty by cases l <;> rfl]
    exact q
  | lst ds =>
    obtain ⟨a, vs, rfl, q1, l⟩ := bx.lst
    cases e
    refine tru_ok pins s σ H _ v Q I rx ⟨_, .inl ⟨vs, hK ▸ q1, rfl⟩, ?_⟩
    rw [show vs.isEmpty = ds.isEmpty by cases l <;> rfl]
    exact q
  | dic ds =>
    obtain ⟨a, vs, rfl, q1, l⟩ := bx.dic
    cases e
    cases rx
    refine d_truth I q1 fun s' I' => ⟨H, I', ?_⟩
    rw [show vs.isEmpty = ds.isEmpty by cases l <;> rfl]
    exact q
def r1D (g : GC) (f : D → Option D) : List V → Hp → VK → Prop := fun xs H Q => ∃ al x d dz, xs = [x] ∧ Bt g al H x d ∧ f d = some dz ∧ Res g al H dz Q
theorem call_lenQ (G : XG g X) : CallR X (.builtin "len") (r1D g (biD .len)) := by
  intro pins s σ H xs us Q I r h
  obtain ⟨al, x, d, dz, rfl, bx, e, q⟩ := h
  have hK := G.hK
  have hr := r
  obtain ⟨u, rfl, ru⟩ := vals1 r
  simp only [biD] at e
  cases d with
  | str y =>
    cases bx.str
    simp only [lenD] at e
    split at e <;> cases e
    rename_i hz
    exact call_len pins s σ H _ _ Q I hr ⟨_, _, rfl, ⟨hz, rfl⟩, q _ (.int _)⟩
  | tup ds =>
    obtain ⟨a, vs, rfl, q1, l⟩ := bx.tup
    cases e
    refine call_len pins s σ H _ _ Q I hr ⟨_, _, rfl, .inr ⟨vs, hK ▸ q1, rfl⟩, ?_⟩
    rw [l.length]
    exact q _ (.int _)
  | lst ds =>
    obtain ⟨a, vs, rfl, q1, l⟩ := bx.lst
    cases e
    refine call_len pins s σ H _ _ Q I hr ⟨_, _, rfl, .inl ⟨vs, hK ▸ q1, rfl⟩, ?_⟩
    rw [l.length]
    exact q _ (.int _)
  | dic ds =>
    obtain ⟨a, vs, rfl, q1, l⟩ := bx.dic
    cases e
    cases ru
    refine d_len I q1 fun t s' I' => ⟨.int vs.length, H, I', ⟨t, rfl⟩, ?_⟩
    rw [l.length]
    exact q _ (.int _)
  | _ => cases e
theorem call_intQ : CallR X (.type "int") (r1D g (biD .int)) := by
  intro pins s σ H xs us Q I r h
  obtain ⟨al, x, d, dz, rfl, bx, e, q⟩ := h
  cases d with
  | int i => cases bx.int; cases e; exact call_int1 pins s σ H _ _ Q I r (.inl ⟨_, rfl, q _ (.int _)⟩)
  | bl b => cases bx.bl; cases e; exact call_int1 pins s σ H _ _ Q I r (.inr ⟨_, rfl, q _ (.int _)⟩)
  | _ => cases e
theorem call_absQ : CallR X (.builtin "abs") (r1D g (biD .abs)) := by
  intro pins s σ H xs us Q I r h
  obtain ⟨al, x, d, dz, rfl, bx, e, q⟩ := h
  cases d with
  | int i => cases bx.int; cases e; exact call_abs pins s σ H _ _ Q I r ⟨_, rfl, q _ (.int _)⟩
  | _ => cases e
theorem call_listQ (G : XG g X) : CallR X (.type "list") (r1D g (biD .list)) := by
  intro pins s σ H xs us Q I r h
  obtain ⟨al, x, d, dz, rfl, bx, e, q⟩ := h
  have hK := G.hK
  cases d with
  | lst ds =>
    obtain ⟨a, vs, rfl, q1, l⟩ := bx.lst
    cases e
    exact call_list_of pins s σ H _ _ Q I r ⟨a, vs, rfl, .inl (hK ▸ q1), fun p n => q p vs n l⟩
  | tup ds =>
    obtain ⟨a, vs, rfl, q1, l⟩ := bx.tup
    cases e
    exact call_list_of pins s σ H _ _ Q I r ⟨a, vs, rfl, .inr (hK ▸ q1), fun p n => q p vs n l⟩
  | dic ds =>
    obtain ⟨a, vs, rfl, q1, l⟩ := bx.dic
    cases e
    exact call_listD G.calm pins s σ H _ _ Q I r ⟨a, vs, rfl, q1, fun p n => q p _ n (keysD_of l)⟩
  | _ => cases e
theorem call_dictQ : CallR X (.type "dict") (r1D g (biD .dict)) := by
  intro pins s σ H xs us Q I r h
  obtain ⟨al, x, d, dz, rfl, bx, e, q⟩ := h
  cases d with
  | dic ds =>
    obtain ⟨a, vs, rfl, q1, l⟩ := bx.dic
    cases e
    exact call_dictD pins s σ H _ _ Q I r ⟨a, vs, rfl, q1, fun p n => q p _ n l⟩
  | _ => cases e
theorem call_allQ (G : XG g X) : CallR X (.builtin "all") (r1D g (biD .all)) := by
  intro pins s σ H xs us Q I r h
  obtain ⟨al, x, d, dz, rfl, bx, e, q⟩ := h
  have hK := G.hK
  cases d with
  | lst ds =>
    obtain ⟨a, vs, rfl, q1, l⟩ := bx.lst
    simp only [biD] at e
    cases eb : blsD ds with
    | none => rw [eb] at e; cases e
    | some bs =>
      rw [eb] at e
      cases e
      cases blsD_of l eb
      exact cr_all G.calm pins s σ H _ _ Q I r ⟨a, bs, rfl, hK ▸ q1, q _ (.bl _)⟩
  | _ => cases e
theorem call_sumQ (G : XG g X) : CallR X (.builtin "sum") (r1D g (biD .sum)) := by
  intro pins s σ H xs us Q I r h
  obtain ⟨al, x, d, dz, rfl, bx, e, q⟩ := h
  have hK := G.hK
  cases d with
  | lst ds =>
    obtain ⟨a, vs, rfl, q1, l⟩ := bx.lst
    simp only [biD] at e
    cases eb : intsD ds with
    | none => rw [eb] at e; cases e
    | some bs =>
      rw [eb] at e
      cases e
      cases intsD_of l eb
      exact cr_sum G.calm pins s σ H _ _ Q I r ⟨a, bs, rfl, hK ▸ q1, q _ (.int _)⟩
  | _ => cases e
theorem max_fold : ∀ (r : List Int) (n m : Int), m ∈ n :: r → (∀ y, y ∈ n :: r → y ≤ m) → r.foldl (fun a b => if b > a then b else a) n = m
  | [], n, m, h, _ => by simp at h; exact h.symm
  | k :: r, n, m, h, hm => by
    rw [List.foldl_cons]
    refine max_fold r _ m ?_ fun y hy => ?_
    · rcases List.mem_cons.mp h with e | h
      · subst e
        have := hm k (by simp)
        by_cases hk : k > m
        · omega
        · rw [if_neg hk]; exact List.mem_cons_self
      · rcases List.mem_cons.mp h with e | h
        · subst e
          have := hm n (by simp)
          by_cases hk : m > n
          · rw [if_pos hk]; exact List.mem_cons_self
          · rw [if_neg hk]
            have : n = m := by omega
            rw [this]; exact List.mem_cons_self
        · exact List.mem_cons_of_mem _ h
    · rcases List.mem_cons.mp hy with e | hy
      · subst e
        split
        · exact hm k (by simp)
        · exact hm n (by simp)
      · exact hm y (by simp [hy])
theorem call_maxQ (G : XG g X) : CallR X (.builtin "max") (r1D g (biD .max)) := by
  intro pins s σ H xs us Q I r h
  obtain ⟨al, x, d, dz, rfl, bx, e, q⟩ := h
  have hK := G.hK
  cases d with
  | lst ds =>
    obtain ⟨a, vs, rfl, q1, l⟩ := bx.lst
    simp only [biD] at e
    cases eb : intsD ds with
    | none => rw [eb] at e; cases e
    | some bs =>
      rw [eb] at e
      cases bs with
      | nil => cases e
      | cons n rest =>
        cases e
        cases intsD_of l eb
        refine cr_max G.calm pins s σ H _ _ Q I r ⟨a, n :: rest, rfl, hK ▸ q1, by simp, fun m h1 h2 => ?_⟩
        rw [max_fold rest n m h1 h2] at q
        exact q _ (.int _)
  | _ => cases e
end
end Pi

/-! Pi6: operations by data: isinstance, repr, subscripts, slices. -/
namespace Pi
open PySem L2 PySem.Spec PyProof.Rows
section
variable {g : GC} {al al' al0 : Al} {H H' H0 Hs : Hp} {S S' : Sto} {r : Rho} {σ : L2.St} {W : WX} {X : Cx}
def tyN : Ty → String
  | .int => "int" | .bool => "bool" | .str => "str" | .list => "list" | .tuple => "tuple" | .dict => "dict"
/-- a datum's type by its name -/
def dN : D → Option String
  | .non => some "NoneType" | .bl _ => some "bool" | .int _ => some "int" | .str _ => some "str"
  | .tup _ => some "tuple" | .lst _ => some "list" | .dic _ => some "dict"
  | _ => none
def isi1 (n : String) (t : Ty) : Bool := (kitB n (tyN t)).getD false
theorem kitB_tab : ∀ n ∈ ["NoneType", "bool", "int", "str", "tuple", "list", "dict"], ∀ t ∈ [Ty.int, Ty.bool, Ty.str, Ty.list, Ty.tuple, Ty.dict], (kitB n (tyN t)).isSome = true := by decide +kernel
theorem mem_ty (t : Ty) : t ∈ [Ty.int, Ty.bool, Ty.str, Ty.list, Ty.tuple, Ty.dict] := by cases t <;> simp
theorem isi1_tab : ∀ t ∈ [Ty.int, Ty.bool, Ty.str, Ty.list, Ty.tuple, Ty.dict], isi1 "NoneType" t = false ∧ isi1 "bool" t = (t == .bool || t == .int) ∧ isi1 "int" t = (some Ty.int == some t) ∧ isi1 "str" t = (some Ty.str == some t) ∧
    isi1 "tuple" t = (some Ty.tuple == some t) ∧ isi1 "list" t = (some Ty.list == some t) ∧ isi1 "dict" t = (some Ty.dict == some t) := by decide +kernel
theorem kit_any {K : PySem.W.Frag} {n : String} (hn : n ∈ ["NoneType", "bool", "int", "str", "tuple", "list", "dict"]) : ∀ ts : List Ty, PySem.W.kitAny K (.type n) (ts.map fun t => .type (tyN t)) = some (ts.any (isi1 n))
  | [] => kitAny_nil
  | t :: r => by
    have h1 := kitB_tab n hn t (mem_ty t)
    obtain ⟨b, e⟩ := Option.isSome_iff_exists.mp h1
    have e2 : isi1 n t = b := by unfold isi1; rw [e]; rfl
    rw [List.map_cons, List.any_cons, e2]
    refine kitAny_cons (b := b) (kit_ty e) (fun hb => ?_) (fun hb => ?_)
    · rw [hb, Bool.false_or]; exact kit_any hn r
    · rw [hb, Bool.true_or]
theorem List.all_congr_any {α : Type} {p q : α → Bool} : ∀ {l : List α}, (∀ a ∈ l, p a = q a) → l.any p = l.any q
  | [], _ => rfl
  | a :: l, h => by rw [List.any_cons, List.any_cons, h a List.mem_cons_self, List.all_congr_any fun b hb => h b (List.mem_cons_of_mem _ hb)]
theorem isi_any {d : D} {n : String} (h : dN d = some n) (ts : List Ty) : n ∈ ["NoneType", "bool", "int", "str", "tuple", "list", "dict"] ∧ isiD d ts = some (ts.any (isi1 n)) := by
  have tab := fun t => isi1_tab t (mem_ty t)
  cases d <;> cases h <;> refine ⟨by simp, ?_⟩ <;> simp only [isiD, Option.some.injEq]
  · induction ts with
    | nil => rfl
    | cons t r ih => rw [List.any_cons, (tab t).1, Bool.false_or]; exact ih
  · exact List.all_congr_any fun t _ => (tab t).2.1.symm
  · exact List.all_congr_any fun t _ => (tab t).2.2.1.symm
  · exact List.all_congr_any fun t _ => (tab t).2.2.2.1.symm
  · exact List.all_congr_any fun t _ => (tab t).2.2.2.2.1.symm
  · exact List.all_congr_any fun t _ => (tab t).2.2.2.2.2.1.symm
  · exact List.all_congr_any fun t _ => (tab t).2.2.2.2.2.2.symm

theorem tyx_of (hK : g.K = X.K) {v : V} {d : D} {n : String} (b : Bt g al H v d) (h : dN d = some n) : TyX X.K H v (.type n) := by
  cases d with
  | non => cases b.non; cases h; exact .base .non
  | bl _ => cases b.bl; cases h; exact .base (.bl _)
  | int _ => cases b.int; cases h; exact .base (.int _)
  | str _ => cases b.str; cases h; exact .base (.str _)
  | fn _ => cases h
  | obj _ => cases h
  | tup ds =>
    cases h
    obtain ⟨a, vs, rfl, q, _⟩ := b.tup
    rcases q with (q | ⟨o, q⟩) | ⟨o, its, m, q, c, _⟩
    · exact .base (.tup q)
    · exact .fTuple q
    · exact .kTuple (hK ▸ q) c
  | lst ds =>
    cases h
    obtain ⟨a, vs, rfl, q, _⟩ := b.lst
    rcases q with (q | ⟨o, q⟩) | ⟨o, its, m, q, c, _⟩
    · exact .base (.lst q)
    · exact .base (.frz q)
    · exact .kList (hK ▸ q) c
  | dic ds =>
    cases h
    obtain ⟨a, vs, rfl, q, _⟩ := b.dic
    rcases q with q | ⟨o, q⟩
    · exact .base (.dK q)
    · exact .fDict q
theorem isiD_some {d : D} {ts : List Ty} {b : Bool} (h : isiD d ts = some b) : ∃ n, dN d = some n := by
  cases d <;> first | exact ⟨_, rfl⟩ | (cases h; done)
theorem isi_paired : ∀ ts : List Ty, Paired ClsV (ts.map fun t => V.ty (tyN t)) (ts.map fun t => Value.type (tyN t))
  | [] => .nil
  | t :: r => .cons (.ty _) (isi_paired r)
def rIs1 (g : GC) (t : Ty) : List V → Hp → VK → Prop := fun xs H Q => ∃ al x d b, xs = [x, .ty (tyN t)] ∧ Bt g al H x d ∧ isiD d [t] = some b ∧ Q (.bl b) H
def rIsN (g : GC) (ts : List Ty) : List V → Hp → VK → Prop := fun xs H Q => ∃ al x d b tp, xs = [x, .ref tp] ∧ H tp = some (.tup (ts.map fun t => V.ty (tyN t))) ∧ Bt g al H x d ∧ isiD d ts = some b ∧ Q (.bl b) H
theorem call_is1 (G : XG g X) (t : Ty) : CallR X (.builtin "isinstance") (rIs1 g t) := by
  intro pins s σ H xs us Q I r h
  obtain ⟨al, x, d, b, rfl, bx, e, q⟩ := h
  obtain ⟨n, hn⟩ := isiD_some e
  obtain ⟨hm, e2⟩ := isi_any hn [t]
  have h1 := kitB_tab n hm t (mem_ty t)
  obtain ⟨b', eb⟩ := Option.isSome_iff_exists.mp h1
  have e3 : isi1 n t = b' := by unfold isi1; rw [eb]; rfl
  rw [e2] at e
  have e4 : b' = b := by
    have : (isi1 n t || false) = b := by simpa using e
    rw [e3, Bool.or_false] at this
    exact this
  subst e4
  exact call_isi pins s σ H _ _ Q I r ⟨x, .ty (tyN t), .type n, .type (tyN t), b', rfl, .ty _, tyx_of G.hK bx hn, kit_ty eb, q⟩
theorem call_isN (G : XG g X) (ts : List Ty) : CallR X (.builtin "isinstance") (rIsN g ts) := by
  intro pins s σ H xs us Q I r h
  obtain ⟨al, x, d, b, tp, rfl, ht, bx, e, q⟩ := h
  obtain ⟨n, hn⟩ := isiD_some e
  obtain ⟨hm, e2⟩ := isi_any hn ts
  rw [e2] at e
  cases e
  exact call_isiT pins s σ H _ _ Q I r ⟨x, tp, _, .type n, _, _, rfl, ht, isi_paired ts, tyx_of G.hK bx hn, kit_any hm ts, q⟩

/-! ### repr -/
mutual
theorem py_deep : ∀ d : D, d.py.depth = d.deep
  | .non => by simp only [D.py, D.deep, PyData.depth]
  | .bl _ => by simp only [D.py, D.deep, PyData.depth]
  | .int _ => by simp only [D.py, D.deep, PyData.depth]
  | .str _ => by simp only [D.py, D.deep, PyData.depth]
  | .fn _ => by simp only [D.py, D.deep, PyData.depth]
  | .obj _ => by simp only [D.py, D.deep, PyData.depth]
  | .tup xs => by simp only [D.py, D.deep, PyData.depth, py_deepL xs]
  | .lst xs => by simp only [D.py, D.deep, PyData.depth, py_deepL xs]
  | .dic xs => by simp only [D.py, D.deep, PyData.depth, py_deepK xs]
theorem py_deepL : ∀ xs : List D, PyData.depthAll (pyL xs) = deepL xs
  | [] => by simp only [pyL, deepL, PyData.depthAll]
  | x :: r => by simp only [pyL, deepL, PyData.depthAll, py_deep x, py_deepL r]
theorem py_deepK : ∀ xs : List (Str × D), PyData.depthKv (pyK xs) = deepK xs
  | [] => by simp only [pyK, deepK, PyData.depthKv]
  | p :: r => by
    have e : (PyData.str p.1).depth = 0 := by simp only [PyData.depth]
    simp only [pyK, deepK, PyData.depthKv, py_deep p.2, py_deepK r, e]
    omega
end
section
variable {pins : List (Addr × Obj)} {s : Shared}
theorem pyK_keys : ∀ xs : List (Str × D), (pyK xs).map (·.1) = xs.map fun p => PyData.str p.1
  | [] => rfl
  | p :: r => by simp only [pyK, List.map_cons, pyK_keys r]
theorem pyK_vals : ∀ xs : List (Str × D), (pyK xs).map (·.2) = pyL (xs.map (·.2))
  | [] => rfl
  | p :: r => by simp only [pyK, List.map_cons, pyK_vals r, pyL]
theorem reads_keys {h : Heap} {P : Program} {w : World} : ∀ {es : List DictEntry} {vs : List (Key × Value)} {kvs : List (Key × V)} {rs : List (Str × D)}, Pairs (mixKind P w) es vs → KV kvs vs → DtK g al H kvs rs →
    ReadsAll h (es.map (·.key)) (rs.map fun p => PyData.str p.1) []
  | _, _, _, _, .nil, kv, l => by
    unfold KV at kv
    cases kv
    cases l
    exact .nil
  | _, _, _, _, .cons hk he t, kv, l => by
    unfold KV at kv
    cases kv with
    | cons h1 h2 =>
      cases l with
      | cons _ l =>
        have h1' := h1.1
        rw [← h1'] at hk
        obtain ⟨tk, e⟩ := Value.isStrOf_shape hk
        have q := reads_keys (h := h) t h2 l
        rw [List.map_cons, List.map_cons, e]
        exact .cons (as := []) (bs := []) (.str _ tk) q
theorem pairs_vals {P : Program} {w : World} : ∀ {es : List DictEntry} {vs : List (Key × Value)}, Pairs (mixKind P w) es vs → es.map (·.val) = vs.map (·.2)
  | _, _, .nil => rfl
  | _, _, .cons hk he t => by rw [List.map_cons, List.map_cons, he, pairs_vals t]
theorem kv_vals : ∀ {kvs : List (Key × V)} {vs : List (Key × Value)}, KV kvs vs → Vals (kvs.map (·.2)) (vs.map (·.2)) := by
  intro kvs vs r
  unfold KV at r
  induction r with
  | nil => exact .nil
  | cons h t ih => exact .cons h.2 ih
/-- where sys.modules stands there is a dict -/
def Smx (X : Cx) : Prop := ∃ o es ep, X.base.get? sysModules = some o ∧ o.data = .dict es ep
mutual
theorem reads (hK : g.K = X.K) (I : Inv X pins σ H s) (sm : Smx X) : ∀ (d : D) (v : V) (u : Value), Bt g al H v d → RelV v u → d.plain = true → ∃ as, Reads s.heap u d.py as ∧ sysModules ∉ as
  | .non, _, _, b, r, _ => by cases b.non; cases r; simp only [D.py]; exact ⟨_, .none, by simp⟩
  | .bl x, _, _, b, r, _ => by cases b.bl; cases r; simp only [D.py]; exact ⟨_, .bool x, by simp⟩
  | .int x, _, _, b, r, _ => by cases b.int; obtain ⟨t, rfl⟩ := r; simp only [D.py]; exact ⟨_, .int x t, by simp⟩
  | .str x, _, _, b, r, _ => by cases b.str; obtain ⟨t, rfl⟩ := r; simp only [D.py]; exact ⟨_, .str x t, by simp⟩
  | .fn _, _, _, _, _, p => by simp [D.plain] at p
  | .obj _, _, _, _, _, p => by simp [D.plain] at p
  | .tup xs, _, _, b, r, p => by
    obtain ⟨a, vs, rfl, q, l⟩ := b.tup
    cases r
    obtain ⟨its, rv, ⟨o, ho, hc, n, hd⟩⟩ := is_tuple hK I q
    obtain ⟨as, h1, h2⟩ := readsL hK I sm xs vs its l rv (by simpa only [D.plain] using p)
    simp only [D.py]
    exact ⟨_, .tuple ho hc hd h1, h2⟩
  | .lst xs, _, _, b, r, p => by
    obtain ⟨a, vs, rfl, q, l⟩ := b.lst
    cases r
    obtain ⟨its, n, sl, rv, ho, z⟩ := lst_obj hK I q
    obtain ⟨as, h1, h2⟩ := readsL hK I sm xs vs its l rv (by simpa only [D.plain] using p)
    simp only [D.py]
    refine ⟨_, .list ho rfl rfl h1, ?_⟩
    simp only [List.mem_cons, not_or]
    refine ⟨fun e => ?_, h2⟩
    obtain ⟨o, es, ep, eo, ed⟩ := sm
    have := I.bk _ _ eo
    rw [e, ho] at this
    cases this
    cases ed
  | .dic rs, _, _, b, r, p => by
    obtain ⟨a, kvs, rfl, q, l⟩ := b.dic
    cases r
    obtain ⟨y, vs, kv, ⟨o, es, ep, ho, hx, hd, _, hp, _⟩, _⟩ := rd_dict I q
    simp only [D.py]
    have hv := pairs_vals hp
    obtain ⟨bs, h1, h2⟩ := readsK hK I sm rs kvs _ l (kv_vals kv) (by simpa only [D.plain] using p)
    rw [← hv] at h1
    refine ⟨_, .dict ho hx.1 hd (by rw [pyK_keys]; exact reads_keys hp kv l) (by rw [pyK_vals]; exact h1), ?_⟩
    simp only [List.append_nil, List.mem_append, List.mem_cons, List.not_mem_nil, or_false, not_or]
    exact ⟨fun e => by simp [e] at y, h2⟩
theorem readsL (hK : g.K = X.K) (I : Inv X pins σ H s) (sm : Smx X) : ∀ (xs : List D) (vs : List V) (us : List Value), DtL g al H vs xs → Vals vs us → plainL xs = true → ∃ as, ReadsAll s.heap us (pyL xs) as ∧ sysModules ∉ as
  | [], _, _, l, r, _ => by cases l; cases r; simp only [pyL]; exact ⟨_, .nil, by simp⟩
  | x :: xs, _, _, l, r, p => by
    simp only [Pi.plainL, Bool.and_eq_true] at p
    cases l with
    | cons h t =>
      cases r with
      | cons r1 r2 =>
        obtain ⟨as, h1, h2⟩ := reads hK I sm x _ _ (.inl h) r1 p.1
        obtain ⟨bs, h3, h4⟩ := readsL hK I sm xs _ _ t r2 p.2
        simp only [pyL]
        exact ⟨_, .cons h1 h3, by simp [h2, h4]⟩
theorem readsK (hK : g.K = X.K) (I : Inv X pins σ H s) (sm : Smx X) : ∀ (xs : List (Str × D)) (vs : List (Key × V)) (us : List Value), DtK g al H vs xs → Vals (vs.map (·.2)) us → plainK xs = true → ∃ as, ReadsAll s.heap us (pyL (xs.map (·.2))) as ∧ sysModules ∉ as
  | [], _, _, l, r, _ => by cases l; cases r; simp only [List.map_nil, pyL]; exact ⟨_, .nil, by simp⟩
  | p :: xs, _, _, l, r, pp => by
    simp only [plainK, Bool.and_eq_true] at pp
    cases l with
    | cons h t =>
      cases r with
      | cons r1 r2 =>
        obtain ⟨as, h1, h2⟩ := reads hK I sm _ _ _ (.inl h) r1 pp.1
        obtain ⟨bs, h3, h4⟩ := readsK hK I sm xs _ _ t r2 pp.2
        simp only [List.map_cons, pyL]
        exact ⟨_, .cons h1 h3, by simp [h2, h4]⟩
end

theorem call_reprQ (G : XG g X) (hg : X.A.guards = some []) (sm : Smx X) : CallR X (.builtin "repr") (r1D g (biD .repr)) := by
  intro pins s σ H xs us Q I r h
  obtain ⟨al, x, d, dz, rfl, bx, e, q⟩ := h
  obtain ⟨u, rfl, ru⟩ := vals1 r
  simp only [biD] at e
  split at e
  · rename_i hc
    cases e
    obtain ⟨h1, h2, h3, h4⟩ := hc
    have room := G.room
    have q' := q _ (.str d.py.shown)
    obtain ⟨as, hr, hn⟩ := reads G.hK I sm d x u bx ru h1
    have fin : ∀ {y : Str} {tk : Tok} {n : Nat}, y = d.py.shown → EP X pins σ Q (.str y tk) { s with toks := n } := fun {y tk n} ey => ⟨.str d.py.shown, H, I.tok n, ⟨tk, by rw [ey]⟩, q'⟩
    cases d with
    | non => cases bx.non; cases ru; exact PySem.P.repr_of_none (fin (by simp only [D.py, PyData.shown]))
    | bl b => cases bx.bl; cases ru; exact PySem.P.repr_of_bool (fin (by simp only [D.py, PyData.shown]))
    | int i =>
      cases bx.int
      obtain ⟨t, rfl⟩ := ru
      refine PySem.P.repr_of_int ?_ (fin (by simp only [D.py, PyData.shown]))
      simpa only [D.py, PyData.showable, decide_eq_true_eq] using h2
    | str y =>
      cases bx.str
      obtain ⟨t, rfl⟩ := ru
      refine PySem.P.repr_of_str (fin (by simp only [D.py, PyData.shown])) ?_
      simpa only [D.py, PyData.shown] using h3
    | fn _ => simp [D.plain] at h1
    | obj _ => simp [D.plain] at h1
    | tup ds =>
      obtain ⟨a, vs, rfl, _, _⟩ := bx.tup
      cases ru
      exact repr_of_reads' hr h2 (fun _ => hn) hg (by rw [py_deep]; omega) (fun _ _ e => e) (fun h' u' tk hk => ⟨.str _, H, I.kept hk, ⟨u', rfl⟩, q'⟩) h3
    | lst ds =>
      obtain ⟨a, vs, rfl, _, _⟩ := bx.lst
      cases ru
      exact repr_of_reads' hr h2 (fun _ => hn) hg (by rw [py_deep]; omega) (fun _ _ e => e) (fun h' u' tk hk => ⟨.str _, H, I.kept hk, ⟨u', rfl⟩, q'⟩) h3
    | dic ds =>
      obtain ⟨a, vs, rfl, _, _⟩ := bx.dic
      cases ru
      exact repr_of_reads' hr h2 (fun _ => hn) hg (by rw [py_deep]; omega) (fun _ _ e => e) (fun h' u' tk hk => ⟨.str _, H, I.kept hk, ⟨u', rfl⟩, q'⟩) h3
  · cases e
end

/-! ### items, parts -/
theorem ixd_eq (n : Nat) (i : Int) : ixd n i = ixN n i := rfl
/-- a sequence's item -/
def rSub (g : GC) : R2 := fun x y H Q => ∃ al dx i dz, Bt g al H x dx ∧ y = .int i ∧ subD dx (.int i) = some dz ∧ ∀ v, Dt g al H v dz → Q v H
theorem atI_of {al : Al} {vs : List V} {ds : List D} {i : Int} {dz : D} (l : DtL g al H vs ds) (e : ((ixd ds.length i).bind fun j => ds[j]?) = some dz) : ∃ v, atI vs i = some v ∧ Dt g al H v dz := by
  rw [ixd_eq, ← l.length] at e
  cases ex : ixN vs.length i with
  | none => rw [ex] at e; cases e
  | some j =>
    rw [ex] at e
    obtain ⟨v, ev, dv⟩ := l.get (i := j) e
    exact ⟨v, by unfold atI; rw [ex]; exact ev, dv⟩
theorem ix_seqQ (G : XG g X) : IxR X (rSub g) := by
  intro value slice pins s σ H x y v u Q I rx ry h hs
  obtain ⟨al, dx, i, dz, bx, rfl, e, q⟩ := h
  have hK := G.hK
  cases dx with
  | lst ds =>
    obtain ⟨a, vs, rfl, q1, l⟩ := bx.lst
    obtain ⟨w, e1, dw⟩ := atI_of l (by simpa only [subD] using e)
    exact ix_list value slice pins s σ H _ _ v u Q I rx ry ⟨a, vs, i, w, rfl, rfl, hK ▸ q1, e1, q w dw⟩ hs
  | tup ds =>
    obtain ⟨a, vs, rfl, q1, l⟩ := bx.tup
    obtain ⟨w, e1, dw⟩ := atI_of l (by simpa only [subD] using e)
    exact ix_tup value slice pins s σ H _ _ v u Q I rx ry ⟨a, vs, i, w, rfl, rfl, hK ▸ q1, e1, q w dw⟩ hs
  | str z =>
    cases bx.str
    simp only [subD] at e
    split at e
    · rename_i hz
      cases ec : ((ixd z.cps.toList.length i).bind fun j => z.cps.toList[j]?) with
      | none => rw [ec] at e; cases e
      | some c =>
        rw [ec] at e
        cases e
        exact ix_str value slice pins s σ H _ _ v u Q I rx ry ⟨z, i, c, rfl, rfl, hz, ec, q _ (.str _)⟩ hs
    · cases e
  | _ => cases e
theorem cut_sIx (n d : Nat) : ∀ (x : D) (j : Nat), cut n d x = some j → ∃ o, (x = .non ∧ o = none ∨ ∃ i, x = .int i ∧ o = some i) ∧ HT.sIx n d o = j
  | .non, j, h => by cases h; exact ⟨none, .inl ⟨rfl, rfl⟩, rfl⟩
  | .int i, j, h => by cases h; exact ⟨some i, .inr ⟨i, rfl, rfl⟩, rfl⟩
  | .bl _, _, h => by cases h
  | .str _, _, h => by cases h
  | .fn _, _, h => by cases h
  | .obj _, _, h => by cases h
  | .tup _, _, h => by cases h
  | .lst _, _, h => by cases h
  | .dic _, _, h => by cases h
def optD : Option Int → D
  | none => .non
  | some i => .int i
def rSl (g : GC) : V → Option Int → Option Int → Hp → VK → Prop := fun x lo hi H Q => ∃ al dx dz, Bt g al H x dx ∧ sliceD dx (optD lo) (optD hi) = some dz ∧ Res g al H dz Q
theorem sl_Q (G : XG g X) : SlR X (rSl g) := by
  intro pins s σ H x v vl vu lo hi sl Q I rx hs pl pu h
  obtain ⟨al, dx, dz, bx, e, q⟩ := h
  have hK := G.hK
  cases dx with
  | lst ds =>
    obtain ⟨a, vs, rfl, q1, l⟩ := bx.lst
    simp only [sliceD] at e
    have c1 : ∀ n d (o : Option Int), cut n d (optD o) = some (HT.sIx n d o) := fun n d o => by cases o <;> rfl
    rw [c1, c1] at e
    cases e
    refine sl_list pins s σ H _ v vl vu lo hi sl Q I rx hs pl pu ⟨a, vs, rfl, hK ▸ q1, fun p n => q p _ n ?_⟩
    unfold cutV
    rw [l.length]
    exact (l.drop _).take _
  | tup ds =>
    obtain ⟨a, vs, rfl, q1, l⟩ := bx.tup
    simp only [sliceD] at e
    have c1 : ∀ n d (o : Option Int), cut n d (optD o) = some (HT.sIx n d o) := fun n d o => by cases o <;> rfl
    rw [c1, c1] at e
    simp only [Option.bind_some] at e
    split at e
    · cases e
    · rename_i hw
      cases e
      refine sl_tup pins s σ H _ v vl vu lo hi sl Q I rx hs pl pu ⟨a, vs, rfl, hK ▸ q1, by rw [l.length]; exact hw, fun p n => q.2 p _ n ?_⟩
      unfold cutV
      rw [l.length]
      exact (l.drop _).take _
  | str z =>
    cases bx.str
    simp only [sliceD] at e
    split at e
    · rename_i hz
      refine C8.sl_txt pins s σ H _ v vl vu lo hi sl Q I rx hs pl pu ⟨z, rfl, hz, ?_⟩
      cases lo <;> cases hi <;> (cases e; exact q _ (.str _))
    · cases e
  | _ => cases e
end
end Pi

/-! PiG: promises of defs where no guard stands around (so that repr is known to begin). -/
namespace Pi
open PySem L2 PySem.Spec PyProof.Rows
/-- a def's promise, where no guard stands -/
structure FnG (P : Program) (w : World) (K : PySem.W.Frag) (mg : Str → Option Value) (base : Heap) (CX : CXT) (k : Nat) (f : Addr) (fd : FuncData) (ps : List Str) (sp : Sp) : Prop where
  len : ∀ vs H Q E, sp vs H Q E → vs.length = ps.length
  run : ∀ (A : Around) (outer : List Env) (s : Shared) (H : Hp) (args : Args) (us : List Value) (vs : List V) (Q : VK) (E : XK), Room k A → A.guards = some [] → Env0 P w K mg base A outer s H →
    BindsTo s fd args (ps.zip us) → Vals vs us → sp vs H Q E → codeAny (model P w) A (.call (.ref f) args) (CR CX outer P w H s Q E) s
section
variable {P : Program} {w : World} {K : PySem.W.Frag} {mg : Str → Option Value} {base : Heap}
variable {X : Cx} {CX : CXT} {k : Nat} {f C : Addr} {fd : FuncData} {ps : List Str} {sp : Sp} {E : L2.St → XK} {x : Str} {p pos : Pos} {e : Expr} {es : List Expr} {t : TA}
theorem run_fnG {pins : List (Addr × Obj)} {σ : L2.St} {H : Hp} {s : Shared} {Q : VK} {us : List Value} {vs : List V} (F : FnG X.prog X.w X.K X.mg X.base CX k f fd ps sp) (gd : X.A.guards = some []) (hr : Room k X.A) (hb : Binds X.K fd ps [])
    (hx : PassesAt CX X σ (E σ)) (I : Inv X pins σ H s) (r : Vals vs us) (h : sp vs H Q (E σ)) : wpAny (model X.prog X.w) X.A (call (.ref f) us) (EP X pins σ Q) X.xe s := by
  have hlen : us.length = ps.length := r.length ▸ F.len vs H Q (E σ) h
  have bnd := hb s us I.kIn (by simpa using hlen)
  simp only [List.append_nil] at bnd
  have run := F.run X.A X.stack s H ⟨us, []⟩ us vs Q (E σ) hr gd I.env0 bnd r h
  refine wpAny_call (codeAny_mono run fun out s' post => ?_)
  match out, post with
  | .error err, post => exact hx pins H s err s' I post
  | .ok (.ret u), post => exact I.after post
  | .ok .next, post => exact post.elim
  | .ok .brk, post => exact post.elim
  | .ok .cont, post => exact post.elim
theorem pe_callG (F : FnG X.prog X.w X.K X.mg X.base CX k f fd ps sp) (gd : X.A.guards = some []) (hr : Room k X.A) (hg : Gl X x) (hm : X.mg x = some (.ref f)) (hk : PySem.W.keepIn X.K (.ref f) = true) (hb : Binds X.K fd ps [])
    (hx : ∀ σ, PassesAt CX X σ (E σ)) (ha : PA X (e :: es) t) (hdb : (x == ("__debug__" : Str)) = false) (he : starEach (e :: es) X.env = (false, eval e X.env) :: starEach es X.env)
    (hpl : (backTo pos (starEach es X.env)).any (·.1) = false) : PE X (.Call (.Name x p) (e :: es) [] pos) (tCallS sp E t) := by
  constructor
  intro pins s σ H Q I h
  have args := ha.run pos pins s σ H _ I h
  refine wpAny_Call_Name_kw (ld_glob I hg hm (PySem.W.callWith_K (h₀ := X.base) I.ok.mod.kin hk (thn args ?_) he hpl) hdb)
  rintro us s1 ⟨vs, H1, I1, r, q⟩
  exact ⟨I1.kIn, run_fnG F gd hr hb (hx σ) I1 r q⟩
/-- a new instance -/
theorem run_makeG {E0 : XK} {pins : List (Addr × Obj)} {σ : L2.St} {H : Hp} {s : Shared} {Q : VK} {us : List Value} {vs : List V} (M : Mk X.K C f) (F : FnG X.prog X.w X.K X.mg X.base CX k f fd ps sp) (gd : X.A.guards = some []) (hr : Room (k + 1) X.A)
    (hb : Binds X.K fd ps []) (hx : Passes CX X E0) (I : Inv X pins σ H s) (r : Vals vs us)
    (h : ∀ x dx, H x = none → H dx = none → dx ≠ x → sp (.ref x :: vs) (upd (upd H dx (.own x)) x (.ins C dx [])) (fun v H2 => v = .non ∧ Q (.ref x) H2) E0) :
    wpAny (model X.prog X.w) X.A (call (.ref C) us) (EP X pins σ Q) X.xe s := by
  generalize hz : s.heap.objs.size = z at h
  have hq := h (z + 1) z (hz ▸ I.hok.fresh (Nat.le_succ _)) (hz ▸ I.hok.fresh (Nat.le_refl _)) (Nat.ne_of_lt (Nat.lt_succ_self _))
  have J := Inv.made (C := C) I
  rw [hz] at J
  have rv : Vals (V.ref (z + 1) :: vs) (Value.ref (z + 1) :: us) := .cons rfl r
  have hlen : (Value.ref (z + 1) :: us).length = ps.length := by rw [← rv.length]; exact F.len _ _ _ _ hq
  have bnd := hb _ (Value.ref (z + 1) :: us) J.kIn (by simpa using hlen)
  simp only [List.append_nil] at bnd
  have gd' : (X.A.under (.builtin "type.__call__" ⟨.ref C :: us, []⟩)).guards = some [] := by
    unfold Around.under
    simp only [gd]
    rfl
  have run := F.run _ X.stack _ _ ⟨Value.ref (z + 1) :: us, []⟩ _ _ _ E0 (hr.make C us []) gd' (J.env0.make C us []) bnd rv hq
  subst hz
  refine wpAny_call (make_map (f := f) I.kIn M.makes M.init (beq_iff_eq.mp M.fn) (codeAny_mono run fun out s' post => ?_))
  match out, post with
  | .error err, post => exact hx pins σ _ _ err s' J post
  | .ok (.ret u), post =>
    obtain ⟨v, H', I3, rv, ev, q3⟩ := J.after post
    subst ev
    exact ⟨rv, V.ref _, H', I3, rfl, q3⟩
  | .ok .next, post => exact post.elim
  | .ok .brk, post => exact post.elim
  | .ok .cont, post => exact post.elim

theorem pe_makeG {E0 : XK} (M : Mk X.K C f) (F : FnG X.prog X.w X.K X.mg X.base CX k f fd ps sp) (gd : X.A.guards = some []) (hr : Room (k + 1) X.A) (hg : Gl X x) (hm : X.mg x = some (.ref C)) (hb : Binds X.K fd ps []) (hx : Passes CX X E0)
    (ha : PA X (e :: es) t) (hdb : (x == ("__debug__" : Str)) = false) (he : starEach (e :: es) X.env = (false, eval e X.env) :: starEach es X.env) (hpl : (backTo pos (starEach es X.env)).any (·.1) = false) :
    PE X (.Call (.Name x p) (e :: es) [] pos) (fun σ H Q => t σ H fun vs H1 => ∀ x dx, H1 x = none → H1 dx = none → dx ≠ x → sp (.ref x :: vs) (upd (upd H1 dx (.own x)) x (.ins C dx [])) (fun v H2 => v = .non ∧ Q (.ref x) H2) E0) := by
  constructor
  intro pins s σ H Q I h
  have args := ha.run pos pins s σ H _ I h
  refine wpAny_Call_Name_kw (ld_glob I hg hm (PySem.W.callWith_K (h₀ := X.base) I.ok.mod.kin M.kp (thn args ?_) he hpl) hdb)
  rintro us s1 ⟨vs, H1, I1, r, q⟩
  exact ⟨I1.kIn, run_makeG M F gd hr hb hx I1 r q⟩
/-- a def by its body -/
theorem fn_ofG {name qual : Str} {params : Arguments} {body : List Stmt} {scope : Scope} {dV kV doc pm cdv ct oc : Value} {an od : Option Addr} {osl : Array (Option Value)} {N : List Str} (lk : K.lookup f = some ⟨oc, od, .func (PySem.W.fnOf name qual params body scope dV kV doc pm an cdv ct), osl⟩)
    (hcd : PySem.W.codeIn K cdv qual = true) (S : FnScope N ps scope) (len : ∀ vs H Q E, sp vs H Q E → vs.length = ps.length)
    (hbody : ∀ (A : Around) (outer : List Env) (s : Shared) (H : Hp) (vs : List V) (Q : VK) (E : XK), A.guards = some [] → Room k (A.deeper (envOfC qual scope s.heap.objs.size f cdv)) → Mod K mg base → sp vs H Q E →
      ∃ t, PSs (cxOf CX P w K mg base N qual scope f cdv A outer s H E) body t ∧ t { nx := fun _ H' => Q .non H', rt := Q } (start N vs) H) :
    FnG P w K mg base CX (k + 1) f (PySem.W.fnOf name qual params body scope dV kV doc pm an cdv ct) ps sp := by
  constructor
  · exact len
  intro A outer s H args us vs Q E hr gd e0 hb r hsp
  have hl := len _ _ _ _ hsp
  have inK : K.In s.heap := e0.mod.kin.keeps fun b o q => (e0.bs b o q).1
  have nolim : s.heap.NoLimit := e0.mod.nolimit.keeps fun b o q => (e0.bs b o q).1
  have kinds : ∀ y ∈ ps.zip us, scope.names.lookup y.1 = some .local ∨ (scope.names.lookup y.1 = some .cell ∧ ((cellsFrom (s.heap.objs.size + 1) scope.names []).lookup y.1).isSome = true) := by
    rintro ⟨n, v⟩ hy
    refine (S.par n (List.of_mem_zip hy).1).imp id fun q => ⟨q, ?_⟩
    exact PySem.W.cellsFrom_some _ _ _ (.inl q)
  refine codeAny_call_function hr.depth (inK _ _ lk) rfl S.co S.gen rfl (PySem.W.codeRec_of inK hcd) (hb _ _ _ _ (wpAny_newFunctionEnv_cells S.kind kinds ?_))
  intro env he s1 x
  subst he
  refine ⟨nolim.keeps x.toInCall.keep, codeAny_func ?_⟩
  obtain ⟨t, ht, hq⟩ := hbody A outer s H vs Q E gd (hr.deeper _) e0.mod hsp
  have I0 := inv_start (CX := CX) (E := E) S hr.hd e0 hl r x
  refine wpAny_mono (ht.run [] s1 (start N vs) H _ I0 hq) (fun fl s' hs => ?_) fun _ _ z => z
  match fl, hs with
  | .ret u, ⟨v, σ', H', J, rv, q⟩ => exact ⟨v, H', J.os, J.bare, J.base, J.hok, rv, q⟩
  | .next, ⟨σ', H', J, q⟩ => exact ⟨V.non, H', J.os, J.bare, J.base, J.hok, rfl, q⟩
  | .brk, ⟨_, _, _, q⟩ => exact q.elim
  | .cont, ⟨_, _, _, q⟩ => exact q.elim
end
end Pi

/-! Pi7: the rules for expressions, by data. -/
namespace Pi
open PySem L2 PySem.Spec PyProof.Rows
section
variable {g : GC} {al al' al0 : Al} {H H' H0 Hs : Hp} {S S' : Sto} {r : Rho} {σ : L2.St} {W : WX} {X : Cx} {Φ : Phi}
variable {a b c : Expr} {m ma mb mc : Rho → Sto → Out D} {pos : Pos}

theorem TR.bad {R : RR D} {m : Rho → Sto → Out D} (h : ∀ r S, m r S = .bad) {σ : L2.St} {H : Hp} {Q : VK} (q : TR g W R m σ H Q) : False := by
  obtain ⟨H0, al0, al, r, S, rs, q⟩ := q
  rw [h] at q
  exact q
/-- data may be read -/
theorem PE.toB {e : Expr} (h : PE X e (TR g W (RV g) m)) : PE X e (TR g W (RB g) m) := by
  refine PE.imp h ?_
  rintro σ H Q ⟨H0, al0, al, r, S, rs, q⟩
  refine ⟨H0, al0, al, r, S, rs, ?_⟩
  cases e : m r S with
  | bad => rw [e] at q; exact q
  | exc c S' => rw [e] at q; exact q
  | ok d S' => rw [e] at q; exact fun H' al' v rs' k p x => q H' al' v rs' k p (.inl x)
theorem PE.FtoB {e : Expr} (h : PE X e (TR g W (RF g) m)) : PE X e (TR g W (RB g) m) := by
  refine PE.imp h ?_
  rintro σ H Q ⟨H0, al0, al, r, S, rs, q⟩
  refine ⟨H0, al0, al, r, S, rs, ?_⟩
  cases e : m r S with
  | bad => rw [e] at q; exact q
  | exc c S' => rw [e] at q; exact q
  | ok d S' => rw [e] at q; exact fun H' al' v rs' k p x => q H' al' v rs' k p (RF.bp x)
/-- a value that is no list and no dict -/
theorem PE.FtoV {e : Expr} (h : PE X e (TR g W (RF g) m)) : PE X e (TR g W (RV g) m) := PE.frz h

/-! ### names, constants -/
theorem s_varV {i : Nat} {x : Str} (hN : X.N[i]? = some x) (hv : Vis X.env.scope x) (hd : (x == ("__debug__" : Str)) = false) (hc : (x == ("__classdict__" : Str)) = false) : PE X (.Name x pos) (TR g W (RV g) (ev Φ (.var i))) := by
  refine PE.imp (pe_var hN hv hd hc) ?_
  rintro σ H Q ⟨H0, al0, al, r, S, rs, q⟩
  simp only [ev] at q
  split at q
  · rename_i d e
    obtain ⟨v, ev, k⟩ := rs.sl i _ e
    exact ⟨v, ev, q.here rs k⟩
  · exact q.elim
theorem s_varB {i : Nat} {x : Str} (hN : X.N[i]? = some x) (hv : Vis X.env.scope x) (hd : (x == ("__debug__" : Str)) = false) (hc : (x == ("__classdict__" : Str)) = false) (o : Rho → Sto → Out D) : PE X (.Name x pos) (TR g W (RB g) fun r S => rd (.var i) r S (o r S)) := by
  refine PE.imp (pe_var hN hv hd hc) ?_
  rintro σ H Q ⟨H0, al0, al, r, S, rs, q⟩
  simp only [rd] at q
  obtain ⟨d, ed, q⟩ := q.lift
  unfold look at ed
  split at ed
  · rename_i d' e
    cases ed
    obtain ⟨v, ev, k⟩ := rs.sl i _ e
    exact ⟨v, ev, q.here rs (SlOk.bp k rfl)⟩
  · rename_i d' e
    cases ed
    obtain ⟨v, ev, k⟩ := rs.sl i _ e
    exact ⟨v, ev, q.here rs (SlOk.bp k rfl)⟩
  · rename_i d' e
    cases ed
    obtain ⟨v, ev, k⟩ := rs.sl i _ e
    exact ⟨v, ev, q.here rs (SlOk.bp k rfl)⟩
  · cases ed
/-- a value that is always the same -/
theorem s_const {e : Expr} {v : V} {d : D} (h : PE X e (tC v)) (hd : ∀ al H, Dt g al H v d) : PE X e (TR g W (RV g) fun _ S => .ok d S) := by
  refine PE.imp h ?_
  rintro σ H Q ⟨H0, al0, al, r, S, rs, q⟩
  exact q.here rs (hd al H)

/-! ### operators -/
theorem s_bin (G : XG g X) (o : O2) (ha : PE X a (TR g W (RB g) ma)) (hb : PE X b (TR g W (RB g) mb)) :
    PE X (.BinOp a (opOf o) b pos) (TR g W (RF g) fun r S => (ma r S).bnd fun x S => (mb r S).bnd fun y S => lift (o2D o (der S x) (der S y)) S) :=
  PE.imp (pe_op (op_bin G o) ha hb) op2_of
theorem s_neg (ha : PE X a (TR g W (RV g) ma)) : PE X (.UnaryOp .USub a pos) (TR g W (RV g) fun r S => (ma r S).bnd fun x S => match x with | .int i => .ok (.int (-i)) S | _ => .bad) := by
  refine PE.imp (pe_un un_neg ha) ?_
  rintro σ H Q ⟨H0, al0, al, r, S, rs, h⟩
  refine ⟨H0, al0, al, r, S, rs, (h.bnd (R1 := RV g H)).imp ?_⟩
  rintro vx H1 ⟨al1, x, S1, rs1, k1, p1, b1, h⟩
  cases x <;> try exact h.elim
  cases b1
  exact ⟨_, rfl, h.here rs1 (.int _)⟩
theorem cm_of {ma mb : Rho → Sto → Out D} {f : D → D → Option Bool} : ∀ σ H Q, TR g W (RV g) (fun r S => (ma r S).bnd fun x S => (mb r S).bnd fun y S => (lift (f (der S x) (der S y)) S).bnd fun k S => .ok (.bl k) S) σ H Q →
    tOp (rCm g f) (TR g W (RB g) ma) (TR g W (RB g) mb) σ H Q := by
  rintro σ H Q ⟨H0, al0, al, r, S, rs, h⟩
  refine ⟨H0, al0, al, r, S, rs, (h.bnd (R1 := RB g H)).imp ?_⟩
  rintro vx H1 ⟨al1, x, S1, rs1, k1, p1, b1, h⟩
  refine ⟨H0, al0, al1, r, S1, rs1, (h.bnd (R1 := RB g H1)).imp ?_⟩
  rintro vy H2 ⟨al2, y, S2, rs2, k2, p2, b2, h⟩
  cases e : f (der S2 x) (der S2 y) with
  | none => rw [e] at h; exact h.elim
  | some k =>
    rw [e] at h
    exact ⟨al2, _, _, k, (Bp.mono k2 p2 b1).der rs2.sto, Bp.der b2 rs2.sto, e, h.here rs2 (.bl k)⟩
theorem s_cmp (G : XG g X) (o : Cm) (ha : PE X a (TR g W (RB g) ma)) (hb : PE X b (TR g W (RB g) mb)) (hm : behindInMarks (cmOf o) b = false) :
    PE X (.Compare a [cmOf o] [b] pos) (TR g W (RV g) fun r S => (ma r S).bnd fun x S => (mb r S).bnd fun y S => (lift (cmD o (der S x) (der S y)) S).bnd fun k S => .ok (.bl k) S) :=
  PE.imp (pe_cmpR (op_cm G o) ha hb hm) cm_of
theorem s_isN {j pos'} (ha : PE X a (TR g W (RB g) ma)) : PE X (.Compare a [.Is] [.Constant .none j pos'] pos) (TR g W (RV g) fun r S => (ma r S).bnd fun x S => .ok (.bl (match x with | .non => true | _ => false)) S) := by
  refine PE.imp (pe_cmp (pc_isN ha) rfl) ?_
  rintro σ H Q ⟨H0, al0, al, r, S, rs, h⟩
  refine ⟨H0, al0, al, r, S, rs, (h.bnd (R1 := RB g H)).imp ?_⟩
  rintro vx H1 ⟨al1, x, S1, rs1, k1, p1, b1, h⟩
  have q := h.here (v := .bl (decide (vx = .non))) rs1 (by rw [Bt.nn (Bp.bt b1)]; cases x <;> exact .bl _)
  exact q
theorem s_notN {j pos'} (ha : PE X a (TR g W (RB g) ma)) : PE X (.Compare a [.IsNot] [.Constant .none j pos'] pos) (TR g W (RV g) fun r S => (ma r S).bnd fun x S => .ok (.bl (match x with | .non => false | _ => true)) S) := by
  refine PE.imp (pe_cmp (pc_notN ha) rfl) ?_
  rintro σ H Q ⟨H0, al0, al, r, S, rs, h⟩
  refine ⟨H0, al0, al, r, S, rs, (h.bnd (R1 := RB g H)).imp ?_⟩
  rintro vx H1 ⟨al1, x, S1, rs1, k1, p1, b1, h⟩
  have q := h.here (v := .bl (!decide (vx = .non))) rs1 (by rw [Bt.nn (Bp.bt b1)]; cases x <;> exact .bl _)
  exact q
theorem s_chain (G : XG g X) (o p : Cm) (ha : PE X a (TR g W (RB g) ma)) (hb : PE X b (TR g W (RB g) mb)) (hc : PE X c (TR g W (RB g) mc)) (hm : lastMarks [cmOf o, cmOf p] [b, c] = false) :
    PE X (.Compare a [cmOf o, cmOf p] [b, c] pos) (TR g W (RV g) fun r S => (ma r S).bnd fun x S => (mb r S).bnd fun y S => (lift (cmD o (der S x) (der S y)) S).bnd fun k S =>
      if k = true then (mc r S).bnd fun z S => (lift (cmD p (der S y) (der S z)) S).bnd fun k S => .ok (.bl k) S else .ok (.bl false) S) := by
  refine PE.imp (pe_chain (op_cm G o) (op_cm G p) ha hb hc hm) ?_
  rintro σ H Q ⟨H0, al0, al, r, S, rs, h⟩
  refine ⟨H0, al0, al, r, S, rs, (h.bnd (R1 := RB g H)).imp ?_⟩
  rintro vx H1 ⟨al1, x, S1, rs1, k1, p1, b1, h⟩
  refine ⟨H0, al0, al1, r, S1, rs1, (h.bnd (R1 := RB g H1)).imp ?_⟩
  rintro vy H2 ⟨al2, y, S2, rs2, k2, p2, b2, h⟩
  cases e : cmD o (der S2 x) (der S2 y) with
  | none => rw [e] at h; exact h.elim
  | some k =>
    rw [e] at h
    refine ⟨al2, _, _, k, (Bp.mono k2 p2 b1).der rs2.sto, Bp.der b2 rs2.sto, e, k, rfl, ?_⟩
    cases k with
    | false => exact h.here rs2 (.bl false)
    | true =>
      refine ⟨H0, al0, al2, r, S2, rs2, (Pst.bnd (R1 := RB g H2) h).imp ?_⟩
      rintro vz H3 ⟨al3, z, S3, rs3, k3, p3, b3, h⟩
      cases e' : cmD p (der S3 y) (der S3 z) with
      | none => rw [e'] at h; exact h.elim
      | some k =>
        rw [e'] at h
        exact ⟨al3, _, _, k, (Bp.mono k3 p3 b2).der rs3.sto, Bp.der b3 rs3.sto, e', h.here rs3 (.bl k)⟩
/-- a datum's truth, at the place -/
theorem tru_at {x : D} {v : V} {k : Bool} (b : Bt g al H v x) (hK : g.K = X.K) (e : truD x = some k) : TruV X.K v H k ∨ ∃ a rs kvs, v = .ref a ∧ x = .dic rs ∧ Rd H a (.dK kvs) ∧ k = !kvs.isEmpty := by
  cases x with
  | non => cases b.non; cases e; exact .inl rfl
  | bl _ => cases b.bl; cases e; exact .inl rfl
  | int _ => cases b.int; cases e; exact .inl rfl
  | str _ =>
    cases b.str
    simp only [truD] at e
    split at e <;> cases e
    rename_i hz
    exact .inl ⟨hz, rfl⟩
  | fn _ => cases e
  | obj _ => cases e
  | tup ds =>
    obtain ⟨a, vs, rfl, q1, l⟩ := b.tup
    cases e
    exact .inl (.inr (.inl ⟨vs, hK ▸ q1, by cases l <;> rfl⟩))
  | lst ds =>
    obtain ⟨a, vs, rfl, q1, l⟩ := b.lst
    cases e
    exact .inl (.inl ⟨vs, hK ▸ q1, by cases l <;> rfl⟩)
  | dic ds =>
    obtain ⟨a, vs, rfl, q1, l⟩ := b.dic
    cases e
    exact .inr ⟨a, ds, vs, rfl, rfl, q1, by cases l <;> rfl⟩

/-! ### and, or, not; one side or the other -/
variable {rest : List Expr}
theorem s_one {op} (h : PE X a (TR g W (RV g) m)) : PE X (.BoolOp op [a] pos) (TR g W (RV g) m) := pe_one h
theorem s_and (G : XG g X) (ha : PE X a (TR g W (RV g) ma)) (hb : PE X (.BoolOp .And (b :: rest) pos) (TR g W (RV g) mb)) :
    PE X (.BoolOp .And (a :: b :: rest) pos) (TR g W (RV g) fun r S => (ma r S).bnd fun x S => (lift (truD (der S x)) S).bnd fun k S => if k = true then mb r S else .ok x S) := by
  refine ⟨fun pins s σ H Q I h => ?_⟩
  obtain ⟨H0, al0, al, r, S, rs, h⟩ := h
  refine BoolOp_and (thn (ha.run pins s σ H _ I ⟨H0, al0, al, r, S, rs, h.bnd (R1 := RV g H)⟩) ?_)
  rintro v s1 ⟨vx, H1, I1, r1, al1, x, S1, rs1, k1, p1, b1, h⟩
  cases e : truD (der S1 x) with
  | none => rw [e] at h; exact h.elim
  | some k =>
    rw [e] at h
    refine thn (tru_d G pins s1 σ H1 vx v (fun c H2 => c = k ∧ H2 = H1) I1 r1 ⟨al1, _, k, Bp.der (.inl b1) rs1.sto, e, rfl, rfl⟩) ?_
    rintro c s2 ⟨H2, I2, rfl, rfl⟩
    cases c with
    | true => exact hb.run pins s2 σ H2 Q I2 ⟨H0, al0, al1, r, S1, rs1, h⟩
    | false => exact ⟨vx, H2, I2, r1, h.here rs1 b1⟩
theorem s_or (G : XG g X) (ha : PE X a (TR g W (RV g) ma)) (hb : PE X (.BoolOp .Or (b :: rest) pos) (TR g W (RV g) mb)) :
    PE X (.BoolOp .Or (a :: b :: rest) pos) (TR g W (RV g) fun r S => (ma r S).bnd fun x S => (lift (truD (der S x)) S).bnd fun k S => if k = true then .ok x S else mb r S) := by
  refine ⟨fun pins s σ H Q I h => ?_⟩
  obtain ⟨H0, al0, al, r, S, rs, h⟩ := h
  refine BoolOp_or (thn (ha.run pins s σ H _ I ⟨H0, al0, al, r, S, rs, h.bnd (R1 := RV g H)⟩) ?_)
  rintro v s1 ⟨vx, H1, I1, r1, al1, x, S1, rs1, k1, p1, b1, h⟩
  cases e : truD (der S1 x) with
  | none => rw [e] at h; exact h.elim
  | some k =>
    rw [e] at h
    refine thn (tru_d G pins s1 σ H1 vx v (fun c H2 => c = k ∧ H2 = H1) I1 r1 ⟨al1, _, k, Bp.der (.inl b1) rs1.sto, e, rfl, rfl⟩) ?_
    rintro c s2 ⟨H2, I2, rfl, rfl⟩
    cases c with
    | true => exact ⟨vx, H2, I2, r1, h.here rs1 b1⟩
    | false => exact hb.run pins s2 σ H2 Q I2 ⟨H0, al0, al1, r, S1, rs1, h⟩
theorem s_not (G : XG g X) (ha : PE X a (TR g W (RB g) ma)) :
    PE X (.UnaryOp .Not a pos) (TR g W (RV g) fun r S => (ma r S).bnd fun x S => (lift (truD (der S x)) S).bnd fun k S => .ok (.bl (!k)) S) := by
  refine ⟨fun pins s σ H Q I h => ?_⟩
  obtain ⟨H0, al0, al, r, S, rs, h⟩ := h
  refine UnaryOp_ (thn (ha.run pins s σ H _ I ⟨H0, al0, al, r, S, rs, h.bnd (R1 := RB g H)⟩) ?_)
  rintro v s1 ⟨vx, H1, I1, r1, al1, x, S1, rs1, k1, p1, b1, h⟩
  cases e : truD (der S1 x) with
  | none => rw [e] at h; exact h.elim
  | some k =>
    rw [e] at h
    refine not_of (thn (tru_d G pins s1 σ H1 vx v (fun c H2 => c = k ∧ H2 = H1) I1 r1 ⟨al1, _, k, Bp.der b1 rs1.sto, e, rfl, rfl⟩) ?_)
    rintro c s2 ⟨H2, I2, rfl, rfl⟩
    exact ⟨.bl (!c), H2, I2, rfl, h.here rs1 (.bl _)⟩
variable {mt mu : Rho → Sto → Out Bool}
theorem s_ite (hc : PT X c (TT' g W mt)) (ha : PE X a (TR g W (RV g) ma)) (hb : PE X b (TR g W (RV g) mb)) :
    PE X (.IfExp c a b pos) (TR g W (RV g) fun r S => (mt r S).bnd fun k S => if k = true then ma r S else mb r S) := by
  refine PE.imp (pe_ifExp hc ha hb) ?_
  rintro σ H Q ⟨H0, al0, al, r, S, rs, h⟩
  refine ⟨H0, al0, al, r, S, rs, (h.bnd (R1 := fun _ _ (b : Bool) d => b = d)).imp ?_⟩
  rintro k H1 ⟨al1, x, S1, rs1, k1, p1, rfl, h⟩
  have mv : ∀ {o : Out D}, Pst g W H0 al0 r σ al1 H1 (RV g H) o Q → Pst g W H0 al0 r σ al1 H1 (RV g H1) o Q := fun {o} h => h
  cases k with
  | true => exact ⟨H0, al0, al1, r, S1, rs1, mv h⟩
  | false => exact ⟨H0, al0, al1, r, S1, rs1, mv h⟩

/-! ### tests -/
theorem t_yes_of {e : Expr} (G : XG g X) (ha : PE X e (TR g W (RB g) ma)) (he : ∀ whole, isTrue e X.env whole = (do let v ← whole; standAt e.pos; holding [v] (truthy v))) :
    PT X e (TT' g W fun r S => (ma r S).bnd fun x S => lift (truD (der S x)) S) := by
  refine ⟨fun pins s σ H Q I h => ?_⟩
  obtain ⟨H0, al0, al, r, S, rs, h⟩ := h
  refine isTrue_plain (thn (ha.run pins s σ H _ I ⟨H0, al0, al, r, S, rs, h.bnd (R1 := RB g H)⟩) ?_) (he _)
  rintro v s1 ⟨vx, H1, I1, r1, al1, x, S1, rs1, k1, p1, b1, h⟩
  obtain ⟨k, e, h⟩ := h.lift
  exact tru_d G pins s1 σ H1 vx v Q I1 r1 ⟨al1, _, k, Bp.der b1 rs1.sto, e, h.here rs1 rfl⟩
theorem tru_bl (k : Bool) : truD (.bl k) = some k := rfl
theorem Out.bnd_assoc {α β γ : Type} (o : Out α) (f : α → Sto → Out β) (k : β → Sto → Out γ) : (o.bnd f).bnd k = o.bnd fun x S => (f x S).bnd k := by cases o <;> rfl
theorem bl_tru {α : Type} (o : Out Bool) : ((o.bnd fun k S => .ok (.bl k) S).bnd fun x S => lift (truD (der S x)) S) = o := by cases o <;> rfl
/-- a comparison as a test -/
theorem t_cmp (G : XG g X) (o : Cm) (ha : PE X a (TR g W (RB g) ma)) (hb : PE X b (TR g W (RB g) mb)) (hm : behindInMarks (cmOf o) b = false) :
    PT X (.Compare a [cmOf o] [b] pos) (TT' g W fun r S => (ma r S).bnd fun x S => (mb r S).bnd fun y S => lift (cmD o (der S x) (der S y)) S) := by
  refine PT.imp (pt_cmpR (op_cm G o) ha hb hm) ?_
  rintro σ H Q ⟨H0, al0, al, r, S, rs, h⟩
  refine ⟨H0, al0, al, r, S, rs, (h.bnd (R1 := RB g H)).imp ?_⟩
  rintro vx H1 ⟨al1, x, S1, rs1, k1, p1, b1, h⟩
  refine ⟨H0, al0, al1, r, S1, rs1, (h.bnd (R1 := RB g H1)).imp ?_⟩
  rintro vy H2 ⟨al2, y, S2, rs2, k2, p2, b2, h⟩
  obtain ⟨k, e, h⟩ := h.lift
  exact ⟨al2, _, _, k, (Bp.mono k2 p2 b1).der rs2.sto, Bp.der b2 rs2.sto, e, k, rfl, h.here rs2 rfl⟩
theorem t_isN {j pos'} (ha : PE X a (TR g W (RB g) ma)) : PT X (.Compare a [.Is] [.Constant .none j pos'] pos) (TT' g W fun r S => (ma r S).bnd fun x S => .ok (match x with | .non => true | _ => false) S) := by
  refine PT.imp (pt_cmp (pc_isN ha) rfl) ?_
  rintro σ H Q ⟨H0, al0, al, r, S, rs, h⟩
  refine ⟨H0, al0, al, r, S, rs, (h.bnd (R1 := RB g H)).imp ?_⟩
  rintro vx H1 ⟨al1, x, S1, rs1, k1, p1, b1, h⟩
  exact ⟨_, rfl, h.here rs1 (by rw [Bt.nn (Bp.bt b1)]; cases x <;> rfl)⟩
theorem t_notN {j pos'} (ha : PE X a (TR g W (RB g) ma)) : PT X (.Compare a [.IsNot] [.Constant .none j pos'] pos) (TT' g W fun r S => (ma r S).bnd fun x S => .ok (match x with | .non => false | _ => true) S) := by
  refine PT.imp (pt_cmp (pc_notN ha) rfl) ?_
  rintro σ H Q ⟨H0, al0, al, r, S, rs, h⟩
  refine ⟨H0, al0, al, r, S, rs, (h.bnd (R1 := RB g H)).imp ?_⟩
  rintro vx H1 ⟨al1, x, S1, rs1, k1, p1, b1, h⟩
  exact ⟨_, rfl, h.here rs1 (by rw [Bt.nn (Bp.bt b1)]; cases x <;> rfl)⟩
theorem t_chain (G : XG g X) (o p : Cm) (ha : PE X a (TR g W (RB g) ma)) (hb : PE X b (TR g W (RB g) mb)) (hc : PE X c (TR g W (RB g) mc)) (hm : lastMarks [cmOf o, cmOf p] [b, c] = false) :
    PT X (.Compare a [cmOf o, cmOf p] [b, c] pos) (TT' g W fun r S => (ma r S).bnd fun x S => (mb r S).bnd fun y S => (lift (cmD o (der S x) (der S y)) S).bnd fun k S =>
      if k = true then (mc r S).bnd fun z S => lift (cmD p (der S y) (der S z)) S else .ok false S) := by
  refine PT.imp (pt_chain (op_cm G o) (op_cm G p) ha hb hc hm) ?_
  rintro σ H Q ⟨H0, al0, al, r, S, rs, h⟩
  refine ⟨H0, al0, al, r, S, rs, (h.bnd (R1 := RB g H)).imp ?_⟩
  rintro vx H1 ⟨al1, x, S1, rs1, k1, p1, b1, h⟩
  refine ⟨H0, al0, al1, r, S1, rs1, (h.bnd (R1 := RB g H1)).imp ?_⟩
  rintro vy H2 ⟨al2, y, S2, rs2, k2, p2, b2, h⟩
  cases e : cmD o (der S2 x) (der S2 y) with
  | none => rw [e] at h; exact h.elim
  | some k =>
    rw [e] at h
    refine ⟨al2, _, _, k, (Bp.mono k2 p2 b1).der rs2.sto, Bp.der b2 rs2.sto, e, k, rfl, ?_⟩
    cases k with
    | false => exact ⟨false, rfl, h.here rs2 rfl⟩
    | true =>
      refine ⟨H0, al0, al2, r, S2, rs2, (Pst.bnd (R1 := RB g H2) h).imp ?_⟩
      rintro vz H3 ⟨al3, z, S3, rs3, k3, p3, b3, h⟩
      obtain ⟨k, e', h⟩ := h.lift
      exact ⟨al3, _, _, k, (Bp.mono k3 p3 b2).der rs3.sto, Bp.der b3 rs3.sto, e', k, rfl, h.here rs3 rfl⟩
theorem t_not (ha : PT X a (TT' g W mt)) : PT X (.UnaryOp .Not a pos) (TT' g W fun r S => (mt r S).bnd fun k S => .ok (!k) S) := by
  refine PT.imp (pt_not ha) ?_
  rintro σ H Q ⟨H0, al0, al, r, S, rs, h⟩
  refine ⟨H0, al0, al, r, S, rs, (h.bnd (R1 := fun _ _ (b : Bool) d => b = d)).imp ?_⟩
  rintro k H1 ⟨al1, x, S1, rs1, k1, p1, rfl, h⟩
  exact h.here rs1 rfl
theorem PW.imp {e : Expr} {t t' : TT} (h : PW X e t) (i : ∀ σ H Q, t' σ H Q → t σ H Q) : PW X e t' := ⟨fun wh pins s σ H Q I q => h.run wh pins s σ H Q I (i σ H Q q)⟩
theorem w_and (ha : PT X a (TT' g W mt)) (hb : PW X (.BoolOp .And (b :: rest) pos) (TT' g W mu)) : PW X (.BoolOp .And (a :: b :: rest) pos) (TT' g W fun r S => (mt r S).bnd fun k S => if k = true then mu r S else .ok false S) := by
  refine PW.imp (pw_and ha hb) ?_
  rintro σ H Q ⟨H0, al0, al, r, S, rs, h⟩
  refine ⟨H0, al0, al, r, S, rs, (h.bnd (R1 := fun _ _ (b : Bool) d => b = d)).imp ?_⟩
  rintro k H1 ⟨al1, x, S1, rs1, k1, p1, rfl, h⟩
  cases k with
  | true => exact ⟨H0, al0, al1, r, S1, rs1, h⟩
  | false => exact h.here rs1 rfl
theorem w_or (ha : PT X a (TT' g W mt)) (hb : PW X (.BoolOp .Or (b :: rest) pos) (TT' g W mu)) : PW X (.BoolOp .Or (a :: b :: rest) pos) (TT' g W fun r S => (mt r S).bnd fun k S => if k = true then .ok true S else mu r S) := by
  refine PW.imp (pw_or ha hb) ?_
  rintro σ H Q ⟨H0, al0, al, r, S, rs, h⟩
  refine ⟨H0, al0, al, r, S, rs, (h.bnd (R1 := fun _ _ (b : Bool) d => b = d)).imp ?_⟩
  rintro k H1 ⟨al1, x, S1, rs1, k1, p1, rfl, h⟩
  cases k with
  | true => exact h.here rs1 rfl
  | false => exact ⟨H0, al0, al1, r, S1, rs1, h⟩

/-! ### argument lists, displays -/
def noStar : Expr → Bool
  | .Starred _ _ => false
  | _ => true
def noStars : List Expr → Bool
  | [] => true
  | e :: r => noStar e && noStars r
theorem star_ok {e : Expr} {es : List Expr} {env : Env} (h : noStar e = true) : starEach (e :: es) env = (false, eval e env) :: starEach es env := by
  cases e <;> first | rfl | (simp [noStar] at h)
theorem star_all {env : Env} : ∀ {es : List Expr}, noStars es = true → starEach es env = es.map fun e => (false, eval e env)
  | [], _ => rfl
  | e :: r, h => by
    simp only [noStars, Bool.and_eq_true] at h
    rw [star_ok h.1, star_all h.2, List.map_cons]
theorem star_plain {es : List Expr} {env : Env} {pos : Pos} (h : noStars es = true) : (backTo pos (starEach es env)).any (·.1) = false := by
  rw [star_all h]
  unfold backTo
  simp [List.any_map]
variable {es : List Expr} {ml : Rho → Sto → Out (List D)}
theorem a_nil : PA X [] (TAs g W fun _ S => .ok [] S) := by
  refine PA.imp pa_nil ?_
  rintro σ H Q ⟨H0, al0, al, r, S, rs, h⟩
  exact h.here rs .nil
theorem a_cons (ha : PE X a (TR g W (RV g) ma)) (hr : PA X es (TAs g W ml)) (hs : noStar a = true) : PA X (a :: es) (TAs g W fun r S => (ma r S).bnd fun x S => (ml r S).bnd fun xs S => .ok (x :: xs) S) := by
  refine PA.imp (pa_cons ha hr (star_ok hs)) ?_
  rintro σ H Q ⟨H0, al0, al, r, S, rs, h⟩
  refine ⟨H0, al0, al, r, S, rs, (h.bnd (R1 := RV g H)).imp ?_⟩
  rintro vx H1 ⟨al1, x, S1, rs1, k1, p1, b1, h⟩
  refine ⟨H0, al0, al1, r, S1, rs1, (h.bnd (R1 := fun al H vs ds => DtL g al H vs ds)).imp ?_⟩
  rintro vy H2 ⟨al2, y, S2, rs2, k2, p2, b2, h⟩
  exact h.here rs2 (.cons (Dt.mono k2 p2 b1) b2)
theorem s_tup {x1} (h : PA X es (TAs g W ml)) : PE X (.Tuple es x1 pos) (TR g W (RV g) fun r S => (ml r S).bnd fun xs S => if xs.length ≤ sizeLine then .ok (.tup xs) S else .bad) := by
  refine PE.imp (pe_tup h) ?_
  rintro σ H Q ⟨H0, al0, al, r, S, rs, h⟩
  refine ⟨H0, al0, al, r, S, rs, (h.bnd (R1 := fun al H vs ds => DtL g al H vs ds)).imp ?_⟩
  rintro vs H1 ⟨al1, x, S1, rs1, k1, p1, b1, h⟩
  split at h
  · rename_i hz
    exact ⟨by rw [b1.length]; exact hz, fun p n => h.new rs1 n (.tup (.inl (.inl upd_same)) (DtL.same (same_new n) b1))⟩
  · exact h.elim
theorem s_lst (h : PA X es (TAs g W ml)) : PE X (.List es pos) (TR g W (RF g) fun r S => (ml r S).bnd fun xs S => if xs.length ≤ sizeLine then .ok (.lst xs) S else .bad) := by
  refine PE.imp (pe_lst h) ?_
  rintro σ H Q ⟨H0, al0, al, r, S, rs, h⟩
  refine ⟨H0, al0, al, r, S, rs, (h.bnd (R1 := fun al H vs ds => DtL g al H vs ds)).imp ?_⟩
  rintro vs H1 ⟨al1, x, S1, rs1, k1, p1, b1, h⟩
  split at h
  · rename_i hz
    exact ⟨by rw [b1.length]; exact hz, fun p n => h.res rs1 (fun _ => k1.back) p vs n b1⟩
  · exact h.elim
theorem s_dct0 : PE X (.Dict [] [] pos) (TR g W (RF g) fun _ S => .ok (.dic []) S) := by
  refine PE.imp pe_dnewK ?_
  rintro σ H Q ⟨H0, al0, al, r, S, rs, h⟩
  exact fun p n => h.res rs (fun _ n => n) p [] n .nil

/-! ### calls -/
/-- what a def promises, by data -/
def SPI (g : GC) (Φ : Phi) (ar i : Nat) : Sp := fun vs H Q E => vs.length = ar ∧ ∃ al ds S, StoOk g al S H ∧ DtL g al H vs ds ∧
  match Φ.call i ds S with
  | .ok d S' => ∀ H' al' v, Keep al H H' → Ext al H al' → StoOk g al' S' H' → Dt g al' H' v d → Q v H'
  | .exc c S' => ∀ H' al', Keep al H H' → Ext al H al' → StoOk g al' S' H' → E (g.xa c) none H'
  | .bad => False
/-- the i-th def keeps its promise, to depth k -/
def FnI (g : GC) (Φ : Phi) (P : Program) (w : World) (K : PySem.W.Frag) (mg : Str → Option Value) (base : Heap) (k i : Nat) : Prop :=
  ∃ (fd : FuncData) (ps : List Str), FnG P w K mg base (L2.CX P w) k (g.fa i) fd ps (SPI g Φ ps.length i) ∧ PySem.W.keepIn K (.ref (g.fa i)) = true ∧ Binds K fd ps [] ∧ ∀ ds S, Φ.call i ds S ≠ .bad → ds.length = ps.length
theorem Pst.nb {α β : Type} {R : Al → Hp → β → α → Prop} {o : Out α} {Q : β → Hp → Prop} (h : Pst g W H0 al0 r σ al H R o Q) : o ≠ .bad := fun e => by rw [e] at h; exact h
theorem spi_of {i ar : Nat} {ds : List D} {vs : List V} {Q : VK} (hl : Φ.call i ds S ≠ .bad → ds.length = ar) (rs : RS g H0 al0 r S al σ H) (l : DtL g al H vs ds) (h : Pst g W H0 al0 r σ al H (RV g Hs) (Φ.call i ds S) Q) : SPI g Φ ar i vs H Q (WE W σ) := by
  refine ⟨by rw [l.length]; exact hl h.nb, al, ds, S, rs.sto, l, ?_⟩
  cases e : Φ.call i ds S with
  | bad => rw [e] at h; exact h
  | exc c S' => rw [e] at h; exact fun H' al' k p st => h H' al' (rs.step k p st)
  | ok d S' => rw [e] at h; exact fun H' al' v k p st q => h H' al' v (rs.step k p st) k p q
section
variable {k i : Nat} {x : Str} {p : Pos} {e : Expr}
/-- what a call lets out is taken -/
def Lets (X : Cx) (W : WX) : Prop := ∀ σ, PassesAt (L2.CX X.prog X.w) X σ (WE W σ)
theorem s_call (F : FnI g Φ X.prog X.w X.K X.mg X.base k i) (gd : X.A.guards = some []) (hr : Room k X.A) (hg : Gl X x) (hm : X.mg x = some (.ref (g.fa i))) (hx : Lets X W) (ha : PA X (e :: es) (TAs g W ml)) (hs : noStars (e :: es) = true) (hdb : (x == ("__debug__" : Str)) = false) :
    PE X (.Call (.Name x p) (e :: es) [] pos) (TR g W (RV g) fun r S => (ml r S).bnd fun xs S => Φ.call i xs S) := by
  obtain ⟨fd, ps, F, hk, hb, hl⟩ := F
  have hs' : noStar e = true ∧ noStars es = true := by simpa only [noStars, Bool.and_eq_true] using hs
  refine PE.imp (pe_callG F gd hr hg hm hk hb hx ha hdb (star_ok hs'.1) (star_plain hs'.2)) ?_
  rintro σ H Q ⟨H0, al0, al, r, S, rs, h⟩
  refine ⟨H0, al0, al, r, S, rs, (h.bnd (R1 := fun al H vs ds => DtL g al H vs ds)).imp ?_⟩
  rintro vs H1 ⟨al1, xs, S1, rs1, k1, p1, b1, h⟩
  exact spi_of (hl xs S1) rs1 b1 h
theorem pe_call0S {CX : CXT} {f : Addr} {fd : FuncData} {ps : List Str} {sp : Sp} {E : L2.St → XK} (F : FnG X.prog X.w X.K X.mg X.base CX k f fd ps sp) (gd : X.A.guards = some []) (hr : Room k X.A) (hg : Gl X x) (hm : X.mg x = some (.ref f)) (hk : PySem.W.keepIn X.K (.ref f) = true) (hb : Binds X.K fd ps []) (hx : ∀ σ, PassesAt CX X σ (E σ))
    (hdb : (x == ("__debug__" : Str)) = false) : PE X (.Call (.Name x p) [] [] pos) (fun σ H Q => sp [] H Q (E σ)) := by
  refine ⟨fun pins s σ H Q I h => ?_⟩
  refine wpAny_Call_Name_kw (ld_glob I hg hm ?_ hdb)
  exact PySem.W.callWith_K0 I.kIn hk (run_fnG (us := []) F gd hr hb (hx σ) I .nil h)
theorem s_call0 (F : FnI g Φ X.prog X.w X.K X.mg X.base k i) (gd : X.A.guards = some []) (hr : Room k X.A) (hg : Gl X x) (hm : X.mg x = some (.ref (g.fa i))) (hx : Lets X W) (hdb : (x == ("__debug__" : Str)) = false) :
    PE X (.Call (.Name x p) [] [] pos) (TR g W (RV g) fun r S => Φ.call i [] S) := by
  obtain ⟨fd, ps, F, hk, hb, hl⟩ := F
  refine PE.imp (pe_call0S F gd hr hg hm hk hb hx hdb) ?_
  rintro σ H Q ⟨H0, al0, al, r, S, rs, h⟩
  exact spi_of (hl [] S) rs .nil h
/-- a call of a name that holds a def -/
theorem s_callv {j : Nat} (F : ∀ i, i < Φ.n → FnI g Φ X.prog X.w X.K X.mg X.base k i) (gd : X.A.guards = some []) (hr : Room k X.A) (hN : X.N[j]? = some x) (hv : Vis X.env.scope x) (hx : Lets X W) (ha : PA X (e :: es) (TAs g W ml)) (hs : noStars (e :: es) = true)
    (hdb : (x == ("__debug__" : Str)) = false) (hcd : (x == ("__classdict__" : Str)) = false) :
    PE X (.Call (.Name x p) (e :: es) [] pos) (TR g W (RV g) fun r S => match r[j]? with
      | some (some (.v (.fn f))) => if f < Φ.n then (ml r S).bnd fun xs S => Φ.call f xs S else .bad
      | _ => .bad) := by
  have hs' : noStar e = true ∧ noStars es = true := by simpa only [noStars, Bool.and_eq_true] using hs
  refine ⟨fun pins s σ H Q I h => ?_⟩
  obtain ⟨H0, al0, al, r, S, rs, h⟩ := h
  dsimp only at h
  split at h
  · rename_i f ef
    split at h
    · rename_i hf
      obtain ⟨v, ev, kd⟩ := rs.sl j _ ef
      cases kd
      refine wpAny_Call_Name_kw (thn ((pe_var (pos := p) hN hv hdb hcd).run pins s σ H (fun v H1 => v = .ref (g.fa f) ∧ H1 = H) I ⟨_, ev, rfl, rfl⟩) ?_)
      rintro u s1 ⟨v, H1, I1, r1, rfl, rfl⟩
      cases r1
      obtain ⟨fd, ps, F', hk, hb, hl⟩ := F f hf
      refine PySem.W.callWith_K (h₀ := X.base) I1.ok.mod.kin hk (thn (ha.run pos pins s1 σ _ (fun vs H2 => SPI g Φ ps.length f vs H2 Q (WE W σ)) I1 ⟨H0, al0, al, r, S, rs, ?_⟩) fun us s2 ⟨vs, H2, I2, r2, q⟩ => ⟨I2.kIn, ?_⟩) (star_ok hs'.1) (star_plain hs'.2)
      · refine (h.bnd (R1 := fun al H vs ds => DtL g al H vs ds)).imp ?_
        rintro vs H2 ⟨al1, xs, S1, rs1, k1, p1, b1, h⟩
        exact spi_of (hl xs S1) rs1 b1 h
      · exact run_fnG F' gd hr hb (hx σ) I2 r2 q
    · exact h.elim
  · exact h.elim

/-! ### a new instance -/
/-- the class with the number c -/
structure ClI (g : GC) (Φ : Phi) (X : Cx) (x : Str) (c : Nat) (k : Nat) : Prop where
  mg : X.mg x = some (.ref (g.ca c))
  mkc : Mk X.K (g.ca c) (g.fa (Φ.ini c))
  cls : Cls X.K (g.ca c)
  F : FnI g Φ X.prog X.w X.K X.mg X.base k (Φ.ini c)
/-- the store grows by one thing -/
theorem RS.grow {x dx : Addr} {o : Ob} {H1 : Hp} (rs : RS g H0 al0 r S al σ H) (hx : H x = none) (sm : L2.Same H H1) (new : ObOk g (al ++ [(x, dx)]) H1 x dx o) :
    RS g H0 al0 r (S ++ [o]) (al ++ [(x, dx)]) σ H1 ∧ Ext al H (al ++ [(x, dx)]) := by
  have last : ∀ i y dy, (al ++ [(x, dx)])[i]? = some (y, dy) → (i < al.length ∧ al[i]? = some (y, dy) ∧ y ≠ x) ∨ (i = al.length ∧ y = x ∧ dy = dx) := fun i y dy e => by
    by_cases hi : i < al.length
    · rw [List.getElem?_append_left hi] at e
      refine .inl ⟨hi, e, fun z => ?_⟩
      subst z
      exact rs.nc hx ⟨i, dy, e⟩
    · have hi' : i = al.length := by
        have := (List.getElem?_eq_some_iff.mp e).1
        rw [List.length_append] at this
        have : i < al.length + 1 := this
        omega
      subst hi'
      rw [List.getElem?_append_right (Nat.le_refl _), Nat.sub_self] at e
      cases e
      exact .inr ⟨rfl, rfl, rfl⟩
  have ex : Ext al H (al ++ [(x, dx)]) := ⟨List.prefix_append _ _, fun a ⟨i, d, e⟩ => by
    rcases last i a d e with ⟨_, h, _⟩ | ⟨_, h, _⟩
    · exact .inl ⟨i, d, h⟩
    · exact .inr (h ▸ hx)⟩
  refine ⟨rs.step (.of sm) ex ⟨by rw [List.length_append, List.length_append, rs.sto.len]; rfl, fun i y dy ob e1 e2 => ?_, fun i j y dy dy' e1 e2 => ?_⟩, ex⟩
  · rcases last i y dy e1 with ⟨h1, h2, h3⟩ | ⟨h1, h2, h3⟩
    · rw [List.getElem?_append_left (by rw [← rs.sto.len]; exact h1)] at e2
      have q := rs.sto.at_ i y dy ob h2 e2
      obtain ⟨u, eu⟩ := q.some
      exact q.mono (.of sm) ex (by rw [eu, sm _ _ eu])
    · subst h1 h2 h3
      rw [List.getElem?_append_right (by rw [rs.sto.len]; exact Nat.le_refl _), ← rs.sto.len, Nat.sub_self] at e2
      cases e2
      exact new
  · rcases last i y dy e1 with ⟨h1, h2, h3⟩ | ⟨h1, h2, _⟩ <;> rcases last j y dy' e2 with ⟨h4, h5, h6⟩ | ⟨h4, h5, _⟩
    · exact rs.sto.nd i j y dy dy' h2 h5
    · exact absurd h5 h3
    · exact absurd h2 h6
    · rw [h1, h4]
theorem RS.nth {x dx : Addr} (rs : RS g H0 al0 r S al σ H) : (al ++ [(x, dx)])[S.length]? = some (x, dx) := by
  rw [← rs.sto.len, List.getElem?_append_right (Nat.le_refl _), Nat.sub_self]
  rfl
/-- an instance is laid -/
theorem RS.made {c : Nat} {x dx : Addr} (rs : RS g H0 al0 r S al σ H) (hx : H x = none) (hd : H dx = none) (ne : dx ≠ x) :
    (RS g H0 al0 r (S ++ [.ins c []]) (al ++ [(x, dx)]) σ (upd (upd H dx (.own x)) x (.ins (g.ca c) dx [])) ∧ Ext al H (al ++ [(x, dx)])) ∧ L2.Same H (upd (upd H dx (.own x)) x (.ins (g.ca c) dx [])) := by
  have hx' : upd H dx (.own x) x = none := by rw [upd_ne (Ne.symm ne)]; exact hx
  have sm : L2.Same H (upd (upd H dx (.own x)) x (.ins (g.ca c) dx [])) := (same_new hd).trans (same_new hx')
  exact ⟨rs.grow hx sm ⟨[], upd_same, rfl, .nil⟩, sm⟩
theorem s_new {c : Nat} (C : ClI g Φ X x c k) (gd : X.A.guards = some []) (hr : Room (k + 1) X.A) (hg : Gl X x) (ha : PA X (e :: es) (TAs g W ml)) (hs : noStars (e :: es) = true) (hdb : (x == ("__debug__" : Str)) = false) :
    PE X (.Call (.Name x p) (e :: es) [] pos) (TR g W (RV g) fun r S => (ml r S).bnd fun xs S => match Φ.call (Φ.ini c) (.obj S.length :: xs) (S ++ [.ins c []]) with
      | .ok .non S' => .ok (.obj S.length) S'
      | _ => .bad) := by
  obtain ⟨fd, ps, F, hk, hb, hl⟩ := C.F
  have hs' : noStar e = true ∧ noStars es = true := by simpa only [noStars, Bool.and_eq_true] using hs
  refine PE.imp (pe_makeG C.mkc F gd hr hg C.mg hb passL ha hdb (star_ok hs'.1) (star_plain hs'.2)) ?_
  rintro σ H Q ⟨H0, al0, al, r, S, rs, h⟩
  refine ⟨H0, al0, al, r, S, rs, (h.bnd (R1 := fun al H vs ds => DtL g al H vs ds)).imp ?_⟩
  rintro vs H1 ⟨al1, xs, S1, rs1, k1, p1, b1, h⟩
  intro x dx nx nd ne
  obtain ⟨⟨rs2, pre⟩, sm⟩ := rs1.made (c := c) nx nd ne
  have nth : (al1 ++ [(x, dx)])[S1.length]? = some (x, dx) := rs1.nth
  split at h
  · rename_i S' e
    refine ⟨?_, al1 ++ [(x, dx)], .obj S1.length :: xs, S1 ++ [.ins c []], rs2.sto, .cons (.obj nth) ?_, ?_⟩
    · rw [List.length_cons, b1.length, ← hl _ _ (by rw [e]; intro z; cases z)]
      rfl
    · exact b1.mono (.of sm) pre
    · rw [e]
      intro H' al' v kp pr st dt
      cases dt
      exact ⟨rfl, h H' al' _ (rs2.step kp pr st) ((Keep.of sm).trans pre kp) (pre.trans (.of sm) pr) (.obj (pre_get pr.p nth))⟩
  · exact h.elim

/-! ### built-in functions and types -/
section
variable {T : String} {f : D → Option D}
theorem r1_of {σ : L2.St} {H : Hp} {Q : VK} (q : TR g W (RF g) (fun r S => (ma r S).bnd fun x S => lift (f (der S x)) S) σ H Q) : tCB (r1D g f) (tCons (TR g W (RB g) ma) tNil) σ H Q := by
  obtain ⟨H0, al0, al, r, S, rs, h⟩ := q
  refine ⟨H0, al0, al, r, S, rs, (h.bnd (R1 := RB g H)).imp ?_⟩
  rintro vx H1 ⟨al1, y, S1, rs1, k1, p1, b1, h⟩
  obtain ⟨z, ez, h⟩ := h.lift
  exact ⟨al1, vx, _, z, rfl, Bp.der b1 rs1.sto, ez, h.res rs1 fun _ => k1.back⟩
theorem s_bi1 {id : String} (hc : CallR X (.builtin id) (r1D g f)) (hg : Gl X x) (hm : X.mg x = none) (hv : bootBuiltins x = some (.builtin id)) (hn : x ≠ "__name__") (hdb : (x == ("__debug__" : Str)) = false) (ha : PE X a (TR g W (RB g) ma)) (hs : noStar a = true) :
    PE X (.Call (.Name x p) [a] [] pos) (TR g W (RF g) fun r S => (ma r S).bnd fun x S => lift (f (der S x)) S) :=
  PE.imp (pe_callB hc hg hm hv (pa_cons ha pa_nil (star_ok hs)) hn hdb (star_ok hs) rfl) fun _ _ _ q => r1_of q
theorem s_ty1 (hc : CallR X (.type T) (r1D g f)) (hg : Gl X x) (hm : X.mg x = none) (hv : bootBuiltins x = some (.type T)) (hn : x ≠ "__name__") (hdb : (x == ("__debug__" : Str)) = false) (ha : PE X a (TR g W (RB g) ma)) (hs : noStar a = true) :
    PE X (.Call (.Name x p) [a] [] pos) (TR g W (RF g) fun r S => (ma r S).bnd fun x S => lift (f (der S x)) S) :=
  PE.imp (pe_callTy hc hg hm hv (pa_cons ha pa_nil (star_ok hs)) hn hdb (star_ok hs) rfl) fun _ _ _ q => r1_of q
end
def b2N : B2 → String
  | .max => "max" | .min => "min"
theorem call_b2 (G : XG g X) (o : B2) : CallR X (.builtin (b2N o)) (fun xs H Q => ∃ i j dz, xs = [.int i, .int j] ∧ b2D o (.int i) (.int j) = some dz ∧ ∀ v, (∀ al, Dt g al H v dz) → Q v H) := by
  intro pins s σ H xs us Q I r h
  obtain ⟨i, j, dz, rfl, e, q⟩ := h
  cases o with
  | max => cases e; exact call_max2 G.calm pins s σ H _ _ Q I r ⟨i, j, rfl, q _ fun _ => .int _⟩
  | min => cases e; exact call_min2 G.calm pins s σ H _ _ Q I r ⟨i, j, rfl, q _ fun _ => .int _⟩
theorem s_b2 (G : XG g X) (o : B2) (hg : Gl X x) (hm : X.mg x = none) (hv : bootBuiltins x = some (.builtin (b2N o))) (hn : x ≠ "__name__") (hdb : (x == ("__debug__" : Str)) = false) (ha : PE X a (TR g W (RV g) ma)) (hb : PE X b (TR g W (RV g) mb)) (hs : noStar a = true) (hs' : noStar b = true) :
    PE X (.Call (.Name x p) [a, b] [] pos) (TR g W (RV g) fun r S => (ma r S).bnd fun x S => (mb r S).bnd fun y S => lift (b2D o x y) S) := by
  refine PE.imp (pe_callB (call_b2 G o) hg hm hv (pa_cons ha (pa_cons hb pa_nil (star_ok hs')) (star_ok hs)) hn hdb (star_ok hs) (star_plain (by simp [noStars, hs']))) ?_
  rintro σ H Q ⟨H0, al0, al, r, S, rs, h⟩
  refine ⟨H0, al0, al, r, S, rs, (h.bnd (R1 := RV g H)).imp ?_⟩
  rintro vx H1 ⟨al1, y, S1, rs1, k1, p1, b1, h⟩
  refine ⟨H0, al0, al1, r, S1, rs1, (h.bnd (R1 := RV g H1)).imp ?_⟩
  rintro vy H2 ⟨al2, z, S2, rs2, k2, p2, b2, h⟩
  obtain ⟨w, ew, hw⟩ := h.lift
  have e1 : ∃ i j, y = .int i ∧ z = .int j := by cases o <;> cases y <;> cases z <;> first | exact ⟨_, _, rfl, rfl⟩ | (cases ew; done)
  obtain ⟨i, j, rfl, rfl⟩ := e1
  cases b1
  cases b2
  exact ⟨i, j, w, rfl, ew, fun v hv => hw.here rs2 (hv _)⟩
/-- isinstance of one type, by its name -/
theorem s_is1 (G : XG g X) (t : Ty) {y : Str} {p2 : Pos} (hg : Gl X x) (hm : X.mg x = none) (hv : bootBuiltins x = some (.builtin "isinstance")) (hn : x ≠ "__name__") (hdb : (x == ("__debug__" : Str)) = false)
    (hg2 : Gl X y) (hm2 : X.mg y = none) (hv2 : bootBuiltins y = some (.type (tyN t))) (hn2 : y ≠ "__name__") (hd2 : (y == ("__debug__" : Str)) = false) (ha : PE X a (TR g W (RB g) ma)) (hs : noStar a = true) :
    PE X (.Call (.Name x p) [a, .Name y p2] [] pos) (TR g W (RV g) fun r S => (ma r S).bnd fun x S => (lift (isiD (der S x) [t]) S).bnd fun k S => .ok (.bl k) S) := by
  refine PE.imp (pe_callB (call_is1 G t) hg hm hv (pa_cons ha (pa_cons (pe_bltn (v := .ty (tyN t)) hg2 hm2 hv2 rfl hn2 hd2) pa_nil (star_ok rfl)) (star_ok hs)) hn hdb (star_ok hs) rfl) ?_
  rintro σ H Q ⟨H0, al0, al, r, S, rs, h⟩
  refine ⟨H0, al0, al, r, S, rs, (h.bnd (R1 := RB g H)).imp ?_⟩
  rintro vx H1 ⟨al1, y, S1, rs1, k1, p1, b1, h⟩
  cases e : isiD (der S1 y) [t] with
  | none => rw [e] at h; exact h.elim
  | some k =>
    rw [e] at h
    exact ⟨al1, vx, _, k, rfl, Bp.der b1 rs1.sto, e, h.here rs1 (.bl k)⟩
/-- isinstance of several types, by their names -/
structure TyArg (X : Cx) (e : Expr) (t : Ty) : Prop where
  ex : ∃ y p, e = .Name y p ∧ Gl X y ∧ X.mg y = none ∧ bootBuiltins y = some (.type (tyN t)) ∧ y ≠ "__name__" ∧ (y == ("__debug__" : Str)) = false
theorem TyArg.pe {e : Expr} {t : Ty} (h : TyArg X e t) : PE X e (tC (.ty (tyN t))) ∧ noStar e = true := by
  obtain ⟨y, p, rfl, hg, hm, hv, hn, hd⟩ := h.ex
  exact ⟨pe_bltn hg hm hv rfl hn hd, rfl⟩
theorem tys_pa : ∀ {es : List Expr} {ts : List Ty}, Paired (TyArg X) es ts → PA X es (fun σ H Q => Q (ts.map fun t => V.ty (tyN t)) H) ∧ noStars es = true
  | _, _, .nil => ⟨pa_nil, rfl⟩
  | _, _, .cons h t => by
    obtain ⟨h1, h2⟩ := h.pe
    obtain ⟨h3, h4⟩ := tys_pa t
    exact ⟨pa_cons h1 h3 (star_ok h2), by simp [noStars, h2, h4]⟩
theorem s_isTs (G : XG g X) {ts : List Ty} {es : List Expr} {x1 : Nat} {p2 : Pos} (hg : Gl X x) (hm : X.mg x = none) (hv : bootBuiltins x = some (.builtin "isinstance")) (hn : x ≠ "__name__") (hdb : (x == ("__debug__" : Str)) = false)
    (ht : Paired (TyArg X) es ts) (hl : ts.length ≤ sizeLine) (ha : PE X a (TR g W (RB g) ma)) (hs : noStar a = true) :
    PE X (.Call (.Name x p) [a, .Tuple es x1 p2] [] pos) (TR g W (RV g) fun r S => (ma r S).bnd fun x S => (lift (isiD (der S x) ts) S).bnd fun k S => .ok (.bl k) S) := by
  obtain ⟨h1, h2⟩ := tys_pa ht
  refine PE.imp (pe_callB (call_isN G ts) hg hm hv (pa_cons ha (pa_cons (pe_tup h1) pa_nil (star_ok rfl)) (star_ok hs)) hn hdb (star_ok hs) rfl) ?_
  rintro σ H Q ⟨H0, al0, al, r, S, rs, h⟩
  refine ⟨H0, al0, al, r, S, rs, (h.bnd (R1 := RB g H)).imp ?_⟩
  rintro vx H1 ⟨al1, y, S1, rs1, k1, p1, b1, h⟩
  cases e : isiD (der S1 y) ts with
  | none => rw [e] at h; exact h.elim
  | some k =>
    rw [e] at h
    refine ⟨by rw [List.length_map]; exact hl, fun q nq => ?_⟩
    exact ⟨al1, vx, _, k, q, rfl, upd_same, (Bp.der b1 rs1.sto).same (same_new nq), e, h.new rs1 nq (.bl k)⟩
end

/-! ### items, parts, attributes, methods -/
def plainIx : Expr → Bool
  | .Slice _ _ _ _ => false
  | .Tuple _ _ _ => false
  | .Constant _ _ _ => true
  | .Name _ _ => true
  | .BinOp _ _ _ _ => true
  | .UnaryOp _ _ _ => true
  | .Call _ _ _ _ => true
  | .Subscript _ _ _ => true
  | .Attribute _ _ _ => true
  | .IfExp _ _ _ _ => true
  | _ => false
theorem plainIx_ok {e : Expr} (h : plainIx e = true) : ∀ o i, subscripted e false o i = operate [o, i] (getItem o i) := by
  cases e <;> first | (simp [plainIx] at h; done) | (intro o i; rfl)
end
end Pi

/-! Pi7b: items, parts, attributes, methods, displays of pairs, by data. -/
namespace Pi
open PySem L2 PySem.Spec PyProof.Rows
section
variable {g : GC} {al al' al0 : Al} {H H' H0 Hs : Hp} {S S' : Sto} {r : Rho} {σ : L2.St} {W : WX} {X : Cx} {Φ : Phi}
variable {a b c : Expr} {m ma mb mc : Rho → Sto → Out D} {pos p2 apos cpos : Pos}

/-- what is wanted behind two values in turn -/
theorem tr2 {R1 R2 R : RR D} {f : D → D → Sto → Out D} {Q : VK} (h : TR g W R (fun r S => (ma r S).bnd fun x S => (mb r S).bnd fun y S => f x y S) σ H Q) (stay : ∀ {al al' H H' v d}, Keep al H H' → Ext al H al' → R1 H0 al H v d → R1 H0 al' H' v d)
    (hR : ∀ H al' H' v d, R1 H al' H' v d ↔ R1 H0 al' H' v d) :
    TR g W R1 ma σ H fun vx H1 => TR g W R2 mb σ H1 fun vy H2 => ∃ H0 al0 al2 r x y S2, RS g H0 al0 r S2 al2 σ H2 ∧ R1 H al2 H2 vx x ∧ R2 H1 al2 H2 vy y ∧ Pst g W H0 al0 r σ al2 H2 (R H) (f x y S2) Q := by
  obtain ⟨K0, al0, al, r, S, rs, h⟩ := h
  refine ⟨K0, al0, al, r, S, rs, (h.bnd (R1 := R1 H)).imp ?_⟩
  rintro vx H1 ⟨al1, x, S1, rs1, k1, p1, b1, h⟩
  refine ⟨K0, al0, al1, r, S1, rs1, (h.bnd (R1 := R2 H1)).imp ?_⟩
  rintro vy H2 ⟨al2, y, S2, rs2, k2, p2, b2, h⟩
  exact ⟨K0, al0, al2, r, x, y, S2, rs2, (hR ..).mpr (stay k2 p2 ((hR ..).mp b1)), b2, h⟩
theorem tr2B {R2 R : RR D} {f : D → D → Sto → Out D} {Q : VK} (h : TR g W R (fun r S => (ma r S).bnd fun x S => (mb r S).bnd fun y S => f x y S) σ H Q) :
    TR g W (RB g) ma σ H fun vx H1 => TR g W R2 mb σ H1 fun vy H2 => ∃ H0 al0 al2 r x y S2, RS g H0 al0 r S2 al2 σ H2 ∧ Bp g al2 H2 vx x ∧ R2 H1 al2 H2 vy y ∧ Pst g W H0 al0 r σ al2 H2 (R H) (f x y S2) Q :=
  tr2 (R1 := RB g) (H0 := H) h (fun k p q => Bp.mono k p q) fun _ _ _ _ _ => Iff.rfl

/-! ### items -/
def rDic (g : GC) : R2 := fun x y H Q => ∃ al kvs k dz, Bt g al H x (.dic kvs) ∧ y = .str k ∧ dget kvs k = some dz ∧ ∀ v, Dt g al H v dz → Q v H
theorem dget_of {kvs : List (Str × D)} {x : V} (b : Bt g al H x (.dic kvs)) (k : Str) : ∃ p, x = .ref p ∧ IsD H p ∧ ((dget kvs k = none ∧ DGet H p (.str k) none) ∨ ∃ v d, dget kvs k = some d ∧ DGet H p (.str k) (some v) ∧ Dt g al H v d) := by
  obtain ⟨p, vs, rfl, q1, l⟩ := b.dic
  refine ⟨p, rfl, .inl ⟨vs, q1⟩, ?_⟩
  rcases l.val k with ⟨e1, e2⟩ | ⟨v, d, e1, e2, dv⟩
  · exact .inl ⟨e1, .inl ⟨vs, .inr k, q1, rfl, e2.symm⟩⟩
  · exact .inr ⟨v, d, e1, .inl ⟨vs, .inr k, q1, rfl, e2.symm⟩, dv⟩
theorem ix_dictQ (G : XG g X) : IxR X (rDic g) := by
  intro value slice pins s σ H x y v u Q I rx ry h hs
  obtain ⟨al, kvs, k, dz, bx, rfl, e, q⟩ := h
  obtain ⟨p, rfl, hd, h⟩ := dget_of bx k
  rcases h with ⟨e2, _⟩ | ⟨w, d, e2, dg, dw⟩
  · rw [e2] at e; cases e
  · rw [e2] at e; cases e
    obtain rfl : v = Value.ref p := rx
    exact tail_any (dict_typeIs I dg) slot_dict_getitem.lookup (d_getItem (by have := G.room; omega) I dg ry fun w' s3 I3 rw' => ⟨w, H, I3, rw', q w dw⟩) hs
theorem s_sub (G : XG g X) (ha : PE X a (TR g W (RB g) ma)) (hb : PE X b (TR g W (RV g) mb)) (hs : plainIx b = true) :
    PE X (.Subscript a b pos) (TR g W (RV g) fun r S => (ma r S).bnd fun x S => (mb r S).bnd fun y S => lift (subD (der S x) y) S) := by
  refine PE.imp (pe_ix (IxR.or (ix_seqQ G) (ix_dictQ G)) ha hb (plainIx_ok hs)) ?_
  rintro σ H Q h
  obtain ⟨K0, al0, al, r, S, rs, h⟩ := tr2B (R2 := RV g) h
  refine ⟨K0, al0, al, r, S, rs, h.imp ?_⟩
  rintro vx H1 ⟨K0, al0, al, r, S, rs, h⟩
  refine ⟨K0, al0, al, r, S, rs, h.imp ?_⟩
  rintro vy H2 ⟨K0, al0, al2, r, x, y, S2, rs2, b1, b2, h⟩
  obtain ⟨dz, e, h⟩ := h.lift
  have fin : ∀ v, Dt g al2 H2 v dz → Q v H2 := fun v dv => h.here rs2 dv
  cases y with
  | int i =>
    cases b2
    exact .inl ⟨al2, _, i, dz, b1.der rs2.sto, rfl, e, fin⟩
  | str k =>
    cases b2
    have b3 := b1.der rs2.sto
    revert e b3
    generalize der S2 x = x'
    intro e b3
    cases x' with
    | dic kvs => exact .inr ⟨al2, kvs, k, dz, b3, rfl, e, fin⟩
    | _ => cases e
  | _ =>
    revert e
    generalize der S2 x = x'
    intro e
    cases x' <;> cases e

/-! ### parts -/
def TOp (g : GC) (W : WX) (m : Rho → Sto → Out D) : TO := fun σ H Q =>
  ∃ H0 al0 al r S, RS g H0 al0 r S al σ H ∧ Pst g W H0 al0 r σ al H (fun _ _ (o : Option Int) d => d = optD o) (m r S) Q
theorem PO.imp {e : Option Expr} {t t' : TO} (h : PO X e t) (i : ∀ σ H Q, t' σ H Q → t σ H Q) : PO X e t' := ⟨fun pins s σ H Q I q => h.run pins s σ H Q I (i σ H Q q)⟩
theorem o_none : PO X none (TOp g W fun _ S => .ok .non S) := by
  refine PO.imp po_none ?_
  rintro σ H Q ⟨H0, al0, al, r, S, rs, h⟩
  exact h.here rs rfl
theorem o_some (ha : PE X a (TR g W (RV g) ma)) : PO X (some a) (TOp g W fun r S => intO (ma r S)) := by
  refine PO.imp (po_some ha) ?_
  rintro σ H Q ⟨H0, al0, al, r, S, rs, h⟩
  refine ⟨H0, al0, al, r, S, rs, (h.bnd (R1 := RV g H)).imp ?_⟩
  rintro vx H1 ⟨al1, x, S1, rs1, k1, p1, b1, h⟩
  cases x <;> try exact h.elim
  cases b1
  exact ⟨_, rfl, h.here rs1 rfl⟩
variable {lo hi : Option Expr}
theorem s_slice (G : XG g X) (ha : PE X a (TR g W (RB g) ma)) (hb : PO X lo (TOp g W mb)) (hc : PO X hi (TOp g W mc)) :
    PE X (.Subscript a (.Slice lo hi none p2) pos) (TR g W (RF g) fun r S => (ma r S).bnd fun x S => (mb r S).bnd fun i S => (mc r S).bnd fun j S => lift (sliceD (der S x) i j) S) := by
  refine PE.imp (pe_slice (sl_Q G) ha hb hc) ?_
  rintro σ H Q ⟨H0, al0, al, r, S, rs, h⟩
  refine ⟨H0, al0, al, r, S, rs, (h.bnd (R1 := RB g H)).imp ?_⟩
  rintro vx H1 ⟨al1, x, S1, rs1, k1, p1, b1, h⟩
  refine ⟨H0, al0, al1, r, S1, rs1, (h.bnd (R1 := fun _ _ (o : Option Int) d => d = optD o)).imp ?_⟩
  rintro o1 H2 ⟨al2, i, S2, rs2, k2, p2, rfl, h⟩
  refine ⟨H0, al0, al2, r, S2, rs2, (h.bnd (R1 := fun _ _ (o : Option Int) d => d = optD o)).imp ?_⟩
  rintro o2 H3 ⟨al3, j, S3, rs3, k3, p3, rfl, h⟩
  obtain ⟨dz, e, h⟩ := h.lift
  exact ⟨al3, _, dz, ((Bp.mono k2 p2 b1).mono k3 p3).der rs3.sto, e, h.res rs3 fun _ n => k1.back (k2.back (k3.back n))⟩

/-! ### attributes -/
def AtI (g : GC) (f : Str) : Prop := ∀ c, Cls g.K (g.ca c) ∧ NoAttr g.K (g.ca c) f
theorem s_attr {f : Str} (G : XG g X) (A : AtI g f) (ha : PE X a (TR g W (RV g) ma)) (hb : attributeBase a f X.env (eval a X.env) = eval a X.env) :
    PE X (.Attribute a f pos) (TR g W (RV g) fun r S => (ma r S).bnd fun x S => match x with
      | .obj i => lift (S[i]?.bind fun o => dget o.fs f) S
      | _ => .bad) := by
  refine PE.imp (pe_fld ha hb) ?_
  rintro σ H Q ⟨H0, al0, al, r, S, rs, h⟩
  refine ⟨H0, al0, al, r, S, rs, (h.bnd (R1 := RV g H)).imp ?_⟩
  rintro vx H1 ⟨al1, x, S1, rs1, k1, p1, b1, h⟩
  cases x <;> try exact h.elim
  rename_i i
  obtain ⟨d, e, h⟩ := h.lift
  cases b1 with
  | @obj _ y dy ea =>
    cases es : S1[i]? with
    | none => rw [es] at e; cases e
    | some o =>
      rw [es] at e
      have q := rs1.sto.at_ i y dy o ea es
      cases o with
      | ins c ds =>
        obtain ⟨fs, q, fo⟩ := q
        obtain ⟨v, ev, dv⟩ := fo.get e
        obtain ⟨A1, A2⟩ := A c
        have hK := G.hK
        exact ⟨y, g.ca c, dy, fs, v, rfl, q, hK ▸ A1, hK ▸ A2, ev, h.here rs1 dv⟩
      | _ => cases e

/-! ### methods -/
theorem s_get1 (G : XG g X) (ha : PE X a (TR g W (RB g) ma)) (hb : PE X b (TR g W (RV g) mb)) (m : M1 X a "get" apos b cpos) :
    PE X (.Call (.Attribute a "get" apos) [b] [] cpos) (TR g W (RV g) fun r S => (ma r S).bnd fun x S => match der S x with
      | .dic _ => (mb r S).bnd fun y S => (match der S x, y with
        | .dic kvs, .str k => .ok ((dget kvs k).getD .non) S
        | _, _ => .bad)
      | _ => .bad) := by
  refine PE.imp (pe_dget1 (by have := G.room; omega) ha hb m) ?_
  rintro σ H Q ⟨H0, al0, al, r, S, rs, h⟩
  refine ⟨H0, al0, al, r, S, rs, (h.bnd (R1 := RB g H)).imp ?_⟩
  rintro vx H1 ⟨al1, x, S1, rs1, k1, p1, b1, h⟩
  split at h
  · rename_i kvs0 e0
    have b0 := Bp.der b1 rs1.sto
    rw [e0] at b0
    obtain ⟨p, rfl, hd, _⟩ := dget_of b0 "x"
    refine ⟨p, rfl, hd, H0, al0, al1, r, S1, rs1, (Pst.bnd (R1 := RV g H1) h).imp ?_⟩
    rintro vy H2 ⟨al2, y, S2, rs2, k2, p2, b2, h⟩
    have b3 := (Bp.mono k2 p2 b1).der rs2.sto
    split at h
    · rename_i kvs k e3
      rw [e3] at b3
      cases b2
      obtain ⟨p', e', hd', hg⟩ := dget_of b3 k
      cases e'
      rcases hg with ⟨e, q⟩ | ⟨v, d, e, q, dv⟩
      · exact ⟨none, q, h.here rs2 (by rw [e]; exact .non)⟩
      · exact ⟨some v, q, h.here rs2 (by rw [e]; exact dv)⟩
    · exact h.elim
  · exact h.elim
theorem s_get2 (G : XG g X) (ha : PE X a (TR g W (RB g) ma)) (hb : PE X b (TR g W (RV g) mb)) (hc : PE X c (TR g W (RV g) mc)) (m : M2 X a "get" apos b c cpos) :
    PE X (.Call (.Attribute a "get" apos) [b, c] [] cpos) (TR g W (RV g) fun r S => (ma r S).bnd fun x S => match der S x with
      | .dic _ => (mb r S).bnd fun y S => (mc r S).bnd fun z S => (match der S x, y with
        | .dic kvs, .str k => .ok ((dget kvs k).getD z) S
        | _, _ => .bad)
      | _ => .bad) := by
  refine PE.imp (pe_dget2 (by have := G.room; omega) ha hb hc m) ?_
  rintro σ H Q ⟨H0, al0, al, r, S, rs, h⟩
  refine ⟨H0, al0, al, r, S, rs, (h.bnd (R1 := RB g H)).imp ?_⟩
  rintro vx H1 ⟨al1, x, S1, rs1, k1, p1, b1, h⟩
  split at h
  · rename_i kvs0 e0
    have b0 := Bp.der b1 rs1.sto
    rw [e0] at b0
    obtain ⟨p, rfl, hd, _⟩ := dget_of b0 "x"
    refine ⟨p, rfl, hd, H0, al0, al1, r, S1, rs1, (Pst.bnd (R1 := RV g H1) h).imp ?_⟩
    rintro vy H2 ⟨al2, y, S2, rs2, k2, p2, b2, h⟩
    refine ⟨H0, al0, al2, r, S2, rs2, (Pst.bnd (R1 := RV g H2) h).imp ?_⟩
    rintro vz H3 ⟨al3, z, S3, rs3, k3, p3, b3, h⟩
    have b4 := ((Bp.mono k2 p2 b1).mono k3 p3).der rs3.sto
    split at h
    · rename_i kvs k e3 hh
      rw [e3] at b4
      cases b2
      obtain ⟨p', e', hd', hg⟩ := dget_of b4 k
      cases e'
      rcases hg with ⟨e, q⟩ | ⟨v, d, e, q, dv⟩
      · exact ⟨none, q, h.here rs3 (by rw [e]; exact b3)⟩
      · exact ⟨some v, q, h.here rs3 (by rw [e]; exact dv)⟩
    · exact h.elim
  · exact h.elim
/-- joined texts -/
theorem strs_of {H : Hp} {al : Al} : ∀ {vs : List V} {ds : List D} {ys : List Str}, DtL g al H vs ds → strsD ds = some ys → vs = ys.map V.str
  | _, _, _, .nil, e => by cases e; rfl
  | _, _, _, .cons (d := d) h t, e => by
    cases d <;> try (cases e; done)
    rename_i x
    cases h
    simp only [strsD, Option.map_eq_some_iff] at e
    obtain ⟨zs, e, rfl⟩ := e
    rw [strs_of t e]
    rfl
theorem s_join {x : Str} {j p3} (G : XG g X) (ha : PE X a (TR g W (RB g) ma)) (hs : noStar a = true) (hbase : attributeBase (.Constant (.str x) j p3) "join" X.env (eval (.Constant (.str x) j p3) X.env) = eval (.Constant (.str x) j p3) X.env)
    (hfew : ((backTo cpos (starEach [a] X.env)).all (fun x => !x.1) && (backToKw cpos (keywordEach [] X.env)).all (fun x => x.1.isSome)
      && decide (([a] : List Expr).length + ([] : List Keyword).length + (if ([] : List Keyword).isEmpty then 0 else 1) < 30)) = true)
    (hline : (apos.endLine == cpos.line) = true) :
    PE X (.Call (.Attribute (.Constant (.str x) j p3) "join" apos) [a] [] cpos) (TR g W (RV g) fun r S => (ma r S).bnd fun y S => lift (joinD x (der S y)) S) := by
  refine PE.imp (pe_bm PySem.F.plainAttrs_str PySem.F.slot_str_join PySem.F.type_str_join mt_join pe_str (pa_cons ha pa_nil (star_ok hs)) hbase hfew hline (star_ok hs) rfl) ?_
  rintro σ H Q ⟨H0, al0, al, r, S, rs, h⟩
  refine ⟨rfl, H0, al0, al, r, S, rs, (h.bnd (R1 := RB g H)).imp ?_⟩
  rintro vx H1 ⟨al1, y, S1, rs1, k1, p1, b1, h⟩
  obtain ⟨dz, e, h⟩ := h.lift
  have b1 := Bp.der b1 rs1.sto
  revert e b1
  generalize der S1 y = y'
  intro e b1
  cases y' <;> try (cases e; done)
  rename_i ds
  simp only [joinD, Option.bind_eq_some_iff] at e
  obtain ⟨ys, e1, e2⟩ := e
  split at e2
  · rename_i hz
    cases e2
    obtain ⟨p, vs, rfl, q1, l⟩ := b1.lst
    have hK := G.hK
    refine ⟨x, p, ys, rfl, rfl, .inl ?_, hz, h.here rs1 (.str _)⟩
    rw [← strs_of l e1, ← hK]
    exact q1
  · cases e2

/-! ### displays of pairs -/
/-- one step, then the rest, seen from an earlier place -/
theorem Pst.bndAt {α γ β δ : Type} {R : Al → Hp → β → α → Prop} {R1 : Al → Hp → δ → γ → Prop} {Q : β → Hp → Prop} {o : Out γ} {k : γ → Sto → Out α} {als : Al} (h : Pst g W H0 al0 r σ als Hs R (o.bnd k) Q) :
    Pst g W H0 al0 r σ al H R1 o fun (v : δ) H1 => ∃ al1 x S1, RS g H0 al0 r S1 al1 σ H1 ∧ Keep al H H1 ∧ Ext al H al1 ∧ R1 al1 H1 v x ∧ Pst g W H0 al0 r σ als Hs R (k x S1) Q := by
  cases o with
  | bad => exact h
  | exc c S' => exact fun H' al' rs => h H' al' rs
  | ok x S' => exact fun H1 al1 v rs kp pr q => ⟨al1, x, S', rs, kp, pr, q, h⟩
def dmD : List ((Rho → Sto → Out D) × (Rho → Sto → Out D)) → Rho → List (Str × D) → Sto → Out D
  | [], _, acc, S => .ok (.dic acc) S
  | m :: ms, r, acc, S => (m.1 r S).bnd fun y S => (m.2 r S).bnd fun z S => match y with
      | .str y => dmD ms r (dput acc y z) S
      | _ => .bad
theorem dct_of {Hs : Hp} {p : Addr} {als : Al} {Q : VK} (n : Hs p = none) (h0 : H0 p = none) (no : ¬ OwnAt r σ p) : ∀ (ms : List ((Rho → Sto → Out D) × (Rho → Sto → Out D))) {al : Al} {H : Hp} {S : Sto} {acc : List (Str × D)} {accV : List (Key × V)} {P : List (V × V) → Hp → Prop}, DtK g al H accV acc → RS g H0 al0 r S al σ H → Keep als Hs H →
    Ext als Hs al → H p = some (.dK []) ∧ ¬ Cell al p → Pst g W H0 al0 r σ als Hs (RF g Hs) (dmD ms r acc S) Q →
    (∀ H2 (kvs : List (Key × V)), H2 p = some (.dK []) → kvs.length = ms.length → Q (.ref p) (upd H2 p (.dK (mergeK accV kvs))) → P (kvs.map (fun kv => (kV kv.1, kv.2))) H2) →
    tPairs (ms.map fun m => (TR g W (RV g) m.1, TR g W (RV g) m.2)) σ H P
  | [], al, H, S, acc, accV, P, l, rs, kp, pr, hp, h, fin => by
    obtain ⟨hp, hc⟩ := hp
    have lo : Loose al H p := loose_dK hp
    exact fin H [] hp rfl (h (upd H p (.dK accV)) al (.ref p) (rs.free lo hc (.inl h0) no) (kp.mut (.inl n)) pr ⟨p, accV, rfl, ⟨n, hc⟩, upd_same, l.loose lo⟩)
  | m :: ms, al, H, S, acc, accV, P, l, rs, kp, pr, hp, h, fin => by
    refine ⟨H0, al0, al, r, S, rs, (Pst.bndAt (R1 := RV g H) h).imp ?_⟩
    rintro x H1 ⟨al1, y, S1, rs1, k1, p1, b1, h⟩
    refine ⟨H0, al0, al1, r, S1, rs1, (Pst.bndAt (R1 := RV g H1) h).imp ?_⟩
    rintro v H2 ⟨al2, z, S2, rs2, k2, p2, b2, h⟩
    cases y <;> try exact h.elim
    rename_i y h'
    cases b1
    have hp2 := k2.own p2 (k1.own p1 hp (fun z => nomatch z)) (fun z => nomatch z)
    have l2 : DtK g al2 H2 (putK accV (.inr y) v) (dput acc y z) := ((l.mono k1 p1).mono k2 p2).put b2
    refine dct_of n h0 no ms l2 rs2 ((kp.trans pr k1).trans (pr.trans kp p1) k2) ((pr.trans kp p1).trans (kp.trans pr k1) p2) hp2 h ?_
    intro H3 kvs e1 e2 q
    exact fin H3 ((.inr y, v) :: kvs) e1 (by rw [List.length_cons, List.length_cons, e2]) q
theorem RS.not_own (rs : RS g H0 al0 r S al σ H) {p : Addr} (n : H p = none) : ¬ OwnAt r σ p := fun o => by
  rcases rs.own_some o with ⟨_, z⟩ | ⟨_, z⟩ <;> (rw [n] at z; cases z)
theorem s_dct {keys : List (Option Expr)} {values : List Expr} {ms : List ((Rho → Sto → Out D) × (Rho → Sto → Out D))} (h : PPs X pos keys values (ms.map fun m => (TR g W (RV g) m.1, TR g W (RV g) m.2))) (hall : keys.all (·.isSome) = true) (hl : keys.length = values.length) (hlm : ms.length = keys.length)
    (h0 : keys ≠ []) (h15 : keys.length ≤ 15) : PE X (.Dict keys values pos) (TR g W (RF g) fun r S => dmD ms r [] S) := by
  refine PE.imp (pe_disp h hall hl h0 h15) ?_
  rintro σ H Q ⟨H0, al0, al, r, S, rs, h⟩
  intro p n
  refine dct_of (als := al) n (rs.keep.back n) (rs.not_own n) ms .nil (rs.new n) (.of (same_new n)) (.refl al H) ⟨upd_same, rs.nc n⟩ h ?_
  intro H2 kvs e1 e2 q
  exact ⟨e1, kvs, rfl, by rw [e2, hlm]; exact h15, q⟩
end
end Pi

/-! Pi7c: targets, what is walked, comprehensions, by data. -/
namespace Pi
open PySem L2 PySem.Spec PyProof.Rows
section
variable {g : GC} {al al' al0 als : Al} {H H' H0 Hs : Hp} {S S' : Sto} {r r' : Rho} {σ σ' : L2.St} {W : WX} {X : Cx} {Φ : Phi}
variable {a b c : Expr} {m ma mb mc : Rho → Sto → Out D} {pos p2 apos cpos : Pos}

/-! ### a name's place -/
/-- a name gets a datum -/
theorem RS.setV {i : Nat} {v : V} {d : D} (rs : RS g H0 al0 r S al σ H) (h : Dt g al H v d) : RS g H0 al0 (r.set i (some (.v d))) S al (σ.set i (some v)) H := by
  refine ⟨rs.keep, rs.pre, rs.sto, by rw [List.length_set, List.length_set, rs.len], fun j s e => ?_, fun j j' s t x ne e e' w w' q => ?_⟩
  · by_cases hj : j = i
    · subst hj
      have hl : j < r.length := by
        have := (List.getElem?_eq_some_iff.mp e).1
        rwa [List.length_set] at this
      rw [List.getElem?_set_self hl] at e
      cases e
      exact ⟨v, List.getElem?_set_self (by rw [rs.len]; exact hl), h⟩
    · rw [List.getElem?_set_ne (Ne.symm hj)] at e
      obtain ⟨x, ex, k⟩ := rs.sl j s e
      exact ⟨x, by rw [List.getElem?_set_ne (Ne.symm hj)]; exact ex, k⟩
  · have no : ∀ (j : Nat) (s : Sl), (r.set i (some (.v d)))[j]? = some (some s) → s.own = true → j ≠ i := fun j s e w z => by
      subst z
      have hl : j < r.length := by
        have := (List.getElem?_eq_some_iff.mp e).1
        rwa [List.length_set] at this
      rw [List.getElem?_set_self hl] at e
      cases e
      cases w
    have n1 := no j s e w
    have n2 := no j' t e' w'
    rw [List.getElem?_set_ne (Ne.symm n1)] at e q
    rw [List.getElem?_set_ne (Ne.symm n2)] at e' ⊢
    exact rs.nd j j' s t x ne e e' w w' q
/-- a name is forgotten -/
theorem RS.setN {i : Nat} (rs : RS g H0 al0 r S al σ H) : RS g H0 al0 (r.set i none) S al (σ.set i none) H := by
  have no : ∀ (j : Nat) (s : Sl), (r.set i none)[j]? = some (some s) → j ≠ i := fun j s e z => by
    subst z
    have hl : j < r.length := by
      have := (List.getElem?_eq_some_iff.mp e).1
      rwa [List.length_set] at this
    rw [List.getElem?_set_self hl] at e
    cases e
  refine ⟨rs.keep, rs.pre, rs.sto, by rw [List.length_set, List.length_set, rs.len], fun j s e => ?_, fun j j' s t x ne e e' w w' q => ?_⟩
  · have hj := no j s e
    rw [List.getElem?_set_ne (Ne.symm hj)] at e
    obtain ⟨x, ex, k⟩ := rs.sl j s e
    exact ⟨x, by rw [List.getElem?_set_ne (Ne.symm hj)]; exact ex, k⟩
  · have n1 := no j s e
    have n2 := no j' t e'
    rw [List.getElem?_set_ne (Ne.symm n1)] at e q
    rw [List.getElem?_set_ne (Ne.symm n2)] at e' ⊢
    exact rs.nd j j' s t x ne e e' w w' q
theorem RS.wipe (rs : RS g H0 al0 r S al σ H) : ∀ vs : List Nat, RS g H0 al0 (wipeR r vs) S al (wipe σ vs) H
  | [] => rs
  | v :: vs => by
    unfold wipeR L2.wipe
    exact (RS.wipe rs vs).setN

/-! ### targets -/
def Tg.ids : Tg → List Nat
  | .nm i => [i]
  | .tup is => is
  | .kv i is => i :: is
/-- the places without is stand -/
def Off (is : List Nat) (σ σ' : L2.St) : Prop := σ'.length = σ.length ∧ ∀ j, j ∉ is → σ'[j]? = σ[j]?
def TGd (g : GC) (t : Tg) : TG := fun v σ H Q => ∃ H0 al0 al r S d r', RS g H0 al0 r S al σ H ∧ Dt g al H v d ∧ bindT t d r = some r' ∧ ∀ σ', RS g H0 al0 r' S al σ' H → Off t.ids σ σ' → Q σ' H
theorem PG.imp {e : Expr} {t t' : TG} (h : PG X e t) (i : ∀ v σ H Q, t' v σ H Q → t v σ H Q) : PG X e t' := ⟨fun pins s σ H v u Q I rv q => h.run pins s σ H v u Q I rv (i v σ H Q q)⟩
theorem PGs.imp {e : List Expr} {t t' : TGs} (h : PGs X e t) (i : ∀ v σ H Q, t' v σ H Q → t v σ H Q) : PGs X e t' := ⟨fun pins s σ H v u Q I rv q => h.run pins s σ H v u Q I rv (i v σ H Q q)⟩
theorem off_set {i : Nat} {o : Option V} : Off [i] σ (σ.set i o) := ⟨List.length_set .., fun j h => List.getElem?_set_ne (by intro z; subst z; simp at h)⟩
theorem Off.trans {is js : List Nat} {σ1 σ2 σ3 : L2.St} (h : Off is σ1 σ2) (k : Off js σ2 σ3) : Off (is ++ js) σ1 σ3 := ⟨k.1.trans h.1, fun j hj => by
  rw [List.mem_append] at hj
  rw [k.2 j fun z => hj (.inr z), h.2 j fun z => hj (.inl z)]⟩
theorem g_nm (G : XG g X) {i : Nat} {x : Str} (hi : X.N[i]? = some x) (hx : Loc X.env.scope x) (hf : X.fn x = true ∨ X.env.scope.names.lookup x = some .local) : PG X (.Name x pos) (TGd g (.nm i)) := by
  refine PG.imp (pg_name G.nd hi hx hf) ?_
  rintro v σ H Q ⟨H0, al0, al, r, S, d, r', rs, dt, e, q⟩
  simp only [bindT] at e
  split at e
  · cases e
    exact q _ (rs.setV dt) off_set
  · cases e
/-- names that are bound -/
structure NmOk (X : Cx) (e : Expr) (i : Nat) : Prop where
  ex : ∃ x p, e = .Name x p ∧ X.N[i]? = some x ∧ Loc X.env.scope x ∧ (X.fn x = true ∨ X.env.scope.names.lookup x = some .local)
def TGsd (g : GC) (is : List Nat) : TGs := fun vs σ H Q => ∃ H0 al0 al r S ds r', RS g H0 al0 r S al σ H ∧ DtL g al H vs ds ∧ bindV is ds r = some r' ∧ ∀ σ', RS g H0 al0 r' S al σ' H → Off is σ σ' → Q σ' H
theorem gs_nms (G : XG g X) : ∀ {es : List Expr} {is : List Nat}, Paired (NmOk X) es is → PGs X es (TGsd g is) ∧ (assignEach es X.env).length = is.length ∧ (assignEach es X.env).findIdx? (·.1) = none
  | _, _, .nil => by
    refine ⟨PGs.imp pgs_nil ?_, rfl, rfl⟩
    rintro v σ H Q ⟨H0, al0, al, r, S, ds, r', rs, dt, e, q⟩
    cases ds with
    | nil =>
      cases dt
      cases e
      exact ⟨rfl, q σ rs ⟨rfl, fun _ _ => rfl⟩⟩
    | cons => cases e
  | _ :: es, i :: is, .cons h t => by
    obtain ⟨h1, h2, h3⟩ := gs_nms G t
    obtain ⟨x, p, rfl, hi, hx, hf⟩ := h.ex
    refine ⟨PGs.imp (pgs_cons (g_nm G hi hx hf) h1 rfl) ?_, by simpa [assignEach] using h2, by simpa [assignEach, List.findIdx?_cons] using h3⟩
    rintro v σ H Q ⟨H0, al0, al, r, S, ds, r', rs, dt, e, q⟩
    cases ds with
    | nil => cases e
    | cons d ds =>
      cases dt with
      | cons dv dt =>
        simp only [bindV] at e
        split at e
        · rename_i hl
          refine ⟨_, _, rfl, H0, al0, al, r, S, d, _, rs, dv, by simp only [bindT]; rw [if_pos hl], fun σ1 rs1 o1 => ⟨H0, al0, al, _, S, ds, r', rs1, dt, e, fun σ2 rs2 o2 => q σ2 rs2 (o1.trans o2)⟩⟩
        · cases e
theorem PG.or {e : Expr} {t t' : TG} (h : PG X e t) (h' : PG X e t') : PG X e (fun v σ H Q => t v σ H Q ∨ t' v σ H Q) := ⟨fun pins s σ H v u Q I rv q => q.elim (fun q => h.run pins s σ H v u Q I rv q) (fun q => h'.run pins s σ H v u Q I rv q)⟩
theorem bindV_len : ∀ {is : List Nat} {ds : List D} {r r' : Rho}, bindV is ds r = some r' → is.length = ds.length := by
  intro is
  induction is with
  | nil => intro ds r r' e; cases ds <;> first | rfl | cases e
  | cons i is ih =>
    intro ds r r' e
    cases ds with
    | nil => cases e
    | cons d ds =>
      simp only [bindV] at e
      split at e
      · rw [List.length_cons, List.length_cons, ih e]
      · cases e
theorem g_tup (G : XG g X) {es : List Expr} {is : List Nat} {k : Nat} (h : Paired (NmOk X) es is) : PG X (.Tuple es k pos) (TGd g (.tup is)) := by
  obtain ⟨h1, h2, h3⟩ := gs_nms G h
  refine PG.imp (PG.or (pg_tup G.calm h1 h2 h3) (pg_lst G.calm h1 h2 h3)) ?_
  rintro v σ H Q ⟨H0, al0, al, r, S, d, r', rs, dt, e, q⟩
  have hK := G.hK
  cases d <;> try (cases e; done)
  · rename_i ds
    cases dt with
    | @tup p vs _ sq l => exact .inl ⟨p, vs, rfl, hK ▸ sq, by rw [l.length]; exact (bindV_len e).symm, H0, al0, al, r, S, ds, r', rs, l, e, q⟩
  · rename_i ds
    cases dt with
    | @lst p vs _ sq l => exact .inr ⟨p, vs, rfl, hK ▸ sq.sq, by rw [l.length]; exact (bindV_len e).symm, H0, al0, al, r, S, ds, r', rs, l, e, q⟩

/-- a name, and names within -/
theorem g_kv (G : XG g X) {i : Nat} {x : Str} {px p2 : Pos} {es : List Expr} {is : List Nat} {k k2 : Nat} (hi : X.N[i]? = some x) (hx : Loc X.env.scope x) (hf : X.fn x = true ∨ X.env.scope.names.lookup x = some .local) (h : Paired (NmOk X) es is) : PG X (.Tuple [.Name x px, .Tuple es k2 p2] k pos) (TGd g (.kv i is)) := by
  refine PG.imp (pg_tup G.calm (pgs_cons (g_nm G hi hx hf) (pgs_cons (g_tup G h) pgs_nil rfl) rfl) rfl rfl) ?_
  rintro v σ H Q ⟨H0, al0, al, r, S, d, r', rs, dt, e, q⟩
  unfold bindT at e
  split at e
  · rename_i h1; cases h1
  · rename_i h1; cases h1
  · rename_i h1
    cases h1
    split at e
    · rename_i a ds
      split at e
      · rename_i hl
        cases dt with
        | @tup p vs _ sq l =>
          cases l with
          | cons da l =>
            cases l with
            | cons db l =>
              cases l
              have hK := G.hK
              refine ⟨p, _, rfl, hK ▸ sq, rfl, _, _, rfl, H0, al0, al, r, S, a, _, rs, da, by simp only [bindT]; rw [if_pos hl], fun σ1 rs1 o1 => ⟨_, _, rfl, H0, al0, al, _, S, .tup ds, r', rs1, db, by simp only [bindT]; exact e, fun σ2 rs2 o2 => ⟨rfl, q σ2 rs2 (o1.trans o2)⟩⟩⟩
      · cases e
    · cases e
/-! ### what is walked -/
/-- J yields ds, whatever is reckoned meanwhile -/
def Yl (g : GC) (als : Al) (Hs : Hp) (J : L2.It) (ds : List D) : Prop :=
  ∀ i H al, KeepZ Hs H → Ext als Hs al → (∀ d, ds[i]? = some d → J.go i H ∧ ∀ x H', J.yld i H x H' → L2.Same H H' ∧ Dt g al H' x d) ∧ (ds.length ≤ i → J.stop i H)
/-- never frozen, no tuple -/
def Nf (B : Hp) (x : Addr) : Prop := (∀ o u, B x ≠ some (.frz o u)) ∧ ∀ xs, B x ≠ some (.tup xs)
/-- a locked thing may be unlocked behind the walk -/
def WkOk (X : Cx) (H0 H : Hp) (al : Al) (w : Option Nat) : Prop := ∀ i, w = some i → ∃ x dx, al[i]? = some (x, dx) ∧ (∀ o' u', X.H_0 x ≠ some (.frz o' u')) ∧ Nf H0 x ∧ Nf H x
def YlW (X : Cx) (g : GC) (H0 H : Hp) (als : Al) (Hs : Hp) (J : L2.It) (k : Wk) : Prop := Yl g als Hs J k.xs ∧ WkOk X H0 H als k.w
theorem Yl.w {X : Cx} {H0 H1 : Hp} {J : L2.It} {ds : List D} (h : Yl g al H J ds) : YlW X g H0 H1 al H J ⟨none, ds⟩ := ⟨h, fun i e => nomatch e⟩
def TIt (X : Cx) (g : GC) (W : WX) (mi : Rho → Sto → Out Wk) : TI := fun σ H R =>
  ∃ H0 al0 al r S, RS g H0 al0 r S al σ H ∧ Pst g W H0 al0 r σ al H (YlW X g H0 H) (mi r S) R
/-- what is wanted, or what is wanted once a thing is unlocked -/
def UQ (X : Cx) (Q : VK) : VK := fun v H => Q v H ∨ ∃ a od u, H a = some (.frz od u) ∧ (∀ o' u', X.H_0 a ≠ some (.frz o' u')) ∧ Q v (upd H a u)
theorem pe_unl {e : Expr} {t : TE} (h : PE X e t) : PE X e (fun σ H Q => t σ H (UQ X Q)) := by
  refine ⟨fun pins s σ H Q I q => thn (h.run pins s σ H _ I q) ?_⟩
  rintro u s1 ⟨v, H1, I1, r1, q | ⟨a, od, w, e, n, q⟩⟩
  · exact ⟨v, H1, I1, r1, q⟩
  · exact ⟨v, _, I1.unlock e n, r1, q⟩
/-- the walk's end -/
theorem RS.unl {H2 : Hp} {al2 : Al} {w : Option Nat} {S2 : Sto} (rs : RS g H0 al0 r S2 al2 σ H2) (k : Keep al H H2) (p : Ext al H al2) (c : WkOk X H0 H al2 w) :
    (RS g H0 al0 r (ulS w S2) al2 σ H2 ∧ Keep al H H2) ∨ ∃ q od u, Cell al2 q ∧ H2 q = some (.frz od u) ∧ (∀ ob xs, u ≠ .frz ob xs) ∧ Loose al2 H2 q ∧ (∀ o' u', X.H_0 q ≠ some (.frz o' u')) ∧ RS g H0 al0 r (ulS w S2) al2 σ (upd H2 q u) ∧ Keep al H (upd H2 q u) := by
  cases w with
  | none => exact .inl ⟨rs, k⟩
  | some i =>
    obtain ⟨q, dq, ea, n1, n2, n3⟩ := c i rfl
    have no : (∀ o, S2[i]? ≠ some (.lk o)) → RS g H0 al0 r (ulS (some i) S2) al2 σ H2 ∧ Keep al H H2 := fun h => by rw [ulS_no h]; exact ⟨rs, k⟩
    cases es : S2[i]? with
    | none => exact .inl (no fun o e => by rw [es] at e; cases e)
    | some o =>
      cases o with
      | ins c fs => exact .inl (no fun o e => by rw [es] at e; cases e)
      | ol xs => exact .inl (no fun o e => by rw [es] at e; cases e)
      | od xs => exact .inl (no fun o e => by rw [es] at e; cases e)
      | lk o =>
        have q1 := rs.sto.at_ _ _ _ _ ea es
        refine .inr ?_
        rw [ulS_lk es]
        cases o with
        | ol ds =>
          obtain ⟨od, vs, y, l⟩ := q1
          have lo : Loose al2 H2 q := ⟨.inr ⟨⟨i, dq, ea⟩, fun _ _ z => by rw [y] at z; cases z⟩, fun _ z => by rw [y] at z; cases z⟩
          have new : ObOk g al2 (upd H2 q (.lst vs)) q dq (.ol ds) := ⟨vs, upd_same, l.loose lo⟩
          exact ⟨q, od, _, ⟨i, dq, ea⟩, y, (fun _ _ z => nomatch z), lo, n1, rs.cell ea lo n2.1 n2.2 new, k.cell p ⟨i, dq, ea⟩ n3.1 n3.2⟩
        | od ds =>
          obtain ⟨od, vs, y, l⟩ := q1
          have lo : Loose al2 H2 q := ⟨.inr ⟨⟨i, dq, ea⟩, fun _ _ z => by rw [y] at z; cases z⟩, fun _ z => by rw [y] at z; cases z⟩
          have new : ObOk g al2 (upd H2 q (.dK vs)) q dq (.od ds) := ⟨vs, upd_same, l.loose lo⟩
          exact ⟨q, od, _, ⟨i, dq, ea⟩, y, (fun _ _ z => nomatch z), lo, n1, rs.cell ea lo n2.1 n2.2 new, k.cell p ⟨i, dq, ea⟩ n3.1 n3.2⟩
        | _ => exact q1.elim
theorem WkOk.pre {al1 al2 : Al} {w : Option Nat} (c : WkOk X H0 H al1 w) (p : al1 <+: al2) : WkOk X H0 H al2 w := fun i e => let ⟨x, dx, e1, e2⟩ := c i e; ⟨x, dx, pre_get p e1, e2⟩
theorem PI.imp {tg e : Expr} {t t' : TI} (h : PI X tg e t) (i : ∀ σ H Q, t' σ H Q → t σ H Q) : PI X tg e t' := ⟨fun pins s σ H Q I q => h.run pins s σ H Q I (i σ H Q q)⟩
theorem yl_lst {K : PySem.W.Frag} {p : Addr} {vs : List V} {ds : List D} (hK : g.K = K) (q : LsZ g.K H p vs) (l : DtL g al H vs ds) : Yl g al H (Itl K p) ds := by
  subst hK
  intro i H1 al1 k pr
  have q1 : SqL g.K H1 p vs := (lsZ_keepZ k q).sq
  have l1 := l.monoZ k pr
  refine ⟨fun d e => ?_, fun hl => ⟨vs, q1, by rw [l.length]; exact hl⟩⟩
  obtain ⟨v, ev, dv⟩ := l1.get e
  refine ⟨⟨vs, v, q1, ev⟩, ?_⟩
  rintro x H' ⟨rfl, hx⟩
  have := hx vs q1
  rw [ev] at this
  cases this
  exact ⟨fun _ _ z => z, dv⟩
theorem yl_tup {K : PySem.W.Frag} {p : Addr} {vs : List V} {ds : List D} (hK : g.K = K) (q : SqT g.K H p vs) (l : DtL g al H vs ds) : Yl g al H (Itt K p) ds := by
  subst hK
  intro i H1 al1 k pr
  have q1 : SqT g.K H1 p vs := sqT_keepZ k q
  have l1 := l.monoZ k pr
  refine ⟨fun d e => ?_, fun hl => ⟨vs, q1, by rw [l.length]; exact hl⟩⟩
  obtain ⟨v, ev, dv⟩ := l1.get e
  refine ⟨⟨vs, v, q1, ev⟩, ?_⟩
  rintro x H' ⟨rfl, hx⟩
  have := hx vs q1
  rw [ev] at this
  cases this
  exact ⟨fun _ _ z => z, dv⟩

theorem yl_keys {p : Addr} {o : Obj} {kvs : List (Key × V)} {rs : List (Str × D)} (q : H p = some (.frz o (.dK kvs))) (l : DtK g al H kvs rs) : Yl g al H (Itk p o kvs) (keysD rs) := by
  intro i H1 al1 k pr
  have q1 : H1 p = some (.frz o (.dK kvs)) := k.z _ _ _ q
  have l1 := l.monoZ k pr
  have hlen : (keysD rs).length = kvs.length := by rw [keysD, List.length_map, l.length]
  refine ⟨fun d e => ?_, fun hl => ⟨q1, by rw [← hlen]; exact hl⟩⟩
  have hi : i < kvs.length := by rw [← hlen]; exact (List.getElem?_eq_some_iff.mp e).1
  refine ⟨⟨q1, hi⟩, ?_⟩
  rintro x H' ⟨rfl, k, v, e1, rfl⟩
  obtain ⟨y, dv, rfl, e2, _⟩ := l1.getI e1
  simp only [keysD, List.getElem?_map, e2, Option.map_some, Option.some.injEq] at e
  subst e
  exact ⟨fun _ _ z => z, .str _⟩
theorem yl_vals {p : Addr} {o : Obj} {kvs : List (Key × V)} {rs : List (Str × D)} (q : H p = some (.frz o (.dK kvs))) (l : DtK g al H kvs rs) : Yl g al H (Itd p o kvs) (rs.map (·.2)) := by
  intro i H1 al1 k pr
  have q1 : H1 p = some (.frz o (.dK kvs)) := k.z _ _ _ q
  have l1 := l.monoZ k pr
  have hlen : (rs.map (·.2)).length = kvs.length := by rw [List.length_map, l.length]
  refine ⟨fun d e => ?_, fun hl => ⟨q1, by rw [← hlen]; exact hl⟩⟩
  have hi : i < kvs.length := by rw [← hlen]; exact (List.getElem?_eq_some_iff.mp e).1
  refine ⟨⟨q1, hi⟩, ?_⟩
  rintro x H' ⟨rfl, k, e1⟩
  obtain ⟨y, dv, rfl, e2, dd⟩ := l1.getI e1
  simp only [List.getElem?_map, e2, Option.map_some, Option.some.injEq] at e
  subst e
  exact ⟨fun _ _ z => z, dd⟩
theorem yl_items {p : Addr} {o : Obj} {kvs : List (Key × V)} {rs : List (Str × D)} (q : H p = some (.frz o (.dK kvs))) (l : DtK g al H kvs rs) : Yl g al H (Iti p o kvs) (rs.map fun p => .tup [.str p.1, p.2]) := by
  intro i H1 al1 k pr
  have q1 : H1 p = some (.frz o (.dK kvs)) := k.z _ _ _ q
  have l1 := l.monoZ k pr
  have hlen : (rs.map fun p => D.tup [.str p.1, p.2]).length = kvs.length := by rw [List.length_map, l.length]
  refine ⟨fun d e => ?_, fun hl => ⟨q1, by rw [← hlen]; exact hl⟩⟩
  have hi : i < kvs.length := by rw [← hlen]; exact (List.getElem?_eq_some_iff.mp e).1
  refine ⟨⟨q1, hi⟩, ?_⟩
  rintro x H' ⟨T, k, v, e1, rfl, nT, rfl⟩
  obtain ⟨y, dv, rfl, e2, dd⟩ := l1.getI e1
  simp only [List.getElem?_map, e2, Option.map_some, Option.some.injEq] at e
  subst e
  have sm := same_new (o := HO.tup [kV (.inr y), v]) nT
  exact ⟨sm, .tup (.inl (.inl upd_same)) (.cons (.str _) (.cons (dd.same sm) .nil))⟩
theorem enumD_get : ∀ {ds : List D} {n i : Nat} {d : D}, (enumD n ds)[i]? = some d → ∃ x, ds[i]? = some x ∧ d = .tup [.int ((n + i : Nat) : Int), x]
  | [], _, _, _, e => by simp [enumD] at e
  | x :: ds, n, 0, d, e => by
    simp [enumD] at e
    exact ⟨x, rfl, e.symm⟩
  | x :: ds, n, i + 1, d, e => by
    simp only [enumD, List.getElem?_cons_succ] at e
    obtain ⟨y, e1, e2⟩ := enumD_get e
    exact ⟨y, by simpa using e1, by rw [e2]; congr 3; congr 1; omega⟩
theorem enumD_length : ∀ (ds : List D) (n : Nat), (enumD n ds).length = ds.length
  | [], _ => rfl
  | _ :: ds, n => by rw [enumD, List.length_cons, List.length_cons, enumD_length ds]
theorem yl_enum {K : PySem.W.Frag} {p : Addr} {vs : List V} {ds : List D} (hK : g.K = K) (q : LsZ g.K H p vs) (l : DtL g al H vs ds) : Yl g al H (Ite K p) (enumD 0 ds) := by
  subst hK
  intro i H1 al1 k pr
  have q1 : SqL g.K H1 p vs := (lsZ_keepZ k q).sq
  have l1 := l.monoZ k pr
  refine ⟨fun d e => ?_, fun hl => ⟨vs, q1, by rw [l.length]; rw [enumD_length] at hl; exact hl⟩⟩
  obtain ⟨y, e1, rfl⟩ := enumD_get e
  obtain ⟨v, ev, dv⟩ := l1.get e1
  refine ⟨⟨vs, v, q1, ev⟩, ?_⟩
  rintro x H' ⟨T, w, rfl, nT, rfl, hx⟩
  have := hx vs q1
  rw [ev] at this
  cases this
  have sm := same_new (o := HO.tup [.int (i : Nat), v]) nT
  rw [Nat.zero_add]
  exact ⟨sm, .tup (.inl (.inl upd_same)) (.cons (.int _) (.cons (dv.same sm) .nil))⟩
theorem yl_rev {K : PySem.W.Frag} {p : Addr} {vs : List V} {ds : List D} (hK : g.K = K) (q : LsZ g.K H p vs) (l : DtL g al H vs ds) : Yl g al H (Itv K p vs.length) ds.reverse := by
  subst hK
  intro i H1 al1 k pr
  have q1 : SqL g.K H1 p vs := (lsZ_keepZ k q).sq
  have l1 := l.monoZ k pr
  refine ⟨fun d e => ?_, fun hl => by rw [List.length_reverse] at hl; rw [← l.length] at hl; exact hl⟩
  have hi : i < ds.length := by
    have := (List.getElem?_eq_some_iff.mp e).1
    rwa [List.length_reverse] at this
  rw [List.getElem?_reverse hi, ← l.length] at e
  obtain ⟨v, ev, dv⟩ := l1.get e
  refine ⟨⟨by rw [l.length]; exact hi, vs, v, q1, ev⟩, ?_⟩
  rintro x H' ⟨rfl, hx⟩
  have := hx vs q1
  rw [ev] at this
  cases this
  exact ⟨fun _ _ z => z, dv⟩
theorem zipD_get : ∀ {xs ys : List D} {i : Nat} {d : D}, (zipD xs ys)[i]? = some d → ∃ x y, xs[i]? = some x ∧ ys[i]? = some y ∧ d = .tup [x, y]
  | [], _, _, _, e => by simp [zipD] at e
  | _ :: _, [], _, _, e => by simp [zipD] at e
  | x :: xs, y :: ys, 0, d, e => by
    simp [zipD] at e
    exact ⟨x, y, rfl, rfl, e.symm⟩
  | x :: xs, y :: ys, i + 1, d, e => by
    simp only [zipD, List.getElem?_cons_succ] at e
    obtain ⟨u, v, e1, e2, e3⟩ := zipD_get e
    exact ⟨u, v, by simpa using e1, by simpa using e2, e3⟩
theorem zipD_length : ∀ (xs ys : List D) (i : Nat), (zipD xs ys).length ≤ i → xs.length ≤ i ∨ ys.length ≤ i
  | [], _, i, _ => .inl (Nat.zero_le i)
  | _ :: _, [], i, _ => .inr (Nat.zero_le i)
  | x :: xs, y :: ys, 0, h => by simp [zipD] at h
  | x :: xs, y :: ys, i + 1, h => by
    simp only [zipD, List.length_cons] at h ⊢
    rcases zipD_length xs ys i (by omega) with h | h
    · exact .inl (by omega)
    · exact .inr (by omega)
theorem yl_zip {K : PySem.W.Frag} {p p' : Addr} {vs vs' : List V} {ds ds' : List D} (hK : g.K = K) (q : LsZ g.K H p vs) (l : DtL g al H vs ds) (q' : LsZ g.K H p' vs') (l' : DtL g al H vs' ds') : Yl g al H (Itz K p p') (zipD ds ds') := by
  subst hK
  intro i H1 al1 k pr
  have q1 : SqL g.K H1 p vs := (lsZ_keepZ k q).sq
  have q2 : SqL g.K H1 p' vs' := (lsZ_keepZ k q').sq
  have l1 := l.monoZ k pr
  have l2 := l'.monoZ k pr
  refine ⟨fun d e => ?_, fun hl => ⟨vs, vs', q1, q2, by rw [l.length, l'.length]; exact zipD_length _ _ _ hl⟩⟩
  obtain ⟨x, y, e1, e2, rfl⟩ := zipD_get e
  obtain ⟨v, ev, dv⟩ := l1.get e1
  obtain ⟨w, ew, dw⟩ := l2.get e2
  refine ⟨⟨vs, vs', v, w, q1, q2, ev, ew⟩, ?_⟩
  rintro x H' ⟨T, v', w', rfl, nT, rfl, hx, hy⟩
  have h1 := hx vs q1
  rw [ev] at h1
  cases h1
  have h2 := hy vs' q2
  rw [ew] at h2
  cases h2
  have sm := same_new (o := HO.tup [v, w]) nT
  exact ⟨sm, .tup (.inl (.inl upd_same)) (.cons (dv.same sm) (.cons (dw.same sm) .nil))⟩
theorem yl_rng (lo : Int) (n : Nat) : Yl g al H (Itr lo n) (rngD lo n) := by
  intro i H1 al1 k pr
  have hl : (rngD lo n).length = n := by simp [rngD]
  refine ⟨fun d e => ?_, fun h => by rw [hl] at h; exact h⟩
  have hi : i < n := by
    have := (List.getElem?_eq_some_iff.mp e).1
    rwa [hl] at this
  refine ⟨hi, ?_⟩
  rintro x H' ⟨rfl, rfl⟩
  simp only [rngD, List.getElem?_map, List.getElem?_range hi, Option.map_some, Option.some.injEq] at e
  subst e
  exact ⟨fun _ _ z => z, .int _⟩
end
end Pi

/-! Pi7d: iterables and comprehensions, by data. -/
namespace Pi
open PySem L2 PySem.Spec PyProof.Rows
section
variable {g : GC} {al al' al0 als : Al} {H H' H0 Hs : Hp} {S S' : Sto} {r r' : Rho} {σ σ' : L2.St} {W : WX} {X : Cx} {Φ : Phi}
variable {a b c tg : Expr} {m ma mb mc : Rho → Sto → Out D} {pos p p2 apos cpos tpos : Pos} {elts : List Expr} {kk : Nat}

/-- a frozen list's makings -/
theorem Dt.lstI {v : V} {ds : List D} (h : Dt g al H v (.lst ds)) : ∃ p vs, v = .ref p ∧ LsZ g.K H p vs ∧ DtL g al H vs ds := by cases h with | lst q l => exact ⟨_, _, rfl, q.z, l⟩
theorem Dt.tupI {v : V} {ds : List D} (h : Dt g al H v (.tup ds)) : ∃ p vs, v = .ref p ∧ SqT g.K H p vs ∧ DtL g al H vs ds := by cases h with | tup q l => exact ⟨_, _, rfl, q, l⟩
theorem Dt.dicI {v : V} {ds : List (Str × D)} (h : Dt g al H v (.dic ds)) : ∃ p o vs, v = .ref p ∧ H p = some (.frz o (.dK vs)) ∧ DtK g al H vs ds := by cases h with | dic q _ l => exact ⟨_, _, _, rfl, q, l⟩
/-- a thing that may change is locked, once it has come -/
theorem pe_lockF {e : Expr} {t : TE} (h : PE X e t) : PE X e (fun σ H Q => t σ H fun v H1 => ∃ a u, v = .ref a ∧ H1 a = some u ∧ Mut (some u) ∧ ∀ od, (∀ o' u', X.H_0 a ≠ some (.frz o' u')) → Q v (upd H1 a (.frz od u))) := by
  refine ⟨fun pins s σ H Q I q => thn (h.run pins s σ H _ I q) ?_⟩
  rintro u s1 ⟨v, H1, I1, r1, a, o, rfl, e, mu, q⟩
  obtain ⟨od, I2⟩ := I1.lock e mu
  exact ⟨_, _, I2, r1, q od (I1.nofrz e mu)⟩
/-- .. in the store, too -/
theorem RS.lockC {k : Nat} {q dq : Addr} {o : HO} {ob : Ob} {od : Obj} (rs : RS g H0 al0 r S al σ H) (ea : al[k]? = some (q, dq)) (y : H q = some o) (lo : Loose al H q) (n1 : ∀ ob w, o ≠ .frz ob w) (n2 : ∀ xs, o ≠ .tup xs) (new : ObOk g al (upd H q (.frz od o)) q dq ob) : RS g H0 al0 r (S.set k ob) al σ (upd H q (.frz od o)) :=
  rs.cell ea lo (rs.nf y n1) (rs.nt y n2) new
theorem i_over (G : XG g X) (ha : PE X a (TR g W (RV g) ma)) : PI X tg a (TIt X g W fun r S => (ma r S).bnd fun x S => overD S x) := by
  refine ⟨fun pins s σ H R I h => ?_⟩
  obtain ⟨H0, al0, al, r, S, rs, h⟩ := h
  have hK := G.hK
  dsimp only at h
  cases em : ma r S with
  | bad => rw [em] at h; exact h.elim
  | exc c S' =>
    rw [em] at h
    exact (pi_list ha).run pins s σ H R I ⟨H0, al0, al, r, S, rs, by rw [em]; exact h⟩
  | ok x S1 =>
    rw [em] at h
    cases x <;> try exact h.elim
    · rename_i i
      have h : Pst g W H0 al0 r σ al H (YlW X g H0 H) (match S1[i]? with | some (.ol xs) => .ok ⟨some i, xs⟩ (S1.set i (.lk (.ol xs))) | some (.od kvs) => .ok ⟨some i, keysD kvs⟩ (S1.set i (.lk (.od kvs))) | _ => .bad) R := h
      split at h
      · rename_i xs es
        refine (pi_list (pe_lockF ha)).run pins s σ H R I ⟨H0, al0, al, r, S, rs, ?_⟩
        rw [em]
        intro H1 al1 v rs1 k1 p1 b1
        cases b1 with
        | @obj _ q dq ea =>
        obtain ⟨vs, y, l⟩ := rs1.sto.at_ _ _ _ _ ea es
        refine ⟨q, _, rfl, y, trivial, fun od nf => ⟨q, rfl, ⟨vs, .inl (.inr ⟨od, upd_same⟩)⟩, ?_⟩⟩
        have lo : Loose al1 H1 q := loose_lst y
        have l2 := l.loose (o := .frz od (.lst vs)) lo
        have rs2 := rs1.lockC (od := od) (ob := .lk (.ol xs)) ea y lo (fun _ _ z => nomatch z) (fun _ z => nomatch z) ⟨od, vs, upd_same, l2⟩
        exact h _ al1 _ rs2 (k1.cell p1 ⟨i, dq, ea⟩ (k1.toZ.nf y fun _ _ z => nomatch z) (k1.toZ.nt y fun _ z => nomatch z)) p1 ⟨yl_lst hK (.inl ⟨od, upd_same⟩) l2, fun j ej => by cases ej; exact ⟨q, dq, ea, nf, ⟨rs1.nf y fun _ _ z => (nomatch z), rs1.nt y fun _ z => (nomatch z)⟩, ⟨k1.toZ.nf y fun _ _ z => (nomatch z), k1.toZ.nt y fun _ z => (nomatch z)⟩⟩⟩
      · rename_i xs es
        refine (pi_keys (pe_lockF ha)).run pins s σ H R I ⟨H0, al0, al, r, S, rs, ?_⟩
        rw [em]
        intro H1 al1 v rs1 k1 p1 b1
        cases b1 with
        | @obj _ q dq ea =>
        obtain ⟨vs, y, l⟩ := rs1.sto.at_ _ _ _ _ ea es
        refine ⟨q, _, rfl, y, trivial, fun od nf => ⟨q, od, rfl, .inl ⟨vs, upd_same, ?_⟩⟩⟩
        have lo : Loose al1 H1 q := loose_dK y
        have l2 := l.loose (o := .frz od (.dK vs)) lo
        have rs2 := rs1.lockC (od := od) (ob := .lk (.od xs)) ea y lo (fun _ _ z => nomatch z) (fun _ z => nomatch z) ⟨od, vs, upd_same, l2⟩
        exact h _ al1 _ rs2 (k1.cell p1 ⟨i, dq, ea⟩ (k1.toZ.nf y fun _ _ z => nomatch z) (k1.toZ.nt y fun _ z => nomatch z)) p1 ⟨yl_keys upd_same l2, fun j ej => by cases ej; exact ⟨q, dq, ea, nf, ⟨rs1.nf y fun _ _ z => (nomatch z), rs1.nt y fun _ z => (nomatch z)⟩, ⟨k1.toZ.nf y fun _ _ z => (nomatch z), k1.toZ.nt y fun _ z => (nomatch z)⟩⟩⟩
      · exact h.elim
    · rename_i xs
      refine (pi_tup ha).run pins s σ H R I ⟨H0, al0, al, r, S, rs, ?_⟩
      rw [em]
      intro H1 al1 v rs1 k1 p1 b1
      obtain ⟨q, vs, rfl, sq, l⟩ := Dt.tupI b1
      exact ⟨q, rfl, ⟨vs, hK ▸ sq⟩, h H1 al1 _ rs1 k1 p1 (yl_tup hK sq l).w⟩
    · rename_i xs
      refine (pi_list ha).run pins s σ H R I ⟨H0, al0, al, r, S, rs, ?_⟩
      rw [em]
      intro H1 al1 v rs1 k1 p1 b1
      obtain ⟨q, vs, rfl, sq, l⟩ := Dt.lstI b1
      exact ⟨q, rfl, ⟨vs, hK ▸ sq.sq⟩, h H1 al1 _ rs1 k1 p1 (yl_lst hK sq l).w⟩
    · rename_i kvs
      refine (pi_keys ha).run pins s σ H R I ⟨H0, al0, al, r, S, rs, ?_⟩
      rw [em]
      intro H1 al1 v rs1 k1 p1 b1
      obtain ⟨q, o, vs, rfl, sq, l⟩ := Dt.dicI b1
      exact ⟨q, o, rfl, .inl ⟨vs, sq, h H1 al1 _ rs1 k1 p1 (yl_keys sq l).w⟩⟩
theorem i_items (ha : PE X a (TR g W (RV g) ma)) (hbase : attributeBase a "items" X.env (eval a X.env) = eval a X.env) (hline : (apos.endLine == cpos.line) = true) :
    PI X (.Tuple elts kk tpos) (.Call (.Attribute a "items" apos) [] [] cpos) (TIt X g W fun r S => (ma r S).bnd fun x S => match x with | .dic kvs => .ok ⟨none, kvs.map fun p => .tup [.str p.1, p.2]⟩ S | _ => .bad) := by
  refine PI.imp (pi_items ha hbase hline) ?_
  rintro σ H Q ⟨H0, al0, al, r, S, rs, h⟩
  refine ⟨H0, al0, al, r, S, rs, (Pst.bndAt (R1 := RV g H) h).imp ?_⟩
  rintro vx H1 ⟨al1, x, S1, rs1, k1, p1, b1, h⟩
  cases x <;> try exact h.elim
  obtain ⟨q, o, vs, rfl, sq, l⟩ := Dt.dicI b1
  exact ⟨q, o, vs, rfl, sq, h H1 al1 _ rs1 k1 p1 (yl_items sq l).w⟩
theorem i_vals (ha : PE X a (TR g W (RV g) ma)) (hbase : attributeBase a "values" X.env (eval a X.env) = eval a X.env) (hline : (apos.endLine == cpos.line) = true) :
    PI X tg (.Call (.Attribute a "values" apos) [] [] cpos) (TIt X g W fun r S => (ma r S).bnd fun x S => match x with | .dic kvs => .ok ⟨none, kvs.map (·.2)⟩ S | _ => .bad) := by
  refine PI.imp (pi_values ha hbase hline) ?_
  rintro σ H Q ⟨H0, al0, al, r, S, rs, h⟩
  refine ⟨H0, al0, al, r, S, rs, (Pst.bndAt (R1 := RV g H) h).imp ?_⟩
  rintro vx H1 ⟨al1, x, S1, rs1, k1, p1, b1, h⟩
  cases x <;> try exact h.elim
  obtain ⟨q, o, vs, rfl, sq, l⟩ := Dt.dicI b1
  exact ⟨q, o, vs, rfl, sq, h H1 al1 _ rs1 k1 p1 (yl_vals sq l).w⟩
/-- one argument, two arguments -/
theorem as1 (ha : PE X a (TR g W (RV g) ma)) (hs : noStar a = true) : PA X [a] (TAs g W fun r S => (ma r S).bnd fun x S => .ok [x] S) := by
  refine PA.imp (pa_cons ha pa_nil (star_ok hs)) ?_
  rintro σ H Q ⟨H0, al0, al, r, S, rs, h⟩
  refine ⟨H0, al0, al, r, S, rs, (Pst.bndAt (R1 := RV g H) h).imp ?_⟩
  rintro vx H1 ⟨al1, x, S1, rs1, k1, p1, b1, h⟩
  exact h H1 al1 _ rs1 k1 p1 (.cons b1 .nil)
theorem as2 (ha : PE X a (TR g W (RV g) ma)) (hb : PE X b (TR g W (RV g) mb)) (hs : noStar a = true) (hs' : noStar b = true) : PA X [a, b] (TAs g W fun r S => (ma r S).bnd fun x S => (mb r S).bnd fun y S => .ok [x, y] S) := by
  refine PA.imp (pa_cons ha (pa_cons hb pa_nil (star_ok hs')) (star_ok hs)) ?_
  rintro σ H Q ⟨H0, al0, al, r, S, rs, h⟩
  refine ⟨H0, al0, al, r, S, rs, (Pst.bndAt (R1 := RV g H) h).imp ?_⟩
  rintro vx H1 ⟨al1, x, S1, rs1, k1, p1, b1, h⟩
  refine ⟨H0, al0, al1, r, S1, rs1, (Pst.bndAt (R1 := RV g H1) h).imp ?_⟩
  rintro vy H2 ⟨al2, y, S2, rs2, k2, p2, b2, h⟩
  exact h H2 al2 _ rs2 (k1.trans p1 k2) (p1.trans k1 p2) (.cons (Dt.mono k2 p2 b1) (.cons b2 .nil))
theorem pst1 {α : Type} {R : Al → Hp → L2.It → α → Prop} {Q : L2.It → Hp → Prop} {o : Out D} {k : D → Sto → Out α} (h : Pst g W H0 al0 r σ al H R (o.bnd k) Q) :
    Pst g W H0 al0 r σ al H (fun al H vs ds => DtL g al H vs ds) (o.bnd fun x S => .ok [x] S) fun vs H1 => ∃ v x al1 S1, vs = [v] ∧ RS g H0 al0 r S1 al1 σ H1 ∧ Keep al H H1 ∧ Ext al H al1 ∧ Dt g al1 H1 v x ∧ Pst g W H0 al0 r σ al H R (k x S1) Q := by
  cases o with
  | bad => exact h
  | exc c S' => exact h
  | ok x S1 =>
    intro H1 al1 vs rs1 k1 p1 b1
    cases b1 with
    | cons b1 bn =>
      cases bn
      exact ⟨_, x, al1, S1, rfl, rs1, k1, p1, b1, h⟩
theorem i_rng (hg : Gl X "range") (hm : X.mg "range" = none) (ha : PE X a (TR g W (RV g) ma)) (hs : noStar a = true) :
    PI X tg (.Call (.Name "range" p) [a] [] pos) (TIt X g W fun r S => (ma r S).bnd fun x S => match x with
      | .int j => if fits62 j = true then .ok ⟨none, rngD 0 j.toNat⟩ S else .bad
      | _ => .bad) := by
  refine PI.imp (pi_range1 hg hm (as1 ha hs) (star_ok hs)) ?_
  rintro σ H Q ⟨H0, al0, al, r, S, rs, h⟩
  refine ⟨H0, al0, al, r, S, rs, (pst1 h).imp ?_⟩
  rintro vs H1 ⟨v, x, al1, S1, rfl, rs1, k1, p1, b1, h⟩
  cases x <;> try exact h.elim
  rename_i j
  cases b1
  dsimp only at h
  split at h
  · rename_i hb
    exact ⟨j, rfl, (fits62_ok hb).1, (fits62_ok hb).2, h H1 al1 _ rs1 k1 p1 (yl_rng _ _).w⟩
  · exact h.elim
theorem i_enum (G : XG g X) (hg : Gl X "enumerate") (hm : X.mg "enumerate" = none) (ha : PE X a (TR g W (RV g) ma)) (hs : noStar a = true) :
    PI X (.Tuple elts kk tpos) (.Call (.Name "enumerate" p) [a] [] pos) (TIt X g W fun r S => (ma r S).bnd fun x S => match x with | .lst xs => .ok ⟨none, enumD 0 xs⟩ S | _ => .bad) := by
  refine PI.imp (pi_enum hg hm (as1 ha hs) (star_ok hs)) ?_
  rintro σ H Q ⟨H0, al0, al, r, S, rs, h⟩
  refine ⟨H0, al0, al, r, S, rs, (pst1 h).imp ?_⟩
  rintro vs H1 ⟨v, x, al1, S1, rfl, rs1, k1, p1, b1, h⟩
  cases x <;> try exact h.elim
  obtain ⟨q, vs, rfl, sq, l⟩ := Dt.lstI b1
  have hK := G.hK
  exact ⟨q, vs, rfl, hK ▸ sq.sq, h H1 al1 _ rs1 k1 p1 (yl_enum hK sq l).w⟩
theorem i_rev (G : XG g X) (hg : Gl X "reversed") (hm : X.mg "reversed" = none) (ha : PE X a (TR g W (RV g) ma)) (hs : noStar a = true) :
    PI X tg (.Call (.Name "reversed" p) [a] [] pos) (TIt X g W fun r S => (ma r S).bnd fun x S => match x with | .lst xs => .ok ⟨none, xs.reverse⟩ S | _ => .bad) := by
  refine PI.imp (pi_reversed hg hm (as1 ha hs) (star_ok hs)) ?_
  rintro σ H Q ⟨H0, al0, al, r, S, rs, h⟩
  refine ⟨H0, al0, al, r, S, rs, (pst1 h).imp ?_⟩
  rintro vs H1 ⟨v, x, al1, S1, rfl, rs1, k1, p1, b1, h⟩
  cases x <;> try exact h.elim
  obtain ⟨q, vs, rfl, sq, l⟩ := Dt.lstI b1
  have hK := G.hK
  exact ⟨q, vs, rfl, hK ▸ sq.sq, h H1 al1 _ rs1 k1 p1 (yl_rev hK sq l).w⟩
theorem pst2 {α : Type} {R : Al → Hp → L2.It → α → Prop} {Q : L2.It → Hp → Prop} {o : Out D} {o2 : Sto → Out D} {k : D → D → Sto → Out α} (h : Pst g W H0 al0 r σ al H R (o.bnd fun x S => (o2 S).bnd fun y S => k x y S) Q) :
    Pst g W H0 al0 r σ al H (fun al H vs ds => DtL g al H vs ds) (o.bnd fun x S => (o2 S).bnd fun y S => .ok [x, y] S) fun vs H1 => ∃ v u x y al1 S1, vs = [v, u] ∧ RS g H0 al0 r S1 al1 σ H1 ∧ Keep al H H1 ∧ Ext al H al1 ∧ Dt g al1 H1 v x ∧ Dt g al1 H1 u y ∧ Pst g W H0 al0 r σ al H R (k x y S1) Q := by
  cases o with
  | bad => exact h
  | exc c S' => exact h
  | ok x S1 =>
    have h1 : Pst g W H0 al0 r σ al H R ((o2 S1).bnd fun y S => k x y S) Q := h
    show Pst g W H0 al0 r σ al H _ ((o2 S1).bnd fun y S => .ok [x, y] S) _
    cases e : o2 S1 with
    | bad => rw [e] at h1; exact h1
    | exc c S' => rw [e] at h1; exact h1
    | ok y S2 =>
      rw [e] at h1
      intro H1 al1 vs rs1 k1 p1 b1
      cases b1 with
      | cons b1 bn =>
        cases bn with
        | cons b2 bn =>
          cases bn
          exact ⟨_, _, x, y, al1, S2, rfl, rs1, k1, p1, b1, b2, h1⟩
theorem i_rng2 (hg : Gl X "range") (hm : X.mg "range" = none) (ha : PE X a (TR g W (RV g) ma)) (hb : PE X b (TR g W (RV g) mb)) (hs : noStar a = true) (hs' : noStar b = true) :
    PI X tg (.Call (.Name "range" p) [a, b] [] pos) (TIt X g W fun r S => (ma r S).bnd fun x S => (mb r S).bnd fun y S => match x, y with
      | .int i, .int j => if fits62 i = true ∧ fits62 j = true then .ok ⟨none, rngD i (j - i).toNat⟩ S else .bad
      | _, _ => .bad) := by
  have e2 : starEach [b] X.env = [(false, eval b X.env)] := star_ok hs'
  refine PI.imp (pi_range2 hg hm (as2 ha hb hs hs') (by rw [star_ok hs, e2]) e2) ?_
  rintro σ H Q ⟨H0, al0, al, r, S, rs, h⟩
  refine ⟨H0, al0, al, r, S, rs, (pst2 h).imp ?_⟩
  rintro vs H1 ⟨v, u, x, y, al1, S1, rfl, rs1, k1, p1, b1, b2, h⟩
  cases x <;> try exact h.elim
  rename_i i
  cases y <;> try exact h.elim
  rename_i j
  cases b1
  cases b2
  dsimp only at h
  split at h
  · rename_i hb
    exact ⟨i, j, rfl, ⟨(fits62_ok hb.1).1, (fits62_ok hb.1).2, (fits62_ok hb.2).1, (fits62_ok hb.2).2⟩, h H1 al1 _ rs1 k1 p1 (yl_rng _ _).w⟩
  · exact h.elim
theorem i_zip (G : XG g X) (hg : Gl X "zip") (hm : X.mg "zip" = none) (ha : PE X a (TR g W (RV g) ma)) (hb : PE X b (TR g W (RV g) mb)) (hs : noStar a = true) (hs' : noStar b = true) :
    PI X (.Tuple elts kk tpos) (.Call (.Name "zip" p) [a, b] [] pos) (TIt X g W fun r S => (ma r S).bnd fun x S => (mb r S).bnd fun y S => match x, y with
      | .lst xs, .lst ys => .ok ⟨none, zipD xs ys⟩ S
      | _, _ => .bad) := by
  refine PI.imp (pi_zip hg hm (as2 ha hb hs hs') (star_ok hs) (star_plain (by simp [noStars, hs']))) ?_
  rintro σ H Q ⟨H0, al0, al, r, S, rs, h⟩
  refine ⟨H0, al0, al, r, S, rs, (pst2 h).imp ?_⟩
  rintro vs H1 ⟨v, u, x, y, al1, S1, rfl, rs1, k1, p1, b1, b2, h⟩
  cases x <;> try exact h.elim
  cases y <;> try exact h.elim
  obtain ⟨q, vs, rfl, sq, l⟩ := Dt.lstI b1
  obtain ⟨q', vs', rfl, sq', l'⟩ := Dt.lstI b2
  have hK := G.hK
  exact ⟨q, q', vs, vs', rfl, hK ▸ sq.sq, hK ▸ sq'.sq, h H1 al1 _ rs1 k1 p1 (yl_zip hK sq l sq' l').w⟩

/-! ### comprehensions -/
def WF : WX := fun _ _ _ _ => False
/-- a block's places -/
theorem wipe_at {vs : List Nat} {j : Nat} (h : j ∈ vs) : (wipe σ vs)[j]? = if j < σ.length then some none else none := by
  induction vs with
  | nil => cases h
  | cons v vs ih =>
    unfold L2.wipe
    by_cases e : v = j
    · subst e
      by_cases hl : v < σ.length
      · rw [List.getElem?_set_self (by rw [wipe_length]; exact hl), if_pos hl]
      · rw [if_neg hl, List.getElem?_eq_none]
        rw [List.length_set, wipe_length]
        omega
    · rw [List.getElem?_set_ne e]
      exact ih (by rcases List.mem_cons.mp h with z | z; exact absurd z.symm e; exact z)
theorem wipe_off {vs is : List Nat} {σ2 : L2.St} (h : ∀ i ∈ is, i ∈ vs) (o : Off is (wipe σ vs) σ2) : wipe σ2 vs = wipe σ vs := by
  apply List.ext_getElem?
  intro j
  have hl : σ2.length = σ.length := by rw [o.1, wipe_length]
  by_cases hj : j ∈ vs
  · rw [wipe_at hj, wipe_at hj, hl]
  · rw [wipe_out hj, o.2 j fun z => hj (h j z)]
theorem noxb {α β : Type} {o : Out α} {k : α → Sto → Out β} (h : (nox o).bnd k ≠ .bad) : ∃ a S, o = .ok a S ∧ (nox o).bnd k = k a S := by
  cases o with
  | ok a S => exact ⟨a, S, rfl, rfl⟩
  | exc c S => exact (h rfl).elim
  | bad => exact (h rfl).elim
/-- a value that comes, as it is wanted in a block -/
theorem Pst.okv {α β : Type} {R : Al → Hp → β → α → Prop} {Q : β → Hp → Prop} {o : Out α} {a : α} {S : Sto} (e : o = .ok a S) (h : ∀ H' al' v, RS g H0 al0 r S al' σ H' → Keep al H H' → Ext al H al' → R al' H' v a → Q v H') : Pst g W H0 al0 r σ al H R o Q := by
  rw [e]
  exact h
variable {t : Tg} {vs : List Nat} {mt : Rho → Sto → Out Bool} {me mk : Rho → Sto → Out D} {mi : Rho → Sto → Out Wk}
theorem lc_of {Q : VK} (ht : ∀ i ∈ t.ids, i ∈ vs) (h : TR g W (RF g) (fun r S => (mi r S).bnd fun k S => ((loopL (lcStep t vs r mt me) k.xs S).bnd fun ys S => if k.xs.length ≤ sizeLine then .ok (.lst ys) S else .bad).unl k.w) σ H Q) :
    tLc (TIt X g W mi) (TGd g t) (TT' g WF mt) (TR g WF (RV g) me) vs σ H (UQ X Q) := by
  obtain ⟨H0, al0, al, r, S, rs, h⟩ := h
  refine ⟨H0, al0, al, r, S, rs, (Pst.bndAt (R1 := YlW X g H0 H) h).imp ?_⟩
  rintro J H1 ⟨al1, ⟨w, ds⟩, S1, rs1, k1, p1, ⟨yl, wk⟩, h⟩
  dsimp only at yl wk h
  intro A nA
  have hsz : ds.length ≤ sizeLine := by
    cases e : loopL (lcStep t vs r mt me) ds S1 with
    | ok ys S' =>
      rw [e] at h
      by_cases hs : ds.length ≤ sizeLine
      · exact hs
      · simp only [Out.bnd, if_neg hs, Out.unl] at h
        exact h.elim
    | bad => rw [e] at h; exact h.elim
    | exc c S' =>
      exfalso
      have no : ∀ (xs : List D) (S : Sto) (c : Nat) (S' : Sto), loopL (lcStep t vs r mt me) xs S ≠ .exc c S' := by
        intro xs
        induction xs with
        | nil => intro S c S' e; cases e
        | cons x xs ih =>
          intro S c S' e
          simp only [loopL] at e
          cases e1 : lcStep t vs r mt me x S with
          | exc c2 S2 =>
            unfold lcStep at e1
            split at e1
            · rename_i r' _
              cases e2 : ((mt r' S).bnd fun k S => if k = true then (me r' S).bnd fun y S => .ok (some y) S else .ok none S) <;> (rw [e2] at e1; cases e1)
            · cases e1
          | bad => rw [e1] at e; cases e
          | ok y S2 =>
            rw [e1] at e
            cases e3 : loopL (lcStep t vs r mt me) xs S2 with
            | ok ys S3 => simp only [Out.bnd, e3] at e; cases e
            | bad => simp only [Out.bnd, e3] at e; cases e
            | exc c3 S3 => exact ih _ _ _ e3
      exact no _ _ _ _ e
  have e : (fun (ys : List D) (S : Sto) => if ds.length ≤ sizeLine then Out.ok (D.lst ys) S else .bad) = fun ys S => Out.ok (D.lst ys) S := by funext ys S; rw [if_pos hsz]
  rw [e] at h
  refine ⟨fun i n H' => n = ds.length - i ∧ i ≤ ds.length ∧ ∃ al' S accV acc, RS g H0 al0 r S al' σ H' ∧ Keep al1 H1 H' ∧ Ext al1 H1 al' ∧ (H' A = some (.lst accV) ∧ ¬ Cell al' A) ∧ DtL g al' H' accV acc ∧ acc.length ≤ i ∧
    Pst g W H0 al0 r σ al H (RF g H) (((loopL (lcStep t vs r mt me) (ds.drop i) S).bnd fun ys S => .ok (D.lst (acc ++ ys)) S).unl w) Q, ?_, ?_⟩
  · exact ⟨_, rfl, Nat.zero_le _, al1, S1, [], [], rs1.new nA, .of (same_new nA), .refl al1 H1, ⟨upd_same, rs1.nc nA⟩, .nil, Nat.le_refl _, h⟩
  · rintro i n H2 ⟨rfl, hi, al2, S2, accV, acc, rs2, k2, p2, hA, la, lacc, h⟩
    by_cases he : i = ds.length
    · subst he
      refine .inl ⟨(yl _ H2 al2 k2.toZ p2).2 (Nat.le_refl _), ?_⟩
      rw [List.drop_length] at h
      have h' : Pst g W H0 al0 r σ al H (RF g H) (.ok (D.lst (acc ++ [])) (ulS w S2)) Q := h
      rw [List.append_nil] at h'
      have pe := p1.trans k1 p2
      rcases rs2.unl (k1.trans p1 k2) pe (wk.pre p2.p) with ⟨rs3, k3⟩ | ⟨q, od, u, cq, eq, nu, lo, n1, rs3, k3⟩
      · exact .inl (h' H2 al2 _ rs3 k3 pe ⟨A, accV, rfl, ⟨k1.back nA, hA.2⟩, hA.1, la⟩)
      · refine .inr ⟨q, od, u, eq, n1, h' _ al2 _ rs3 k3 pe ⟨A, accV, rfl, ⟨k1.back nA, hA.2⟩, ?_, la.loose lo⟩⟩
        rw [upd_ne (fun z => by subst z; exact hA.2 cq)]
        exact hA.1
    · have hlt : i < ds.length := by omega
      have eg : ds[i]? = some ds[i] := List.getElem?_eq_getElem hlt
      obtain ⟨go, yl2⟩ := (yl i H2 al2 k2.toZ p2).1 _ eg
      refine .inr ⟨go, fun H' => ∃ m', m' < ds.length - i ∧ m' = ds.length - (i + 1) ∧ i + 1 ≤ ds.length ∧ ∃ al' S accV acc, RS g H0 al0 r S al' σ H' ∧ Keep al1 H1 H' ∧ Ext al1 H1 al' ∧ (H' A = some (.lst accV) ∧ ¬ Cell al' A) ∧ DtL g al' H' accV acc ∧ acc.length ≤ i + 1 ∧
        Pst g W H0 al0 r σ al H (RF g H) (((loopL (lcStep t vs r mt me) (ds.drop (i + 1)) S).bnd fun ys S => .ok (D.lst (acc ++ ys)) S).unl w) Q, fun H' h => h, ?_⟩
      intro x H3 hy
      obtain ⟨sm, dx⟩ := yl2 x H3 hy
      rw [List.drop_eq_getElem_cons hlt] at h
      simp only [loopL, lcStep] at h
      have rs3 := (rs2.same sm).wipe vs
      have hA3 := And.intro (sm _ _ hA.1) hA.2
      split at h
      · rename_i r' eb
        refine ⟨H0, al0, al2, _, S2, ds[i], r', rs3, dx, eb, fun σ2 rs4 of => ⟨wipe_off ht of, ?_⟩⟩
        -- what the turn comes to
        cases e1 : mt r' S2 with
        | bad => rw [e1] at h; exact h.elim
        | exc c S3 => rw [e1] at h; exact h.elim
        | ok k S3 =>
          rw [e1] at h
          refine ⟨H0, al0, al2, r', S2, rs4, Pst.okv e1 ?_⟩
          rintro H5 al5 b5 rs5 k5 p5 rfl
          have back : RS g H0 al0 r S3 al5 σ H5 := (rs2.same sm).step k5 p5 rs5.sto
          have hA5 := k5.own p5 hA3 (fun z => nomatch z)
          have la5 := (la.same sm).mono k5 p5
          cases b5 with
          | false =>
            rw [if_neg Bool.false_ne_true]
            refine ⟨_, by omega, rfl, by omega, al5, S3, accV, acc, back, (k2.then sm).trans p2 k5, p2.trans (k2.then sm) p5, hA5, la5, by omega, ?_⟩
            have h2 : Pst g W H0 al0 r σ al H (RF g H) ((((loopL (lcStep t vs r mt me) (ds.drop (i + 1)) S3).bnd fun ys S => .ok ys S).bnd fun ys S => .ok (D.lst (acc ++ ys)) S).unl w) Q := h
            cases e4 : loopL (lcStep t vs r mt me) (ds.drop (i + 1)) S3 with
            | bad => rw [e4] at h2; exact h2
            | exc c S5 => rw [e4] at h2; exact h2
            | ok ys S5 => rw [e4] at h2; exact h2
          | true =>
            rw [if_pos rfl]
            cases e2 : me r' S3 with
            | bad => simp only [Out.bnd, if_true, e2] at h; exact h.elim
            | exc c S4 => simp only [Out.bnd, if_true, e2] at h; exact h.elim
            | ok y S4 =>
              simp only [Out.bnd, if_true, e2, nox] at h
              refine ⟨H0, al0, al5, r', S3, rs5, Pst.okv e2 ?_⟩
              intro H6 al6 v rs6 k6 p6 dv
              have back6 : RS g H0 al0 r S4 al6 σ H6 := back.step k6 p6 rs6.sto
              have hA6 := k6.own p6 hA5 (fun z => nomatch z)
              have la6 := la5.mono k6 p6
              have lo : Loose al6 H6 A := loose_lst hA6.1
              have h0A : H0 A = none := rs1.keep.back nA
              have noA : ¬ OwnAt r σ A := rs1.not_own nA
              have k5' := (k2.then sm).trans p2 k5
              have p5' := p2.trans (k2.then sm) p5
              refine ⟨accV, hA6.1, by rw [la.length]; omega, _, by omega, rfl, by omega, al6, S4, accV ++ [v], acc ++ [y], back6.free lo hA6.2 (.inl h0A) noA, (k5'.trans p5' k6).mut (.inl nA), p5'.trans k5' p6, ⟨upd_same, hA6.2⟩, ?_, by rw [List.length_append]; exact Nat.succ_le_succ lacc, ?_⟩
              · exact (la6.append (.cons dv .nil)).loose lo
              · cases e4 : loopL (lcStep t vs r mt me) (ds.drop (i + 1)) S4 with
                | bad =>
                  have h2 : Pst g W H0 al0 r σ al H (RF g H) ((((loopL (lcStep t vs r mt me) (ds.drop (i + 1)) S4).bnd fun ys S => .ok (y :: ys) S).bnd fun ys S => .ok (D.lst (acc ++ ys)) S).unl w) Q := h
                  rw [e4] at h2
                  exact h2
                | exc c S5 =>
                  have h2 : Pst g W H0 al0 r σ al H (RF g H) ((((loopL (lcStep t vs r mt me) (ds.drop (i + 1)) S4).bnd fun ys S => .ok (y :: ys) S).bnd fun ys S => .ok (D.lst (acc ++ ys)) S).unl w) Q := h
                  rw [e4] at h2
                  exact h2
                | ok ys S5 =>
                  have h2 : Pst g W H0 al0 r σ al H (RF g H) ((((loopL (lcStep t vs r mt me) (ds.drop (i + 1)) S4).bnd fun ys S => .ok (y :: ys) S).bnd fun ys S => .ok (D.lst (acc ++ ys)) S).unl w) Q := h
                  rw [e4] at h2
                  show Pst g W H0 al0 r σ al H (RF g H) (.ok (D.lst (acc ++ [y] ++ ys)) (ulS w S5)) Q
                  rw [List.append_assoc]
                  exact h2
      · exact h.elim

/-- a block's context serves -/
theorem XG.blk {s : Shared} {H : Hp} {scope : Scope} {cenv : Env} {fp : List Addr} (G : XG g X) : XG g (X.blk s H scope cenv fp) := ⟨G.hK, G.calm, G.room, G.nd⟩
variable {elt iter : Expr} {ifs : List Expr} {scope : Scope} {own : List (Str × Nat)}
def TsT (g : GC) (W : WX) (m : Rho → Sto → Out Bool) : TT := TT' g W m
theorem ts_nil : PTs X [] (TT' g W fun _ S => .ok true S) := ⟨fun pins s σ H Q I h => by
  obtain ⟨H0, al0, al, r, S, rs, h⟩ := h
  exact pts_nil.run pins s σ H Q I (h.here rs rfl)⟩
theorem s_lc (G : XG g X) (hi : PI X tg iter (TIt X g W mi)) (ok : blkC X.N X.env.scope scope own = true) (ht : ∀ i ∈ t.ids, i ∈ own.map (·.2))
    (hg : ∀ (s : Shared) (H : Hp) (C : Addr) (cl : List (Str × Addr)) (fp : List Addr), PG (X.blk s H scope (compEnvC scope cl C X.env) fp) tg (TGd g t))
    (hc : ∀ (s : Shared) (H : Hp) (C : Addr) (cl : List (Str × Addr)) (fp : List Addr), PTs (X.blk s H scope (compEnvC scope cl C X.env) fp) ifs (TT' g WF mt))
    (he : ∀ (s : Shared) (H : Hp) (C : Addr) (cl : List (Str × Addr)) (fp : List Addr), PE (X.blk s H scope (compEnvC scope cl C X.env) fp) elt (TR g WF (RV g) me)) (hs : ∀ x, foldedSetIterable iter X.env x = pure x) :
    PE X (.ListComp elt [⟨tg, iter, ifs, 0⟩] scope pos) (TR g W (RF g) fun r S => (mi r S).bnd fun k S => ((loopL (lcStep t (own.map (·.2)) r mt me) k.xs S).bnd fun ys S => if k.xs.length ≤ sizeLine then .ok (.lst ys) S else .bad).unl k.w) :=
  PE.imp (pe_unl (pe_lc G.calm G.nd hi (blkOk_by ok) hg hc he hs)) fun σ H Q h => lc_of ht h

theorem dc_of {Q : VK} (ht : ∀ i ∈ t.ids, i ∈ vs) (h : TR g W (RF g) (fun r S => (mi r S).bnd fun k S => ((loopK (dcStep t vs r mt mk me) k.xs [] S).bnd fun kvs S => if k.xs.length ≤ sizeLine then .ok (.dic kvs) S else .bad).unl k.w) σ H Q) :
    tDc (TIt X g W mi) (TGd g t) (TT' g WF mt) (TR g WF (RV g) mk) (TR g WF (RV g) me) vs σ H (UQ X Q) := by
  obtain ⟨H0, al0, al, r, S, rs, h⟩ := h
  refine ⟨H0, al0, al, r, S, rs, (Pst.bndAt (R1 := YlW X g H0 H) h).imp ?_⟩
  rintro J H1 ⟨al1, ⟨w, ds⟩, S1, rs1, k1, p1, ⟨yl, wk⟩, h⟩
  dsimp only at yl wk h
  intro A nA
  have hsz : ds.length ≤ sizeLine := by
    cases e : loopK (dcStep t vs r mt mk me) ds [] S1 with
    | ok ys S' =>
      rw [e] at h
      by_cases hs : ds.length ≤ sizeLine
      · exact hs
      · simp only [Out.bnd, if_neg hs, Out.unl] at h
        exact h.elim
    | bad => rw [e] at h; exact h.elim
    | exc c S' =>
      exfalso
      have no : ∀ (xs : List D) (acc : List (Str × D)) (S : Sto) (c : Nat) (S' : Sto), loopK (dcStep t vs r mt mk me) xs acc S ≠ .exc c S' := by
        intro xs
        induction xs with
        | nil => intro acc S c S' e; cases e
        | cons x xs ih =>
          intro acc S c S' e
          simp only [loopK] at e
          cases e1 : dcStep t vs r mt mk me x S with
          | exc c2 S2 =>
            unfold dcStep at e1
            split at e1
            · rename_i r' _
              revert e1
              generalize ((mt r' S).bnd _) = o
              intro e1
              cases o <;> cases e1
            · cases e1
          | bad => rw [e1] at e; cases e
          | ok y S2 =>
            rw [e1] at e
            exact ih _ _ _ _ e
      exact no _ _ _ _ _ e
  have e : (fun (kvs : List (Str × D)) (S : Sto) => if ds.length ≤ sizeLine then Out.ok (D.dic kvs) S else .bad) = fun ys S => Out.ok (D.dic ys) S := by funext ys S; rw [if_pos hsz]
  rw [e] at h
  refine ⟨fun i n H' => n = ds.length - i ∧ i ≤ ds.length ∧ ∃ al' S accV acc, RS g H0 al0 r S al' σ H' ∧ Keep al1 H1 H' ∧ Ext al1 H1 al' ∧ (H' A = some (.dK accV) ∧ ¬ Cell al' A) ∧ DtK g al' H' accV acc ∧ acc.length ≤ i ∧
    Pst g W H0 al0 r σ al H (RF g H) (((loopK (dcStep t vs r mt mk me) (ds.drop i) acc S).bnd fun ys S => .ok (D.dic ys) S).unl w) Q, ?_, ?_⟩
  · exact ⟨_, rfl, Nat.zero_le _, al1, S1, [], [], rs1.new nA, .of (same_new nA), .refl al1 H1, ⟨upd_same, rs1.nc nA⟩, .nil, Nat.le_refl _, h⟩
  · rintro i n H2 ⟨rfl, hi, al2, S2, accV, acc, rs2, k2, p2, hA, la, lacc, h⟩
    by_cases he : i = ds.length
    · subst he
      refine .inl ⟨(yl _ H2 al2 k2.toZ p2).2 (Nat.le_refl _), ?_⟩
      rw [List.drop_length] at h
      have h' : Pst g W H0 al0 r σ al H (RF g H) (.ok (D.dic acc) (ulS w S2)) Q := h
      have pe := p1.trans k1 p2
      rcases rs2.unl (k1.trans p1 k2) pe (wk.pre p2.p) with ⟨rs3, k3⟩ | ⟨q, od, u, cq, eq, nu, lo, n1, rs3, k3⟩
      · exact .inl (h' H2 al2 _ rs3 k3 pe ⟨A, accV, rfl, ⟨k1.back nA, hA.2⟩, hA.1, la⟩)
      · refine .inr ⟨q, od, u, eq, n1, h' _ al2 _ rs3 k3 pe ⟨A, accV, rfl, ⟨k1.back nA, hA.2⟩, ?_, la.loose lo⟩⟩
        rw [upd_ne (fun z => by subst z; exact hA.2 cq)]
        exact hA.1
    · have hlt : i < ds.length := by omega
      have eg : ds[i]? = some ds[i] := List.getElem?_eq_getElem hlt
      obtain ⟨go, yl2⟩ := (yl i H2 al2 k2.toZ p2).1 _ eg
      refine .inr ⟨go, fun H' => ∃ m', m' < ds.length - i ∧ m' = ds.length - (i + 1) ∧ i + 1 ≤ ds.length ∧ ∃ al' S accV acc, RS g H0 al0 r S al' σ H' ∧ Keep al1 H1 H' ∧ Ext al1 H1 al' ∧ (H' A = some (.dK accV) ∧ ¬ Cell al' A) ∧ DtK g al' H' accV acc ∧ acc.length ≤ i + 1 ∧
        Pst g W H0 al0 r σ al H (RF g H) (((loopK (dcStep t vs r mt mk me) (ds.drop (i + 1)) acc S).bnd fun ys S => .ok (D.dic ys) S).unl w) Q, fun H' h => h, ?_⟩
      intro x H3 hy
      obtain ⟨sm, dx⟩ := yl2 x H3 hy
      rw [List.drop_eq_getElem_cons hlt] at h
      simp only [loopK, dcStep] at h
      have rs3 := (rs2.same sm).wipe vs
      have hA3 := And.intro (sm _ _ hA.1) hA.2
      split at h
      · rename_i r' eb
        refine ⟨H0, al0, al2, _, S2, ds[i], r', rs3, dx, eb, fun σ2 rs4 of => ⟨wipe_off ht of, ?_⟩⟩
        cases e1 : mt r' S2 with
        | bad => rw [e1] at h; exact h.elim
        | exc c S3 => rw [e1] at h; exact h.elim
        | ok k S3 =>
          rw [e1] at h
          refine ⟨H0, al0, al2, r', S2, rs4, Pst.okv e1 ?_⟩
          rintro H5 al5 b5 rs5 k5 p5 rfl
          have back : RS g H0 al0 r S3 al5 σ H5 := (rs2.same sm).step k5 p5 rs5.sto
          have hA5 := k5.own p5 hA3 (fun z => nomatch z)
          have la5 := (la.same sm).mono k5 p5
          cases b5 with
          | false =>
            rw [if_neg Bool.false_ne_true]
            exact ⟨_, by omega, rfl, by omega, al5, S3, accV, acc, back, (k2.then sm).trans p2 k5, p2.trans (k2.then sm) p5, hA5, la5, by omega, h⟩
          | true =>
            rw [if_pos rfl]
            cases e2 : mk r' S3 with
            | bad => simp only [Out.bnd, if_true, e2] at h; exact h.elim
            | exc c S4 => simp only [Out.bnd, if_true, e2] at h; exact h.elim
            | ok y S4 =>
              refine ⟨H0, al0, al5, r', S3, rs5, Pst.okv e2 ?_⟩
              intro H6 al6 v rs6 k6 p6 dv
              have back6 : RS g H0 al0 r S4 al6 σ H6 := back.step k6 p6 rs6.sto
              have hA6 := k6.own p6 hA5 (fun z => nomatch z)
              have la6 := la5.mono k6 p6
              cases e3 : me r' S4 with
              | bad => simp only [Out.bnd, if_true, e2, e3] at h; exact h.elim
              | exc c S5 => simp only [Out.bnd, if_true, e2, e3] at h; exact h.elim
              | ok z S5 =>
                simp only [Out.bnd, if_true, e2, e3, nox] at h
                refine ⟨H0, al0, al6, r', S4, rs6, Pst.okv e3 ?_⟩
                intro H7 al7 u rs7 k7 p7 du
                have back7 : RS g H0 al0 r S5 al7 σ H7 := back6.step k7 p7 rs7.sto
                have hA7 := k7.own p7 hA6 (fun z => nomatch z)
                have la7 := la6.mono k7 p7
                cases y <;> try exact h.elim
                rename_i y
                cases dv
                have lo : Loose al7 H7 A := loose_dK hA7.1
                have k5' := (k2.then sm).trans p2 k5
                have p5' := p2.trans (k2.then sm) p5
                have k6' := k5'.trans p5' k6
                have p6' := p5'.trans k5' p6
                have h0A : H0 A = none := rs1.keep.back nA
                have noA : ¬ OwnAt r σ A := rs1.not_own nA
                have hl1 := length_putK accV (Sum.inr y : Key) u
                have hl2 := la7.length
                have l8 := la7.put (x := y) du
                have hl3 := l8.length
                refine ⟨accV, .inr y, rfl, hA7.1, by omega, _, by omega, rfl, by omega, al7, S5, _, dput acc y z, back7.free lo hA7.2 (.inl h0A) noA, (k6'.trans p6' k7).mut (.inl nA), p6'.trans k6' p7, ⟨upd_same, hA7.2⟩, l8.loose lo, by omega, h⟩
      · exact h.elim
theorem s_dc (G : XG g X) (hi : PI X tg iter (TIt X g W mi)) (ok : blkC X.N X.env.scope scope own = true) (ht : ∀ i ∈ t.ids, i ∈ own.map (·.2))
    (hg : ∀ (s : Shared) (H : Hp) (C : Addr) (cl : List (Str × Addr)) (fp : List Addr), PG (X.blk s H scope (compEnvC scope cl C X.env) fp) tg (TGd g t))
    (hc : ∀ (s : Shared) (H : Hp) (C : Addr) (cl : List (Str × Addr)) (fp : List Addr), PTs (X.blk s H scope (compEnvC scope cl C X.env) fp) ifs (TT' g WF mt))
    (hk : ∀ (s : Shared) (H : Hp) (C : Addr) (cl : List (Str × Addr)) (fp : List Addr), PE (X.blk s H scope (compEnvC scope cl C X.env) fp) a (TR g WF (RV g) mk))
    (he : ∀ (s : Shared) (H : Hp) (C : Addr) (cl : List (Str × Addr)) (fp : List Addr), PE (X.blk s H scope (compEnvC scope cl C X.env) fp) b (TR g WF (RV g) me)) (hs : ∀ x, foldedSetIterable iter X.env x = pure x) :
    PE X (.DictComp a b [⟨tg, iter, ifs, 0⟩] scope pos) (TR g W (RF g) fun r S => (mi r S).bnd fun k S => ((loopK (dcStep t (own.map (·.2)) r mt mk me) k.xs [] S).bnd fun kvs S => if k.xs.length ≤ sizeLine then .ok (.dic kvs) S else .bad).unl k.w) :=
  PE.imp (pe_unl (pe_dc G.calm G.nd hi (blkOk_by ok) hg hc hk he hs)) fun σ H Q h => dc_of ht h
end
end Pi

/-! PiM: {**a, **b}. -/
namespace Pi
open PySem L2 PySem.Spec PyProof.Rows
section
variable {prog : Program} {w : World} {K : Type} [DecidableEq K] {knd : KeyKind prog w K} {A : Around} {E : Value → Shared → Prop} {s : Shared}
theorem dictPut_pairs {d : Addr} {kvs : List (K × Value)} {k : K} {key v : Value} {Q : Unit → Shared → Prop} (hkey : knd.is k key = true) (hm : s.heap.DictOf knd d kvs)
    (hQ : ∀ h', h'.DictOf knd d (stored kvs k v) → Heap.SameBut d s.heap h' → Q () { s with heap := h' })
    (hsz : kvs.length ≤ sizeLine) :
    wpAny (model prog w) A (dictPut d (knd.hash k) key v) Q E s := by
  obtain ⟨o, es, ep, ho, hc, hd, hk, hp, hn⟩ := hm
  have hes : es.size ≤ sizeLine := by have e1 := hp.length; have e2 : es.toList.length = es.size := by simp
                                      omega
  unfold dictPut
  refine wpAny_bind (wpAny_dictFind_of hkey ho hd hk ?_)
  have hidx : (es.findIdx? fun e => knd.is k e.key) = kvs.findIdx? fun kv => decide (kv.1 = k) := by
    rw [← hp.findIdx k]; obtain ⟨l⟩ := es; simp
  cases hi : es.findIdx? fun e => knd.is k e.key with
  | some i =>
    refine wpAny_updateDict ho hd (hQ _ ⟨_, _, ep, Heap.get?_update_self _ ho (Obj.isFreed_of_dict (Obj.data_mapDict hd _)),
      hc.mapDict _, Obj.data_mapDict hd _, hk.modify _ _, ?_, ?_⟩ (Heap.SameBut.update ..))
    · rw [stored, if_pos (any_of_findIdx_some (hidx ▸ hi))]
      have hl : (es.toList.findIdx? fun e => knd.is k e.key) = some i := by rw [← hi]; obtain ⟨l⟩ := es; simp
      have := hp.modify hn hl v
      obtain ⟨l⟩ := es
      simpa using this
    · rw [stored, if_pos (any_of_findIdx_some (hidx ▸ hi)), keys_map_store]; exact hn
  | none =>
    have hnot : k ∉ kvs.map (·.1) := not_mem_of_findIdx_none (hidx ▸ hi)
    have hany : ¬ (kvs.any fun kv => decide (kv.1 = k)) = true := by
      rw [List.any_eq_true]; rintro ⟨kv, hkv, he⟩
      exact hnot (List.mem_map.mpr ⟨kv, hkv, of_decide_eq_true he⟩)
    refine wpAny_updateDictKeys (hz := hes) ho hd (hQ _ ⟨_, _, ep + 1, Heap.get?_update_self _ ho (Obj.isFreed_of_dict (Obj.data_mapDictKeys hd _)),
      hc.mapDictKeys _, Obj.data_mapDictKeys hd _, hk.push hkey _, ?_, ?_⟩ (Heap.SameBut.update ..))
    · rw [stored, if_neg hany]
      have := hp.append hkey (knd.hash k) v
      obtain ⟨l⟩ := es
      simpa using this
    · rw [stored, if_neg hany, List.map_append, List.nodup_append]
      refine ⟨hn, by simp, ?_⟩
      intro a ha b hb
      simp only [List.map_cons, List.map_nil, List.mem_singleton] at hb
      subst hb
      exact fun e => hnot (e ▸ ha)
theorem mergeMapping_dict {d o : Addr} {kvs more : List (K × Value)} {Q : Unit → Shared → Prop} (hnr : ∀ k v, knd.is k v = true → ∀ a, v ≠ .ref a) (hdo : d ≠ o) (hoS : (o == sysModules) = false)
    (hd : s.heap.DictOf knd d kvs) (ho : s.heap.DictOf knd o more)
    (hQ : ∀ h', h'.DictOf knd d (merged kvs more) → h'.DictOf knd o more → Heap.SameBut d s.heap h' → Q () { s with heap := h' })
    (hsz : kvs.length + more.length ≤ sizeLine) :
    wpAny (model prog w) A (mergeMapping d (.ref o) false) Q E s := by
  obtain ⟨od, esd, epd, hod, hcd, hdd, hkd, hpd, hnd⟩ := id hd
  obtain ⟨oo, eso, epo, hoo, hco, hdo', hko, hpo, hno⟩ := id ho
  have hlen : more.length = eso.size := by rw [← hpo.length]; simp
  have fin : wpAny (model prog w) A (do
      let l ← dictEntries o
      let epoch ← dictEpoch o
      forIn (List.range l.size) PUnit.unit fun i (_ : PUnit) => (do
          let l' ← dictEntries o
          match l'[i]? with
            | some e => do
              holding [e.key, e.val] (dictPut d e.hash e.key e.val)
              let ep' ← dictEpoch o
              if (ep' != epoch) = true then do
                  (unsupported "dict.changed-during-merge" : Sem PUnit)
                  pure (ForInStep.yield PUnit.unit)
                else pure (ForInStep.yield PUnit.unit)
            | _ => do
              (unsupported "dict.changed-during-merge" : Sem PUnit)
              pure (ForInStep.yield PUnit.unit) : Sem (ForInStep PUnit))
      pure ()) Q E s := by
    refine wpAny_bind (wpAny_dictEntries hoo hdo' ?_)
    refine wpAny_bind (wpAny_dictEpoch hoo hdo' ?_)
    refine wpAny_bind ?_
    rw [List.range_eq_range']
    refine wpAny_forIn_list _
      (fun rest _ s' => ∃ h' i, s' = { s with heap := h' } ∧ rest = List.range' i (eso.size - i) ∧ i ≤ eso.size ∧ h'.DictOf knd d (merged kvs (more.take i)) ∧ h'.get? o = some oo ∧ Heap.SameBut d s.heap h')
      _ ?_ ?_ _ _ ⟨s.heap, 0, rfl, by simp, Nat.zero_le _, by simpa [merged] using hd, hoo, Heap.SameBut.refl _ _⟩
    · rintro x rest b s' ⟨h', i, rfl, hr, hi, hd', hoo', hs'⟩
      have hlt : i < eso.size := by
        rcases Nat.lt_or_ge i eso.size with h | h
        · exact h
        · rw [Nat.sub_eq_zero_of_le h] at hr; simp at hr
      obtain ⟨rfl, hrest⟩ : x = i ∧ rest = List.range' (i + 1) (eso.size - (i + 1)) := by
        have e : eso.size - i = (eso.size - (i + 1)) + 1 := by omega
        rw [e, List.range'_succ] at hr
        injection hr with h1 h2
        exact ⟨h1, h2⟩
      refine wpAny_bind (wpAny_dictEntries hoo' hdo' ?_)
      rw [Array.getElem?_eq_getElem hlt]
      obtain ⟨kv, hkv⟩ : ∃ kv, more[x]? = some kv := ⟨more[x]'(by rw [hlen]; exact hlt), List.getElem?_eq_getElem _⟩
      obtain ⟨k, v⟩ := kv
      obtain ⟨hkey, hval⟩ := hpo.get? (e := eso[x]) (by simp [hlt]) hkv
      obtain ⟨k', hkey', hhash⟩ := hko eso[x] (Array.getElem_mem hlt)
      obtain rfl : k' = k := knd.inj _ _ _ hkey' hkey
      show wpAny _ _ (holding [eso[x].key, eso[x].val] (dictPut d eso[x].hash eso[x].key eso[x].val) >>= _) _ _ _
      rw [hhash, hval]
      have hmx : (merged kvs (more.take x)).length ≤ sizeLine := by
        have e1 := merged_length_le kvs (more.take x)
        have e2 : (more.take x).length ≤ more.length := by rw [List.length_take]; omega
        omega
      refine wpAny_bind (wpAny_holding (dictPut_pairs (hsz := hmx) hkey hd' fun h'' hd'' hs'' => ?_))
      have hoo'' : h''.get? o = some oo := (hs''.2 o (Ne.symm hdo)).trans hoo'
      refine wpAny_bind (wpAny_dictEpoch hoo'' hdo' ?_)
      rw [if_neg (by simp)]
      exact wpAny_pure ⟨h'', x + 1, rfl, hrest, hlt, by rw [merged_take_succ kvs more x (k', v) hkv]; exact hd'', hoo'', hs'.trans hs''⟩
    · rintro b s' ⟨h', i, rfl, hr, hi, hd', hoo', hs'⟩
      have hin : i = eso.size := by
        rcases Nat.lt_or_ge i eso.size with h | h
        · have e : eso.size - i = (eso.size - (i + 1)) + 1 := by omega
          rw [e, List.range'_succ] at hr; exact nomatch hr
        · exact Nat.le_antisymm hi h
      refine wpAny_pure (hQ h' ?_ ⟨oo, eso, epo, hoo', hco, hdo', hko, hpo, hno⟩ hs')
      rw [hin, ← hlen, List.take_length] at hd'; exact hd'
  unfold mergeMapping
  refine wpAny_bind (wpAny_isInstance ho.typeIs isSubtype_dict_dict ?_)
  rw [if_pos rfl]
  refine wpAny_bind (wpAny_specialOf ho.typeIs F.slot_dict_iter.lookup (wpAny_bind (wpAny_pure ?_)))
  rw [beq_self_eq_true]
  show wpAny _ _ (if (o == sysModules) = true then _ else _) _ _ _
  rw [if_neg (by rw [hoS]; exact Bool.false_ne_true)]
  refine wpAny_bind (wpAny_dictEntries hod hdd ?_)
  dsimp only
  simp only [Bool.false_eq_true, if_false]
  by_cases hemp : esd.isEmpty = true
  · rw [if_pos hemp]
    refine wpAny_bind (wpAny_dictEntries hoo hdo' ?_)
    refine wpAny_bind ?_
    have hloop : (forIn eso PUnit.unit fun e (_ : PUnit) => (match e.key with
        | Value.ref a => do
          let __do_lift ← specialOf e.key "__eq__"
          if (__do_lift != some (Value.builtin "object.__eq__")) = true then
              if (Array.filter (fun x => x.hash == e.hash) eso).size > 1 then do
                (unsupported "dict.merge-into-an-empty-dict:keys-of-equal-hash" : Sem PUnit)
                pure (ForInStep.yield PUnit.unit)
              else pure (ForInStep.yield PUnit.unit)
            else pure (ForInStep.yield PUnit.unit)
        | x => pure (ForInStep.yield PUnit.unit) : Sem (ForInStep PUnit))) = pure PUnit.unit := by
      rw [← Array.forIn_toList]
      refine forIn_yield_id _ fun e he c => ?_
      obtain ⟨k, hkey, _⟩ := hko e (Array.mem_toList_iff.mp he)
      have := hnr k _ hkey
      split
      · rename_i a ea
        exact absurd ea (this a)
      · rfl
    exact wpAny_of_eq hloop fin
  · rw [if_neg hemp]
    exact fin
end
theorem wp_disp2 {M : Model} {A : Around} {E : Value → Shared → Prop} {s : Shared} {v1 v2 : Sem Value} {Q : Value → Shared → Prop}
    (h : wpAny M A v1 (fun u1 s1 => wpAny M A (mergeMapping s.heap.objs.size u1 false) (fun _ s2 => wpAny M A v2 (fun u2 s3 => wpAny M A (mergeMapping s.heap.objs.size u2 false) (fun _ s4 => Q (.ref s.heap.objs.size) s4) (fun _ _ => False) s3) E s2) (fun _ _ => False) s1) E { s with heap := s.heap.push { cls := .type "dict", data := .dict #[] } }) :
    wpAny M A (dictDisplay [(none, v1), (none, v2)]) Q E s := by
  unfold dictDisplay
  refine wpAny_bind ?_
  rw [List.forIn_cons]
  refine wpAny_bind ?_
  refine wpAny_bind (wpAny_pure ?_)
  dsimp only
  refine wpAny_bind (wpAny_alloc ?_)
  refine wpAny_bind (wpAny_holding (wpAny_mono h (fun u1 s1 h1 => ?_) (fun _ _ z => z)))
  refine wpAny_bind (wpAny_onRaise (wpAny_tryCatch (wpAny_onRaise (wpAny_holding (wpAny_mono h1 (fun _ s2 h2 => ?_) (fun _ _ z => z.elim))))))
  refine wpAny_pure ?_
  dsimp only
  rw [List.forIn_cons]
  refine wpAny_bind ?_
  refine wpAny_bind (wpAny_pure ?_)
  dsimp only
  refine wpAny_bind (wpAny_pure ?_)
  refine wpAny_bind (wpAny_holding (wpAny_mono h2 (fun u2 s3 h3 => ?_) (fun _ _ z => z)))
  refine wpAny_bind (wpAny_onRaise (wpAny_tryCatch (wpAny_onRaise (wpAny_holding (wpAny_mono h3 (fun _ s4 h4 => ?_) (fun _ _ z => z.elim))))))
  refine wpAny_pure ?_
  dsimp only
  rw [List.forIn_nil]
  refine wpAny_pure ?_
  refine wpAny_bind (wpAny_pure ?_)
  exact wpAny_pure h4
/-- {**a, **b} -/
theorem wp_Dict2 {M : Model} {A : Around} {E : Value → Shared → Prop} {s : Shared} {e1 e2 : Expr} {env : Env} {pos : Pos} {Q : Value → Shared → Prop}
    (h : wpAny M A (eval e1 env) (fun u1 s1 => wpAny M A (mergeMapping s.heap.objs.size u1 false) (fun _ s2 => wpAny M A (eval e2 env) (fun u2 s3 => wpAny M A (mergeMapping s.heap.objs.size u2 false) (fun _ s4 => Q (.ref s.heap.objs.size) s4) (fun _ _ => False) s3) E s2) (fun _ _ => False) s1) E { s with heap := s.heap.push { cls := .type "dict", data := .dict #[] } }) :
    wpAny M A (eval (.Dict [none, none] [e1, e2] pos) env) Q E s := by
  have e : eval (.Dict [none, none] [e1, e2] pos) env = (do
      standAt pos
      dictDisplay [(none, do let x ← eval e1 env; standAt pos; pure x), (none, do let x ← eval e2 env; standAt pos; pure x)]) := rfl
  rw [e]
  refine wpAny_bind (wpAny_standAt ?_)
  refine wp_disp2 (wpAny_bind (wpAny_mono h (fun u1 s1 h1 => ?_) (fun _ _ z => z)))
  refine wpAny_bind (wpAny_standAt (wpAny_pure ?_))
  refine wpAny_mono h1 (fun _ s2 h2 => ?_) (fun _ _ z => z)
  refine wpAny_bind (wpAny_mono h2 (fun u2 s3 h3 => ?_) (fun _ _ z => z))
  exact wpAny_bind (wpAny_standAt (wpAny_pure h3))

theorem key_noref (k : Key) (v : Value) (h : keyIs k v = true) : ∀ a, v ≠ .ref a := by
  rintro a rfl
  rcases keyIs_shape h with ⟨i, t, _, e⟩ | ⟨x, t, _, e⟩ <;> cases e
/-- what stands at a goes into p's dict -/
theorem merge_at {X : Cx} {pins : List (Addr × Obj)} {s : Shared} {σ : L2.St} {H : Hp} {p a : Addr} {kvs more : List (Key × V)} {A : Around} {E : Value → Shared → Prop} {Q : Unit → Shared → Prop} (I : Inv X pins σ H s) (e : H p = some (.dK kvs)) (ra : Rd H a (.dK more)) (hpa : p ≠ a) (hz : kvs.length + more.length ≤ sizeLine)
    (h : ∀ s', Inv X pins σ (upd H p (.dK (mergeK kvs more))) s' → Q () s') : wpAny (model X.prog X.w) A (mergeMapping p (.ref a) false) Q E s := by
  obtain ⟨z1, hd1, vs1, r1, dd1⟩ := dk_of I.hok e
  obtain ⟨z2, hd2, vs2, r2, dd2⟩ := dk_rd I.hok ra
  have l1 : vs1.length = kvs.length := r1.length.symm
  have l2 : vs2.length = more.length := r2.length.symm
  refine mergeMapping_dict (knd := mixKind X.prog X.w) (fun k v q => key_noref k v q) hpa hd2 dd1 dd2 (fun h' dd' _ hs => h _ ?_) (by rw [l1, l2]; exact hz)
  have he : ∃ q, h'.get? p = some q := let ⟨q, _, _, hq, _⟩ := dd'; ⟨q, hq⟩
  have hzm : (mergeK kvs more).length ≤ sizeLine := Nat.le_trans (length_mergeK more kvs) hz
  exact d_write I (by rw [e]; exact True.intro) hs he (dk_new hzm hd1 (KV.merge r2 r1) dd')
section
variable {X : Cx} {t1 t2 : TE} {e1 e2 : Expr} {pos : Pos}
/-- {**a, **b} -/
theorem pe_mrg (h1 : PE X e1 t1) (h2 : PE X e2 t2) : PE X (.Dict [none, none] [e1, e2] pos) (fun σ H Q => ∀ p, H p = none → t1 σ (upd H p (.dK [])) fun x H1 => ∃ a k1, x = .ref a ∧ H1 p = some (.dK []) ∧ Rd H1 a (.dK k1) ∧ p ≠ a ∧
    t2 σ (upd H1 p (.dK (mergeK [] k1))) fun y H2 => ∃ b k2, y = .ref b ∧ H2 p = some (.dK (mergeK [] k1)) ∧ Rd H2 b (.dK k2) ∧ p ≠ b ∧ (mergeK [] k1).length + k2.length ≤ sizeLine ∧ Q (.ref p) (upd H2 p (.dK (mergeK (mergeK [] k1) k2)))) := by
  refine ⟨fun pins s σ H Q I q => ?_⟩
  have hn := I.hok.fresh (Nat.le_refl s.heap.objs.size)
  have I1 := I.laid (a := s.heap.objs.size) (o := .dK []) (h' := s.heap.push { cls := .type "dict", data := .dict #[] }) (t' := s.toks) (fun _ _ q => Heap.get?_push_of_some _ q) (Nat.le_refl _) (dk_empty s.heap I.big)
  refine wp_Dict2 (wpAny_mono (h1.run pins _ σ _ _ I1 (q _ hn)) (fun u1 s1 hq => ?_) (fun _ _ z => z))
  obtain ⟨x, H1, I2, rx, a, k1, rfl, ep, ra, hpa, q2⟩ := hq
  cases rx
  refine merge_at I2 ep ra hpa (by have := (dk_rd I2.hok ra).1; rw [List.length_nil]; omega) fun s2 I3 => ?_
  refine wpAny_mono (h2.run pins _ σ _ _ I3 q2) (fun u2 s3 hq => ?_) (fun _ _ z => z)
  obtain ⟨y, H2, I4, ry, b, k2, rfl, ep2, rb, hpb, hz, q3⟩ := hq
  cases ry
  exact merge_at I4 ep2 rb hpb hz fun s4 I5 => ⟨.ref s.heap.objs.size, _, I5, rfl, q3⟩
end
/-- {**a, k: b} -/
theorem wp_disp21 {M : Model} {A : Around} {E : Value → Shared → Prop} {s : Shared} {v1 k2 v2 : Sem Value} {Q : Value → Shared → Prop}
    (h : wpAny M A v1 (fun u1 s1 => wpAny M A (mergeMapping s.heap.objs.size u1 false) (fun _ s2 => wpAny M A (subDict [(k2, v2)]) (fun d s3 => wpAny M A (mergeMapping s.heap.objs.size (.ref d) false) (fun _ s4 => Q (.ref s.heap.objs.size) s4) (fun _ _ => False) s3) E s2) (fun _ _ => False) s1) E { s with heap := s.heap.push { cls := .type "dict", data := .dict #[] } }) :
    wpAny M A (dictDisplay [(none, v1), (some k2, v2)]) Q E s := by
  unfold dictDisplay
  refine wpAny_bind ?_
  rw [List.forIn_cons]
  refine wpAny_bind ?_
  refine wpAny_bind (wpAny_pure ?_)
  dsimp only
  refine wpAny_bind (wpAny_alloc ?_)
  refine wpAny_bind (wpAny_holding (wpAny_mono h (fun u1 s1 h1 => ?_) (fun _ _ z => z)))
  refine wpAny_bind (wpAny_onRaise (wpAny_tryCatch (wpAny_onRaise (wpAny_holding (wpAny_mono h1 (fun _ s2 h2 => ?_) (fun _ _ z => z.elim))))))
  refine wpAny_pure ?_
  dsimp only
  rw [List.forIn_cons]
  refine wpAny_bind ?_
  dsimp only [List.nil_append, List.length_cons, List.length_nil]
  rw [if_neg (by decide)]
  refine wpAny_pure ?_
  dsimp only
  rw [List.forIn_nil]
  refine wpAny_pure ?_
  dsimp only [List.isEmpty_cons]
  rw [if_neg (by decide)]
  refine wpAny_bind ?_
  refine wpAny_bind (wpAny_holding (wpAny_mono h2 (fun d s3 h3 => ?_) (fun _ _ z => z)))
  refine wpAny_bind (wpAny_onRaise (wpAny_holding (wpAny_mono h3 (fun _ s4 h4 => ?_) (fun _ _ z => z.elim))))
  refine wpAny_pure ?_
  exact wpAny_pure h4
theorem wp_Dict21 {M : Model} {A : Around} {E : Value → Shared → Prop} {s : Shared} {e1 ek e2 : Expr} {env : Env} {pos : Pos} {Q : Value → Shared → Prop}
    (h : wpAny M A (eval e1 env) (fun u1 s1 => wpAny M A (mergeMapping s.heap.objs.size u1 false) (fun _ s2 => wpAny M A (subDict (pairTrees [some ek] [e2] env pos)) (fun d s3 => wpAny M A (mergeMapping s.heap.objs.size (.ref d) false) (fun _ s4 => Q (.ref s.heap.objs.size) s4) (fun _ _ => False) s3) E s2) (fun _ _ => False) s1) E { s with heap := s.heap.push { cls := .type "dict", data := .dict #[] } }) :
    wpAny M A (eval (.Dict [none, some ek] [e1, e2] pos) env) Q E s := by
  have e : eval (.Dict [none, some ek] [e1, e2] pos) env = (do
      standAt pos
      dictDisplay [(none, do let x ← eval e1 env; standAt pos; pure x), (some (eval ek env), do let x ← eval e2 env; standAt pos; pure x)]) := rfl
  rw [e]
  refine wpAny_bind (wpAny_standAt ?_)
  refine wp_disp21 (wpAny_bind (wpAny_mono h (fun u1 s1 h1 => ?_) (fun _ _ z => z)))
  exact wpAny_bind (wpAny_standAt (wpAny_pure h1))
section
variable {X : Cx} {t1 tk tv : TE} {e1 ek e2 : Expr} {pos : Pos}
theorem pe_mrg1 (h1 : PE X e1 t1) (hk : PE X ek tk) (h2 : PE X e2 tv) : PE X (.Dict [none, some ek] [e1, e2] pos) (fun σ H Q => ∀ p, H p = none → t1 σ (upd H p (.dK [])) fun x H1 => ∃ a k1, x = .ref a ∧ H1 p = some (.dK []) ∧ Rd H1 a (.dK k1) ∧ p ≠ a ∧
    ∀ q, upd H1 p (.dK (mergeK [] k1)) q = none → tk σ (upd (upd H1 p (.dK (mergeK [] k1))) q (.dK [])) fun y H2 => tv σ H2 fun z H3 => ∃ k : Key, y = kV k ∧ H3 q = some (.dK []) ∧ H3 p = some (.dK (mergeK [] k1)) ∧ p ≠ q ∧ (mergeK [] k1).length < sizeLine ∧
      Q (.ref p) (upd (upd H3 q (.dK [(k, z)])) p (.dK (putK (mergeK [] k1) k z)))) := by
  refine ⟨fun pins s σ H Q I q => ?_⟩
  have hn := I.hok.fresh (Nat.le_refl s.heap.objs.size)
  have I1 := I.laid (a := s.heap.objs.size) (o := .dK []) (h' := s.heap.push { cls := .type "dict", data := .dict #[] }) (t' := s.toks) (fun _ _ q => Heap.get?_push_of_some _ q) (Nat.le_refl _) (dk_empty s.heap I.big)
  refine wp_Dict21 (wpAny_mono (h1.run pins _ σ _ _ I1 (q _ hn)) (fun u1 s1 hq => ?_) (fun _ _ z => z))
  obtain ⟨x, H1, I2, rx, a, k1, rfl, ep, ra, hpa, q2⟩ := hq
  cases rx
  refine merge_at I2 ep ra hpa (by have := (dk_rd I2.hok ra).1; rw [List.length_nil]; omega) fun s2 I3 => ?_
  have hn2 := I3.hok.fresh (Nat.le_refl s2.heap.objs.size)
  have I4 := I3.laid (a := s2.heap.objs.size) (o := .dK []) (h' := s2.heap.push { cls := .type "dict", data := .dict #[] }) (t' := s2.toks) (fun _ _ q => Heap.get?_push_of_some _ q) (Nat.le_refl _) (dk_empty s2.heap I3.big)
  refine wpAny_subDict (knd := mixKind X.prog X.w) (by show 1 ≤ 15; decide) ?_
  refine thn ((pps_cons hk h2 pps_nil).run pins _ σ _ (fun ps H3 => match ps with
    | [(y, z)] => ∃ k : Key, y = kV k ∧ H3 s2.heap.objs.size = some (.dK []) ∧ H3 s.heap.objs.size = some (.dK (mergeK [] k1)) ∧ s.heap.objs.size ≠ s2.heap.objs.size ∧ (mergeK [] k1).length < sizeLine ∧
      Q (.ref s.heap.objs.size) (upd (upd H3 s2.heap.objs.size (.dK [(k, z)])) s.heap.objs.size (.dK (putK (mergeK [] k1) k z)))
    | _ => False) I4 (q2 _ hn2)) ?_
  rintro vs s3 ⟨ps, H3, I5, rel, hh⟩
  match ps, hh with
  | [(y, z)], ⟨k, ey, eq, epp, hpq, hz, q3⟩ =>
  subst ey
  obtain ⟨rs, c, rk⟩ := carries_of (P := X.prog) (w := X.w) (kvs := [(k, z)]) rel
  obtain ⟨z0, hd, vs0, r0, dd⟩ := dk_of I5.hok eq
  cases r0
  refine ⟨rs, c, dd, fun h' dd' hs => ?_⟩
  have he : ∃ q, h'.get? s2.heap.objs.size = some q := let ⟨q, _, _, hq, _⟩ := dd'; ⟨q, hq⟩
  have hz1 : (mergeK [] [(k, z)]).length ≤ sizeLine := by
    show 1 ≤ sizeLine
    rw [sizeLine_eq]; omega
  have I6 := d_write (t' := s3.toks + vs.length) I5 (by rw [eq]; exact True.intro) hs he (dk_new hz1 hd (rk.merge .nil) dd')
  have e1 : mergeK [] [(k, z)] = [(k, z)] := rfl
  rw [e1] at I6
  have ep6 : upd H3 s2.heap.objs.size (.dK [(k, z)]) s.heap.objs.size = some (.dK (mergeK [] k1)) := by rw [upd_ne hpq]; exact epp
  refine merge_at I6 ep6 (.inl upd_same) hpq (by rw [List.length_cons, List.length_nil]; omega) fun s4 I7 => ⟨.ref s.heap.objs.size, _, I7, rfl, q3⟩
end
section
variable {X : Cx} {te : TE} {e : Expr} {p apos cpos pos : Pos}
/-- list(e.values()) -/
theorem pe_listVals (hc : X.calm = true) (he : PE X e te) (hg : Gl X "list") (hm : X.mg "list" = none) (hv : bootBuiltins "list" = some (.type "list")) (hbase : attributeBase e "values" X.env (eval e X.env) = eval e X.env) (hline : (apos.endLine == cpos.line) = true)
    (hs : starEach [.Call (.Attribute e "values" apos) [] [] cpos] X.env = (false, eval (.Call (.Attribute e "values" apos) [] [] cpos) X.env) :: starEach [] X.env := by rfl) :
    PE X (.Call (.Name "list" p) [.Call (.Attribute e "values" apos) [] [] cpos] [] pos) (fun σ H Q => te σ H fun x H1 => ∃ a kvs, x = .ref a ∧ Rd H1 a (.dK kvs) ∧ ∀ q, H1 q = none → Q (.ref q) (upd H1 q (.lst (kvs.map (·.2))))) := by
  refine ⟨fun pins s σ H Q I hq => ?_⟩
  refine wpAny_Call_Name_kw (ld_blt I hg hm hv ?_)
  refine PyProof.Rows.callWith_type1 ?_ hs rfl
  rw [hs]
  show wpAny _ _ (spliced ((false, eval (.Call (.Attribute e "values" apos) [] [] cpos) X.env) :: backTo pos (starEach [] X.env))) _ _ s
  refine Calls.spliced_cons ?_
  refine wpAny_Call_method (T := "dict") (id := "dict.values") hbase rfl hline F.plainAttrs_dict F.slot_dict_values F.type_dict_values (thn (he.run pins s σ H _ I hq) fun u s1 ⟨x, H1, I1, rx, d, kvs, ex, hd, q⟩ => ?_)
  subst ex
  obtain rfl : u = Value.ref d := rx
  obtain ⟨hz, hs0, vs, kv, hdo⟩ := dk_rd I1.hok hd
  obtain ⟨ep, hat⟩ := hdo.dictAt
  have lk : kvs.length = vs.length := Paired.length kv
  have I2 : Inv X pins σ H1 { s1 with heap := s1.heap.push { cls := .type "dict_values", data := .fields #[.ref d] } } := I1.kept (t' := s1.toks) fun b ob q => Heap.get?_push_of_some _ q
  refine ⟨hdo.typeIs, hdo.mapOf.noDict, ?_⟩
  show wpAny _ _ (callWith cpos (.builtin "dict.values") [.ref d] [] []) _ X.xe s1
  refine method_meetsIn F.slot_dict_values F.entry_dict_values rfl (PySem.evalArgs_none ⟨rfl, hdo.typeIs, F.args_dict_values_1 _, _, meets_dict_values (mixKind X.prog X.w) d hs0, ⟨vs, hdo⟩, ?_⟩)
  refine Calls.spliced_nil ?_
  refine PySem.W.kdl_call (PySem.W.kdl_values (knd := mixKind X.prog X.w) (kvs := vs) (ep := ep)) (I1.ok.hd hc) ⟨⟨_, Heap.get?_push_size _ rfl, rfl, rfl⟩, hat.push _⟩ (by omega) fun h' tk acc c hk hS hacc => ?_
  have ea : acc.toList = vs.map (·.2) := PySem.W.kdl_vals_eq acc.toList (by rw [Array.length_toList]; exact hacc.1) fun j v e => hacc.2 j v (by rw [← Array.getElem?_toList]; exact e)
  have ev : Vals (kvs.map (·.2)) acc.toList := by
    rw [ea]
    clear ea hacc hS hk hat lk I2 hdo hz q hd
    induction kv with
    | nil => exact .nil
    | cons h t ih => exact .cons h.2 ih
  have J := I2.laid (a := (s1.heap.push { cls := .type "dict_values", data := .fields #[.ref d] }).objs.size) (o := .lst (kvs.map (·.2))) (h' := h') (t' := tk) hk (Nat.le_refl _) ⟨by rw [List.length_map]; exact hz, acc.toList, c, ev, by rw [Array.toArray_toList]; exact hS⟩
  exact ⟨.ref _, _, J, rfl, q _ (I2.hok.fresh (Nat.le_refl _))⟩
end
end Pi

/-! Pi7m: {**a, **b}, list(d.values()), by data. -/
namespace Pi
open PySem L2 PySem.Spec PyProof.Rows
section
variable {g : GC} {al al' al0 : Al} {H H' H0 Hs : Hp} {S S' : Sto} {r : Rho} {σ : L2.St} {W : WX} {X : Cx}
theorem DtK.merge : ∀ {more : List (Key × V)} {ms : List (Str × D)} {kvs : List (Key × V)} {rs : List (Str × D)}, DtK g al H more ms → DtK g al H kvs rs → DtK g al H (mergeK kvs more) (mrgK rs ms)
  | _, _, kvs, rs, .nil, h => h
  | _, _, kvs, rs, .cons (k := k) (v := v) (d := d) q t, h => by
    show DtK g al H (mergeK (putK kvs (.inr k) v) _) (mrgK (dput rs k d) _)
    exact DtK.merge t (h.put q)
theorem mrgK_len : ∀ (more rs : List (Str × D)), (mrgK rs more).length ≤ rs.length + more.length
  | [], rs => by show rs.length ≤ rs.length + 0; omega
  | p :: r, rs => by
    have h1 := mrgK_len r (dput rs p.1 p.2)
    have h2 : (dput rs p.1 p.2).length ≤ rs.length + 1 := by
      unfold dput
      split
      · rw [List.length_map]; omega
      · rw [List.length_append]; simp
    show (mrgK (dput rs p.1 p.2) r).length ≤ _
    rw [List.length_cons]; omega
/-- one step, the rest against the heap of the beginning -/
theorem Pst.bnd1 {α β γ δ : Type} {R : Al → Hp → β → α → Prop} {R1 : Al → Hp → δ → γ → Prop} {Q : β → Hp → Prop} {alb : Al} {Hb : Hp} {o : Out γ} {k : γ → Sto → Out α} (h : Pst g W H0 al0 r σ al H R (o.bnd k) Q) :
    Pst g W H0 al0 r σ alb Hb R1 o fun (v : δ) H1 => ∃ al1 x S1, RS g H0 al0 r S1 al1 σ H1 ∧ Keep alb Hb H1 ∧ Ext alb Hb al1 ∧ R1 al1 H1 v x ∧ Pst g W H0 al0 r σ al H R (k x S1) Q := by
  cases o with
  | bad => exact h
  | exc c S' => exact h
  | ok x S' => exact fun H1 al1 v rs kp pr q => ⟨al1, x, S', rs, kp, pr, q, h⟩
variable {a b : Expr} {pos : Pos} {ma mb : Rho → Sto → Out D}
theorem s_mrg (ha : PE X a (TR g W (RV g) ma)) (hb : PE X b (TR g W (RV g) mb)) : PE X (.Dict [none, none] [a, b] pos) (TR g W (RF g) fun r S => (ma r S).bnd fun x S => match x with
      | .dic kx => (mb r S).bnd fun y S => lift (mrgD kx y) S
      | _ => .bad) := by
  refine PE.imp (pe_mrg ha hb) ?_
  rintro σ H Q ⟨H0, al0, al, r, S, rs, h⟩ p hp
  have n0 : H0 p = none := rs.keep.back hp
  have noOwn : ¬ OwnAt r σ p := fun o => by
    rcases rs.own_some o with ⟨_, z⟩ | ⟨_, z⟩ <;> (rw [hp] at z; cases z)
  refine ⟨H0, al0, al, r, S, rs.new hp, (Pst.bnd1 (R1 := RV g H) (alb := al) (Hb := upd H p (.dK [])) h).imp ?_⟩
  rintro vx H1 ⟨al1, x, S1, rs1, k1, p1, b1, h⟩
  cases x <;> try exact h.elim
  rename_i kx
  obtain ⟨e1, c1⟩ := k1.own p1 ⟨upd_same, rs.nc hp⟩ (fun z => nomatch z)
  have pe : Ext al H al1 := p1.from (.of (same_new hp))
  cases b1 with
  | @dic a1 o1 kvs1 _ q1 n1 l1 =>
  have hpa : p ≠ a1 := fun z => by rw [← z, e1] at q1; cases q1
  refine ⟨a1, kvs1, rfl, e1, .inr ⟨o1, q1⟩, hpa, ?_⟩
  have lo : Loose al1 H1 p := loose_dK e1
  have rsm : RS g H0 al0 r S1 al1 σ (upd H1 p (.dK (mergeK [] kvs1))) := rs1.free lo c1 (.inl n0) noOwn
  refine ⟨H0, al0, al1, r, S1, rsm, (Pst.bnd1 (R1 := RV g H) (alb := al1) (Hb := upd H1 p (.dK (mergeK [] kvs1))) h).imp ?_⟩
  rintro vy H2 ⟨al2, y, S2, rs2, k2, p2, b2, h⟩
  obtain ⟨d, ed, h⟩ := h.lift
  cases y <;> try (cases ed; done)
  rename_i ky
  unfold mrgD at ed
  simp only at ed
  split at ed
  · rename_i hz
    cases ed
    obtain ⟨e2, c2⟩ := k2.own p2 ⟨upd_same, c1⟩ (fun z => nomatch z)
    cases b2 with
    | @dic a2 o2 kvs2 _ q2 n2 l2 =>
    have hpb : p ≠ a2 := fun z => by rw [← z, e2] at q2; cases q2
    have d1 := l1.length
    have d2 := l2.length
    have d3 := length_mergeK kvs1 []
    rw [List.length_nil] at d3
    refine ⟨a2, kvs2, rfl, e2, .inr ⟨o2, q2⟩, hpb, by omega, ?_⟩
    have lo2 : Loose al2 H2 p := loose_dK e2
    have l1' : DtK g al2 H2 kvs1 kx := (l1.loose (o := .dK (mergeK [] kvs1)) lo).mono k2 p2
    have fin : DtK g al2 H2 (mergeK (mergeK [] kvs1) kvs2) (mrgK (mrgK [] kx) ky) := l2.merge (l1'.merge .nil)
    have ka : Keep al H H1 := (Keep.of (same_new hp)).trans (.refl al H) k1
    have kb : Keep al H (upd H1 p (.dK (mergeK [] kvs1))) := ka.mut (.inl hp)
    refine h _ al2 _ (rs2.free lo2 c2 (.inl n0) noOwn) ((kb.trans pe k2).mut (.inl hp)) (pe.trans kb p2) ⟨p, _, rfl, ⟨hp, c2⟩, upd_same, fin.loose lo2⟩
  · cases ed
variable {kx0 : Expr} {mk : Rho → Sto → Out D}
/-- {**a, k: b} -/
theorem s_mrg1 (ha : PE X a (TR g W (RV g) ma)) (hk : PE X kx0 (TR g W (RV g) mk)) (hb : PE X b (TR g W (RV g) mb)) : PE X (.Dict [none, some kx0] [a, b] pos) (TR g W (RF g) fun r S => (ma r S).bnd fun x S => match x with
      | .dic kx => (mk r S).bnd fun y S => (mb r S).bnd fun z S => (match y with
        | .str y => if kx.length < sizeLine then .ok (.dic (dput (mrgK [] kx) y z)) S else .bad
        | _ => .bad)
      | _ => .bad) := by
  refine PE.imp (pe_mrg1 ha hk hb) ?_
  rintro σ H Q ⟨H0, al0, al, r, S, rs, h⟩ p hp
  have n0 : H0 p = none := rs.keep.back hp
  have noOwn : ¬ OwnAt r σ p := rs.not_own hp
  refine ⟨H0, al0, al, r, S, rs.new hp, (Pst.bnd1 (R1 := RV g H) (alb := al) (Hb := upd H p (.dK [])) h).imp ?_⟩
  rintro vx H1 ⟨al1, x, S1, rs1, k1, p1, b1, h⟩
  cases x <;> try exact h.elim
  rename_i kx
  obtain ⟨e1, c1⟩ := k1.own p1 ⟨upd_same, rs.nc hp⟩ (fun z => nomatch z)
  have pe : Ext al H al1 := p1.from (.of (same_new hp))
  have ka : Keep al H H1 := (Keep.of (same_new hp)).trans (.refl al H) k1
  cases b1 with
  | @dic a1 o1 kvs1 _ q1 n1 l1 =>
  have hpa : p ≠ a1 := fun z => by rw [← z, e1] at q1; cases q1
  refine ⟨a1, kvs1, rfl, e1, .inr ⟨o1, q1⟩, hpa, fun q hq => ?_⟩
  have lo : Loose al1 H1 p := loose_dK e1
  have kb : Keep al H (upd H1 p (.dK (mergeK [] kvs1))) := ka.mut (.inl hp)
  have rsm : RS g H0 al0 r S1 al1 σ (upd H1 p (.dK (mergeK [] kvs1))) := rs1.free lo c1 (.inl n0) noOwn
  have lm : DtK g al1 (upd H1 p (.dK (mergeK [] kvs1))) kvs1 kx := l1.loose lo
  have hpq : p ≠ q := fun z => by subst z; rw [upd_same] at hq; cases hq
  have hHq : H q = none := kb.back hq
  have h0q : H0 q = none := rs.keep.back hHq
  have cq := rsm.nc hq
  have sq := same_new (o := HO.dK []) hq
  refine ⟨H0, al0, al1, r, S1, rsm.new hq, (Pst.bnd1 (R1 := RV g H) (alb := al1) (Hb := upd (upd H1 p (.dK (mergeK [] kvs1))) q (.dK [])) h).imp ?_⟩
  rintro vy H2 ⟨al2, y, S2, rs2, k2, p2, b2, h⟩
  refine ⟨H0, al0, al2, r, S2, rs2, (Pst.bnd1 (R1 := RV g H) (alb := al2) (Hb := H2) h).imp ?_⟩
  rintro vz H3 ⟨al3, z, S3, rs3, k3, p3, b3, h⟩
  cases y <;> try exact h.elim
  rename_i y h'
  dsimp only at h
  split at h
  · rename_i hz
    cases b2
    have f2 := k2.own (a := p) (o := .dK (mergeK [] kvs1)) p2 ⟨by rw [upd_ne hpq]; exact upd_same, c1⟩ (fun z => nomatch z)
    obtain ⟨f3, cp3⟩ := k3.own p3 f2 (fun z => nomatch z)
    have g2 := k2.own (a := q) (o := .dK []) p2 ⟨upd_same, cq⟩ (fun z => nomatch z)
    obtain ⟨g3, cq3⟩ := k3.own p3 g2 (fun z => nomatch z)
    have d1 := l1.length
    have d3 := length_mergeK kvs1 []
    rw [List.length_nil] at d3
    refine ⟨.inr y, rfl, g3, f3, hpq, by omega, ?_⟩
    -- the heap's ways
    have kc : Keep al H (upd (upd H1 p (.dK (mergeK [] kvs1))) q (.dK [])) := kb.then sq
    have p12 := pe.trans kc p2
    have k12 := kc.trans pe k2
    have p13 := p12.trans k12 p3
    have k13 := k12.trans p12 k3
    have loq : Loose al3 H3 q := loose_dK g3
    have noq : ¬ OwnAt r σ q := rsm.not_own hq
    have rs4 := rs3.free (o := .dK [(.inr y, vz)]) loq cq3 (.inl h0q) noq
    have f4 : upd H3 q (.dK [(.inr y, vz)]) p = some (.dK (mergeK [] kvs1)) := by rw [upd_ne hpq]; exact f3
    have lop : Loose al3 (upd H3 q (.dK [(.inr y, vz)])) p := loose_dK f4
    have rs5 := rs4.free (o := .dK (putK (mergeK [] kvs1) (.inr y) vz)) lop cp3 (.inl n0) noOwn
    have l3 : DtK g al3 H3 kvs1 kx := ((lm.same sq).mono k2 p2).mono k3 p3
    have fin : DtK g al3 H3 (putK (mergeK [] kvs1) (.inr y) vz) (dput (mrgK [] kx) y z) := DtK.put (DtK.merge l3 .nil) b3
    exact h _ al3 _ rs5 ((k13.mut (.inl hHq)).mut (.inl hp)) p13 ⟨p, _, rfl, ⟨hp, cp3⟩, upd_same, (fin.loose loq).loose lop⟩
  · exact h.elim
theorem s_lvals {p apos cpos : Pos} (G : XG g X) (ha : PE X a (TR g W (RB g) ma)) (hg : Gl X "list") (hm : X.mg "list" = none) (hbase : attributeBase a "values" X.env (eval a X.env) = eval a X.env) (hline : (apos.endLine == cpos.line) = true) :
    PE X (.Call (.Name "list" p) [.Call (.Attribute a "values" apos) [] [] cpos] [] pos) (TR g W (RF g) fun r S => (ma r S).bnd fun x S => match der S x with
      | .dic kvs => .ok (.lst (kvs.map (·.2))) S
      | _ => .bad) := by
  refine PE.imp (pe_listVals G.calm ha hg hm rfl hbase hline) ?_
  rintro σ H Q ⟨H0, al0, al, r, S, rs, h⟩
  refine ⟨H0, al0, al, r, S, rs, (h.bnd (R1 := RB g H)).imp ?_⟩
  rintro vx H1 ⟨al1, x, S1, rs1, k1, p1, b1, h⟩
  have b2 := Bp.der b1 rs1.sto
  revert h b2
  generalize der S1 x = x'
  intro h b2
  cases x' <;> try exact h.elim
  rename_i kx
  obtain ⟨a1, kvs1, rfl, q1, l1⟩ := b2.dic
  refine ⟨a1, kvs1, rfl, q1, fun q hq => ?_⟩
  have lv : ∀ {kvs : List (Key × V)} {rs : List (Str × D)}, DtK g al1 H1 kvs rs → DtL g al1 H1 (kvs.map (·.2)) (rs.map (·.2)) := by
    intro kvs rs l
    induction kvs generalizing rs with
    | nil => cases l; exact .nil
    | cons p kvs ih =>
      cases l with
      | cons q t => exact .cons q (ih t)
  exact Pst.new rs1 h hq ⟨q, _, rfl, ⟨k1.back hq, rs1.nc hq⟩, upd_same, (lv l1).loose (loose_none hq)⟩
end
end Pi

/-! Pi8: statements, by data. -/
namespace Pi
open PySem L2 PySem.Spec PyProof.Rows
section
variable {g : GC} {al al' al0 als : Al} {H H' H0 Hs : Hp} {S S' : Sto} {r r' : Rho} {σ σ' : L2.St} {W : WX} {X : Cx} {Φ : Phi}
variable {a b c tg e : Expr} {m ma mb mc : Rho → Sto → Out D} {pos p p2 apos cpos tpos spos : Pos}

/-! ### the state's steps -/
/-- a name gets a thing, own or data -/
theorem RS.setS {i : Nat} {v : V} {s : Sl} (rs : RS g H0 al0 r S al σ H) (hn : s.own = true → ∀ q, v = .ref q → ¬ OwnAt r σ q) (h : SlOk g al H0 H v s) : RS g H0 al0 (r.set i (some s)) S al (σ.set i (some v)) H := by
  have self : ∀ (t : Sl), (r.set i (some s))[i]? = some (some t) → t = s ∧ (σ.set i (some v))[i]? = some (some v) := fun t e => by
    have hl : i < r.length := by
      have := (List.getElem?_eq_some_iff.mp e).1
      rwa [List.length_set] at this
    rw [List.getElem?_set_self hl] at e
    cases e
    exact ⟨rfl, List.getElem?_set_self (by rw [rs.len]; exact hl)⟩
  refine ⟨rs.keep, rs.pre, rs.sto, by rw [List.length_set, List.length_set, rs.len], fun j t e => ?_, fun j j' t u x ne e e' w w' q => ?_⟩
  · by_cases hj : j = i
    · subst hj
      obtain ⟨rfl, e2⟩ := self t e
      exact ⟨v, e2, h⟩
    · rw [List.getElem?_set_ne (Ne.symm hj)] at e
      obtain ⟨y, ey, k⟩ := rs.sl j t e
      exact ⟨y, by rw [List.getElem?_set_ne (Ne.symm hj)]; exact ey, k⟩
  · by_cases hj : j = i
    · subst hj
      obtain ⟨rfl, e2⟩ := self t e
      rw [e2] at q
      cases q
      rw [List.getElem?_set_ne ne] at e' ⊢
      exact fun z => hn w x rfl ⟨j', u, e', w', z⟩
    · rw [List.getElem?_set_ne (Ne.symm hj)] at e q
      by_cases hj' : j' = i
      · subst hj'
        obtain ⟨rfl, e2⟩ := self u e'
        rw [e2]
        intro z
        cases z
        exact hn w' x rfl ⟨j, t, e, w, q⟩
      · rw [List.getElem?_set_ne (Ne.symm hj')] at e' ⊢
        exact rs.nd j j' t u x ne e e' w w' q
/-- a def's own thing changes -/
theorem RS.mut {i : Nat} {q : Addr} {s s' : Sl} {o : HO} (rs : RS g H0 al0 r S al σ H) (e : r[i]? = some (some s)) (w : s.own = true) (ev : σ[i]? = some (some (.ref q))) (lo : Loose al H q)
    (h : SlOk g al H0 (upd H q o) (.ref q) s') : RS g H0 al0 (r.set i (some s')) S al σ (upd H q o) := by
  have hl : i < r.length := (List.getElem?_eq_some_iff.mp e).1
  have ow := rs.own_at ⟨i, s, e, w, ev⟩
  refine ⟨rs.keep.mut ow.1.1, rs.pre, rs.sto.loose lo ow.1.2, by rw [List.length_set, rs.len], fun j t ej => ?_, fun j j' t u x ne e1 e2 w1 w2 q1 => ?_⟩
  · by_cases hj : j = i
    · subst hj
      rw [List.getElem?_set_self hl] at ej
      cases ej
      exact ⟨_, ev, h⟩
    · rw [List.getElem?_set_ne (Ne.symm hj)] at ej
      obtain ⟨y, ey, k⟩ := rs.sl j t ej
      refine ⟨y, ey, k.loose lo fun ow z => ?_⟩
      subst z
      exact rs.nd i j s t q (Ne.symm hj) e ej w ow ev ey
  · by_cases hj : j = i
    · subst hj
      rw [ev] at q1
      cases q1
      rw [List.getElem?_set_ne ne] at e2
      exact rs.nd j j' s u q ne e e2 w w2 ev
    · rw [List.getElem?_set_ne (Ne.symm hj)] at e1
      by_cases hj' : j' = i
      · subst hj'
        rw [ev]
        intro z
        cases z
        exact rs.nd j j' t s q ne e1 e w1 w q1 ev
      · rw [List.getElem?_set_ne (Ne.symm hj')] at e2
        exact rs.nd j j' t u x ne e1 e2 w1 w2 q1

/-! ### what is wanted of statements -/
def noComp : Expr → Bool
  | .ListComp _ _ _ _ => false
  | .SetComp _ _ _ _ => false
  | .DictComp _ _ _ _ _ => false
  | _ => true
theorem swaps_no {t : Option Expr} {l : Nat} {env : Env} (h : noComp e = true) : swapsWith e t l env = pure false := by
  cases e <;> first | rfl | (simp [noComp] at h; done)
def noTup : Expr → Bool
  | .Tuple _ _ _ => false
  | _ => true
def noSet : Expr → Bool
  | .Set _ _ _ => false
  | _ => true
theorem folded_no {env : Env} (h : noSet e = true) : ∀ x, foldedSetIterable e env x = pure x := by
  cases e <;> first | (intro _; rfl) | (simp [noSet] at h; done)

/-- one step, then the rest of a statement -/
theorem PstS.st {α δ : Type} {R1 : Al → Hp → δ → α → Prop} {o : Out α} {k : α → Sto → SO} {Dn : Ends} (rs0 : RS g H0 al0 r S al σ H) (h : PstS g W H0 al0 (o.st r k) Dn) :
    Pst g W H0 al0 r σ al H R1 o fun (v : δ) H1 => ∃ al1 x S1, RS g H0 al0 r S1 al1 σ H1 ∧ Keep al H H1 ∧ Ext al H al1 ∧ R1 al1 H1 v x ∧ PstS g W H0 al0 (k x S1) Dn := by
  cases o with
  | bad => exact h
  | exc c S' => exact fun H' al' rs => h σ H' al' rs
  | ok x S' => exact fun H1 al1 v rs kp pr q => ⟨al1, x, S', rs, kp, pr, q, h⟩
theorem PstS.ofO {o : Option Rho} {S : Sto} {Dn : Ends} (h : PstS g W H0 al0 (Pi.ofO o S) Dn) : ∃ r, o = some r ∧ PstS g W H0 al0 (.nx r S) Dn := by
  cases o with
  | none => exact h.elim
  | some r => exact ⟨r, rfl, h⟩
theorem ts_pass : PS X (.Pass pos) (TSt g W fun r S => .nx r S) := by
  refine PS.imp ps_pass ?_
  rintro Dn σ H ⟨H0, al0, al, r, S, rs, h⟩
  exact h σ H al rs
theorem ts_break : PS X (.Break pos) (TSt g W fun r S => .bk r S) := by
  refine PS.imp ps_break ?_
  rintro Dn σ H ⟨H0, al0, al, r, S, rs, h⟩
  exact h σ H al rs
theorem ts_continue : PS X (.Continue pos) (TSt g W fun r S => .ct r S) := by
  refine PS.imp ps_continue ?_
  rintro Dn σ H ⟨H0, al0, al, r, S, rs, h⟩
  exact h σ H al rs
theorem ts_doc {x j} : PS X (.Expr (.Constant (.str x) j p) pos) (TSt g W fun r S => .nx r S) := by
  refine PS.imp ps_doc ?_
  rintro Dn σ H ⟨H0, al0, al, r, S, rs, h⟩
  exact h σ H al rs
theorem ts_ex {R : RR D} (ha : PE X a (TR g W R ma)) (hs : noComp a = true) : PS X (.Expr a pos) (TSt g W fun r S => (ma r S).st r fun _ S => .nx r S) := by
  refine PS.imp (ps_expr ha (swaps_no hs)) ?_
  rintro Dn σ H ⟨H0, al0, al, r, S, rs, h⟩
  refine ⟨H0, al0, al, r, S, rs, (PstS.st (R1 := R H) rs h).imp ?_⟩
  rintro v H1 ⟨al1, x, S1, rs1, k1, p1, b1, h⟩
  exact h σ H1 al1 rs1
theorem ts_ret (ha : PE X a (TR g W (RV g) ma)) : PS X (.Return (some a) pos) (TSt g W fun r S => (ma r S).st r fun d S => .rt d S) := by
  refine PS.imp (ps_ret ha) ?_
  rintro Dn σ H ⟨H0, al0, al, r, S, rs, h⟩
  refine ⟨H0, al0, al, r, S, rs, (PstS.st (R1 := RV g H) rs h).imp ?_⟩
  rintro v H1 ⟨al1, x, S1, rs1, k1, p1, b1, h⟩
  exact h v H1 al1 rs1.keep rs1.pre rs1.sto b1
theorem ts_retN : PS X (.Return none pos) (TSt g W fun r S => .rt .non S) := by
  refine PS.imp ps_retN ?_
  rintro Dn σ H ⟨H0, al0, al, r, S, rs, h⟩
  exact h .non H al rs.keep rs.pre rs.sto .non
variable {mt : Rho → Sto → Out Bool} {m1 m2 : Rho → Sto → SO} {st : Stmt} {sa sb rest : List Stmt}
theorem ts_if (hc : PT X c (TT' g W mt)) (ha : PSs X sa (TSt g W m1)) (hb : PSs X sb (TSt g W m2)) : PS X (.If c sa sb pos) (TSt g W fun r S => (mt r S).st r fun k S => if k = true then m1 r S else m2 r S) := by
  refine PS.imp (ps_if hc ha hb) ?_
  rintro Dn σ H ⟨H0, al0, al, r, S, rs, h⟩
  refine ⟨H0, al0, al, r, S, rs, (PstS.st (R1 := fun _ _ (b : Bool) d => b = d) rs h).imp ?_⟩
  rintro k H1 ⟨al1, x, S1, rs1, k1, p1, rfl, h⟩
  cases k with
  | true => exact ⟨H0, al0, al1, r, S1, rs1, h⟩
  | false => exact ⟨H0, al0, al1, r, S1, rs1, h⟩
theorem tss_nil : PSs X [] (TSt g W fun r S => .nx r S) := by
  refine PSs.imp pss_nil ?_
  rintro Dn σ H ⟨H0, al0, al, r, S, rs, h⟩
  exact h σ H al rs
theorem tss_cons (h1 : PS X st (TSt g W m1)) (h2 : PSs X rest (TSt g W m2)) : PSs X (st :: rest) (TSt g W fun r S => match m1 r S with | .nx r S => m2 r S | o => o) := by
  refine PSs.imp (pss_cons h1 h2) ?_
  rintro Dn σ H ⟨H0, al0, al, r, S, rs, h⟩
  refine ⟨H0, al0, al, r, S, rs, ?_⟩
  dsimp only at h
  cases e : m1 r S with
  | nx r1 S1 =>
    rw [e] at h
    exact fun σ1 H1 al1 rs1 => ⟨H0, al0, al1, r1, S1, rs1, h⟩
  | bk r1 S1 => rw [e] at h; exact h
  | ct r1 S1 => rw [e] at h; exact h
  | rt d S1 => rw [e] at h; exact h
  | xc c r1 S1 => rw [e] at h; exact h
  | bad => rw [e] at h; exact h

/-! ### another entry -/
theorem Free.up {K0 : Hp} {a : Addr} (k : Keep al0 H0 K0) (p : Ext al0 H0 al) (c : ¬ Cell al a) (h : Free K0 a) : Free H0 a := by
  cases e : H0 a with
  | none => exact .inl e
  | some o =>
    by_cases hd : o = dm
    · exact .inr (by rw [e, hd])
    · have q := k.k a o e (fun z => c (z.pre p.p)) hd
      rcases h with h | h
      · rw [q] at h; cases h
      · rw [q] at h; cases h; exact (hd rfl).elim
theorem SlOk.up {v : V} {s : Sl} {K0 : Hp} (k : Keep al0 H0 K0) (p : Ext al0 H0 al) (h : SlOk g al K0 H v s) : SlOk g al H0 H v s := by
  cases s with
  | v d => exact h
  | ol ds => obtain ⟨q, vs, e1, ⟨e2, c⟩, e3, e4⟩ := h; exact ⟨q, vs, e1, ⟨e2.up k p c, c⟩, e3, e4⟩
  | od ds => obtain ⟨q, vs, e1, ⟨e2, c⟩, e3, e4⟩ := h; exact ⟨q, vs, e1, ⟨e2.up k p c, c⟩, e3, e4⟩
theorem RS.up {K0 : Hp} {bl : Al} (k : Keep al0 H0 K0) (q : Ext al0 H0 bl) (rs : RS g K0 bl r S al σ H) : RS g H0 al0 r S al σ H :=
  have p : Ext al0 H0 al := q.trans k rs.pre
  ⟨k.trans q rs.keep, p, rs.sto, rs.len, fun i s e => let ⟨v, ev, h⟩ := rs.sl i s e; ⟨v, ev, h.up k p⟩, rs.nd⟩
theorem PstS.up {K0 : Hp} {bl : Al} {o : SO} {Dn : Ends} (k : Keep al0 H0 K0) (q : Ext al0 H0 bl) (h : PstS g W H0 al0 o Dn) : PstS g W K0 bl o Dn := by
  cases o with
  | nx r S => exact fun σ H al rs => h σ H al (rs.up k q)
  | bk r S => exact fun σ H al rs => h σ H al (rs.up k q)
  | ct r S => exact fun σ H al rs => h σ H al (rs.up k q)
  | xc c r S => exact fun σ H al rs => h σ H al (rs.up k q)
  | rt d S => exact fun v H al kp pr => h v H al (k.trans q kp) (q.trans k pr)
  | bad => exact h
open Classical in
/-- all but the own things, as an entry -/
theorem RS.rebase (rs : RS g H0 al0 r S al σ H) : ∃ K0, Keep al0 H0 K0 ∧ KeepZ H K0 ∧ (∀ a, K0 a = none → H a = none) ∧ RS g K0 al r S al σ H := by
  have z1 : ∀ q, OwnAt r σ q → (if OwnAt r σ q then some dm else H q) = some dm := fun q h => if_pos h
  have z2 : ∀ q, ¬ OwnAt r σ q → (if OwnAt r σ q then some dm else H q) = H q := fun q h => if_neg h
  have n1 : ∀ q o, H q = some o → (∀ vs, o ≠ .lst vs) → (∀ kvs, o ≠ .dK kvs) → ¬ OwnAt r σ q := fun q o h h1 h2 w => by
    rcases rs.own_some w with ⟨_, z⟩ | ⟨_, z⟩
    · rw [h] at z; cases z; exact h1 _ rfl
    · rw [h] at z; cases z; exact h2 _ rfl
  have kz : KeepZ H (fun q => if OwnAt r σ q then some dm else H q) := ⟨fun q o u h => (z2 q (n1 q _ h (fun _ z => nomatch z) (fun _ z => nomatch z))).trans h, fun q xs h => (z2 q (n1 q _ h (fun _ z => nomatch z) (fun _ z => nomatch z))).trans h⟩
  have kz' : KeepZ (fun q => if OwnAt r σ q then some dm else H q) H := by
    refine ⟨fun q o u h => ?_, fun q xs h => ?_⟩
    · by_cases w : OwnAt r σ q
      · have h' := (z1 q w).symm.trans h; cases h'
      · exact (z2 q w).symm.trans h
    · by_cases w : OwnAt r σ q
      · have h' := (z1 q w).symm.trans h; cases h'
      · exact (z2 q w).symm.trans h
  refine ⟨fun q => if OwnAt r σ q then some dm else H q, ⟨rs.keep.toZ.trans kz, fun q o h c n => ?_, fun q o h => ?_⟩, kz, fun a h => ?_, ⟨⟨kz', fun q o h c n => ?_, fun q o h => ?_⟩, ⟨List.prefix_refl _, fun a h => .inl h⟩, rs.sto, rs.len, fun i s e => ?_, rs.nd⟩⟩
  · refine (z2 q fun w => ?_).trans (rs.keep.k q o h c n)
    rcases (rs.own_at w).1.1 with z | z
    · rw [h] at z; cases z
    · rw [h] at z; cases z; exact n rfl
  · by_cases w : OwnAt r σ q
    · exact ⟨dm, z1 q w⟩
    · obtain ⟨o', h'⟩ := rs.keep.s q o h
      exact ⟨o', (z2 q w).trans h'⟩
  · by_cases w : OwnAt r σ a
    · have h' := (z1 a w).symm.trans h; cases h'
    · exact (z2 a w).symm.trans h
  · by_cases w : OwnAt r σ q
    · have h' := (z1 q w).symm.trans h; cases h'; exact (n rfl).elim
    · exact (z2 q w).symm.trans h
  · by_cases w : OwnAt r σ q
    · rcases rs.own_some w with ⟨_, z⟩ | ⟨_, z⟩ <;> exact ⟨_, z⟩
    · exact ⟨o, (z2 q w).symm.trans h⟩
  · obtain ⟨v, ev, k⟩ := rs.sl i s e
    refine ⟨v, ev, ?_⟩
    cases s with
    | v d => exact k
    | ol ds =>
      obtain ⟨q, vs, rfl, ⟨z, c⟩, y, l⟩ := k
      exact ⟨q, vs, rfl, ⟨.inr (z1 q ⟨i, _, e, rfl, ev⟩), c⟩, y, l⟩
    | od ds =>
      obtain ⟨q, vs, rfl, ⟨z, c⟩, y, l⟩ := k
      exact ⟨q, vs, rfl, ⟨.inr (z1 q ⟨i, _, e, rfl, ev⟩), c⟩, y, l⟩

/-! ### loops -/
theorem ts_while (hp : PassesOwn (model X.prog X.w) X.A X.env X.xe) (hc : PT X c (TT' g W mt)) (hb : PSs X sa (TSt g W m1)) : PS X (.While c sa [] pos) (TSt g W (whS mt m1)) := by
  refine PS.imp (ps_while hp hc hb) ?_
  rintro Dn σ H ⟨H0, al0, al, r, S, rs, h⟩
  have nb : whS mt m1 r S ≠ .bad := fun e => by rw [e] at h; exact h
  obtain ⟨n, en⟩ := whS_n nb
  rw [← en] at h
  refine ⟨fun k σ H => ∃ al r S, RS g H0 al0 r S al σ H ∧ PstS g W H0 al0 (wh mt m1 k r S) Dn, ⟨n, al, r, S, rs, h⟩, ?_⟩
  clear h rs en nb
  rintro k σ H ⟨al, r, S, rs, h⟩
  cases k with
  | zero => exact h.elim
  | succ k =>
    unfold wh at h
    refine ⟨H0, al0, al, r, S, rs, (PstS.st (R1 := fun _ _ (b : Bool) d => b = d) rs h).imp ?_⟩
    rintro b H1 ⟨al1, x, S1, rs1, k1, p1, rfl, h⟩
    cases b with
    | false =>
      rw [if_neg Bool.false_ne_true] at h ⊢
      exact h σ H1 al1 rs1
    | true =>
      rw [if_pos rfl] at h ⊢
      refine ⟨fun σ H => ∃ m', m' < k + 1 ∧ m' = k ∧ ∃ al r S, RS g H0 al0 r S al σ H ∧ PstS g W H0 al0 (wh mt m1 m' r S) Dn, fun σ' H' h => let ⟨m', h1, _, h2⟩ := h; ⟨m', h1, h2⟩, H0, al0, al1, r, S1, rs1, ?_⟩
      cases eb : m1 r S1 with
      | nx r2 S2 => rw [eb] at h; exact fun σ2 H2 al2 rs2 => ⟨k, Nat.lt_succ_self k, rfl, al2, r2, S2, rs2, h⟩
      | ct r2 S2 => rw [eb] at h; exact fun σ2 H2 al2 rs2 => ⟨k, Nat.lt_succ_self k, rfl, al2, r2, S2, rs2, h⟩
      | bk r2 S2 => rw [eb] at h; exact h
      | rt d S2 => rw [eb] at h; exact h
      | xc c r2 S2 => rw [eb] at h; exact h
      | bad => rw [eb] at h; exact h
variable {mi : Rho → Sto → Out Wk} {iter : Expr} {t : Tg}
theorem ts_for (G : XG g X) (hp : PassesOwn (model X.prog X.w) X.A X.env X.xe) (hi : PI X tg iter (TIt X g W mi)) (hg : PG X tg (TGd g t)) (hb : PSs X sa (TSt g W m1)) (hs : noSet iter = true) :
    PS X (.For tg iter sa [] pos) (TSt g W fun r S => (mi r S).st r fun k S => match k.w with
      | none => forS (fun x r S => match bindT t x r with | some r => m1 r S | none => .bad) k.xs r S
      | some _ => .bad) := by
  refine PS.imp (ps_for hp G.calm hi hg hb (folded_no hs)) ?_
  rintro Dn σ H ⟨H0, al0, al, r, S, rs, h⟩
  refine ⟨H0, al0, al, r, S, rs, (PstS.st (R1 := YlW X g H0 H) rs h).imp ?_⟩
  rintro J H1 ⟨al1, ⟨w, ds⟩, S1, rs1, k1, p1, ⟨yl, wk⟩, h⟩
  cases w with
  | some i => exact h.elim
  | none =>
  dsimp only at yl h
  obtain ⟨K0, q1, q2, q3, rs1'⟩ := rs1.rebase
  replace h := h.up (q1) rs1.pre
  refine ⟨fun i n σ H' => n = ds.length - i ∧ i ≤ ds.length ∧ ∃ al' r S, RS g K0 al1 r S al' σ H' ∧
    PstS g W K0 al1 (forS (fun x r S => match bindT t x r with | some r => m1 r S | none => .bad) (ds.drop i) r S) Dn, ⟨_, rfl, Nat.zero_le _, al1, r, S1, rs1', h⟩, ?_⟩
  clear h rs1 rs1' rs
  rintro i n σ H2 ⟨rfl, hi, al2, r, S, rs2, h⟩
  have kz : KeepZ H1 H2 := q2.trans rs2.keep.toZ
  have pz : Ext al1 H1 al2 := ⟨rs2.pre.p, fun a c => (rs2.pre.n a c).imp id (q3 a)⟩
  by_cases he : i = ds.length
  · subst he
    rw [List.drop_length] at h
    exact .inl ⟨(yl _ H2 al2 kz pz).2 (Nat.le_refl _), h σ H2 al2 rs2⟩
  · have hlt : i < ds.length := by omega
    have eg : ds[i]? = some ds[i] := List.getElem?_eq_getElem hlt
    obtain ⟨go, yl2⟩ := (yl i H2 al2 kz pz).1 _ eg
    rw [List.drop_eq_getElem_cons hlt] at h
    unfold forS at h
    refine .inr ⟨go, fun σ H' => ∃ m', m' < ds.length - i ∧ m' = ds.length - (i + 1) ∧ i + 1 ≤ ds.length ∧ ∃ al' r S, RS g K0 al1 r S al' σ H' ∧
      PstS g W K0 al1 (forS (fun x r S => match bindT t x r with | some r => m1 r S | none => .bad) (ds.drop (i + 1)) r S) Dn, fun σ' H' h => h, ?_⟩
    intro x H3 hy
    obtain ⟨sm, dx⟩ := yl2 x H3 hy
    have rs3 := rs2.same sm
    cases eb : bindT t ds[i] r with
    | none => rw [eb] at h; exact h.elim
    | some r1 =>
      rw [eb] at h
      refine ⟨K0, al1, al2, r, S, ds[i], r1, rs3, dx, eb, fun σ2 rs4 of => ⟨K0, al1, al2, r1, S, rs4, ?_⟩⟩
      dsimp only at h
      cases e1 : m1 r1 S with
      | nx r2 S2 => rw [e1] at h; exact fun σ3 H4 al3 rs5 => ⟨_, by omega, rfl, by omega, al3, r2, S2, rs5, h⟩
      | ct r2 S2 => rw [e1] at h; exact fun σ3 H4 al3 rs5 => ⟨_, by omega, rfl, by omega, al3, r2, S2, rs5, h⟩
      | bk r2 S2 => rw [e1] at h; exact h
      | rt d S2 => rw [e1] at h; exact h
      | xc c r2 S2 => rw [e1] at h; exact h
      | bad => rw [e1] at h; exact h
end
end Pi

/-! Pi8b: statements that store, by data. -/
namespace Pi
open PySem L2 PySem.Spec PyProof.Rows
section
variable {g : GC} {al al' al0 als : Al} {H H' H0 Hs : Hp} {S S' : Sto} {r r' : Rho} {σ σ' : L2.St} {W : WX} {X : Cx} {Φ : Phi}
variable {a b c tg e : Expr} {m ma mb mc : Rho → Sto → Out D} {pos p p2 p3 apos cpos tpos spos : Pos} {i j : Nat} {x y : Str}

theorem sole_no {t : Expr} {l : Nat} {env : Env} (h : noComp e = true) : swapsWithSole [t] e l env = pure false := by
  unfold swapsWithSole
  exact swaps_no h
theorem setR_some {s : Sl} (h : setR i s r = some r') : i < r.length ∧ r' = r.set i (some s) := by
  unfold setR at h
  split at h
  · cases h; exact ⟨by assumption, rfl⟩
  · cases h
/-- what a new value is, in a name -/
theorem RF.sl {v : V} {d : D} (k0 : H0 = H0) (hs : ∀ q, Hs q = none → H0 q = none) (h : RF g Hs al H v d) : SlOk g al H0 H v d.own := by
  cases d with
  | lst ds => obtain ⟨q, vs, e, ⟨n, c⟩, y, l⟩ := h; exact ⟨q, vs, e, ⟨.inl (hs q n), c⟩, y, l⟩
  | dic ds => obtain ⟨q, vs, e, ⟨n, c⟩, y, l⟩ := h; exact ⟨q, vs, e, ⟨.inl (hs q n), c⟩, y, l⟩
  | _ => exact h
theorem RF.fresh {v : V} {d : D} (rs : RS g H0 al0 r S al σ Hs) (h : RF g Hs al' H v d) : d.own.own = true → ∀ q, v = .ref q → ¬ OwnAt r σ q := by
  cases d with
  | lst ds => obtain ⟨q, vs, rfl, ⟨n, _⟩, _⟩ := h; intro _ q' e; cases e; exact rs.not_own n
  | dic ds => obtain ⟨q, vs, rfl, ⟨n, _⟩, _⟩ := h; intro _ q' e; cases e; exact rs.not_own n
  | _ => intro z; cases z
/-- a name gets a new value -/
theorem asgO_of {Dn : Ends} (h : TSt g W (fun r S => (m r S).st r fun d S => ofO (setR i d.own r) S) Dn σ H) : tAsg (TR g W (RF g) m) (gName i) Dn σ H := by
  obtain ⟨H0, al0, al, r, S, rs, h⟩ := h
  refine ⟨H0, al0, al, r, S, rs, (PstS.st (R1 := RF g H) rs h).imp ?_⟩
  rintro v H1 ⟨al1, d, S1, rs1, k1, p1, b1, h⟩
  obtain ⟨r', e, h⟩ := h.ofO
  obtain ⟨_, rfl⟩ := setR_some e
  exact h _ H1 al1 (rs1.setS (b1.fresh rs) (b1.sl rfl fun q n => rs.keep.back n))
theorem asgV_of {Dn : Ends} (h : TSt g W (fun r S => (m r S).st r fun d S => ofO (setR i (.v d) r) S) Dn σ H) : tAsg (TR g W (RV g) m) (gName i) Dn σ H := by
  obtain ⟨H0, al0, al, r, S, rs, h⟩ := h
  refine ⟨H0, al0, al, r, S, rs, (PstS.st (R1 := RV g H) rs h).imp ?_⟩
  rintro v H1 ⟨al1, d, S1, rs1, k1, p1, b1, h⟩
  obtain ⟨r', e, h⟩ := h.ofO
  obtain ⟨_, rfl⟩ := setR_some e
  exact h _ H1 al1 (rs1.setV b1)
/-- a place of a name -/
structure Nm (X : Cx) (i : Nat) (x : Str) : Prop where
  at_ : X.N[i]? = some x
  loc : Loc X.env.scope x
  fn : X.fn x = true ∨ X.env.scope.names.lookup x = some .local
theorem ts_setV (G : XG g X) (n : Nm X i x) (he : PE X e (TR g W (RV g) m)) (hs : noComp e = true) : PS X (.Assign [.Name x p] e pos) (TSt g W fun r S => (m r S).st r fun d S => ofO (setR i (.v d) r) S) :=
  PS.imp (ps_set G.nd n.at_ n.loc he (swaps_no hs) n.fn) fun _ _ _ h => asgV_of h
theorem ts_setO (G : XG g X) (n : Nm X i x) (he : PE X e (TR g W (RF g) m)) (hs : noComp e = true) : PS X (.Assign [.Name x p] e pos) (TSt g W fun r S => (m r S).st r fun d S => ofO (setR i d.own r) S) :=
  PS.imp (ps_set G.nd n.at_ n.loc he (swaps_no hs) n.fn) fun _ _ _ h => asgO_of h
/-- several names -/
theorem ts_setT (G : XG g X) {t : Tg} {es : List Expr} {k : Nat} (hg : PG X (.Tuple es k p) (TGd g t)) (he : PE X e (TR g W (RV g) m)) (hs : noComp e = true) (ht : noTup e = true) :
    PS X (.Assign [.Tuple es k p] e pos) (TSt g W fun r S => (m r S).st r fun d S => ofO (bindT t d r) S) := by
  refine PS.imp (ps_asg he hg (sole_no hs) ?_ rfl) ?_
  · cases e <;> first | rfl | (simp [noTup] at ht; done)
  · rintro Dn σ H ⟨H0, al0, al, r, S, rs, h⟩
    refine ⟨H0, al0, al, r, S, rs, (PstS.st (R1 := RV g H) rs h).imp ?_⟩
    rintro v H1 ⟨al1, d, S1, rs1, k1, p1, b1, h⟩
    obtain ⟨r', e, h⟩ := h.ofO
    exact ⟨H0, al0, al1, r, S1, d, r', rs1, b1, e, fun σ' rs' _ => h σ' H1 al1 rs'⟩
/-- a, b = x, y -/
theorem swapped_two {env : Env} {kt k2 : Nat} {px py pt pt2 : Pos} (hk : env.scope.kind = .function) (hx : env.scope.names.lookup x = some .local) (hy : env.scope.names.lookup y = some .local) (hl : (py.line == px.line) = true) (ne : x ≠ y)
    (ha : noStar a = true) (hb : noStar b = true) (h1 : [a, b].all (foldedForSure 8) = false) (h2 : [a, b].all (constantsAlone 8) = false) :
    swappedStores [.Tuple [.Name x px, .Name y py] kt pt] (.Tuple [a, b] k2 pt2) env = pure (some [x, y]) := by
  have kx : env.kindOf x = some .local := hx
  have ky : env.kindOf y = some .local := hy
  have hbk : env.blockKind = .function := by unfold Env.blockKind; rw [hk]; rfl
  have hl' : py.line = px.line := by simpa using hl
  have ed : [x, y].eraseDups.length = 2 := by
    have : (y == x) = false := by simpa using fun z => ne z.symm
    simp [List.eraseDups, List.eraseDupsBy, List.eraseDupsBy.loop, this]
  unfold swappedStores
  simp only [hbk, h1, h2, List.filterMap_cons, List.filterMap_nil, List.head?_cons, Option.map_some, Option.getD_some, Expr.pos, kx, ky, hl', beq_self_eq_true, Bool.and_self, if_true, List.length_cons, List.length_nil, ed]
  rw [if_neg (by decide), if_neg ?_]
  · rfl
  · intro z
    simp only [List.any_cons, List.any_nil, Bool.or_eq_true, Bool.false_eq_true, or_false] at z
    rcases z with z | z
    · cases a <;> first | (cases z; done) | (simp [noStar] at ha; done)
    · cases b <;> first | (cases z; done) | (simp [noStar] at hb; done)
theorem ts_par (G : XG g X) {kt k2 : Nat} {px py pt pt2 : Pos} (nx : Nm X i x) (ny : Nm X j y) (lx : X.env.scope.names.lookup x = some .local) (ly : X.env.scope.names.lookup y = some .local) (hij : i ≠ j) (ha : PE X a (TR g W (RV g) ma)) (hb : PE X b (TR g W (RV g) mb)) (hs : noStar a = true) (hs' : noStar b = true)
    (hw : swappedStores [.Tuple [.Name x px, .Name y py] kt pt] (.Tuple [a, b] k2 pt2) X.env = pure (some [x, y])) :
    PS X (.Assign [.Tuple [.Name x px, .Name y py] kt pt] (.Tuple [a, b] k2 pt2) pos) (TSt g W fun r S => (ma r S).st r fun x S => (mb r S).st r fun y S => ofO ((setR i (.v x) r).bind (setR j (.v y))) S) := by
  refine PS.imp (ps_par G.calm G.nd nx.at_ ny.at_ hij lx ly (as2 ha hb hs hs') hw (sole_no rfl)) ?_
  rintro Dn σ H ⟨H0, al0, al, r, S, rs, h⟩
  refine ⟨H0, al0, al, r, S, rs, ?_⟩
  dsimp only at h ⊢
  cases e1 : ma r S with
  | bad => rw [e1] at h; exact h
  | exc c S1 => rw [e1] at h; exact fun H' al' rs => h σ H' al' rs
  | ok x S1 =>
    rw [e1] at h
    cases e2 : mb r S1 with
    | bad => simp only [Out.st, e2] at h; exact h.elim
    | exc c S2 => simp only [Out.st, Out.bnd, e2] at h ⊢; exact fun H' al' rs => h σ H' al' rs
    | ok y S2 =>
      simp only [Out.st, Out.bnd, e2] at h ⊢
      intro H1 al1 vs rs1 k1 p1 b1
      obtain ⟨r', e, h⟩ := h.ofO
      cases b1 with
      | cons b1 bn =>
        cases bn with
        | cons b2 bn =>
          cases bn
          refine ⟨_, _, rfl, ?_⟩
          simp only [Option.bind_eq_some_iff] at e
          obtain ⟨r1, e3, e4⟩ := e
          obtain ⟨_, rfl⟩ := setR_some e3
          obtain ⟨_, rfl⟩ := setR_some e4
          exact h _ H1 al1 ((rs1.setV b1).setV b2)
end
end Pi

/-! Pi8c: statements that change a def's own list or dict, or an instance, by data. -/
namespace Pi
open PySem L2 PySem.Spec PyProof.Rows
section
variable {g : GC} {al al' al0 als : Al} {H H' H0 Hs : Hp} {S S' : Sto} {r r' : Rho} {σ σ' : L2.St} {W : WX} {X : Cx} {Φ : Phi}
variable {a b c tg e : Expr} {m ma mb mc : Rho → Sto → Out D} {pos p p2 p3 apos cpos tpos spos : Pos} {i j : Nat} {x y : Str}

/-- the def's own list, dict at a name -/
theorem RS.olAt {ds : List D} (rs : RS g H0 al0 r S al σ H) (e : r[i]? = some (some (.ol ds))) : ∃ q vs, σ[i]? = some (some (.ref q)) ∧ (Free H0 q ∧ ¬ Cell al q) ∧ H q = some (.lst vs) ∧ DtL g al H vs ds := by
  obtain ⟨v, ev, q, vs, rfl, z, y, l⟩ := rs.sl i _ e
  exact ⟨q, vs, ev, z, y, l⟩
theorem RS.odAt {ds : List (Str × D)} (rs : RS g H0 al0 r S al σ H) (e : r[i]? = some (some (.od ds))) : ∃ q vs, σ[i]? = some (some (.ref q)) ∧ (Free H0 q ∧ ¬ Cell al q) ∧ H q = some (.dK vs) ∧ DtK g al H vs ds := by
  obtain ⟨v, ev, q, vs, rfl, z, y, l⟩ := rs.sl i _ e
  exact ⟨q, vs, ev, z, y, l⟩
theorem RS.putL {q : Addr} {vs ws : List V} {ds es : List D} (rs : RS g H0 al0 r S al σ H) (e : r[i]? = some (some (.ol ds))) (ev : σ[i]? = some (some (.ref q))) (z : Free H0 q ∧ ¬ Cell al q) (y : H q = some (.lst vs)) (l : DtL g al H ws es) :
    RS g H0 al0 (r.set i (some (.ol es))) S al σ (upd H q (.lst ws)) :=
  rs.mut e rfl ev (loose_lst y) ⟨q, ws, rfl, z, upd_same, l.loose (loose_lst y)⟩
theorem RS.putD {q : Addr} {vs ws : List (Key × V)} {ds es : List (Str × D)} (rs : RS g H0 al0 r S al σ H) (e : r[i]? = some (some (.od ds))) (ev : σ[i]? = some (some (.ref q))) (z : Free H0 q ∧ ¬ Cell al q) (y : H q = some (.dK vs)) (l : DtK g al H ws es) :
    RS g H0 al0 (r.set i (some (.od es))) S al σ (upd H q (.dK ws)) :=
  rs.mut e rfl ev (loose_dK y) ⟨q, ws, rfl, z, upd_same, l.loose (loose_dK y)⟩
/-- a list, a dict of the store -/
theorem RS.cellL {k : Nat} {q dq : Addr} {vs ws : List V} {es : List D} (rs : RS g H0 al0 r S al σ H) (ea : al[k]? = some (q, dq)) (y : H q = some (.lst vs)) (l : DtL g al H ws es) : RS g H0 al0 r (S.set k (.ol es)) al σ (upd H q (.lst ws)) := by
  have lo : Loose al H q := loose_lst y
  have new : ObOk g al (upd H q (.lst ws)) q dq (.ol es) := ⟨ws, upd_same, l.loose lo⟩
  exact rs.cell ea lo (rs.nf y fun _ _ z => nomatch z) (rs.nt y fun _ z => nomatch z) new
theorem RS.cellD {k : Nat} {q dq : Addr} {vs ws : List (Key × V)} {es : List (Str × D)} (rs : RS g H0 al0 r S al σ H) (ea : al[k]? = some (q, dq)) (y : H q = some (.dK vs)) (l : DtK g al H ws es) : RS g H0 al0 r (S.set k (.od es)) al σ (upd H q (.dK ws)) := by
  have lo : Loose al H q := loose_dK y
  have new : ObOk g al (upd H q (.dK ws)) q dq (.od es) := ⟨ws, upd_same, l.loose lo⟩
  exact rs.cell ea lo (rs.nf y fun _ _ z => nomatch z) (rs.nt y fun _ z => nomatch z) new
theorem isOl_of {j : Nat} (h : isOl S j = true) : ∃ xs, S[j]? = some (.ol xs) := by
  unfold isOl at h
  split at h
  · rename_i xs e; exact ⟨xs, e⟩
  · cases h
/-- a place of a name that is read -/
structure Nv (X : Cx) (i : Nat) (x : Str) : Prop where
  at_ : X.N[i]? = some x
  vis : Vis X.env.scope x
  d1 : (x == ("__debug__" : Str)) = false
  d2 : (x == ("__classdict__" : Str)) = false
/-- what a method call of a built-in asks of the text -/
structure MB (X : Cx) (o : Expr) (name : Str) (apos cpos : Pos) (a : Expr) : Prop where
  base : attributeBase o name X.env (eval o X.env) = eval o X.env
  few : ((backTo cpos (starEach [a] X.env)).all (fun x => !x.1) && (backToKw cpos (keywordEach [] X.env)).all (fun x => x.1.isSome)
      && decide (([a] : List Expr).length + ([] : List Keyword).length + (if ([] : List Keyword).isEmpty then 0 else 1) < 30)) = true
  line : (apos.endLine == cpos.line) = true
theorem ts_app (n : Nv X i x) (ha : PE X a (TR g W (RV g) ma)) (hs : noStar a = true) (mb : MB X (.Name x p) "append" apos cpos a) :
    PS X (.Expr (.Call (.Attribute (.Name x p) "append" apos) [a] [] cpos) pos) (TSt g W fun r S => match r[i]? with
      | some (some (.ol xs)) => (ma r S).st r fun d S => if xs.length < sizeLine then ofO (setR i (.ol (xs ++ [d])) r) S else .bad
      | some (some (.v (.obj j))) => if isOl S j = true then (ma r S).st r fun d S => appS j d r S else .bad
      | _ => .bad) := by
  refine PS.imp (ps_expr (pe_bm PySem.F.plainAttrs_list PySem.F.slot_list_append PySem.F.type_list_append mt_append (pe_var n.at_ n.vis n.d1 n.d2) (pa_cons ha pa_nil (star_ok hs)) mb.base mb.few mb.line (star_ok hs) rfl) (swaps_no rfl)) ?_
  rintro Dn σ H ⟨H0, al0, al, r, S, rs, h⟩
  dsimp only at h
  split at h
  · rename_i xs er
    obtain ⟨q, vs, ev, z, y, l⟩ := rs.olAt er
    refine ⟨_, ev, .inl ⟨rfl, vs, .of y⟩, H0, al0, al, r, S, rs, (PstS.st (R1 := RV g H) rs h).imp ?_⟩
    rintro v H1 ⟨al1, d, S1, rs1, k1, p1, b1, h⟩
    split at h
    · rename_i hz
      obtain ⟨r', e, h⟩ := h.ofO
      obtain ⟨_, rfl⟩ := setR_some e
      obtain ⟨q', vs', ev', z', y', l'⟩ := rs1.olAt er
      rw [ev] at ev'
      cases ev'
      refine ⟨q, vs', v, rfl, rfl, y', by rw [l'.length]; exact hz, h _ _ al1 (rs1.putL er ev z' y' (l'.append (.cons b1 .nil)))⟩
    · exact h.elim
  · rename_i j er
    split at h
    · rename_i ho
      obtain ⟨v, ev, k⟩ := rs.sl i _ er
      obtain ⟨xs, es⟩ := isOl_of ho
      cases k with
      | @obj _ q dq ea =>
      obtain ⟨vs, y, l⟩ := rs.sto.at_ _ _ _ _ ea es
      refine ⟨_, ev, .inl ⟨rfl, vs, .of y⟩, H0, al0, al, r, S, rs, (PstS.st (R1 := RV g H) rs h).imp ?_⟩
      rintro v H1 ⟨al1, d, S1, rs1, k1, p1, b1, h⟩
      unfold appS at h
      split at h
      · rename_i xs1 es1
        split at h
        · rename_i hz
          obtain ⟨vs', y', l'⟩ := rs1.sto.at_ _ _ _ _ (pre_get p1.p ea) es1
          exact ⟨q, vs', v, rfl, rfl, y', by rw [l'.length]; exact hz, h _ _ al1 (rs1.cellL (pre_get p1.p ea) y' (l'.append (.cons b1 .nil)))⟩
        · exact h.elim
      · exact h.elim
    · exact h.elim
  · exact h.elim
/-- xs.extend(ys), ys frozen or not -/
def rExtQ (K : PySem.W.Frag) : V → List V → Hp → VK → Prop := fun x vs H Q => ∃ l b xs zs, x = .ref l ∧ vs = [.ref b] ∧ H l = some (.lst xs) ∧ SqL K H b zs ∧ xs.length + zs.length ≤ sizeLine ∧ Q .non (upd H l (.lst (xs ++ zs)))
theorem mt_extQ : MtR X "list.extend" (rExtQ X.K) := by
  intro pins s σ H x vs v us Q I rx rv h
  obtain ⟨l, b, xs, zs, rfl, rfl, hH, hB, hz, q⟩ := h
  cases rx
  obtain ⟨u, rfl, ru⟩ := rv.one
  cases ru
  obtain ⟨z, its, n, r, hl, e⟩ := I.lstM hH
  obtain ⟨its2, r2, ⟨ob, n2, e2, hc2, hd2, hs2⟩, z2⟩ := I.list hB
  have hl2 := r2.length
  have hsz : its.toArray.size + its2.toArray.size ≤ sizeLine := by rw [List.size_toArray, List.size_toArray]; omega
  have hlong : ¬ (!its.toArray.isEmpty && Builtin.List.listTooLong (its.toArray.size + its2.toArray.size)) = true := by
    rw [notLongL hsz, Bool.and_false]
    exact Bool.false_ne_true
  obtain ⟨oc, od, oda, osl⟩ := ob
  dsimp only at hc2 hd2 hs2
  subst hc2 hd2 hs2
  refine call_meets F.slot_list_extend ⟨_, e, rfl⟩ F.entry_list_extend (F.args_list_extend_2 _ _)
    (AutoSeq1.pi_list_extend l its.toArray n b its2.toArray n2 osl hlong (by rw [List.size_toArray]; omega) (by omega)) ⟨e, e2, ?_⟩
  refine ⟨.non, _, I.lset (its' := its ++ its2) hH e (by simp) (r.append r2) ?_, rfl, q⟩
  rw [List.length_append]
  omega
theorem ts_ext (G : XG g X) (n : Nv X i x) (ha : PE X a (TR g W (RV g) ma)) (hs : noStar a = true) (mb : MB X (.Name x p) "extend" apos cpos a) :
    PS X (.Expr (.Call (.Attribute (.Name x p) "extend" apos) [a] [] cpos) pos) (TSt g W fun r S => match r[i]? with
      | some (some (.ol xs)) => (ma r S).st r fun d S => match d with
        | .lst ys => if xs.length + ys.length ≤ sizeLine then ofO (setR i (.ol (xs ++ ys)) r) S else .bad
        | _ => .bad
      | _ => .bad) := by
  refine PS.imp (ps_expr (pe_bm PySem.F.plainAttrs_list PySem.F.slot_list_extend PySem.F.type_list_extend mt_extQ (pe_var n.at_ n.vis n.d1 n.d2) (pa_cons ha pa_nil (star_ok hs)) mb.base mb.few mb.line (star_ok hs) rfl) (swaps_no rfl)) ?_
  rintro Dn σ H ⟨H0, al0, al, r, S, rs, h⟩
  dsimp only at h
  split at h
  · rename_i xs er
    obtain ⟨q, vs, ev, z, y, l⟩ := rs.olAt er
    refine ⟨_, ev, .inl ⟨rfl, vs, .of y⟩, H0, al0, al, r, S, rs, (PstS.st (R1 := RV g H) rs h).imp ?_⟩
    rintro v H1 ⟨al1, d, S1, rs1, k1, p1, b1, h⟩
    cases d <;> try exact h.elim
    rename_i ys
    dsimp only at h
    split at h
    · rename_i hz
      obtain ⟨r', e, h⟩ := h.ofO
      obtain ⟨_, rfl⟩ := setR_some e
      obtain ⟨q', vs', ev', z', y', l'⟩ := rs1.olAt er
      rw [ev] at ev'
      cases ev'
      obtain ⟨q2, ws, rfl, sq, l2⟩ := Dt.lstI b1
      have hK := G.hK
      refine ⟨q, q2, vs', ws, rfl, rfl, y', hK ▸ sq.sq, by rw [l'.length, l2.length]; exact hz, h _ _ al1 (rs1.putL er ev z' y' (l'.append l2))⟩
    · exact h.elim
  · exact h.elim

/-! ### the last one taken from a list -/
/-- as an expression: its value, and the list is shorter -/
theorem pop_of {R : V → Hp → Prop} (n : Nv X i x) (hb : attributeBase (.Name x p) "pop" X.env (eval (.Name x p) X.env) = eval (.Name x p) X.env) (hl : (apos.endLine == cpos.line) = true) :
    PE X (.Call (.Attribute (.Name x p) "pop" apos) [] [] cpos) (fun σ H Q => ∃ v, σ[i]? = some (some v) ∧ tyV X.K "list" v H ∧ rPop v [] H Q) :=
  PE.imp (pe_bm0 PySem.F.plainAttrs_list PySem.F.slot_list_pop PySem.F.type_list_pop mt_pop (pe_var n.at_ n.vis n.d1 n.d2) hb hl) fun _ _ _ ⟨v, e, h⟩ => ⟨v, e, h⟩
theorem pop_at {xs : List D} {d : D} {Q : VK} (rs : RS g H0 al0 r S al σ H) (e : r[i]? = some (some (.ol xs))) (ed : xs.getLast? = some d)
    (h : ∀ v H', RS g H0 al0 (r.set i (some (.ol xs.dropLast))) S al σ H' → Dt g al H' v d → Q v H') : ∃ v, σ[i]? = some (some v) ∧ tyV X.K "list" v H ∧ rPop v [] H Q := by
  obtain ⟨q, vs, ev, z, y, l⟩ := rs.olAt e
  rw [List.getLast?_eq_getElem?] at ed
  obtain ⟨w, ew, dw⟩ := l.get ed
  rw [← l.length] at ew
  exact ⟨_, ev, .inl ⟨rfl, vs, .of y⟩, q, vs, w, rfl, rfl, y, ew, h _ _ (rs.putL e ev z y l.dropLast) (dw.loose (loose_lst y))⟩
def popS (t : Tg) (i : Nat) : Rho → Sto → SO := fun r S => match r[i]? with
  | some (some (.ol xs)) => (match xs.getLast? with
    | some d => ofO ((setR i (.ol xs.dropLast) r).bind fun r => bindT t d r) S
    | none => .bad)
  | some (some (.v d)) => (popD S d).st r fun d S => ofO (bindT t d r) S
  | _ => .bad
/-- the last one of a list of the store -/
theorem popC {x d : D} {v : V} {S' : Sto} {Q : VK} (rs : RS g H0 al0 r S al σ H) (dx : Dt g al H v x) (e : popD S x = .ok d S') (h : ∀ w H', RS g H0 al0 r S' al σ H' → (∃ q u, Cell al q ∧ H' = upd H q u ∧ Nf H q) → Dt g al H' w d → Q w H') : tyV X.K "list" v H ∧ rPop v [] H Q := by
  unfold popD at e
  split at e
  · rename_i k
    split at e
    · rename_i xs es
      split at e
      · rename_i d' ed
        cases e
        cases dx with
        | @obj _ q dq ea =>
        obtain ⟨vs, y, l⟩ := rs.sto.at_ _ _ _ _ ea es
        rw [List.getLast?_eq_getElem?] at ed
        obtain ⟨w, ew, dw⟩ := l.get ed
        rw [← l.length] at ew
        exact ⟨.inl ⟨rfl, vs, .of y⟩, q, vs, w, rfl, rfl, y, ew, h _ _ (rs.cellL ea y l.dropLast) ⟨q, _, ⟨k, dq, ea⟩, rfl, ⟨fun _ _ z => (by rw [y] at z; cases z), fun _ z => (by rw [y] at z; cases z)⟩⟩ (dw.loose (loose_lst y))⟩
      · cases e
    · cases e
  · cases e
theorem popD_noexc {x : D} {c : Nat} {S' : Sto} : popD S x ≠ .exc c S' := by
  unfold popD
  split
  · split
    · split
      · intro z; cases z
      · intro z; cases z
    · intro z; cases z
  · intro z; cases z
theorem ts_popl (G : XG g X) (n : Nv X i x) {t : Tg} (hg : PG X tg (TGd g t)) (hb : attributeBase (.Name x p) "pop" X.env (eval (.Name x p) X.env) = eval (.Name x p) X.env) (hl : (apos.endLine == cpos.line) = true)
    (h1 : (assignEach [tg] X.env).map (·.2) = [assign tg X.env]) (hw : swappedStores [tg] (.Call (.Attribute (.Name x p) "pop" apos) [] [] cpos) X.env = pure none) :
    PS X (.Assign [tg] (.Call (.Attribute (.Name x p) "pop" apos) [] [] cpos) pos) (TSt g W (popS t i)) := by
  refine PS.imp (ps_asg (pop_of (R := fun _ _ => True) n hb hl) hg (sole_no rfl) hw h1) ?_
  rintro Dn σ H ⟨H0, al0, al, r, S, rs, h⟩
  unfold popS at h
  split at h
  · rename_i xs er
    split at h
    · rename_i d ed
      obtain ⟨r', e, h⟩ := h.ofO
      simp only [Option.bind_eq_some_iff] at e
      obtain ⟨r1, e1, e2⟩ := e
      obtain ⟨_, rfl⟩ := setR_some e1
      refine pop_at rs er ed ?_
      intro v H' rs' dv
      exact ⟨H0, al0, al, _, S, d, r', rs', dv, e2, fun σ' rs2 _ => h σ' H' al rs2⟩
    · exact h.elim
  · rename_i x er
    cases ep : popD S x with
    | bad => rw [ep] at h; exact h.elim
    | exc c S' => exact (popD_noexc ep).elim
    | ok d S' =>
      rw [ep] at h
      obtain ⟨r', e, h⟩ := PstS.ofO h
      obtain ⟨v, ev, k⟩ := rs.sl i _ er
      refine ⟨v, ev, popC (X := X) rs k ep ?_⟩
      intro w H' rs' _ dv
      exact ⟨H0, al0, al, _, S', d, r', rs', dv, e, fun σ' rs2 _ => h σ' H' al rs2⟩
  · exact h.elim
/-- a key taken from a dict -/
theorem ts_popk (n : Nv X i x) (ha : PE X a (TR g W (RV g) ma)) (mb : M1 X (.Name x p) "pop" apos a cpos) :
    PS X (.Expr (.Call (.Attribute (.Name x p) "pop" apos) [a] [] cpos) pos) (TSt g W fun r S => match r[i]? with
      | some (some (.od kvs)) => (ma r S).st r fun k S => match k with
        | .str k => if (dget kvs k).isSome = true then ofO (setR i (.od (ddrop kvs k)) r) S else .bad
        | _ => .bad
      | _ => .bad) := by
  refine PS.imp (ps_expr (pe_dpop1 (pe_var n.at_ n.vis n.d1 n.d2) ha mb) (swaps_no rfl)) ?_
  rintro Dn σ H ⟨H0, al0, al, r, S, rs, h⟩
  dsimp only at h
  split at h
  · rename_i kvs er
    obtain ⟨q, vs, ev, z, y, l⟩ := rs.odAt er
    refine ⟨_, ev, q, rfl, .inl ⟨vs, .inl y⟩, H0, al0, al, r, S, rs, (PstS.st (R1 := RV g H) rs h).imp ?_⟩
    rintro v H1 ⟨al1, d, S1, rs1, k1, p1, b1, h⟩
    cases d <;> try exact h.elim
    rename_i k
    cases b1
    dsimp only at h
    split at h
    · rename_i hz
      obtain ⟨r', e, h⟩ := h.ofO
      obtain ⟨_, rfl⟩ := setR_some e
      obtain ⟨q', vs', ev', z', y', l'⟩ := rs1.odAt er
      rw [ev] at ev'
      cases ev'
      rcases l'.val k with ⟨e1, _⟩ | ⟨w, d, e1, e2, _⟩
      · rw [e1] at hz; cases hz
      · exact ⟨vs', .inr k, w, y', rfl, e2, h _ _ al1 (rs1.putD er ev z' y' (l'.drop k))⟩
    · exact h.elim
  · exact h.elim
/-- d[k] = e, xs[i] = e -/
def rSetA : TSet := fun o i v H Q => rSetL o i v H Q ∨ rSetD o i v H Q
theorem set_any (hu : X.A.units + 1 < cLine) : PSet X rSetA := by
  intro pins s σ H o i v ov iv u Q I ro ri rv h
  rcases h with h | h
  · exact set_list pins s σ H o i v ov iv u Q I ro ri rv h
  · exact set_dict hu pins s σ H o i v ov iv u Q I ro ri rv h
theorem asg_plain {o i : Expr} {env : Env} (h : plainIx i = true) : ∀ v, assign (.Subscript o i tpos) env v = (do
      let ov ← holding [v] (eval o env)
      let iv ← holding [v, ov] (eval i env)
      standAt tpos
      holding [v, ov, iv] (setItem ov iv v)
      release [v, ov, iv] []) := by
  cases i <;> first | (simp [plainIx] at h; done) | (intro v; rfl)
/-- a thing of the store gets an item -/
theorem setC {m : Nat} {k d : D} {vx vk vd : V} {Dn : Ends} (rs : RS g H0 al0 r S al σ H) (dx : Dt g al H vx (.obj m)) (dk : Dt g al H vk k) (dd : Dt g al H vd d) (h : PstS g W H0 al0 (setkS m k d r S) Dn) : rSetA vx vk vd H fun H' => Dn.nx σ H' := by
  cases dx with
  | @obj _ q dq ea =>
  unfold setkS at h
  split at h
  · rename_i kvs es
    obtain ⟨vs, y, l⟩ := rs.sto.at_ _ _ _ _ ea es
    split at h
    · rename_i k'
      split at h
      · rename_i hz
        cases dk
        exact .inr ⟨q, _, rfl, .k (k := .inr k') y (by rw [l.length]; exact hz), h _ _ al (rs.cellD ea y (l.put dd))⟩
      · exact h.elim
    · exact h.elim
  · rename_i xs es
    obtain ⟨vs, y, l⟩ := rs.sto.at_ _ _ _ _ ea es
    split at h
    · rename_i z
      split at h
      · rename_i n en
        cases dk
        rw [ixd_eq, ← l.length] at en
        exact .inl ⟨q, vs, z, n, rfl, rfl, y, en, h _ _ al (rs.cellL ea y (l.set n dd))⟩
      · exact h.elim
    · exact h.elim
  · exact h.elim
theorem ts_setk (G : XG g X) (n : Nv X i x) (ha : PE X a (TR g W (RV g) ma)) (hb : PE X b (TR g W (RV g) mb)) (hs : noComp b = true) (hp : plainIx a = true) (hw : swappedStores [.Subscript (.Name x p) a tpos] b X.env = pure none) :
    PS X (.Assign [.Subscript (.Name x p) a tpos] b pos) (TSt g W fun r S => (mb r S).st r fun d S => match r[i]? with
      | some (some (.od kvs)) => (ma r S).st r fun k S => match k with
        | .str k => if kvs.length < sizeLine then ofO (setR i (.od (dput kvs k d)) r) S else .bad
        | _ => .bad
      | some (some (.ol xs)) => (ma r S).st r fun k S => match k with
        | .int z => (match ixd xs.length z with
          | some n => ofO (setR i (.ol (xs.set n d)) r) S
          | none => .bad)
        | _ => .bad
      | some (some (.v (.obj j))) => (ma r S).st r fun k S => setkS j k d r S
      | _ => .bad) := by
  refine PS.imp (ps_asg hb (pg_sub (pe_var n.at_ n.vis n.d1 n.d2) ha (set_any (by have := G.room; omega)) (asg_plain hp)) (sole_no hs) hw rfl) ?_
  rintro Dn σ H ⟨H0, al0, al, r, S, rs, h⟩
  refine ⟨H0, al0, al, r, S, rs, (PstS.st (R1 := RV g H) rs h).imp ?_⟩
  rintro v H1 ⟨al1, d, S1, rs1, k1, p1, b1, h⟩
  split at h
  · rename_i kvs er
    obtain ⟨q, vs, ev, z, y, l⟩ := rs1.odAt er
    refine ⟨_, ev, H0, al0, al1, r, S1, rs1, (PstS.st (R1 := RV g H1) rs1 h).imp ?_⟩
    rintro u H2 ⟨al2, k, S2, rs2, k2, p2, b2, h⟩
    cases k <;> try exact h.elim
    rename_i k
    cases b2
    dsimp only at h
    split at h
    · rename_i hz
      obtain ⟨r', e, h⟩ := h.ofO
      obtain ⟨_, rfl⟩ := setR_some e
      obtain ⟨q', vs', ev', z', y', l'⟩ := rs2.odAt er
      rw [ev] at ev'
      cases ev'
      exact .inr ⟨q, _, rfl, .k (k := .inr k) y' (by rw [l'.length]; exact hz), h _ _ al2 (rs2.putD er ev z' y' (l'.put (Dt.mono k2 p2 b1)))⟩
    · exact h.elim
  · rename_i xs er
    obtain ⟨q, vs, ev, z, y, l⟩ := rs1.olAt er
    refine ⟨_, ev, H0, al0, al1, r, S1, rs1, (PstS.st (R1 := RV g H1) rs1 h).imp ?_⟩
    rintro u H2 ⟨al2, k, S2, rs2, k2, p2, b2, h⟩
    cases k <;> try exact h.elim
    rename_i k
    cases b2
    dsimp only at h
    split at h
    · rename_i m em
      obtain ⟨r', e, h⟩ := h.ofO
      obtain ⟨_, rfl⟩ := setR_some e
      obtain ⟨q', vs', ev', z', y', l'⟩ := rs2.olAt er
      rw [ev] at ev'
      cases ev'
      rw [ixd_eq, ← l'.length] at em
      exact .inl ⟨q, vs', k, m, rfl, rfl, y', em, h _ _ al2 (rs2.putL er ev z' y' (l'.set m (Dt.mono k2 p2 b1)))⟩
    · exact h.elim
  · rename_i m er
    obtain ⟨vx, ev, kx⟩ := rs1.sl i _ er
    refine ⟨_, ev, H0, al0, al1, r, S1, rs1, (PstS.st (R1 := RV g H1) rs1 h).imp ?_⟩
    rintro u H2 ⟨al2, k, S2, rs2, k2, p2, b2, h⟩
    exact setC rs2 (Dt.mono k2 p2 kx) b2 (Dt.mono k2 p2 b1) h
  · exact h.elim
/-- o[k] = e -/
theorem ts_csetk (G : XG g X) (hc : PE X c (TR g W (RV g) mc)) (ha : PE X a (TR g W (RV g) ma)) (hb : PE X b (TR g W (RV g) mb)) (hs : noComp b = true) (hp : plainIx a = true) (hw : swappedStores [.Subscript c a tpos] b X.env = pure none) :
    PS X (.Assign [.Subscript c a tpos] b pos) (TSt g W fun r S => (mb r S).st r fun d S => (mc r S).st r fun x S => match x with
      | .obj j => (ma r S).st r fun k S => setkS j k d r S
      | _ => .bad) := by
  refine PS.imp (ps_asg hb (pg_sub hc ha (set_any (by have := G.room; omega)) (asg_plain hp)) (sole_no hs) hw rfl) ?_
  rintro Dn σ H ⟨H0, al0, al, r, S, rs, h⟩
  refine ⟨H0, al0, al, r, S, rs, (PstS.st (R1 := RV g H) rs h).imp ?_⟩
  rintro v H1 ⟨al1, d, S1, rs1, k1, p1, b1, h⟩
  refine ⟨H0, al0, al1, r, S1, rs1, (PstS.st (R1 := RV g H1) rs1 h).imp ?_⟩
  rintro u H2 ⟨al2, x, S2, rs2, k2, p2, b2, h⟩
  cases x <;> try exact h.elim
  refine ⟨H0, al0, al2, r, S2, rs2, (PstS.st (R1 := RV g H2) rs2 h).imp ?_⟩
  rintro w H3 ⟨al3, k, S3, rs3, k3, p3, b3, h⟩
  exact setC rs3 (Dt.mono k3 p3 b2) b3 (Dt.mono k3 p3 (Dt.mono k2 p2 b1)) h
/-- a number added to, taken from -/
theorem ts_aug (G : XG g X) (n : Nm X i x) (o : O2) (ho : o = .add ∨ o = .sub) (ha : PE X a (TR g W (RV g) ma)) :
    PS X (.AugAssign (.Name x p) (opOf o) a pos) (TSt g W fun r S => match r[i]? with
      | some (some (.v (.int x))) => (ma r S).st r fun y S => match y with
        | .int y => (match o with
          | .add => ofO (setR i (.v (.int (x + y))) r) S
          | .sub => ofO (setR i (.v (.int (x - y))) r) S
          | _ => .bad)
        | _ => .bad
      | _ => .bad) := by
  have go : ∀ (f : Int → Int → Int), PIp X (opOf o) (ipI f) → PS X (.AugAssign (.Name x p) (opOf o) a pos) (TSt g W fun r S => match r[i]? with
      | some (some (.v (.int x))) => (ma r S).st r fun y S => match y with
        | .int y => ofO (setR i (.v (.int (f x y))) r) S
        | _ => .bad
      | _ => .bad) := fun f hf => by
    refine PS.imp (ps_aug G.nd n.at_ n.loc ha hf n.fn) ?_
    rintro Dn σ H ⟨H0, al0, al, r, S, rs, h⟩
    dsimp only at h
    split at h
    · rename_i z er
      obtain ⟨v, ev, k⟩ := rs.sl i _ er
      cases k
      refine ⟨_, ev, H0, al0, al, r, S, rs, (PstS.st (R1 := RV g H) rs h).imp ?_⟩
      rintro u H1 ⟨al1, d, S1, rs1, k1, p1, b1, h⟩
      cases d <;> try exact h.elim
      rename_i w
      cases b1
      obtain ⟨r', e, h⟩ := h.ofO
      obtain ⟨_, rfl⟩ := setR_some e
      exact ⟨z, w, rfl, rfl, h _ _ al1 (rs1.setV (.int _))⟩
    · exact h.elim
  rcases ho with rfl | rfl
  · exact go _ ip_add
  · exact go _ ip_sub
/-- o.f = e -/
theorem fput_of : ∀ {fs : List (Str × V)} {ds : List (Str × D)} {f : Str} {v : V} {d : D}, FsOk g al H fs ds → Dt g al H v d → FsOk g al H (putF f v fs) (fput f d ds)
  | [], [], f, v, d, _, q => ⟨rfl, .cons q .nil⟩
  | [], _ :: _, _, _, _, h, _ => by have := h.len; simp at this
  | _ :: _, [], _, _, _, h, _ => by have := h.len; simp at this
  | (x, u) :: fs, (y, c) :: ds, f, v, d, h, q => by
    obtain ⟨h1, h2⟩ := h
    simp only [List.map_cons, List.cons.injEq] at h1
    obtain ⟨rfl, h1⟩ := h1
    cases h2 with
    | cons k t =>
      by_cases ef : x = f
      · subst ef
        have e1 : putF x v ((x, u) :: fs) = (x, v) :: fs := by simp [putF]
        have e2 : fput x d ((x, c) :: ds) = (x, d) :: ds := by simp [fput]
        rw [e1, e2]
        exact ⟨by simp [h1], .cons q t⟩
      · obtain ⟨g1, g2⟩ := fput_of (f := f) (fs := fs) (ds := ds) ⟨h1, t⟩ q
        have e1 : putF f v ((x, u) :: fs) = (x, u) :: putF f v fs := by simp [putF, ef]
        have e2 : fput f d ((x, c) :: ds) = (x, c) :: fput f d ds := by simp [fput, ef]
        rw [e1, e2]
        exact ⟨by simp [g1], .cons k g2⟩

/-- an instance's attribute changes -/
theorem RS.field {k c : Nat} {q dx : Addr} {ds : List (Str × D)} {f : Str} {d : D} {v : V} {fs : List (Str × V)} (rs : RS g H0 al0 r S al σ H) (ea : al[k]? = some (q, dx)) (y : H q = some (.ins (g.ca c) dx fs)) (fo : FsOk g al H fs ds) (dv : Dt g al H v d) :
    RS g H0 al0 r (S.set k (.ins c (fput f d ds))) al σ (upd H q (.ins (g.ca c) dx (putF f v fs))) := by
  have lo : Loose al H q := loose_ins y
  have new : ObOk g al (upd H q (.ins (g.ca c) dx (putF f v fs))) q dx (.ins c (fput f d ds)) := ⟨_, upd_same, (fput_of fo dv).loose lo⟩
  exact rs.cell ea lo (rs.nf y fun _ _ z => nomatch z) (rs.nt y fun _ z => nomatch z) new
theorem swaps_attr {b a : Expr} {f : Str} {p : Pos} {n : Nat} {env : Env} : swapsWith b (some (.Attribute a f p)) n env = pure false := by cases b <;> rfl
theorem ts_attr {f : Str} (G : XG g X) (A : AtI g f) (ha : PE X a (TR g W (RV g) ma)) (hb : PE X b (TR g W (RV g) mb)) :
    PS X (.Assign [.Attribute a f p] b pos) (TSt g W fun r S => (mb r S).st r fun d S => (ma r S).st r fun x S => match x with
      | .obj i => (match S[i]? with
        | some (.ins c fs) => if fs.length < 1000 then .nx r (S.set i (.ins c (fput f d fs))) else .bad
        | _ => .bad)
      | _ => .bad) := by
  refine PS.imp (ps_fld ha hb swaps_attr) ?_
  rintro Dn σ H ⟨H0, al0, al, r, S, rs, h⟩
  refine ⟨H0, al0, al, r, S, rs, (PstS.st (R1 := RV g H) rs h).imp ?_⟩
  rintro v H1 ⟨al1, d, S1, rs1, k1, p1, b1, h⟩
  refine ⟨H0, al0, al1, r, S1, rs1, (PstS.st (R1 := RV g H1) rs1 h).imp ?_⟩
  rintro u H2 ⟨al2, x, S2, rs2, k2, p2, b2, h⟩
  cases x <;> try exact h.elim
  rename_i k
  cases b2 with
  | @obj _ q dx ea =>
    dsimp only at h
    split at h
    · rename_i c ds eo
      split at h
      · rename_i hz
        obtain ⟨fs, y, fo⟩ := rs2.sto.at_ k q dx _ ea eo
        obtain ⟨A1, A2⟩ := A c
        have hK := G.hK
        exact ⟨q, g.ca c, dx, fs, rfl, y, hK ▸ A1, hK ▸ A2, by rw [fo.len]; exact hz, h _ _ al2 (rs2.field ea y fo (Dt.mono k2 p2 b1))⟩
      · exact h.elim
    · exact h.elim

/-! ### raise -/
/-- the exceptions' class with the number c -/
structure ExI (g : GC) (X : Cx) (x : Str) (c : Nat) : Prop where
  ex : ∃ (C : Addr) (B newId initId : String) (bmB : List Value), g.xa c = .ref C ∧ ExcBaseFacts B newId initId bmB ∧ PySem.W.excIn X.K C bmB newId = true ∧ X.mg x = some (.ref C) ∧ PySem.W.keepIn X.K (.ref C) = true ∧ Raises X (.ref C)
theorem ts_raise {es : List Expr} {ml : Rho → Sto → Out (List D)} {k : Nat} (G : XG g X) (tk : Takes X W) (E : ExI g X x k) (hg : Gl X x) (ha : PA X (a :: es) (TAs g W ml)) (hs : noStars (a :: es) = true) (hdb : (x == ("__debug__" : Str)) = false) :
    PS X (.Raise (some (.Call (.Name x p) (a :: es) [] cpos)) none pos) (TSt g W fun r S => (ml r S).st r fun xs S => if xs.length ≤ sizeLine then .xc k r S else .bad) := by
  obtain ⟨C, B, newId, initId, bmB, ec, F, q, gC, kC, rr⟩ := E.ex
  have hs' : noStar a = true ∧ noStars es = true := by simpa only [noStars, Bool.and_eq_true] using hs
  refine PS.imp (ps_raise G.calm tk (pmk_ownA F q gC kC rr hg ha hdb (star_ok hs'.1) (star_plain hs'.2))) ?_
  rintro Dn σ H ⟨H0, al0, al, r, S, rs, h⟩
  refine ⟨H0, al0, al, r, S, rs, (PstS.st (R1 := fun al H vs ds => DtL g al H vs ds) rs h).imp ?_⟩
  rintro vs H1 ⟨al1, ds, S1, rs1, k1, p1, b1, h⟩
  split at h
  · rename_i hz
    have q := h σ H1 al1 rs1
    rw [ec] at q
    exact ⟨by rw [b1.length]; exact hz, q⟩
  · exact h.elim
/-- raise of a name's class without a call is not served; X() neither -/
theorem ts_raise_never {st : Stmt} (h : PS X st tNever) : PS X st (TSt g W fun _ _ => .bad) := by
  refine PS.imp h ?_
  rintro Dn σ H ⟨H0, al0, al, r, S, rs, h⟩
  exact h.elim

/-! ### a comprehension into a name, on one line -/
variable {elt tgt iter kx vx : Expr} {ifs : List Expr} {scope : Scope} {own : List (Str × Nat)} {t : Tg} {mt : Rho → Sto → Out Bool} {me mk : Rho → Sto → Out D} {mi : Rho → Sto → Out Wk}
/-- behind a statement a thing may be unlocked -/
theorem ps_unl {st : Stmt} {t : TS} (h : PS X st t) : PS X st (fun D σ H => t { D with nx := fun σ' H' => D.nx σ' H' ∨ ∃ a od u, H' a = some (.frz od u) ∧ (∀ o' u', X.H_0 a ≠ some (.frz o' u')) ∧ D.nx σ' (upd H' a u) } σ H) := by
  refine ⟨fun pins s σ H D I q => thn (h.run pins s σ H _ I q) ?_⟩
  intro fl s1 q
  cases fl with
  | next =>
    obtain ⟨σ', H', I2, q | ⟨a, od, u, e, n, q⟩⟩ := q
    · exact ⟨σ', H', I2, q⟩
    · exact ⟨σ', _, I2.unlock e n, q⟩
  | brk => exact q
  | cont => exact q
  | ret v => exact q
theorem ts_setLc (G : XG g X) (hy : X.N[i]? = some y) (hyl : X.env.scope.names.lookup y = some .local) (hk : X.env.scope.kind = .function) (hl : (p.line == cpos.line) = true) (hn : (scope.names.any fun (n, k) => n == y && (k == .local || k == .cell)) = false)
    (hi : PI X tgt iter (TIt X g W mi)) (ok : blkC X.N X.env.scope scope own = true) (ht : ∀ i ∈ t.ids, i ∈ own.map (·.2))
    (hg : ∀ (s : Shared) (H : Hp) (C : Addr) (cl : List (Str × Addr)) (fp : List Addr), PG (X.blk s H scope (compEnvC scope cl C X.env) fp) tgt (TGd g t))
    (hc : ∀ (s : Shared) (H : Hp) (C : Addr) (cl : List (Str × Addr)) (fp : List Addr), PTs (X.blk s H scope (compEnvC scope cl C X.env) fp) ifs (TT' g WF mt))
    (he : ∀ (s : Shared) (H : Hp) (C : Addr) (cl : List (Str × Addr)) (fp : List Addr), PE (X.blk s H scope (compEnvC scope cl C X.env) fp) elt (TR g WF (RV g) me)) (hs : ∀ x, foldedSetIterable iter X.env x = pure x) :
    PS X (.Assign [.Name y p] (.ListComp elt [⟨tgt, iter, ifs, 0⟩] scope cpos) pos) (TSt g W fun r S => ((mi r S).bnd fun k S => ((loopL (lcStep t (own.map (·.2)) r mt me) k.xs S).bnd fun ys S => if k.xs.length ≤ sizeLine then Out.ok (D.lst ys) S else .bad).unl k.w).st r fun d S => ofO (setR i (D.own d) r) S) := by
  refine PS.imp (ps_unl (ps_setLc G.calm G.nd hy hyl (sw_true hk hyl hl hn) hi (blkOk_by ok) hg hc he hs)) fun Dn σ H h => ?_
  have q : tAsg (TR g W (RF g) fun r S => (mi r S).bnd fun k S => ((loopL (lcStep t (own.map (·.2)) r mt me) k.xs S).bnd fun ys S => if k.xs.length ≤ sizeLine then Out.ok (D.lst ys) S else .bad).unl k.w) (gName i) Dn σ H := asgO_of h
  exact lc_of ht q
theorem sw_dict {gs : List Comprehension} {l : Nat} {env : Env} (hk : env.scope.kind = .function) (hy : env.scope.names.lookup y = some .local) (hl : (p.line == cpos.line) = true)
    (ha : (scope.names.any fun (n, k) => n == y && (k == .local || k == .cell)) = false) : swapsWith (.DictComp kx vx gs scope cpos) (some (.Name y p)) l env = pure true := by
  have h1 : env.kindOf y = some .local := hy
  have h2 : env.blockKind = .function := by unfold Env.blockKind; rw [hk]; rfl
  unfold swapsWith
  simp only [h1, h2, ha, hl, Expr.pos]
  rfl
/-- the dict comprehension's store happens within its frame -/
theorem pi_setDc {wi : TI} {gt : TG} {tt : TT} {tk tv : TE} (G : XG g X) (hy : X.N[i]? = some y) (hyl : X.env.scope.names.lookup y = some .local) (hsw : swapsWith (.DictComp kx vx [⟨tgt, iter, ifs, 0⟩] scope cpos) (some (.Name y p)) pos.line X.env = pure true)
    (hi : PI X tgt iter wi) (ok : BlkOk X.N X.env.scope scope own)
    (hg : ∀ (s : Shared) (H : Hp) (C : Addr) (cl : List (Str × Addr)) (fp : List Addr), PG (X.blk s H scope (compEnvC scope cl C X.env) fp) tgt gt)
    (hc : ∀ (s : Shared) (H : Hp) (C : Addr) (cl : List (Str × Addr)) (fp : List Addr), PTs (X.blk s H scope (compEnvC scope cl C X.env) fp) ifs tt)
    (hkx : ∀ (s : Shared) (H : Hp) (C : Addr) (cl : List (Str × Addr)) (fp : List Addr), PE (X.blk s H scope (compEnvC scope cl C X.env) fp) kx tk)
    (hvx : ∀ (s : Shared) (H : Hp) (C : Addr) (cl : List (Str × Addr)) (fp : List Addr), PE (X.blk s H scope (compEnvC scope cl C X.env) fp) vx tv) (hs : ∀ x, foldedSetIterable iter X.env x = pure x) :
    PS X (.Assign [.Name y p] (.DictComp kx vx [⟨tgt, iter, ifs, 0⟩] scope cpos) pos) (tAsg (tDc wi gt tt tk tv (own.map (·.2))) (gName i)) := by
  constructor
  intro pins s σ H Dn I h
  rw [exec_Assign_Name_used _ _ _ _ hsw]
  refine wpAny_bind (wpAny_standAt (wpAny_bind ?_))
  show wpAny _ X.A (do let _ ← comprehension (.DictComp kx vx [⟨tgt, iter, ifs, 0⟩] scope cpos) scope X.env (firstIterPos [⟨tgt, iter, ifs, 0⟩] cpos) newDict false (eval iter X.env) (some (assign (.Name y p) X.env))) _ _ s
  have hd : tDc wi gt tt tk tv (own.map (·.2)) σ H (fun x H1 => gName i x σ H1 Dn.nx) := h
  have core := dc_core (Qf := fun _ s' => SP X pins Dn .next s') (use := some (assign (.Name y p) X.env)) (pos' := firstIterPos [⟨tgt, iter, ifs, 0⟩] cpos) (pos := cpos) G.calm G.nd I hi ok hg hc hkx hvx hs hd fun L C s' m H' I' q hn f => ?_
  · exact wpAny_bind (thn core fun _ s' hq => wpAny_pure (wpAny_pure hq))
  · show wpAny _ _ (assign (.Name y p) X.env (.ref L)) _ _ _
    refine wpAny_assign_Name (store_ok2 (v := V.ref L) I' G.nd hy (.inl hyl) rfl (fun s2 I2 hx => ?_) (.inr hyl))
    obtain ⟨z, sb, hz⟩ := hx
    obtain ⟨f0, f1, f2, f3, f4, f5⟩ := f
    have ne : C ≠ z := by
      rcases hz with w | w
      · rw [w]; exact f1
      · exact fun e => f4 y z w e.symm
    exact ⟨m, hn.sameBut sb ne, fun h3 sb3 => ⟨_, H', I2.turned (t' := s2.toks) (fun b o hb e => (sb3.2 b hb).trans e) f0 f1 f3 f4 f5, q⟩⟩
theorem ts_setDc (G : XG g X) (hy : X.N[i]? = some y) (hyl : X.env.scope.names.lookup y = some .local) (hk : X.env.scope.kind = .function) (hl : (p.line == cpos.line) = true) (hn : (scope.names.any fun (n, k) => n == y && (k == .local || k == .cell)) = false)
    (hi : PI X tgt iter (TIt X g W mi)) (ok : blkC X.N X.env.scope scope own = true) (ht : ∀ i ∈ t.ids, i ∈ own.map (·.2))
    (hg : ∀ (s : Shared) (H : Hp) (C : Addr) (cl : List (Str × Addr)) (fp : List Addr), PG (X.blk s H scope (compEnvC scope cl C X.env) fp) tgt (TGd g t))
    (hc : ∀ (s : Shared) (H : Hp) (C : Addr) (cl : List (Str × Addr)) (fp : List Addr), PTs (X.blk s H scope (compEnvC scope cl C X.env) fp) ifs (TT' g WF mt))
    (hkx : ∀ (s : Shared) (H : Hp) (C : Addr) (cl : List (Str × Addr)) (fp : List Addr), PE (X.blk s H scope (compEnvC scope cl C X.env) fp) kx (TR g WF (RV g) mk))
    (hvx : ∀ (s : Shared) (H : Hp) (C : Addr) (cl : List (Str × Addr)) (fp : List Addr), PE (X.blk s H scope (compEnvC scope cl C X.env) fp) vx (TR g WF (RV g) me)) (hs : ∀ x, foldedSetIterable iter X.env x = pure x) :
    PS X (.Assign [.Name y p] (.DictComp kx vx [⟨tgt, iter, ifs, 0⟩] scope cpos) pos) (TSt g W fun r S => ((mi r S).bnd fun k S => ((loopK (dcStep t (own.map (·.2)) r mt mk me) k.xs [] S).bnd fun ys S => if k.xs.length ≤ sizeLine then Out.ok (D.dic ys) S else .bad).unl k.w).st r fun d S => ofO (setR i (D.own d) r) S) := by
  refine PS.imp (ps_unl (pi_setDc G hy hyl (sw_dict hk hyl hl hn) hi (blkOk_by ok) hg hc hkx hvx hs)) fun Dn σ H h => ?_
  have q : tAsg (TR g W (RF g) fun r S => (mi r S).bnd fun k S => ((loopK (dcStep t (own.map (·.2)) r mt mk me) k.xs [] S).bnd fun ys S => if k.xs.length ≤ sizeLine then Out.ok (D.dic ys) S else .bad).unl k.w) (gName i) Dn σ H := asgO_of h
  exact dc_of ht q
end
end Pi

/-! Pi8d: things of the store, methods, tables, f-strings, by data. -/
namespace Pi
open PySem L2 PySem.Spec PyProof.Rows
section
variable {g : GC} {al al' al0 als : Al} {H H' H0 Hs : Hp} {S S' : Sto} {r r' : Rho} {σ σ' : L2.St} {W : WX} {X : Cx} {Φ : Phi}
variable {a b c tg e o : Expr} {es : List Expr} {m ma mb mc : Rho → Sto → Out D} {ml : Rho → Sto → Out (List D)} {pos p p2 p3 apos cpos tpos spos : Pos} {i j k : Nat} {x y : Str}

/-! ### a new list or dict goes into the store -/
mutual
theorem Dt.grow (p : al <+: al') (n : ∀ a o u, H a = some (.frz o u) → ¬ Cell al a → ¬ Cell al' a) : ∀ {v : V} {d : D}, Dt g al H v d → Dt g al' H v d
  | _, _, .non => .non
  | _, _, .bl b => .bl b
  | _, _, .int i => .int i
  | _, _, .str x => .str x
  | _, _, .fn i => .fn i
  | _, _, .obj h => .obj (pre_get p h)
  | _, _, .tup h l => .tup h (DtL.grow p n l)
  | _, _, .lst h l => .lst (h.imp (fun ⟨⟨o, q⟩, c⟩ => ⟨⟨o, q⟩, n _ _ _ q c⟩) id) (DtL.grow p n l)
  | _, _, .dic h c l => .dic h (n _ _ _ h c) (DtK.grow p n l)
theorem DtL.grow (p : al <+: al') (n : ∀ a o u, H a = some (.frz o u) → ¬ Cell al a → ¬ Cell al' a) : ∀ {vs : List V} {ds : List D}, DtL g al H vs ds → DtL g al' H vs ds
  | _, _, .nil => .nil
  | _, _, .cons h t => .cons (Dt.grow p n h) (DtL.grow p n t)
theorem DtK.grow (p : al <+: al') (n : ∀ a o u, H a = some (.frz o u) → ¬ Cell al a → ¬ Cell al' a) : ∀ {vs : List (Key × V)} {ds : List (Str × D)}, DtK g al H vs ds → DtK g al' H vs ds
  | _, _, .nil => .nil
  | _, _, .cons h t => .cons (Dt.grow p n h) (DtK.grow p n t)
end
theorem ObOk.grow {x dx : Addr} {o : Ob} (p : al <+: al') (n : ∀ a o u, H a = Option.some (HO.frz o u) → ¬ Cell al a → ¬ Cell al' a) (h : ObOk g al H x dx o) : ObOk g al' H x dx o := by
  cases o with
  | ins c ds => obtain ⟨fs, q, f⟩ := h; exact ⟨fs, q, f.1, f.2.grow p n⟩
  | ol ds => obtain ⟨fs, q, f⟩ := h; exact ⟨fs, q, f.grow p n⟩
  | od ds => obtain ⟨fs, q, f⟩ := h; exact ⟨fs, q, f.grow p n⟩
  | lk o =>
    cases o with
    | ol ds => obtain ⟨u, fs, q, f⟩ := h; exact ⟨u, fs, q, f.grow p n⟩
    | od ds => obtain ⟨u, fs, q, f⟩ := h; exact ⟨u, fs, q, f.grow p n⟩
    | _ => exact h
theorem cell_snoc {x dx a : Addr} (h : Cell (al ++ [(x, dx)]) a) : Cell al a ∨ a = x := by
  obtain ⟨i, d, e⟩ := h
  by_cases hi : i < al.length
  · rw [List.getElem?_append_left hi] at e
    exact .inl ⟨i, d, e⟩
  · have hi' : i = al.length := by
      have := (List.getElem?_eq_some_iff.mp e).1
      rw [List.length_append] at this
      have : i < al.length + 1 := this
      omega
    subst hi'
    rw [List.getElem?_append_right (Nat.le_refl _), Nat.sub_self] at e
    cases e
    exact .inr rfl
/-- a thing that came since Hs, and that nobody's name holds, is taken into the store -/
theorem RS.take {q : Addr} {ob : Ob} {u : HO} {S1 : Sto} {al1 : Al} {H1 : Hp} (rs : RS g H0 al0 r S al σ H) (rs1 : RS g H0 al0 r S1 al1 σ H1) (k : Keep al H H1) (pe : Ext al H al1) (hs : H q = none) (c : ¬ Cell al1 q) (y : H1 q = some u) (nf : ∀ o w, u ≠ .frz o w)
    (new : ObOk g al1 H1 q q ob) : RS g H0 al0 r (S1 ++ [ob]) (al1 ++ [(q, q)]) σ H1 ∧ Ext al H (al1 ++ [(q, q)]) := by
  have gr : ∀ a o w, H1 a = some (.frz o w) → ¬ Cell al1 a → ¬ Cell (al1 ++ [(q, q)]) a := fun a o w e n z => by
    rcases cell_snoc z with z | rfl
    · exact n z
    · rw [y] at e; cases e; exact nf _ _ rfl
  have pr : al1 <+: al1 ++ [(q, q)] := List.prefix_append _ _
  have ex : ∀ {bl : Al} {B : Hp}, Ext bl B al1 → B q = none → Ext bl B (al1 ++ [(q, q)]) := fun {bl B} p n => ⟨p.p.trans pr, fun a z => by
    rcases cell_snoc z with z | rfl
    · exact p.n a z
    · exact .inr n⟩
  refine ⟨⟨rs1.keep, ex rs1.pre (rs.keep.back hs), ⟨by rw [List.length_append, List.length_append, rs1.sto.len]; rfl, fun i w dw o e1 e2 => ?_, fun i j w dw dw' e1 e2 => ?_⟩, rs1.len, fun i s e => ?_, rs1.nd⟩, ex pe hs⟩
  · by_cases hi : i < al1.length
    · rw [List.getElem?_append_left hi] at e1
      rw [List.getElem?_append_left (by rw [← rs1.sto.len]; exact hi)] at e2
      exact (rs1.sto.at_ i w dw o e1 e2).grow pr gr
    · have hi' : i = al1.length := by
        have := (List.getElem?_eq_some_iff.mp e1).1
        rw [List.length_append] at this
        have : i < al1.length + 1 := this
        omega
      subst hi'
      rw [List.getElem?_append_right (Nat.le_refl _), Nat.sub_self] at e1
      rw [List.getElem?_append_right (by rw [rs1.sto.len]; exact Nat.le_refl _), ← rs1.sto.len, Nat.sub_self] at e2
      cases e1
      cases e2
      exact new.grow pr gr
  · have old : ∀ i w dw, (al1 ++ [(q, q)])[i]? = some (w, dw) → (al1[i]? = some (w, dw) ∧ w ≠ q) ∨ (i = al1.length ∧ w = q) := fun i w dw e => by
      by_cases hi : i < al1.length
      · rw [List.getElem?_append_left hi] at e
        exact .inl ⟨e, fun z => c ⟨i, dw, z ▸ e⟩⟩
      · have hi' : i = al1.length := by
          have := (List.getElem?_eq_some_iff.mp e).1
          rw [List.length_append] at this
          have : i < al1.length + 1 := this
          omega
        subst hi'
        rw [List.getElem?_append_right (Nat.le_refl _), Nat.sub_self] at e
        cases e
        exact .inr ⟨rfl, rfl⟩
    rcases old i w dw e1 with ⟨h1, h2⟩ | ⟨h1, h2⟩ <;> rcases old j w dw' e2 with ⟨h3, h4⟩ | ⟨h3, h4⟩
    · exact rs1.sto.nd i j w dw dw' h1 h3
    · exact absurd h4 h2
    · exact absurd h2 h4
    · rw [h1, h3]
  · obtain ⟨v, ev, kk⟩ := rs1.sl i s e
    refine ⟨v, ev, ?_⟩
    have nq : s.own = true → ∀ z, v = .ref z → z ≠ q := fun w z hz hq => by
      subst hz hq
      have := rs.not_own hs
      exact this ⟨i, s, e, w, ev⟩
    cases s with
    | v d => exact Dt.grow pr gr kk
    | ol ds =>
      obtain ⟨z, vs, rfl, ⟨f, n⟩, y', l⟩ := kk
      exact ⟨z, vs, rfl, ⟨f, fun w => (cell_snoc w).elim n (nq rfl z rfl)⟩, y', l.grow pr gr⟩
    | od ds =>
      obtain ⟨z, vs, rfl, ⟨f, n⟩, y', l⟩ := kk
      exact ⟨z, vs, rfl, ⟨f, fun w => (cell_snoc w).elim n (nq rfl z rfl)⟩, y', l.grow pr gr⟩
theorem s_cell (ha : PE X a (TR g W (RF g) ma)) : PE X a (TR g W (RV g) fun r S => (ma r S).bnd fun x S => newD S x) := by
  refine PE.imp ha ?_
  rintro σ H Q ⟨H0, al0, al, r, S, rs, h⟩
  refine ⟨H0, al0, al, r, S, rs, (Pst.bndAt (R1 := RF g H) h).imp ?_⟩
  rintro v H1 ⟨al1, x, S1, rs1, k1, p1, b1, h⟩
  cases x <;> try exact h.elim
  · rename_i ds
    obtain ⟨q, vs, rfl, ⟨hs, c⟩, y, l⟩ := b1
    have new : ObOk g al1 H1 q q (.ol ds) := ⟨vs, y, l⟩
    obtain ⟨rs2, p2⟩ := rs.take rs1 k1 p1 hs c y (fun _ _ z => nomatch z) new
    have e : (al1 ++ [(q, q)])[S1.length]? = some (q, q) := rs1.nth
    exact h H1 (al1 ++ [(q, q)]) (.ref q) rs2 k1 p2 (.obj e)
  · rename_i ds
    obtain ⟨q, vs, rfl, ⟨hs, c⟩, y, l⟩ := b1
    have new : ObOk g al1 H1 q q (.od ds) := ⟨vs, y, l⟩
    obtain ⟨rs2, p2⟩ := rs.take rs1 k1 p1 hs c y (fun _ _ z => nomatch z) new
    have e : (al1 ++ [(q, q)])[S1.length]? = some (q, q) := rs1.nth
    exact h H1 (al1 ++ [(q, q)]) (.ref q) rs2 k1 p2 (.obj e)
/-- o.pop() of a list of the store -/
theorem s_cpop (ha : PE X a (TR g W (RV g) ma)) (hb : attributeBase a "pop" X.env (eval a X.env) = eval a X.env) (hl : (apos.endLine == cpos.line) = true) :
    PE X (.Call (.Attribute a "pop" apos) [] [] cpos) (TR g W (RV g) fun r S => (ma r S).bnd fun x S => popD S x) := by
  refine PE.imp (pe_bm0 PySem.F.plainAttrs_list PySem.F.slot_list_pop PySem.F.type_list_pop mt_pop ha hb hl) ?_
  rintro σ H Q ⟨H0, al0, al, r, S, rs, h⟩
  refine ⟨H0, al0, al, r, S, rs, (h.bnd (R1 := RV g H)).imp ?_⟩
  rintro v H1 ⟨al1, x, S1, rs1, k1, p1, b1, h⟩
  cases e : popD S1 x with
  | bad => rw [e] at h; exact h.elim
  | exc c S' => exact (popD_noexc e).elim
  | ok d S' =>
    rw [e] at h
    refine popC (X := X) rs1 b1 e ?_
    rintro w H' rs2 ⟨q, u, cq, rfl, nq⟩ dw
    exact h _ al1 w rs2 ((Keep.refl al1 H1).cell (.refl al1 H1) cq nq.1 nq.2) (.refl al1 H1) dw

/-! ### methods -/
structure MetI (g : GC) (Φ : Phi) (K : PySem.W.Frag) : Prop where
  m : ∀ c x f, Φ.met c x = some f → Cls K (g.ca c) ∧ Meth K (g.ca c) x (g.fa f)
/-- o.m(..), o's class unknown yet -/
theorem wp_meth {m : Str} {A : Around} {E : Value → Shared → Prop} {s : Shared} {Q : Value → Shared → Prop} {prog : Program} {w : World} {env : Env}
    (hbase : attributeBase o m env (eval o env) = eval o env)
    (hfew : ((backTo pos (starEach es env)).all (fun x => !x.1) && (backToKw pos (keywordEach [] env)).all (fun x => x.1.isSome)
      && decide (es.length + ([] : List Keyword).length + (if ([] : List Keyword).isEmpty then 0 else 1) < 30)) = true)
    (hline : (apos.endLine == pos.line) = true)
    (h : wpAny (model prog w) A (eval o env) (fun ov s1 => ∀ pl : Sem Bool, wpAny (model prog w) A (getMethod ov m pl) (fun fx s2 => wpAny (model prog w) A (callWith pos fx.1 fx.2 (backTo pos (starEach es env)) []) Q E s2) E s1) E s) :
    wpAny (model prog w) A (eval (.Call (.Attribute o m apos) es [] pos) env) Q E s := by
  rw [arm_eval_Call, hbase]
  refine wpAny_bind (wpAny_mono h (fun ov s₁ h₁ => ?_) fun _ _ e => e)
  refine wpAny_bind (wpAny_standAt ?_)
  have hform : methodCallForm (es.length + ([] : List Keyword).length) (backTo pos (starEach es env)) (backToKw pos (keywordEach [] env)) = true := hfew
  have hpos : methodCallPos true o env apos pos = pure pos := by unfold methodCallPos; simp [hline]
  unfold methodCall
  rw [hform]
  refine wpAny_bind (wpAny_holding (wpAny_mono (h₁ _) (fun fx s2 h2 => ?_) fun _ _ e => e))
  exact wpAny_bind (wpAny_of_eq hpos h2)
def recv : Expr → Bool
  | .Call _ _ _ _ => false
  | _ => true
theorem recv_base {m : Str} {env : Env} {w : Sem Value} (h : recv o = true) : attributeBase o m env w = w := by
  cases o <;> first | rfl | (simp [recv] at h; done)
theorem few_of {env : Env} (hs : noStars es = true) (hn : es.length < 30) : ((backTo pos (starEach es env)).all (fun x => !x.1) && (backToKw pos (keywordEach [] env)).all (fun x => x.1.isSome)
      && decide (es.length + ([] : List Keyword).length + (if ([] : List Keyword).isEmpty then 0 else 1) < 30)) = true := by
  rw [star_all hs]
  have e : (backToKw pos (keywordEach [] env)).all (fun x => x.1.isSome) = true := rfl
  rw [e]
  simp only [List.length_nil, List.isEmpty_nil, if_true, Nat.add_zero, hn, decide_true, Bool.and_true]
  unfold backTo
  simp [List.all_map]
theorem FsOk.none : ∀ {fs : List (Str × V)} {ds : List (Str × D)} {f : Str}, FsOk g al H fs ds → dget ds f = none → fs.lookup f = none
  | [], [], f, _, _ => rfl
  | [], _ :: _, _, h, _ => by have := h.len; simp at this
  | _ :: _, [], _, h, _ => by have := h.len; simp at this
  | (x, v) :: fs, (y, c) :: ds, f, h, e => by
    obtain ⟨h1, h2⟩ := h
    simp only [List.map_cons, List.cons.injEq] at h1
    obtain ⟨rfl, h1⟩ := h1
    cases h2 with
    | cons q t =>
      by_cases ef : x = f
      · subst ef
        simp [dget, List.find?_cons] at e
      · have e' : dget ds f = Option.none := by simpa [dget, List.find?_cons, ef] using e
        have : (f == x) = false := by simpa using fun z => ef z.symm
        rw [List.lookup_cons, this]
        exact FsOk.none (fs := fs) ⟨h1, t⟩ e'
theorem s_meth {m : Str} (M : MetI g Φ X.K) (F : ∀ i, i < Φ.n → FnI g Φ X.prog X.w X.K X.mg X.base k i) (gd : X.A.guards = some []) (hr : Room k X.A) (hx : Lets X W) (ho : PE X o (TR g W (RV g) ma)) (hrc : recv o = true) (hn : (e :: es).length < 30) (hline : (apos.endLine == pos.line) = true) (ha : PA X (e :: es) (TAs g W ml)) (hs : noStars (e :: es) = true) :
    PE X (.Call (.Attribute o m apos) (e :: es) [] pos) (TR g W (RV g) fun r S => (ma r S).bnd fun x S => match x with
      | .obj i => (match S[i]? with
        | some (.ins c fs) => (match Φ.met c m with
          | some f => if f < Φ.n ∧ dget fs m = none then (ml r S).bnd fun xs S => Φ.call f (.obj i :: xs) S else .bad
          | none => .bad)
        | _ => .bad)
      | _ => .bad) := by
  refine ⟨fun pins s σ H Q I h => ?_⟩
  obtain ⟨H0, al0, al, r, S, rs, h⟩ := h
  refine wp_meth (recv_base hrc) (few_of hs hn) hline (thn (ho.run pins s σ H _ I ⟨H0, al0, al, r, S, rs, h.bnd (R1 := RV g H)⟩) ?_)
  rintro u s1 ⟨vx, H1, I1, rx, al1, x, S1, rs1, k1, p1, b1, h⟩ pl
  cases x <;> try exact h.elim
  rename_i i
  dsimp only at h
  split at h
  · rename_i c ds es1
    split at h
    · rename_i f ef
      split at h
      · rename_i hh
        obtain ⟨hf, hd⟩ := hh
        cases b1 with
        | @obj _ q dq ea =>
        obtain rfl : u = Value.ref q := rx
        obtain ⟨fs, y, fo⟩ := rs1.sto.at_ _ _ _ _ ea es1
        obtain ⟨hc, hm⟩ := M.m c m f ef
        refine getmeth_ok I1 y hc hm (fo.none hd) ?_
        obtain ⟨fd, ps, F', hk, hb, hl⟩ := F f hf
        have rq : RelV (V.ref q) (Value.ref q) := rfl
        have args : wpAny (model X.prog X.w) X.A (spliced (backTo pos (starEach (e :: es) X.env))) (AP X pins σ (fun vs H2 => SPI g Φ ps.length f (.ref q :: vs) H2 Q (WE W σ))) X.xe s1 := by
          refine ha.run pos pins s1 σ H1 _ I1 ⟨H0, al0, al1, r, S1, rs1, (h.bnd (R1 := fun al H vs ds => DtL g al H vs ds)).imp ?_⟩
          rintro vs H2 ⟨al2, xs, S2, rs2, k2, p2, b2, h⟩
          exact spi_of (hl _ S2) rs2 (.cons (.obj (pre_get p2.p ea)) b2) h
        have fin : ∀ us s2, AP X pins σ (fun vs H2 => SPI g Φ ps.length f (.ref q :: vs) H2 Q (WE W σ)) us s2 → wpAny (model X.prog X.w) X.A (call (.ref (g.fa f)) ([.ref q] ++ us)) (EP X pins σ Q) X.xe s2 := by
          rintro us s2 ⟨vs, H2, I2, r2, q2⟩
          exact run_fnG (us := .ref q :: us) F' gd hr hb (hx σ) I2 (.cons rq r2) q2
        have kin : ∀ us s2, AP X pins σ (fun vs H2 => SPI g Φ ps.length f (.ref q :: vs) H2 Q (WE W σ)) us s2 → X.K.In s2.heap := by
          rintro us s2 ⟨vs, H2, I2, r2, q2⟩
          exact I2.kIn
        have hs' : noStar e = true ∧ noStars es = true := by simpa only [noStars, Bool.and_eq_true] using hs
        exact PySem.W.callWith_K (first := [.ref q]) (h₀ := X.base) I1.ok.mod.kin hm.kp (thn args fun us s2 q2 => ⟨kin us s2 q2, fin us s2 q2⟩) (star_ok hs'.1) (star_plain hs'.2)
      · exact h.elim
    · exact h.elim
  · exact h.elim
theorem s_meth0 {m : Str} (M : MetI g Φ X.K) (F : ∀ i, i < Φ.n → FnI g Φ X.prog X.w X.K X.mg X.base k i) (gd : X.A.guards = some []) (hr : Room k X.A) (hx : Lets X W) (ho : PE X o (TR g W (RV g) ma)) (hrc : recv o = true) (hline : (apos.endLine == pos.line) = true) :
    PE X (.Call (.Attribute o m apos) [] [] pos) (TR g W (RV g) fun r S => (ma r S).bnd fun x S => match x with
      | .obj i => (match S[i]? with
        | some (.ins c fs) => (match Φ.met c m with
          | some f => if f < Φ.n ∧ dget fs m = none then Φ.call f [.obj i] S else .bad
          | none => .bad)
        | _ => .bad)
      | _ => .bad) := by
  refine ⟨fun pins s σ H Q I h => ?_⟩
  obtain ⟨H0, al0, al, r, S, rs, h⟩ := h
  refine wp_meth (recv_base hrc) rfl hline (thn (ho.run pins s σ H _ I ⟨H0, al0, al, r, S, rs, h.bnd (R1 := RV g H)⟩) ?_)
  rintro u s1 ⟨vx, H1, I1, rx, al1, x, S1, rs1, k1, p1, b1, h⟩ pl
  cases x <;> try exact h.elim
  rename_i i
  dsimp only at h
  split at h
  · rename_i c ds es1
    split at h
    · rename_i f ef
      split at h
      · rename_i hh
        obtain ⟨hf, hd⟩ := hh
        cases b1 with
        | @obj _ q dq ea =>
        obtain rfl : u = Value.ref q := rx
        obtain ⟨fs, y, fo⟩ := rs1.sto.at_ _ _ _ _ ea es1
        obtain ⟨hc, hm⟩ := M.m c m f ef
        refine getmeth_ok I1 y hc hm (fo.none hd) ?_
        obtain ⟨fd, ps, F', hk, hb, hl⟩ := F f hf
        have rq : RelV (V.ref q) (Value.ref q) := rfl
        exact PySem.W.callWith_K0 (first := [.ref q]) I1.kIn hm.kp (run_fnG (us := [.ref q]) F' gd hr hb (hx σ) I1 (.cons rq .nil) (spi_of (hl _ S1) rs1 (.cons (.obj ea) .nil) h))
      · exact h.elim
    · exact h.elim
  · exact h.elim
/-! ### tables of the module -/
structure TblI (g : GC) (Φ : Phi) (X : Cx) (x : Str) (t : Nat) : Prop where
  ex : ∃ (d : Addr) (es : Array DictEntry) (n : Nat), X.mg x = some (.ref d) ∧ KDict X.K X.w d es n ∧ ∀ k dv, dget (Φ.tb t) k = some dv → ∃ u v, PySem.W.nsIn X.K d k = some (some u) ∧ RelV v u ∧ ∀ al H, Dt g al H v dv
theorem ix_kd {d : Addr} {es : Array DictEntry} {n : Nat} (D : KDict X.K X.w d es n) : IxR X (fun x y H Q => ∃ (z : Str) (u0 : Value) (v0 : V), x = .ref d ∧ y = .str z ∧ PySem.W.nsIn X.K d z = some (some u0) ∧ RelV v0 u0 ∧ Q v0 H) := by
  intro value slice pins s σ H x y v u Q I rx ry h hs
  obtain ⟨z, u0, v0, rfl, rfl, e, r, q⟩ := h
  have ev : v = Value.ref d := rx
  subst ev
  exact tail_any (kd_type D I) slot_dict_getitem.lookup (op_item_kd D pins s σ H (.ref d) (.str z) _ u Q I rx ry ⟨z, u0, v0, rfl, rfl, e, r, q⟩) hs
theorem s_tsub {t : Nat} (T : TblI g Φ X x t) (hg : Gl X x) (hdb : (x == ("__debug__" : Str)) = false) (hb : PE X b (TR g W (RV g) mb)) (hs : plainIx b = true) :
    PE X (.Subscript (.Name x p) b pos) (TR g W (RV g) fun r S => (mb r S).bnd fun y S => match y with
      | .str y => lift (dget (Φ.tb t) y) S
      | _ => .bad) := by
  obtain ⟨d, es, n, gm, D, tb⟩ := T.ex
  refine PE.imp (pe_ix (ix_kd D) (pe_glob (v := .ref d) hg gm rfl hdb) hb (plainIx_ok hs)) ?_
  rintro σ H Q ⟨H0, al0, al, r, S, rs, h⟩
  refine ⟨H0, al0, al, r, S, rs, (h.bnd (R1 := RV g H)).imp ?_⟩
  rintro vy H1 ⟨al1, y, S1, rs1, k1, p1, b1, h⟩
  cases y <;> try exact h.elim
  cases b1
  obtain ⟨dv, e, h⟩ := h.lift
  obtain ⟨u, v, e1, rv, dt⟩ := tb _ _ e
  exact ⟨_, u, v, rfl, rfl, e1, rv, h.here rs1 (dt al1 H1)⟩

/-! ### f-strings -/
theorem s_fmt (ha : PE X a (TR g W (RV g) ma)) : PE X (.FormattedValue a (-1) none pos) (TR g W (RV g) fun r S => (ma r S).bnd fun x S => lift (fmtD x) S) := by
  refine PE.imp (pe_fmt ha) ?_
  rintro σ H Q ⟨H0, al0, al, r, S, rs, h⟩
  refine ⟨H0, al0, al, r, S, rs, (h.bnd (R1 := RV g H)).imp ?_⟩
  rintro v H1 ⟨al1, x, S1, rs1, k1, p1, b1, h⟩
  obtain ⟨z, ez, h⟩ := h.lift
  unfold fmtD at ez
  split at ez
  · split at ez
    · rename_i hz
      cases ez
      cases b1
      exact .inl ⟨_, rfl, hz, h.here rs1 (.str _)⟩
    · cases ez
  · split at ez
    · rename_i hz
      cases ez
      cases b1
      exact .inr ⟨_, rfl, hz, h.here rs1 (.str _)⟩
    · cases ez
  · cases ez
/-- the parts' readings -/
inductive PJd (g : GC) (W : WX) (X : Cx) : List Expr → List (Rho → Sto → Out D) → Prop where
  | nil : PJd g W X [] []
  | cons {e : Expr} {m : Rho → Sto → Out D} {es : List Expr} {ms : List (Rho → Sto → Out D)} (h : PE X e (TR g W (RV g) m)) (r : PJd g W X es ms) : PJd g W X (e :: es) (m :: ms)
theorem PJd.pj : ∀ {es : List Expr} {ms : List (Rho → Sto → Out D)}, PJd g W X es ms → PJ X es (ms.map fun m => TR g W (RV g) m)
  | _, _, .nil => .nil
  | _, _, .cons h r => .cons h r.pj
def evM : List (Rho → Sto → Out D) → Rho → Str → Sto → Out D
  | [], _, acc, S => .ok (.str acc) S
  | m :: ms, r, acc, S => (m r S).bnd fun x S => match x with
      | .str y => if (acc ++ y).length ≤ sizeLine then evM ms r (acc ++ y) S else .bad
      | _ => .bad
theorem tJs_of {Q : VK} : ∀ (ms : List (Rho → Sto → Out D)) {al : Al} {H : Hp} {S : Sto} {acc : Str}, RS g H0 al0 r S al σ H →
    Pst g W H0 al0 r σ al H (RV g H) (evM ms r acc S) Q → tJs (ms.map fun m => TR g W (RV g) m) acc σ H (fun out H1 => Q (.str out) H1)
  | [], al, H, S, acc, rs, h => h.here rs (.str _)
  | m :: ms, al, H, S, acc, rs, h => by
    refine ⟨H0, al0, al, r, S, rs, (h.bnd (R1 := RV g H)).imp ?_⟩
    rintro v H1 ⟨al1, x, S1, rs1, k1, p1, b1, h⟩
    cases x <;> try exact h.elim
    dsimp only at h
    split at h
    · rename_i hz
      cases b1
      exact ⟨_, rfl, hz, tJs_of ms rs1 h⟩
    · exact h.elim
theorem s_fst {v1 v2 : Expr} {ms : List (Rho → Sto → Out D)} (h : PJd g W X (v1 :: v2 :: es) ms) : PE X (.JoinedStr (v1 :: v2 :: es) pos) (TR g W (RV g) fun r S => evM ms r Str.empty S) := by
  refine PE.imp (pe_joined h.pj) ?_
  rintro σ H Q ⟨H0, al0, al, r, S, rs, h⟩
  exact tJs_of ms rs h

/-! ### statements upon things of the store -/
theorem ts_capp (hc : PE X c (TR g W (RV g) mc)) (ha : PE X a (TR g W (RV g) ma)) (hs : noStar a = true) (mb : MB X c "append" apos cpos a) :
    PS X (.Expr (.Call (.Attribute c "append" apos) [a] [] cpos) pos) (TSt g W fun r S => (mc r S).st r fun x S => match x with
      | .obj j => if isOl S j = true then (ma r S).st r fun d S => appS j d r S else .bad
      | _ => .bad) := by
  refine PS.imp (ps_expr (pe_bm PySem.F.plainAttrs_list PySem.F.slot_list_append PySem.F.type_list_append mt_append hc (pa_cons ha pa_nil (star_ok hs)) mb.base mb.few mb.line (star_ok hs) rfl) (swaps_no rfl)) ?_
  rintro Dn σ H ⟨H0, al0, al, r, S, rs, h⟩
  refine ⟨H0, al0, al, r, S, rs, (PstS.st (R1 := RV g H) rs h).imp ?_⟩
  rintro v H1 ⟨al1, x, S1, rs1, k1, p1, b1, h⟩
  cases x <;> try exact h.elim
  rename_i j
  dsimp only at h
  split at h
  · rename_i ho
    obtain ⟨xs, es1⟩ := isOl_of ho
    cases b1 with
    | @obj _ q dq ea =>
    obtain ⟨vs, y, l⟩ := rs1.sto.at_ _ _ _ _ ea es1
    refine ⟨.inl ⟨rfl, vs, .of y⟩, H0, al0, al1, r, S1, rs1, (PstS.st (R1 := RV g H1) rs1 h).imp ?_⟩
    rintro w H2 ⟨al2, d, S2, rs2, k2, p2, b2, h⟩
    unfold appS at h
    split at h
    · rename_i xs2 es2
      split at h
      · rename_i hz
        obtain ⟨vs', y', l'⟩ := rs2.sto.at_ _ _ _ _ (pre_get p2.p ea) es2
        exact ⟨q, vs', w, rfl, rfl, y', by rw [l'.length]; exact hz, h _ _ al2 (rs2.cellL (pre_get p2.p ea) y' (l'.append (.cons b2 .nil)))⟩
      · exact h.elim
    · exact h.elim
  · exact h.elim
end
end Pi

/-! PiD: del xs[a:]. -/
namespace Pi
open PySem L2 PySem.Spec PyProof.Rows
def selT (start stop step : Int) (i : Nat) : Bool :=
  if step > 0 then decide (start ≤ i) && decide ((i : Int) < stop) && (i - start) % step == 0
  else decide (stop < i) && decide ((i : Int) ≤ start) && (start - i) % (-step) == 0
theorem selT_tail {a n k : Nat} (h : k < n) : selT a n 1 k = decide (a ≤ k) := by
  unfold selT
  rw [if_pos (by decide)]
  have e1 : decide ((k : Int) < (n : Int)) = true := by simpa using h
  have e2 : (((k : Int) - (a : Int)) % 1 == 0) = true := by
    rw [Int.emod_one]; rfl
  rw [e1, e2, Bool.and_true, Bool.and_true]
  simp
theorem filt_tail (a : Nat) : ∀ (xs : List Value) (k n : Nat), k + xs.length = n → (xs.zipIdx k).filterMap (fun p => if selT a n 1 p.2 = true then none else some p.1) = xs.take (a - k)
  | [], k, n, _ => by simp
  | x :: xs, k, n, h => by
    rw [List.length_cons] at h
    rw [List.zipIdx_cons, List.filterMap_cons]
    rw [selT_tail (show k < n by omega)]
    have ih := filt_tail a xs (k + 1) n (by omega)
    by_cases ha : a ≤ k
    · simp only [ha, decide_true, if_true]
      rw [ih]
      have e1 : a - (k + 1) = 0 := by omega
      have e2 : a - k = 0 := by omega
      rw [e1, e2]; simp
    · simp only [ha, decide_false, Bool.false_eq_true, if_false]
      rw [ih]
      have e2 : a - k = (a - (k + 1)) + 1 := by omega
      rw [e2, List.take_succ_cons]
section
variable {prog : Program} {w : World} {A : Around} {E : Value → Shared → Prop} {s : Shared}
theorem delItem_tail {l sl : Addr} {its : List Value} {n : Nat} {vl : Value} {a : Nat} {Q : Unit → Shared → Prop}
    (e : s.heap.get? l = some { cls := .type "list", data := .seq its.toArray n }) (hs : s.heap.IsSliceOf sl vl .none .none) (pl : IsPart vl (some (a : Int))) (hac : a ≤ its.length)
    (hsz : its.length ≤ sizeLine) (h : ∀ f : Array Value → Array Value, f its.toArray = (its.take a).toArray → Q () { s with heap := s.heap.update l (Obj.mapSeq f) }) :
    wpAny (model prog w) A (delItem (.ref l) (.ref sl)) Q E s := by
  have hl : s.heap.IsList l its.toArray := PySem.IsL.isList e
  obtain ⟨os, hos, hcs, hds⟩ := id hs
  have hTs : s.TypeIs (.ref sl) "slice" := ⟨os, hos, hcs⟩
  have hstep : ¬ ((rawPart none == rawInt 0) = true) := Bool.false_ne_true
  unfold delItem
  try with_reducible refine wpAny_holding ?_
  refine wpAny_bind (wpAny_sequenceKey hl.typeIs (by decide) ?_)
  refine wpAny_bind (wpAny_callSpecial?_slot (name := Str.ofString "__delitem__") hl.typeIs F.slot_list_delitem
    (wpAny_call_entry F.slot_list_delitem hl.typeIs F.entry_list_delitem ?_ (F.args_list_delitem_2 _ _)))
  show wpAny _ _ (Builtin.List.listSubscript? (.ref sl) >>= _) _ _ s
  refine wpAny_bind ?_
  unfold Builtin.List.listSubscript?
  refine wpAny_bind (wpAny_specialOf hTs slice_no_index ?_)
  simp only [Option.isNone_none, if_true]
  refine wpAny_pure ?_
  show wpAny _ _ (typeOf (.ref sl) >>= _) _ _ s
  refine wpAny_bind (wpAny_typeOf hTs ?_)
  first
    | rw [if_neg (by decide)]
    | refine PySem.W.KFB.if_not (by decide) ?_
  rw [listSliceParts_eq]
  refine wpAny_bind (wpAny_bind (wpAny_field hos hds (x := .none) rfl (wpAny_bind (wpAny_listPart .none ?_))))
  rw [if_neg hstep]
  refine wpAny_bind (wpAny_field hos hds (x := vl) rfl (wpAny_bind (wpAny_listPart pl ?_)))
  refine wpAny_bind (wpAny_field hos hds (x := .none) rfl (wpAny_bind (wpAny_listPart .none (wpAny_pure ?_))))
  unfold Builtin.List.listItems
  refine wpAny_bind (wpAny_bind (wpAny_seqItems e rfl (wpAny_pure ?_)))
  have hb : sliceBounds (some (a : Int)) none none its.toArray.size = ((a : Int), (its.length : Int), 1) := by
    simp only [sliceBounds, Option.getD_none, List.size_toArray]
    have h1 : ¬ ((a : Int) < 0) := by omega
    simp only [h1, if_false, show (1 : Int) > 0 by decide, if_true]
    congr 1
    omega
  refine wpAny_bind (wpAny_of_eq ((sliceIndices_raw (some (a : Int)) none none its.toArray.size (by simp)).trans (congrArg (pure : Int × Int × Int → Sem (Int × Int × Int)) hb)) ?_)
  refine wpAny_bind (wpAny_rule ?_)
  have hF : (fun xs : Array Value => (List.filterMap (fun x : Value × Nat => if selT (a : Int) (its.length : Int) 1 x.2 = true then none else some x.1) xs.toList.zipIdx).toArray) its.toArray = (its.take a).toArray := by
    have q := filt_tail a its 0 its.length (by omega)
    rw [Nat.sub_zero] at q
    show (List.filterMap _ its.zipIdx).toArray = _
    rw [q]
  show wpAny _ _ (updateSeq l (fun xs : Array Value => (List.filterMap (fun x : Value × Nat => if selT (a : Int) (its.length : Int) 1 x.2 = true then none else some x.1) xs.toList.zipIdx).toArray) >>= _) _ _ s
  have hZ : (its.take a).toArray.size ≤ sizeLine + 1 := by rw [List.size_toArray, List.length_take]; omega
  rw [← hF] at hZ
  refine wpAny_bind (wpAny_updateSeq e rfl ?_ (by rw [List.size_toArray]; exact hsz) hZ)
  refine wpAny_bind (wpAny_letGo ?_)
  have q := h (fun xs : Array Value => (List.filterMap (fun x : Value × Nat => if selT (a : Int) (its.length : Int) 1 x.2 = true then none else some x.1) xs.toList.zipIdx).toArray) hF
  first
    | exact wpAny_pure ⟨.none, rfl, wpAny_pure q⟩
    | exact wpAny_bind (wpAny_pure (wpAny_pure ⟨.none, rfl, wpAny_pure q⟩))
end
section
variable {g : GC} {al al' al0 als : Al} {H H' H0 Hs : Hp} {S S' : Sto} {r r' : Rho} {σ σ' : L2.St} {W : WX} {X : Cx} {Φ : Phi}
variable {a b c tg e o : Expr} {m ma mb mc : Rho → Sto → Out D} {pos p p2 p3 apos cpos tpos spos : Pos}
/-- del xs[e:] of a list of the store -/
theorem ts_cdels (hc : PE X c (TR g W (RV g) mc)) (ha : PE X a (TR g W (RV g) ma)) : PS X (.Delete [.Subscript c (.Slice (some a) none none p2) tpos] pos) (TSt g W fun r S => (mc r S).st r fun x S => match x with
      | .obj j => (ma r S).st r fun y S => (match S[j]?, y with
        | some (.ol xs), .int i => if 0 ≤ i ∧ i ≤ xs.length then .nx r (S.set j (.ol (xs.take i.toNat))) else .bad
        | _, _ => .bad)
      | _ => .bad) := by
  refine ⟨fun pins s σ H Dn I h => ?_⟩
  obtain ⟨H0, al0, al, r, S, rs, h⟩ := h
  refine wpAny_Delete (wpAny_deleteEach_cons (wpAny_delete_Subscript (thn (hc.run pins s σ H _ I ⟨H0, al0, al, r, S, rs, PstS.st (R1 := RV g H) rs h⟩) ?_)))
  rintro u s1 ⟨vx, H1, I1, rx, al1, x, S1, rs1, k1, p1, b1, h⟩
  cases x <;> try exact h.elim
  rename_i j
  dsimp only at h
  cases b1 with
  | @obj _ q dq ea =>
  obtain rfl : u = Value.ref q := rx
  refine wpAny_Slice (thn ((po_some ha).run pins s1 σ H1 (fun lo H2 => ∃ i : Int, lo = some i ∧ ∃ al2 S2, RS g H0 al0 r S2 al2 σ H2 ∧ Ext al1 H1 al2 ∧ PstS g W H0 al0 (match S2[j]?, D.int i with
        | some (.ol xs), .int i => if 0 ≤ i ∧ i ≤ xs.length then .nx r (S2.set j (.ol (xs.take i.toNat))) else .bad
        | _, _ => .bad) Dn) I1 ?_) fun vl s2 ⟨l, H2, I2, pl, q2⟩ => ?_)
  · refine ⟨H0, al0, al1, r, S1, rs1, (PstS.st (R1 := RV g H1) rs1 h).imp ?_⟩
    rintro vy H2 ⟨al2, y, S2, rs2, k2, p2, b2, h⟩
    have hy : ∃ i, y = .int i := by
      cases y with
      | int i => exact ⟨i, rfl⟩
      | _ =>
        exfalso
        revert h
        cases S2[j]? with
        | none => exact id
        | some o => cases o <;> exact id
    obtain ⟨i, rfl⟩ := hy
    cases b2
    exact ⟨i, rfl, i, rfl, al2, S2, rs2, p2, h⟩
  · obtain ⟨i, rfl, al2, S2, rs2, p2', h⟩ := q2
    refine wpAny_evalPart_none (wpAny_evalPart_none ?_)
    have I3 : Inv X pins σ H2 { s2 with heap := s2.heap.push { cls := .type "slice", data := .fields #[vl, .none, .none] } } := I2.kept (t' := s2.toks) fun b ob q => Heap.get?_push_of_some _ q
    split at h
    · rename_i xs i' es ei
      cases ei
      split at h
      · rename_i hi
        obtain ⟨vs, y, l⟩ := rs2.sto.at_ _ _ _ _ (pre_get p2'.p ea) es
        obtain ⟨z, its, n, rv, hl, el⟩ := I3.lstM y
        obtain ⟨n', rfl⟩ := Int.eq_ofNat_of_zero_le hi.1
        have hle : n' ≤ xs.length := by have := hi.2; omega
        have h1 := l.length
        have h2 := rv.length
        refine delItem_tail (its := its) (a := n') el (Heap.IsSliceOf.new ..) pl (by omega) (by omega) fun f ef => wpAny_deleteEach_nil ?_
        refine ⟨σ, _, I3.lset (its' := its.take n') (t' := s2.toks) y el ef (rv.take n') ?_, h _ _ al2 (rs2.cellL (pre_get p2'.p ea) y (l.take n'))⟩
        rw [List.length_take]; omega
      · exact h.elim
    · exact h.elim
end
end Pi

/-! Pi9: from a def's text to the reckoning, and that it is sound: expressions. -/
namespace Pi
open PySem L2 PySem.Spec PyProof.Rows

/-- the module's names -/
structure Tab where
  fns : List (Str × Nat)
  cls : List (Str × Nat)
  exs : List (Str × Nat)
  blt : List Str
  con : List (Str × D)
  ats : List Str
  tbs : List (Str × Nat)
  mets : List Str
  cel : List (Nat × Nat)
/-- a def's names -/
structure CI where
  tab : Tab
  N : List Str
  sc : List (Str × NameKind)
  cells : List Str
structure TabOk (g : GC) (Φ : Phi) (X : Cx) (k : Nat) (tab : Tab) : Prop where
  fn : ∀ x i, tab.fns.lookup x = some i → X.mg x = some (.ref (g.fa i)) ∧ i < Φ.n
  F : ∀ i, i < Φ.n → FnI g Φ X.prog X.w X.K X.mg X.base k i
  cl : ∀ x c, tab.cls.lookup x = some c → ClI g Φ X x c k
  ex : ∀ x c, tab.exs.lookup x = some c → ExI g X x c
  bl : ∀ x, x ∈ tab.blt → X.mg x = none
  co : ∀ x d, tab.con.lookup x = some d → ∃ v u, X.mg x = some u ∧ RelV v u ∧ ∀ al H, Dt g al H v d
  at_ : ∀ f, f ∈ tab.ats → AtI g f
  room : Room (k + 1) X.A
  gd : X.A.guards = some []
  sm : Smx X
  tb : ∀ x t, tab.tbs.lookup x = some t → TblI g Φ X x t
  met : MetI g Φ X.K
structure CIok (ci : CI) (X : Cx) : Prop where
  N : X.N = ci.N
  sc : X.env.scope.names = ci.sc
  kd : X.env.scope.kind = .function
  fn : ∀ x, x ∈ ci.cells → X.fn x = true

def place (x : Str) : List Str → Option Nat
  | [] => none
  | y :: r => if y = x then some 0 else (place x r).map (· + 1)
theorem place_at {x : Str} : ∀ {N : List Str} {i : Nat}, place x N = some i → N[i]? = some x
  | [], _, h => by cases h
  | y :: r, i, h => by
    unfold place at h
    split at h
    · rename_i e
      cases h
      simp [e]
    · rw [Option.map_eq_some_iff] at h
      obtain ⟨j, h, rfl⟩ := h
      simpa using place_at h
def CI.vis (ci : CI) (x : Str) : Bool := match ci.sc.lookup x with
  | some .local => true
  | some .cell => true
  | some .free => true
  | _ => false
def CI.loc (ci : CI) (x : Str) : Bool := match ci.sc.lookup x with
  | some .local => true
  | some .cell => decide (x ∈ ci.cells)
  | _ => false
def CI.gl (ci : CI) (x : Str) : Bool := decide (ci.sc.lookup x = some .globalImplicit)
def fine (x : Str) : Bool := !(x == ("__debug__" : Str)) && !(x == ("__classdict__" : Str)) && !decide (x = ("__name__" : Str))
/-- a name that is read -/
def CI.nv (ci : CI) (x : Str) : Option Nat := if ci.vis x = true ∧ fine x = true then place x ci.N else none
def CI.nm (ci : CI) (x : Str) : Option Nat := if ci.loc x = true then place x ci.N else none
def CI.blt (ci : CI) (x : Str) : Bool := ci.gl x && decide (x ∈ ci.tab.blt) && fine x
section
variable {g : GC} {Φ : Phi} {X : Cx} {ci : CI} {W : WX} {k : Nat}
theorem fine_ok {x : Str} (h : fine x = true) : (x == ("__debug__" : Str)) = false ∧ (x == ("__classdict__" : Str)) = false ∧ x ≠ "__name__" := by
  simp only [fine, Bool.and_eq_true, Bool.not_eq_true', decide_eq_false_iff_not] at h
  exact ⟨h.1.1, h.1.2, h.2⟩
theorem CIok.nv {x : Str} {i : Nat} (O : CIok ci X) (h : ci.nv x = some i) : Nv X i x := by
  unfold CI.nv at h
  split at h
  · rename_i hh
    obtain ⟨h1, h2⟩ := hh
    obtain ⟨d1, d2, _⟩ := fine_ok h2
    refine ⟨by rw [O.N]; exact place_at h, ?_, d1, d2⟩
    unfold CI.vis at h1
    rw [← O.sc] at h1
    unfold Vis
    revert h1
    cases X.env.scope.names.lookup x with
    | none => intro h; cases h
    | some q => cases q <;> simp
  · cases h
theorem CIok.nm {x : Str} {i : Nat} (O : CIok ci X) (h : ci.nm x = some i) : Nm X i x := by
  unfold CI.nm at h
  split at h
  · rename_i h1
    have hp := place_at h
    unfold CI.loc at h1
    rw [← O.sc] at h1
    cases e : X.env.scope.names.lookup x with
    | none => rw [e] at h1; cases h1
    | some q =>
      rw [e] at h1
      cases q with
      | «local» => exact ⟨by rw [O.N]; exact hp, .inl e, .inr e⟩
      | cell => exact ⟨by rw [O.N]; exact hp, .inr e, .inl (O.fn x (by simpa using h1))⟩
      | _ => cases h1
  · cases h
theorem CIok.gl {x : Str} (O : CIok ci X) (h : ci.gl x = true) : Gl X x := by
  unfold CI.gl at h
  rw [← O.sc] at h
  show X.env.scope.names.lookup x = some .globalImplicit
  exact of_decide_eq_true h
theorem CIok.blt {x : Str} (O : CIok ci X) (T : TabOk g Φ X k ci.tab) (h : ci.blt x = true) : Gl X x ∧ X.mg x = none ∧ x ≠ "__name__" ∧ (x == ("__debug__" : Str)) = false := by
  simp only [CI.blt, Bool.and_eq_true, decide_eq_true_eq] at h
  obtain ⟨⟨h1, h2⟩, h3⟩ := h
  obtain ⟨d1, d2, d3⟩ := fine_ok h3
  exact ⟨O.gl h1, T.bl _ h2, d3, d1⟩

/-! ### what is promised of a piece -/
structure SE (g : GC) (Φ : Phi) (X : Cx) (W : WX) (e : Expr) (ir : E) : Prop where
  v : PE X e (TR g W (RV g) (ev Φ ir))
  f : ir.isNew = true → PE X e (TR g W (RF g) (ev Φ ir))
  b : PE X e (TR g W (RB g) fun r S => rd ir r S (ev Φ ir r S))
def E.isVar : E → Bool
  | .var _ => true
  | _ => false
theorem rd_no {ir : E} (h : ir.isVar = false) {r : Rho} {S : Sto} {o : Out D} : rd ir r S o = o := by cases ir <;> first | rfl | cases h
theorem SE.ofF {e : Expr} {ir : E} (h : PE X e (TR g W (RF g) (ev Φ ir))) (hv : ir.isVar = false) : SE g Φ X W e ir :=
  ⟨PE.FtoV h, fun _ => h, by
    have q := PE.FtoB h
    simpa only [rd_no hv] using q⟩
theorem SE.ofV {e : Expr} {ir : E} (h : PE X e (TR g W (RV g) (ev Φ ir))) (hn : ir.isNew = false) (hv : ir.isVar = false) : SE g Φ X W e ir :=
  ⟨h, fun z => (by rw [hn] at z; cases z), by
    have q := PE.toB h
    simpa only [rd_no hv] using q⟩
structure SLs (g : GC) (Φ : Phi) (X : Cx) (W : WX) (es : List Expr) (ir : EL) : Prop where
  a : PA X es (TAs g W (evL Φ ir))
  s : noStars es = true
def ST (g : GC) (Φ : Phi) (X : Cx) (W : WX) (e : Expr) (ir : T) : Prop := PT X e (TT' g W (evT Φ ir))
def SW (g : GC) (Φ : Phi) (X : Cx) (W : WX) (e : Expr) (ir : T) : Prop := PW X e (TT' g W (evT Φ ir))
structure SI (g : GC) (Φ : Phi) (X : Cx) (W : WX) (tg e : Expr) (ir : It) : Prop where
  i : PI X tg e (TIt X g W (evI Φ ir))
  s : noSet e = true
/-- the pieces' makers -/
structure Fam where
  cE : CI → Expr → Option E
  cT : CI → Expr → Option T
  cW : CI → Expr → Option T
  cL : CI → List Expr → Option EL
  cI : CI → Expr → Expr → Option It
structure Good (g : GC) (Φ : Phi) (k : Nat) (ci : CI) (X : Cx) (W : WX) : Prop where
  O : CIok ci X
  T : TabOk g Φ X k ci.tab
  G : XG g X
  L : Lets X W
structure Snd (g : GC) (Φ : Phi) (k : Nat) (F : Fam) : Prop where
  cE : ∀ {ci X W}, Good g Φ k ci X W → ∀ {e ir}, F.cE ci e = some ir → SE g Φ X W e ir
  cT : ∀ {ci X W}, Good g Φ k ci X W → ∀ {e ir}, F.cT ci e = some ir → ST g Φ X W e ir
  cW : ∀ {ci X W}, Good g Φ k ci X W → ∀ {e ir}, F.cW ci e = some ir → SW g Φ X W e ir
  cL : ∀ {ci X W}, Good g Φ k ci X W → ∀ {e ir}, F.cL ci e = some ir → SLs g Φ X W e ir
  cI : ∀ {ci X W}, Good g Φ k ci X W → ∀ {t e ir}, F.cI ci t e = some ir → SI g Φ X W t e ir
def fam0 : Fam := ⟨fun _ _ => none, fun _ _ => none, fun _ _ => none, fun _ _ => none, fun _ _ _ => none⟩
theorem snd0 : Snd g Φ k fam0 := ⟨fun _ _ _ h => (nomatch h), fun _ _ _ h => (nomatch h), fun _ _ _ h => (nomatch h), fun _ _ _ h => (nomatch h), fun _ _ _ _ h => (nomatch h)⟩

/-! ### names, constants -/
def cName (ci : CI) (x : Str) : Option E :=
  match ci.nv x with
  | some i => some (.var i)
  | none => if ci.gl x = true ∧ fine x = true then
      (match ci.tab.con.lookup x with
      | some (.int n) => some (.int n)
      | some (.str s) => some (.str s)
      | some _ => none
      | none => (ci.tab.fns.lookup x).map .fn)
    else none
variable {F : Fam} (Z : Good g Φ k ci X W) {ir : E} {pos p p2 : Pos} {e a b c : Expr} {x : Str}
include Z
theorem cName_ok (h : cName ci x = some ir) : SE g Φ X W (.Name x pos) ir := by
  unfold cName at h
  split at h
  · rename_i i e
    cases h
    have n := Z.O.nv e
    exact ⟨s_varV n.at_ n.vis n.d1 n.d2, fun z => (by cases z), s_varB n.at_ n.vis n.d1 n.d2 _⟩
  · split at h
    · rename_i hh
      obtain ⟨h1, h2⟩ := hh
      obtain ⟨d1, d2, d3⟩ := fine_ok h2
      split at h
      · rename_i n e
        cases h
        obtain ⟨v, u, e1, e2, e3⟩ := Z.T.co _ _ e
        exact .ofV (s_const (pe_glob (Z.O.gl h1) e1 e2 d1) e3) rfl rfl
      · rename_i n e
        cases h
        obtain ⟨v, u, e1, e2, e3⟩ := Z.T.co _ _ e
        exact .ofV (s_const (pe_glob (Z.O.gl h1) e1 e2 d1) e3) rfl rfl
      · cases h
      · rw [Option.map_eq_some_iff] at h
        obtain ⟨i, e, rfl⟩ := h
        exact .ofV (s_const (pe_glob (v := .ref (g.fa i)) (Z.O.gl h1) (Z.T.fn _ _ e).1 rfl d1) fun _ _ => .fn i) rfl rfl
    · cases h
omit Z
def cConst : Const → Option E
  | .int n => some (.int n)
  | .str x => some (.str x)
  | .bool b => some (.bl b)
  | .none => some .non
  | _ => none
theorem cConst_ok {v : Const} {j : Nat} (h : cConst v = some ir) : SE g Φ X W (.Constant v j pos) ir := by
  unfold cConst at h
  split at h <;> cases h
  · exact .ofV (s_const pe_int fun _ _ => .int _) rfl rfl
  · exact .ofV (s_const pe_str fun _ _ => .str _) rfl rfl
  · exact .ofV (s_const pe_bl fun _ _ => .bl _) rfl rfl
  · exact .ofV (s_const pe_non fun _ _ => .non) rfl rfl

/-! ### operators -/
def opI : Operator → Option O2
  | .Add => some .add
  | .Sub => some .sub
  | .Mult => some .mul
  | .FloorDiv => some .fdiv
  | .Mod => some .mod
  | _ => none
theorem opI_ok {o : Operator} {i : O2} (h : opI o = some i) : o = opOf i := by
  cases o <;> cases h <;> rfl
def cBin (F : Fam) (ci : CI) (a : Expr) (o : Operator) (b : Expr) : Option E :=
  match opI o, F.cE ci a, F.cE ci b with
  | some o, some x, some y => some (.bin o x y)
  | _, _, _ => none
include Z
theorem cBin_ok (H : Snd g Φ k F) {o : Operator} (h : cBin F ci a o b = some ir) : SE g Φ X W (.BinOp a o b pos) ir := by
  unfold cBin at h
  split at h
  · rename_i i x y e1 e2 e3
    cases h
    rw [opI_ok e1]
    have A := H.cE Z e2
    have B := H.cE Z e3
    have q := s_bin (pos := pos) Z.G i A.b B.b
    by_cases hi : i = .add
    · subst hi
      exact .ofF (by simp only [ev]; exact q) rfl
    · exact .ofV (by simpa only [ev] using PE.frz q) (by cases i <;> first | rfl | exact absurd rfl hi) rfl
  · cases h

omit Z
def cUn (F : Fam) (ci : CI) (o : UnaryOp) (a : Expr) : Option E :=
  match o, F.cE ci a with
  | .USub, some x => some (.neg x)
  | .Not, some x => some (.not x)
  | _, _ => none
include Z
theorem cUn_ok (H : Snd g Φ k F) {o : UnaryOp} (h : cUn F ci o a = some ir) : SE g Φ X W (.UnaryOp o a pos) ir := by
  unfold cUn at h
  split at h
  · rename_i x e1
    cases h
    exact .ofV (by simp only [ev]; exact s_neg (pos := pos) (H.cE Z e1).v) rfl rfl
  · rename_i x e1
    cases h
    exact .ofV (by simp only [ev]; exact s_not (pos := pos) Z.G (H.cE Z e1).b) rfl rfl
  · cases h
omit Z
def cmI : CmpOp → Option Cm
  | .Lt => some .lt
  | .LtE => some .le
  | .Gt => some .gt
  | .GtE => some .ge
  | .Eq => some .eq
  | .NotEq => some .ne
  | .In => some .inn
  | .NotIn => some .nin
  | _ => none
theorem cmI_ok {o : CmpOp} {i : Cm} (h : cmI o = some i) : o = cmOf i := by
  cases o <;> cases h <;> rfl
theorem marks_no {o : CmpOp} (h : noSet e = true) : behindInMarks o e = false := by
  cases e <;> first | rfl | (simp [noSet] at h; done)
def isNone : Expr → Bool
  | .Constant .none _ _ => true
  | _ => false
theorem isNone_ok (h : isNone e = true) : ∃ j p, e = .Constant .none j p := by
  unfold isNone at h
  split at h
  · exact ⟨_, _, rfl⟩
  · cases h
/-- the comparison's makings -/
def cCmp (F : Fam) (ci : CI) (a : Expr) (ops : List CmpOp) (bs : List Expr) : Option E :=
  match ops, bs with
  | [.Is], [b] => if isNone b = true then (F.cE ci a).map .isN else none
  | [.IsNot], [b] => if isNone b = true then (F.cE ci a).map .notN else none
  | [o], [b] => (match cmI o, F.cE ci a, F.cE ci b with
    | some i, some x, some y => if noSet b = true then some (.cmp i x y) else none
    | _, _, _ => none)
  | [o, p], [b, c] => (match cmI o, cmI p, F.cE ci a, F.cE ci b, F.cE ci c with
    | some i, some j, some x, some y, some z => if noSet c = true then some (.chain i j x y z) else none
    | _, _, _, _, _ => none)
  | _, _ => none
include Z
theorem cCmp_ok (H : Snd g Φ k F) {ops : List CmpOp} {bs : List Expr} (h : cCmp F ci a ops bs = some ir) : SE g Φ X W (.Compare a ops bs pos) ir := by
  unfold cCmp at h
  split at h
  · split at h
    · rename_i hn
      rw [Option.map_eq_some_iff] at h
      obtain ⟨x, e1, rfl⟩ := h
      obtain ⟨j, p, rfl⟩ := isNone_ok hn
      exact .ofV (by simp only [ev]; exact s_isN (pos := pos) (H.cE Z e1).b) rfl rfl
    · cases h
  · split at h
    · rename_i hn
      rw [Option.map_eq_some_iff] at h
      obtain ⟨x, e1, rfl⟩ := h
      obtain ⟨j, p, rfl⟩ := isNone_ok hn
      exact .ofV (by simp only [ev]; exact s_notN (pos := pos) (H.cE Z e1).b) rfl rfl
    · cases h
  · split at h
    · rename_i i x y e1 e2 e3
      split at h
      · rename_i hs
        cases h
        rw [cmI_ok e1]
        exact .ofV (by simp only [ev]; exact s_cmp (pos := pos) Z.G i (H.cE Z e2).b (H.cE Z e3).b (marks_no hs)) rfl rfl
      · cases h
    · cases h
  · split at h
    · rename_i i j x y z e1 e2 e3 e4 e5
      split at h
      · rename_i hs
        cases h
        rw [cmI_ok e1, cmI_ok e2]
        exact .ofV (by simp only [ev]; exact s_chain (pos := pos) Z.G i j (H.cE Z e3).b (H.cE Z e4).b (H.cE Z e5).b (by simpa only [lastMarks] using marks_no hs)) rfl rfl
      · cases h
    · cases h
  · cases h
omit Z
def cBool (F : Fam) (ci : CI) (o : BoolOp) (es : List Expr) (pos : Pos) : Option E :=
  match es with
  | [a] => (F.cE ci a).map fun x => .and (.bl true) x
  | a :: b :: r => (match o, F.cE ci a, F.cE ci (.BoolOp o (b :: r) pos) with
    | .And, some x, some y => some (.and x y)
    | .Or, some x, some y => some (.or x y)
    | _, _, _ => none)
  | [] => none
include Z
theorem cBool_ok (H : Snd g Φ k F) {o : BoolOp} {es : List Expr} (h : cBool F ci o es pos = some ir) : SE g Φ X W (.BoolOp o es pos) ir := by
  unfold cBool at h
  split at h
  · rw [Option.map_eq_some_iff] at h
    obtain ⟨x, e1, rfl⟩ := h
    exact .ofV (by simp only [ev]; exact s_one (H.cE Z e1).v) rfl rfl
  · split at h
    · rename_i x y e1 e2
      cases h
      exact .ofV (by simp only [ev]; exact s_and (pos := pos) Z.G (H.cE Z e1).v (H.cE Z e2).v) rfl rfl
    · rename_i x y e1 e2
      cases h
      exact .ofV (by simp only [ev]; exact s_or (pos := pos) Z.G (H.cE Z e1).v (H.cE Z e2).v) rfl rfl
    · cases h
  · cases h
omit Z
def cIf (F : Fam) (ci : CI) (c a b : Expr) : Option E :=
  match F.cT ci c, F.cE ci a, F.cE ci b with
  | some t, some x, some y => some (.ite t x y)
  | _, _, _ => none
include Z
theorem cIf_ok (H : Snd g Φ k F) (h : cIf F ci c a b = some ir) : SE g Φ X W (.IfExp c a b pos) ir := by
  unfold cIf at h
  split at h
  · rename_i t x y e1 e2 e3
    cases h
    exact .ofV (by simp only [ev]; exact s_ite (pos := pos) (H.cT Z e1) (H.cE Z e2).v (H.cE Z e3).v) rfl rfl
  · cases h
theorem cTup_ok (H : Snd g Φ k F) {es : List Expr} {el : EL} {j : Nat} (h : F.cL ci es = some el) : SE g Φ X W (.Tuple es j pos) (.tup el) :=
  .ofV (by simp only [ev]; exact s_tup (pos := pos) (H.cL Z h).a) rfl rfl
theorem cLst_ok (H : Snd g Φ k F) {es : List Expr} {el : EL} (h : F.cL ci es = some el) : SE g Φ X W (.List es pos) (.lst el) :=
  .ofF (by simp only [ev]; exact s_lst (pos := pos) (H.cL Z h).a) rfl
/-! ### argument lists -/
omit Z
def cLs (F : Fam) (ci : CI) (es : List Expr) : Option EL :=
  match es with
  | [] => some .nil
  | a :: r => (match F.cE ci a, F.cL ci r with
    | some x, some l => if noStar a = true then some (.cons x l) else none
    | _, _ => none)
include Z
theorem cLs_ok (H : Snd g Φ k F) {es : List Expr} {el : EL} (h : cLs F ci es = some el) : SLs g Φ X W es el := by
  unfold cLs at h
  split at h
  · cases h
    exact ⟨by simpa only [evL] using a_nil, rfl⟩
  · split at h
    · rename_i x l e1 e2
      split at h
      · rename_i hs
        cases h
        have q := H.cL Z e2
        exact ⟨by simpa only [evL] using a_cons (H.cE Z e1).v q.a hs, by simp only [noStars, hs, q.s, Bool.and_self]⟩
      · cases h
    · cases h
/-! ### items, parts, attributes -/
omit Z
def cPart (F : Fam) (ci : CI) : Option Expr → Option E
  | none => some .non
  | some a => (match F.cE ci a with
    | some .non => none
    | o => o)
include Z
theorem cPart_ok (H : Snd g Φ k F) {o : Option Expr} (h : cPart F ci o = some ir) : PO X o (TOp g W fun r S => partO ir S (ev Φ ir r S)) := by
  unfold cPart at h
  split at h
  · cases h
    exact o_none
  · split at h
    · cases h
    · rename_i a hn
      have q := o_some (H.cE Z h).v
      have e2 : (fun r S => partO ir S (ev Φ ir r S)) = fun (r : Rho) (S : Sto) => intO (ev Φ ir r S) := by
        funext r S
        cases ir <;> first | rfl | exact absurd h hn
      rw [e2]
      exact q
omit Z
/-- an item of a table of the module -/
def cTbl (F : Fam) (ci : CI) (a i : Expr) : Option E :=
  match a with
  | .Name x _ => (match ci.nv x, ci.tab.tbs.lookup x, F.cE ci i with
    | none, some t, some y => if ci.gl x = true ∧ fine x = true ∧ plainIx i = true then some (.tsub t y) else none
    | _, _, _ => none)
  | _ => none
include Z
theorem cTbl_ok (H : Snd g Φ k F) (h : cTbl F ci a b = some ir) : SE g Φ X W (.Subscript a b pos) ir := by
  unfold cTbl at h
  split at h
  · split at h
    · rename_i t y e1 e2 e3
      split at h
      · rename_i hh
        obtain ⟨h1, h2, h3⟩ := hh
        cases h
        exact .ofV (by simp only [ev]; exact s_tsub (pos := pos) (Z.T.tb _ _ e2) (Z.O.gl h1) (fine_ok h2).1 (H.cE Z e3).v h3) rfl rfl
      · cases h
    · cases h
  · cases h
omit Z
def cSub (F : Fam) (ci : CI) (a i : Expr) : Option E :=
  match i with
  | .Slice lo hi none _ => (match F.cE ci a, cPart F ci lo, cPart F ci hi with
    | some x, some l, some u => some (.slice x l u)
    | _, _, _ => none)
  | i => (match cTbl F ci a i with
    | some u => some u
    | none => (match F.cE ci a, F.cE ci i with
      | some x, some y => if plainIx i = true then some (.sub x y) else none
      | _, _ => none))
include Z
theorem cSub_ok (H : Snd g Φ k F) (h : cSub F ci a b = some ir) : SE g Φ X W (.Subscript a b pos) ir := by
  unfold cSub at h
  split at h
  · split at h
    · rename_i x l u e1 e2 e3
      cases h
      exact .ofF (by simp only [ev]; exact s_slice (pos := pos) Z.G (H.cE Z e1).b (cPart_ok Z H e2) (cPart_ok Z H e3)) rfl
    · cases h
  · split at h
    · rename_i u e0
      cases h
      exact cTbl_ok Z H e0
    split at h
    · rename_i x y e1 e2
      split at h
      · rename_i hs
        cases h
        exact .ofV (by simp only [ev]; exact s_sub (pos := pos) Z.G (H.cE Z e1).b (H.cE Z e2).v hs) rfl rfl
      · cases h
    · cases h
omit Z
/-- a receiver that isn't super() -/
def noBase : Expr → Bool
  | .Call _ _ _ _ => false
  | _ => true
theorem base_no {env : Env} {f : Str} {w : Sem Value} (h : noBase e = true) : attributeBase e f env w = w := by
  cases e <;> first | rfl | (simp [noBase] at h; done)
def cAttr (F : Fam) (ci : CI) (a : Expr) (f : Str) : Option E :=
  match F.cE ci a with
  | some x => if noBase a = true ∧ f ∈ ci.tab.ats then some (.attr x f) else none
  | none => none
include Z
theorem cAttr_ok (H : Snd g Φ k F) {f : Str} (h : cAttr F ci a f = some ir) : SE g Φ X W (.Attribute a f pos) ir := by
  unfold cAttr at h
  split at h
  · rename_i x e1
    split at h
    · rename_i hh
      cases h
      exact .ofV (by simp only [ev]; exact s_attr (pos := pos) Z.G (Z.T.at_ f hh.2) (H.cE Z e1).v (base_no hh.1)) rfl rfl
    · cases h
  · cases h
end
end Pi

/-! Pi9b: calls. -/
namespace Pi
open PySem L2 PySem.Spec PyProof.Rows
section
variable {g : GC} {Φ : Phi} {X : Cx} {ci : CI} {W : WX} {k : Nat}
variable {F : Fam} (Z : Good g Φ k ci X W) {ir : E} {pos p p2 cpos apos : Pos} {e a b c : Expr} {x y : Str} {es args : List Expr}

/-! ### built-ins -/
def biN : Bi → Str
  | .len => "len" | .int => "int" | .list => "list" | .dict => "dict" | .repr => "repr" | .abs => "abs" | .all => "all" | .sum => "sum" | .max => "max"
def biOf (x : Str) : Option Bi := [Bi.len, .int, .list, .dict, .repr, .abs, .all, .sum, .max].find? fun o => decide (biN o = x)
theorem biOf_ok {o : Bi} (h : biOf x = some o) : x = biN o := by
  have := List.find?_some h
  exact (of_decide_eq_true this).symm
def tyOf (x : Str) : Option Ty := [Ty.int, .bool, .str, .list, .tuple, .dict].find? fun o => decide ((Str.ofString (tyN o)) = x)
theorem tyOf_ok {o : Ty} (h : tyOf x = some o) : x = Str.ofString (tyN o) := by
  have := List.find?_some h
  exact (of_decide_eq_true this).symm
def tysOf (ci : CI) : List Expr → Option (List Ty)
  | [] => some []
  | .Name y _ :: r => (match tyOf y, tysOf ci r with
    | some t, some ts => if ci.blt y = true then some (t :: ts) else none
    | _, _ => none)
  | _ :: _ => none
theorem boot_ty (t : Ty) : bootBuiltins (Str.ofString (tyN t)) = some (.type (tyN t)) := by cases t <;> rfl
include Z
theorem tysOf_ok : ∀ {es : List Expr} {ts : List Ty}, tysOf ci es = some ts → Paired (TyArg X) es ts
  | [], ts, h => by cases h; exact .nil
  | e :: r, ts, h => by
    unfold tysOf at h
    split at h
    · rename_i heq; cases heq
    · rename_i y p r' heq
      cases heq
      split at h
      · rename_i t ts' e1 e2
        split at h
        · rename_i hb
          cases h
          obtain ⟨h1, h2, h3, h4⟩ := Z.O.blt Z.T hb
          exact .cons ⟨⟨y, p, rfl, h1, h2, by rw [tyOf_ok e1]; exact boot_ty t, h3, h4⟩⟩ (tysOf_ok e2)
        · cases h
      · cases h
    · cases h
omit Z
def cBlt (F : Fam) (ci : CI) (x : Str) (args : List Expr) : Option E :=
  match args with
  | [a] => (match biOf x, F.cE ci a with
    | some o, some y => if noStar a = true then some (.bi o y) else none
    | _, _ => none)
  | [a, b] => if x = "isinstance" then (match F.cE ci a, b with
      | some u, .Name y _ => (match tyOf y with
        | some t => if ci.blt y = true ∧ noStar a = true then some (.isi u [t]) else none
        | none => none)
      | some u, .Tuple es _ _ => (match tysOf ci es with
        | some ts => if noStar a = true ∧ ts.length ≤ 100 then some (.isi u ts) else none
        | none => none)
      | _, _ => none)
    else (match F.cE ci a, F.cE ci b with
      | some u, some v => if noStar a = true ∧ noStar b = true then (if x = "max" then some (.b2 .max u v) else if x = "min" then some (.b2 .min u v) else none) else none
      | _, _ => none)
  | _ => none
include Z
theorem bi_call (H : Snd g Φ k F) {o : Bi} {u : E} (hb : ci.blt x = true) (hx : x = biN o) (ha : F.cE ci a = some u) (hs : noStar a = true) : SE g Φ X W (.Call (.Name x p) [a] [] pos) (.bi o u) := by
  obtain ⟨h1, h2, h3, h4⟩ := Z.O.blt Z.T hb
  subst hx
  have A := (H.cE Z ha).b
  have main : PE X (.Call (.Name (biN o) p) [a] [] pos) (TR g W (RF g) (ev Φ (.bi o u))) := by
    simp only [ev]
    cases o with
    | len => exact s_bi1 (call_lenQ Z.G) h1 h2 rfl h3 h4 A hs
    | int => exact s_ty1 call_intQ h1 h2 rfl h3 h4 A hs
    | list => exact s_ty1 (call_listQ Z.G) h1 h2 rfl h3 h4 A hs
    | dict => exact s_ty1 call_dictQ h1 h2 rfl h3 h4 A hs
    | repr => exact s_bi1 (call_reprQ Z.G Z.T.gd Z.T.sm) h1 h2 rfl h3 h4 A hs
    | abs => exact s_bi1 call_absQ h1 h2 rfl h3 h4 A hs
    | all => exact s_bi1 (call_allQ Z.G) h1 h2 rfl h3 h4 A hs
    | sum => exact s_bi1 (call_sumQ Z.G) h1 h2 rfl h3 h4 A hs
    | max => exact s_bi1 (call_maxQ Z.G) h1 h2 rfl h3 h4 A hs
  by_cases hn : (E.bi o u).isNew = true
  · exact .ofF main rfl
  · exact .ofV (PE.frz main) (by simpa using hn) rfl
theorem cBlt_ok (H : Snd g Φ k F) (hb : ci.blt x = true) (h : cBlt F ci x args = some ir) : SE g Φ X W (.Call (.Name x p) args [] pos) ir := by
  obtain ⟨h1, h2, h3, h4⟩ := Z.O.blt Z.T hb
  unfold cBlt at h
  split at h
  · split at h
    · rename_i o y e2 e3
      split at h
      · rename_i hs
        cases h
        exact bi_call Z H hb (biOf_ok e2) e3 hs
      · cases h
    · cases h
  · split at h
    · rename_i hx
      subst hx
      split at h
      · rename_i u y q e1
        split at h
        · rename_i t e2
          split at h
          · rename_i hh
            cases h
            obtain ⟨g1, g2, g3, g4⟩ := Z.O.blt Z.T hh.1
            exact .ofV (by simp only [ev]; exact s_is1 Z.G t h1 h2 rfl h3 h4 g1 g2 (by rw [tyOf_ok e2]; exact boot_ty t) g3 g4 (H.cE Z e1).b hh.2) rfl rfl
          · cases h
        · cases h
      · rename_i u es' j q e1
        split at h
        · rename_i ts e2
          split at h
          · rename_i hh
            cases h
            exact .ofV (by simp only [ev]; exact s_isTs Z.G h1 h2 rfl h3 h4 (tysOf_ok Z e2) (Nat.le_trans hh.2 (by decide)) (H.cE Z e1).b hh.1) rfl rfl
          · cases h
        · cases h
      · cases h
    · split at h
      · rename_i u v e1 e2
        split at h
        · rename_i hs
          split at h
          · rename_i hx
            subst hx
            cases h
            exact .ofV (by simp only [ev]; exact s_b2 Z.G .max h1 h2 rfl h3 h4 (H.cE Z e1).v (H.cE Z e2).v hs.1 hs.2) rfl rfl
          · split at h
            · rename_i hx
              subst hx
              cases h
              exact .ofV (by simp only [ev]; exact s_b2 Z.G .min h1 h2 rfl h3 h4 (H.cE Z e1).v (H.cE Z e2).v hs.1 hs.2) rfl rfl
            · cases h
        · cases h
      · cases h
  · cases h
/-! ### defs, classes -/
omit Z
/-- list(o.values()) -/
def cLv (F : Fam) (ci : CI) (x : Str) (args : List Expr) : Option E :=
  match args with
  | [.Call (.Attribute o m apos) [] [] cpos] => if x = "list" ∧ m = "values" ∧ noBase o = true ∧ (apos.endLine == cpos.line) = true then (F.cE ci o).map .lvals else none
  | _ => none
include Z
theorem cLv_ok (H : Snd g Φ k F) (hb : ci.blt x = true) (h : cLv F ci x args = some ir) : SE g Φ X W (.Call (.Name x p) args [] pos) ir := by
  obtain ⟨h1, h2, h3, h4⟩ := Z.O.blt Z.T hb
  unfold cLv at h
  split at h
  · split at h
    · rename_i hh
      obtain ⟨rfl, rfl, h5, h6⟩ := hh
      rw [Option.map_eq_some_iff] at h
      obtain ⟨u, e1, rfl⟩ := h
      exact .ofF (by simp only [ev]; exact s_lvals Z.G (H.cE Z e1).b h1 h2 (base_no h5) h6) rfl
    · cases h
  · cases h
omit Z
def cCallN (F : Fam) (ci : CI) (x : Str) (args : List Expr) : Option E :=
  match ci.nv x with
  | some i => (match args, F.cL ci args with
    | _ :: _, some el => some (.callv i el)
    | _, _ => none)
  | none => if ci.gl x = true ∧ fine x = true then
      (match ci.tab.fns.lookup x with
      | some i => (match args with
        | [] => some (.call i .nil)
        | _ :: _ => (F.cL ci args).map (.call i))
      | none => (match ci.tab.cls.lookup x with
        | some c => (match args, F.cL ci args with
          | _ :: _, some el => some (.new c el)
          | _, _ => none)
        | none => if ci.blt x = true then (match cLv F ci x args with
          | some e => some e
          | none => cBlt F ci x args) else none))
    else none
include Z
theorem cCallN_ok (H : Snd g Φ k F) (h : cCallN F ci x args = some ir) : SE g Φ X W (.Call (.Name x p) args [] pos) ir := by
  unfold cCallN at h
  have room := Z.T.room
  split at h
  · rename_i i en
    have n := Z.O.nv en
    split at h
    · rename_i e0 r el e1
      cases h
      have q := H.cL Z e1
      exact .ofV (by simp only [ev]; exact s_callv Z.T.F Z.T.gd (room.mono (Nat.le_succ k)) n.at_ n.vis Z.L q.a q.s n.d1 n.d2) rfl rfl
    · cases h
  · split at h
    · rename_i hh
      obtain ⟨hg, hf⟩ := hh
      obtain ⟨d1, d2, d3⟩ := fine_ok hf
      split at h
      · rename_i i e1
        obtain ⟨m1, m2⟩ := Z.T.fn _ _ e1
        have rm := room.mono (Nat.le_succ k)
        split at h
        · cases h
          exact .ofV (by simp only [ev, evL]; exact s_call0 (Z.T.F i m2) Z.T.gd rm (Z.O.gl hg) m1 Z.L d1) rfl rfl
        · rw [Option.map_eq_some_iff] at h
          obtain ⟨el, e2, rfl⟩ := h
          have q := H.cL Z e2
          exact .ofV (by simp only [ev]; exact s_call (Z.T.F i m2) Z.T.gd rm (Z.O.gl hg) m1 Z.L q.a q.s d1) rfl rfl
      · split at h
        · rename_i c e1
          split at h
          · rename_i e0 r el e2
            cases h
            have q := H.cL Z e2
            exact .ofV (by simp only [ev]; exact s_new (Z.T.cl _ _ e1) Z.T.gd room (Z.O.gl hg) q.a q.s d1) rfl rfl
          · cases h
        · split at h
          · rename_i hb
            split at h
            · rename_i e e2
              cases h
              exact cLv_ok Z H hb e2
            · exact cBlt_ok Z H hb h
          · cases h
    · cases h
end
end Pi

/-! Pi9c: methods, displays, comprehensions, what is walked, tests. -/
namespace Pi
open PySem L2 PySem.Spec PyProof.Rows
section
variable {g : GC} {Φ : Phi} {X : Cx} {ci : CI} {W : WX} {k : Nat}
variable {F : Fam} (Z : Good g Φ k ci X W) {ir : E} {pos p p2 cpos apos : Pos} {e a b c : Expr} {x y : Str} {es args : List Expr}

/-! ### methods -/
theorem few1 {env : Env} (hs : noStar a = true) : ((backTo cpos (starEach [a] env)).all (fun x => !x.1) && (backToKw cpos (keywordEach [] env)).all (fun x => x.1.isSome)
      && decide (([a] : List Expr).length + ([] : List Keyword).length + (if ([] : List Keyword).isEmpty then 0 else 1) < 30)) = true := by
  rw [star_ok hs]
  rfl
theorem few2 {env : Env} (hs : noStar a = true) (hs' : noStar b = true) : ((backTo cpos (starEach [a, b] env)).all (fun x => !x.1) && (backToKw cpos (keywordEach [] env)).all (fun x => x.1.isSome)
      && decide (([a, b] : List Expr).length + ([] : List Keyword).length + (if ([] : List Keyword).isEmpty then 0 else 1) < 30)) = true := by
  rw [star_ok hs, star_ok hs']
  rfl
theorem m1_of {o : Expr} {m : Str} (ho : noBase o = true) (hs : noStar a = true) (hl : (apos.endLine == cpos.line) = true) : M1 X o m apos a cpos :=
  ⟨base_no ho, few1 hs, hl, by rw [star_ok hs]; rfl⟩
theorem m2_of {o : Expr} {m : Str} (ho : noBase o = true) (hs : noStar a = true) (hs' : noStar b = true) (hl : (apos.endLine == cpos.line) = true) : M2 X o m apos a b cpos :=
  ⟨base_no ho, few2 hs hs', hl, by rw [star_ok hs, star_ok hs']; rfl⟩
theorem mb_of {o : Expr} {m : Str} (ho : noBase o = true) (hs : noStar a = true) (hl : (apos.endLine == cpos.line) = true) : MB X o m apos cpos a :=
  ⟨base_no ho, few1 hs, hl⟩
def strOf : Expr → Option Str
  | .Constant (.str x) _ _ => some x
  | _ => none
theorem strOf_ok (h : strOf e = some x) : ∃ j p, e = .Constant (.str x) j p := by
  unfold strOf at h
  split at h
  · cases h; exact ⟨_, _, rfl⟩
  · cases h
/-- a method of a class of the program's; the last one taken from a list of the store -/
def cMeth (F : Fam) (ci : CI) (o : Expr) (m : Str) (apos : Pos) (args : List Expr) (cpos : Pos) : Option E :=
  if recv o = true ∧ (apos.endLine == cpos.line) = true then
    (if m ∈ ci.tab.mets then (match F.cE ci o, args with
      | some u, [] => some (.meth m u .nil)
      | some u, _ :: _ => if args.length < 30 then (F.cL ci args).map (.meth m u) else none
      | none, _ => none)
    else if m = "pop" ∧ args.isEmpty = true then (F.cE ci o).map .cpop else none)
  else none
include Z
theorem cMeth_ok (H : Snd g Φ k F) {o : Expr} {m : Str} (h : cMeth F ci o m apos args cpos = some ir) : SE g Φ X W (.Call (.Attribute o m apos) args [] cpos) ir := by
  have room := Z.T.room
  unfold cMeth at h
  split at h
  · rename_i hh
    obtain ⟨hr, hl⟩ := hh
    split at h
    · split at h
      · rename_i u e1
        cases h
        exact .ofV (by simp only [ev, evL]; exact s_meth0 Z.T.met Z.T.F Z.T.gd (room.mono (Nat.le_succ k)) Z.L (H.cE Z e1).v hr hl) rfl rfl
      · rename_i u a r e1
        split at h
        · rename_i hn
          rw [Option.map_eq_some_iff] at h
          obtain ⟨el, e2, rfl⟩ := h
          have q := H.cL Z e2
          exact .ofV (by simp only [ev]; exact s_meth Z.T.met Z.T.F Z.T.gd (room.mono (Nat.le_succ k)) Z.L (H.cE Z e1).v hr hn hl q.a q.s) rfl rfl
        · cases h
      · cases h
    · split at h
      · rename_i hh
        obtain ⟨rfl, ha⟩ := hh
        rw [Option.map_eq_some_iff] at h
        obtain ⟨u, e1, rfl⟩ := h
        cases args with
        | nil => exact .ofV (by simp only [ev]; exact s_cpop (H.cE Z e1).v (recv_base hr) hl) rfl rfl
        | cons => cases ha
      · cases h
  · cases h
omit Z
def cCallM (F : Fam) (ci : CI) (o : Expr) (m : Str) (apos : Pos) (args : List Expr) (cpos : Pos) : Option E :=
  match cMeth F ci o m apos args cpos with
  | some u => some u
  | none => if noBase o = true ∧ (apos.endLine == cpos.line) = true then
    (match args with
    | [a] => if noStar a = true then
        (if m = "join" then (match strOf o, F.cE ci a with
          | some x, some u => some (.join x u)
          | _, _ => none)
        else if m = "get" then (match F.cE ci o, F.cE ci a with
          | some u, some v => some (.get1 u v)
          | _, _ => none)
        else none) else none
    | [a, b] => if noStar a = true ∧ noStar b = true then
        (if m = "get" then (match F.cE ci o, F.cE ci a, F.cE ci b with
          | some u, some v, some w => some (.get2 u v w)
          | _, _, _ => none)
        else none) else none
    | _ => none)
  else none
include Z
theorem cCallM_ok (H : Snd g Φ k F) {o : Expr} {m : Str} (h : cCallM F ci o m apos args cpos = some ir) : SE g Φ X W (.Call (.Attribute o m apos) args [] cpos) ir := by
  unfold cCallM at h
  split at h
  · rename_i u e0
    cases h
    exact cMeth_ok Z H e0
  split at h
  · rename_i hh
    obtain ⟨ho, hl⟩ := hh
    split at h
    · split at h
      · rename_i hs
        split at h
        · rename_i hm
          subst hm
          split at h
          · rename_i z u e1 e2
            cases h
            obtain ⟨j, q, rfl⟩ := strOf_ok e1
            exact .ofV (by simp only [ev]; exact s_join Z.G (H.cE Z e2).b hs rfl (few1 hs) hl) rfl rfl
          · cases h
        · split at h
          · rename_i hm
            subst hm
            split at h
            · rename_i u v e1 e2
              cases h
              exact .ofV (by simp only [ev]; exact s_get1 Z.G (H.cE Z e1).b (H.cE Z e2).v (m1_of ho hs hl)) rfl rfl
            · cases h
          · cases h
      · cases h
    · split at h
      · rename_i hs
        split at h
        · rename_i hm
          subst hm
          split at h
          · rename_i u v w e1 e2 e3
            cases h
            exact .ofV (by simp only [ev]; exact s_get2 Z.G (H.cE Z e1).b (H.cE Z e2).v (H.cE Z e3).v (m2_of ho hs.1 hs.2 hl)) rfl rfl
          · cases h
        · cases h
      · cases h
    · cases h
  · cases h
omit Z
/-! ### displays of pairs -/
def cPairs (F : Fam) (ci : CI) : List (Option Expr) → List Expr → Option KL
  | [], [] => some .nil
  | some a :: ks, b :: vs => (match F.cE ci a, F.cE ci b, cPairs F ci ks vs with
    | some u, some v, some r => some (.cons u v r)
    | _, _, _ => none)
  | _, _ => none
def klM (Φ : Phi) : KL → List ((Rho → Sto → Out D) × (Rho → Sto → Out D))
  | .nil => []
  | .cons u v r => (ev Φ u, ev Φ v) :: klM Φ r
theorem klM_ok (Φ : Phi) : ∀ (l : KL) (r : Rho) (acc : List (Str × D)) (S : Sto), evD Φ l r acc S = dmD (klM Φ l) r acc S
  | .nil, r, acc, S => by simp only [evD, klM, dmD]
  | .cons u v l, r, acc, S => by
    simp only [evD, klM, dmD]
    congr 1
    funext y S
    congr 1
    funext z S
    cases y <;> first | rfl | exact klM_ok Φ l r _ S
include Z
theorem cPairs_ok (H : Snd g Φ k F) : ∀ {ks : List (Option Expr)} {vs : List Expr} {l : KL}, cPairs F ci ks vs = some l →
    PPs X pos ks vs ((klM Φ l).map fun m => (TR g W (RV g) m.1, TR g W (RV g) m.2)) ∧ ks.all (·.isSome) = true ∧ ks.length = vs.length ∧ (klM Φ l).length = ks.length
  | [], [], l, h => by
    cases h
    exact ⟨pps_nil, rfl, rfl, rfl⟩
  | some a :: ks, b :: vs, l, h => by
    unfold cPairs at h
    split at h
    · rename_i u v r e1 e2 e3
      cases h
      obtain ⟨q1, q2, q3, q4⟩ := cPairs_ok H e3
      exact ⟨pps_cons (H.cE Z e1).v (H.cE Z e2).v q1, by simpa using q2, by simpa using q3, by simpa [klM] using q4⟩
    · cases h
  | [], _ :: _, _, h => by cases h
  | none :: _, _, _, h => by cases h
  | some _ :: _, [], _, h => by cases h
omit Z
def cDict0 (F : Fam) (ci : CI) (ks : List (Option Expr)) (vs : List Expr) : Option E :=
  match cPairs F ci ks vs with
  | some l => if ks.length ≤ 15 then some (.dct l) else none
  | none => none
def cDict (F : Fam) (ci : CI) (ks : List (Option Expr)) (vs : List Expr) : Option E :=
  match ks, vs with
  | [none, none], [a, b] => (match F.cE ci a, F.cE ci b with
    | some u, some v => some (.mrg u v)
    | _, _ => none)
  | [none, some k], [a, b] => (match F.cE ci a, F.cE ci k, F.cE ci b with
    | some u, some w, some v => some (.mrg1 u w v)
    | _, _, _ => none)
  | ks, vs => cDict0 F ci ks vs
include Z
theorem cDict0_ok (H : Snd g Φ k F) {ks : List (Option Expr)} {vs : List Expr} (h : cDict0 F ci ks vs = some ir) : SE g Φ X W (.Dict ks vs pos) ir := by
  unfold cDict0 at h
  split at h
  · rename_i l e1
    split at h
    · rename_i hl
      cases h
      obtain ⟨q1, q2, q3, q4⟩ := cPairs_ok (pos := pos) Z H e1
      have e2 : ev Φ (.dct l) = fun r S => dmD (klM Φ l) r [] S := by
        funext r S
        simp only [ev]
        exact klM_ok Φ l r [] S
      refine .ofF ?_ rfl
      rw [e2]
      by_cases hn : ks = []
      · subst hn
        cases vs with
        | nil =>
          have : klM Φ l = [] := List.length_eq_zero_iff.mp q4
          rw [this]
          exact s_dct0
        | cons => simp at q3
      · exact s_dct q1 q2 q3 q4 hn hl
    · cases h
  · cases h
theorem cDict_ok (H : Snd g Φ k F) {ks : List (Option Expr)} {vs : List Expr} (h : cDict F ci ks vs = some ir) : SE g Φ X W (.Dict ks vs pos) ir := by
  unfold cDict at h
  split at h
  · split at h
    · rename_i u v e1 e2
      cases h
      exact .ofF (by simp only [ev]; exact s_mrg (H.cE Z e1).v (H.cE Z e2).v) rfl
    · cases h
  · split at h
    · rename_i u w v e1 e2 e3
      cases h
      exact .ofF (by simp only [ev]; exact s_mrg1 (H.cE Z e1).v (H.cE Z e2).v (H.cE Z e3).v) rfl
    · cases h
  · exact cDict0_ok Z H h
omit Z
/-! ### targets -/
def nmsOf (ci : CI) : List Expr → Option (List Nat)
  | [] => some []
  | .Name x _ :: r => (match ci.nm x, nmsOf ci r with
    | some i, some is => some (i :: is)
    | _, _ => none)
  | _ :: _ => none
def cTg (ci : CI) : Expr → Option Tg
  | .Name x _ => (ci.nm x).map .nm
  | .Tuple [.Name x _, .Tuple es _ _] _ _ => (match ci.nm x, nmsOf ci es with
    | some i, some is => some (.kv i is)
    | _, _ => none)
  | .Tuple es _ _ => (nmsOf ci es).map .tup
  | _ => none
theorem nmsOf_ok (O : CIok ci X) : ∀ {es : List Expr} {is : List Nat}, nmsOf ci es = some is → Paired (NmOk X) es is
  | [], is, h => by cases h; exact .nil
  | e :: r, is, h => by
    unfold nmsOf at h
    split at h
    · rename_i heq; cases heq
    · rename_i y p r' heq
      cases heq
      split at h
      · rename_i i is' e1 e2
        cases h
        have n := O.nm e1
        exact .cons ⟨⟨y, p, rfl, n.at_, n.loc, n.fn⟩⟩ (nmsOf_ok O e2)
      · cases h
    · cases h
theorem cTg_ok (O : CIok ci X) (G : XG g X) {t : Tg} (h : cTg ci e = some t) : PG X e (TGd g t) := by
  unfold cTg at h
  split at h
  · rw [Option.map_eq_some_iff] at h
    obtain ⟨i, h, rfl⟩ := h
    have n := O.nm h
    exact g_nm G n.at_ n.loc n.fn
  · split at h
    · rename_i i is e1 e2
      cases h
      have n := O.nm e1
      exact g_kv G n.at_ n.loc n.fn (nmsOf_ok O e2)
    · cases h
  · rw [Option.map_eq_some_iff] at h
    obtain ⟨is, h, rfl⟩ := h
    exact g_tup G (nmsOf_ok O h)
  · cases h
end
end Pi

/-! Pi9d: what is walked, comprehensions, tests, and the whole of expressions. -/
namespace Pi
open PySem L2 PySem.Spec PyProof.Rows
section
variable {g : GC} {Φ : Phi} {X : Cx} {ci : CI} {W : WX} {k : Nat}
variable {F : Fam} (Z : Good g Φ k ci X W) {ir : E} {pos p p2 cpos apos : Pos} {e a b c tg : Expr} {x y : Str} {es args : List Expr}

/-! ### what is walked -/
def isTup : Expr → Bool
  | .Tuple _ _ _ => true
  | _ => false
theorem isTup_ok (h : isTup e = true) : ∃ es j p, e = .Tuple es j p := by
  unfold isTup at h
  split at h
  · exact ⟨_, _, _, rfl⟩
  · cases h
/-- a walk over a built-in's or a method's outcome -/
def cIterN (F : Fam) (ci : CI) (tg : Expr) (x : Str) (args : List Expr) : Option It :=
  if ci.gl x = true ∧ x ∈ ci.tab.blt then
    (match args with
    | [a] => if noStar a = true then (match F.cE ci a with
        | some u => if x = "range" then some (.rng u) else if x = "reversed" then some (.rev u) else if x = "enumerate" ∧ isTup tg = true then some (.enum u) else none
        | none => none) else none
    | [a, b] => if noStar a = true ∧ noStar b = true then (match F.cE ci a, F.cE ci b with
        | some u, some v => if x = "range" then some (.rng2 u v) else if x = "zip" ∧ isTup tg = true then some (.zip u v) else none
        | _, _ => none) else none
    | _ => none)
  else none
def cIterM (F : Fam) (ci : CI) (tg : Expr) (o : Expr) (m : Str) (apos cpos : Pos) : Option It :=
  if noBase o = true ∧ (apos.endLine == cpos.line) = true then
    (match F.cE ci o with
    | some u => if m = "items" ∧ isTup tg = true then some (.items u) else if m = "values" then some (.vals u) else none
    | none => none)
  else none
def cIter (F : Fam) (ci : CI) (tg e : Expr) : Option It :=
  match (match e with
    | .Call (.Name x _) args [] _ => cIterN F ci tg x args
    | .Call (.Attribute o m apos) [] [] cpos => cIterM F ci tg o m apos cpos
    | _ => none) with
  | some i => some i
  | none => (match F.cE ci e with
    | some u => if noSet e = true then some (.over u) else none
    | none => none)
include Z
theorem cIterN_ok (H : Snd g Φ k F) {it : It} (h : cIterN F ci tg x args = some it) : SI g Φ X W tg (.Call (.Name x p) args [] pos) it := by
  unfold cIterN at h
  refine ⟨?_, rfl⟩
  split at h
  · rename_i hh
    have hg := Z.O.gl hh.1
    have hm := Z.T.bl _ hh.2
    split at h
    · split at h
      · rename_i hs
        split at h
        · rename_i u e1
          have A := (H.cE Z e1).v
          split at h
          · rename_i hx; subst hx; cases h
            simp only [evI]; exact i_rng hg hm A hs
          · split at h
            · rename_i hx; subst hx; cases h
              simp only [evI]; exact i_rev Z.G hg hm A hs
            · split at h
              · rename_i hx
                obtain ⟨rfl, ht⟩ := hx
                obtain ⟨es, j, q, rfl⟩ := isTup_ok ht
                cases h
                simp only [evI]; exact i_enum Z.G hg hm A hs
              · cases h
        · cases h
      · cases h
    · split at h
      · rename_i hs
        split at h
        · rename_i u v e1 e2
          have A := (H.cE Z e1).v
          have B := (H.cE Z e2).v
          split at h
          · rename_i hx; subst hx; cases h
            simp only [evI]; exact i_rng2 hg hm A B hs.1 hs.2
          · split at h
            · rename_i hx
              obtain ⟨rfl, ht⟩ := hx
              obtain ⟨es, j, q, rfl⟩ := isTup_ok ht
              cases h
              simp only [evI]; exact i_zip Z.G hg hm A B hs.1 hs.2
            · cases h
        · cases h
      · cases h
    · cases h
  · cases h
theorem cIterM_ok (H : Snd g Φ k F) {it : It} {o : Expr} {m : Str} (h : cIterM F ci tg o m apos cpos = some it) : SI g Φ X W tg (.Call (.Attribute o m apos) [] [] cpos) it := by
  unfold cIterM at h
  refine ⟨?_, rfl⟩
  split at h
  · rename_i hh
    split at h
    · rename_i u e1
      have A := (H.cE Z e1).v
      split at h
      · rename_i hx
        obtain ⟨rfl, ht⟩ := hx
        obtain ⟨es, j, q, rfl⟩ := isTup_ok ht
        cases h
        simp only [evI]; exact i_items A (base_no hh.1) hh.2
      · split at h
        · rename_i hx; subst hx; cases h
          simp only [evI]; exact i_vals A (base_no hh.1) hh.2
        · cases h
    · cases h
  · cases h
theorem cIter_ok (H : Snd g Φ k F) {it : It} (h : cIter F ci tg e = some it) : SI g Φ X W tg e it := by
  unfold cIter at h
  split at h
  · rename_i i e1
    cases h
    split at e1
    · exact cIterN_ok Z H e1
    · exact cIterM_ok Z H e1
    · cases e1
  · split at h
    · rename_i u e1
      split at h
      · rename_i hs
        cases h
        exact ⟨by simp only [evI]; exact i_over Z.G (H.cE Z e1).v, hs⟩
      · cases h
    · cases h
omit Z
/-! ### tests -/
/-- a test by its value -/
def plainT : Expr → Bool
  | .UnaryOp .Not _ _ => false
  | .BoolOp _ _ _ => false
  | .IfExp _ _ _ _ => false
  | .Compare _ _ _ _ => false
  | _ => true
theorem plainT_ok (h : plainT e = true) {env : Env} : ∀ whole, isTrue e env whole = (do let v ← whole; standAt e.pos; holding [v] (truthy v)) := by
  intro w
  cases e <;> first | rfl | (simp [plainT] at h; done) | skip
  rename_i o a p
  cases o <;> first | rfl | (simp [plainT] at h; done)
def cTest (F : Fam) (ci : CI) (e : Expr) : Option T :=
  match e with
  | .UnaryOp .Not a _ => (F.cT ci a).map .not
  | .BoolOp _ _ _ => F.cW ci e
  | .Compare a ops bs _ => (cCmp F ci a ops bs).map .e
  | e => if plainT e = true then (F.cE ci e).map .e else none
theorem lift_bl (o : Out Bool) : ((o.bnd fun k S => .ok (.bl k) S).bnd fun x S => lift (truD (der S x)) S) = o := by cases o <;> rfl
theorem out_cmp (o : Out D) (q : Sto → Out D) (f : Sto → D → D → Option Bool) :
    ((o.bnd fun u S => (q S).bnd fun v S => (lift (f S u v) S).bnd fun k S => .ok (.bl k) S).bnd fun x S => lift (truD (der S x)) S) = o.bnd fun u S => (q S).bnd fun v S => lift (f S u v) S := by
  rw [Out.bnd_assoc]
  congr 1
  funext u S
  rw [Out.bnd_assoc]
  congr 1
  funext v S
  exact lift_bl _
theorem out_chain (o : Out D) (q w : Sto → Out D) (f f' : Sto → D → D → Option Bool) :
    ((o.bnd fun u S => (q S).bnd fun v S => (lift (f S u v) S).bnd fun k S => if k = true then (w S).bnd fun z S => (lift (f' S v z) S).bnd fun k S => .ok (.bl k) S else .ok (.bl false) S).bnd fun x S => lift (truD (der S x)) S) =
      o.bnd fun u S => (q S).bnd fun v S => (lift (f S u v) S).bnd fun k S => if k = true then (w S).bnd fun z S => lift (f' S v z) S else .ok false S := by
  rw [Out.bnd_assoc]
  congr 1
  funext u S
  rw [Out.bnd_assoc]
  congr 1
  funext v S
  rw [Out.bnd_assoc]
  congr 1
  funext k S
  cases k with
  | false => rfl
  | true =>
    rw [if_pos rfl, if_pos rfl, Out.bnd_assoc]
    congr 1
    funext z S
    exact lift_bl _
/-- a comparison's truth, as a test -/
theorem cmp_tt {a : Expr} {ops : List CmpOp} {bs : List Expr} {u : E} (H : Snd g Φ k F) (Z : Good g Φ k ci X W) (h : cCmp F ci a ops bs = some u) : ST g Φ X W (.Compare a ops bs pos) (.e u) := by
  unfold cCmp at h
  show PT X _ _
  split at h
  · split at h
    · rename_i hn
      rw [Option.map_eq_some_iff] at h
      obtain ⟨x, e1, rfl⟩ := h
      obtain ⟨j, p, rfl⟩ := isNone_ok hn
      have q := t_isN (pos := pos) (pos' := p) (j := j) (H.cE Z e1).b
      have e2 : evT Φ (.e (.isN x)) = fun r S => ((rd x r S (ev Φ x r S)).bnd fun x S => .ok (match x with | .non => true | _ => false) S) := by
        funext r S
        simp only [evT, rd, ev, Out.bnd_assoc]
        cases rd x r S (ev Φ x r S) <;> rfl
      rw [e2]
      exact q
    · cases h
  · split at h
    · rename_i hn
      rw [Option.map_eq_some_iff] at h
      obtain ⟨x, e1, rfl⟩ := h
      obtain ⟨j, p, rfl⟩ := isNone_ok hn
      have q := t_notN (pos := pos) (pos' := p) (j := j) (H.cE Z e1).b
      have e2 : evT Φ (.e (.notN x)) = fun r S => ((rd x r S (ev Φ x r S)).bnd fun x S => .ok (match x with | .non => false | _ => true) S) := by
        funext r S
        simp only [evT, rd, ev, Out.bnd_assoc]
        cases rd x r S (ev Φ x r S) <;> rfl
      rw [e2]
      exact q
    · cases h
  · split at h
    · rename_i i x y e1 e2 e3
      split at h
      · rename_i hs
        cases h
        rw [cmI_ok e1]
        have q := t_cmp (pos := pos) Z.G i (H.cE Z e2).b (H.cE Z e3).b (marks_no hs)
        have e4 : evT Φ (.e (.cmp i x y)) = fun r S => ((rd x r S (ev Φ x r S)).bnd fun u S => (rd y r S (ev Φ y r S)).bnd fun v S => lift (cmD i (der S u) (der S v)) S) := by
          funext r S
          simp only [evT, ev]
          exact out_cmp (rd x r S (ev Φ x r S)) (fun S => rd y r S (ev Φ y r S)) (fun S u v => cmD i (der S u) (der S v))
        rw [e4]
        exact q
      · cases h
    · cases h
  · split at h
    · rename_i i j x y z e1 e2 e3 e4 e5
      split at h
      · rename_i hs
        cases h
        rw [cmI_ok e1, cmI_ok e2]
        have q := t_chain (pos := pos) Z.G i j (H.cE Z e3).b (H.cE Z e4).b (H.cE Z e5).b (by simpa only [lastMarks] using marks_no hs)
        have e6 : evT Φ (.e (.chain i j x y z)) = fun r S => ((rd x r S (ev Φ x r S)).bnd fun u S => (rd y r S (ev Φ y r S)).bnd fun v S => (lift (cmD i (der S u) (der S v)) S).bnd fun k S =>
            if k = true then (rd z r S (ev Φ z r S)).bnd fun w S => lift (cmD j (der S v) (der S w)) S else .ok false S) := by
          funext r S
          simp only [evT, ev]
          exact out_chain (rd x r S (ev Φ x r S)) (fun S => rd y r S (ev Φ y r S)) (fun S => rd z r S (ev Φ z r S)) (fun S u v => cmD i (der S u) (der S v)) (fun S u v => cmD j (der S u) (der S v))
        rw [e6]
        exact q
      · cases h
    · cases h
  · cases h
end
end Pi

/-! Pi9e: comprehensions, and the whole of expressions. -/
namespace Pi
open PySem L2 PySem.Spec PyProof.Rows
section
variable {g : GC} {Φ : Phi} {X : Cx} {ci : CI} {W : WX} {k : Nat}
variable {F : Fam} (Z : Good g Φ k ci X W) {ir : E} {pos p p2 cpos apos : Pos} {e a b c tg : Expr} {x y : Str} {es args : List Expr}

include Z
theorem cTest_ok (H : Snd g Φ k F) {t : T} (h : cTest F ci e = some t) : ST g Φ X W e t := by
  unfold cTest at h
  split at h
  · rw [Option.map_eq_some_iff] at h
    obtain ⟨u, e1, rfl⟩ := h
    show PT X _ _
    have q := t_not (pos := by assumption) (H.cT Z e1)
    simp only [evT]
    exact q
  · exact (H.cW Z h).pt
  · rw [Option.map_eq_some_iff] at h
    obtain ⟨u, e1, rfl⟩ := h
    exact cmp_tt H Z e1
  · split at h
    · rename_i hp
      rw [Option.map_eq_some_iff] at h
      obtain ⟨u, e1, rfl⟩ := h
      show PT X _ _
      simp only [evT]
      exact t_yes_of Z.G (H.cE Z e1).b (plainT_ok hp)
    · cases h
omit Z
def cWs (F : Fam) (ci : CI) (e : Expr) : Option T :=
  match e with
  | .BoolOp _ [a] _ => F.cT ci a
  | .BoolOp .And (a :: b :: r) pos => (match F.cT ci a, F.cW ci (.BoolOp .And (b :: r) pos) with
    | some u, some v => some (.and u v)
    | _, _ => none)
  | .BoolOp .Or (a :: b :: r) pos => (match F.cT ci a, F.cW ci (.BoolOp .Or (b :: r) pos) with
    | some u, some v => some (.or u v)
    | _, _ => none)
  | _ => none
include Z
theorem cWs_ok (H : Snd g Φ k F) {t : T} (h : cWs F ci e = some t) : SW g Φ X W e t := by
  unfold cWs at h
  show PW X _ _
  split at h
  · rename_i o a p
    cases o with
    | And => exact pw_and1 (H.cT Z h)
    | Or => exact pw_or1 (H.cT Z h)
  · split at h
    · rename_i u v e1 e2
      cases h
      simp only [evT]
      exact w_and (H.cT Z e1) (H.cW Z e2)
    · cases h
  · split at h
    · rename_i u v e1 e2
      cases h
      simp only [evT]
      exact w_or (H.cT Z e1) (H.cW Z e2)
    · cases h
  · cases h
omit Z
/-! ### comprehensions -/
def blkCI (ci : CI) (scope : Scope) : CI := { ci with
  sc := scope.names.map fun (n, k) => if (k == NameKind.free && true && ci.sc.lookup n == some .cell) then (n, NameKind.cell) else (n, k)
  cells := (scope.names.map (·.1)).filter fun x => scope.names.lookup x == some .cell }
def ownOf (ci : CI) (scope : Scope) : List (Str × Nat) := scope.names.filterMap fun y => if y.2 = .local ∨ y.2 = .cell then (place y.1 ci.N).map fun i => (y.1, i) else none
theorem blkC_names {N : List Str} {sc sc' scope : Scope} {own : List (Str × Nat)} (h : sc.names = sc'.names) : blkC N sc scope own = blkC N sc' scope own := by
  unfold blkC
  rw [h]
theorem blkC_kind {N : List Str} {sc scope : Scope} {own : List (Str × Nat)} (h : blkC N sc scope own = true) : scope.kind = .function := (blkOk_by h).kind
include Z
theorem blk_good {scope : Scope} (hk : scope.kind = .function) (s : Shared) (H : Hp) (C : Addr) (cl : List (Str × Addr)) (fp : List Addr) : Good g Φ k (blkCI ci scope) (X.blk s H scope (compEnvC scope cl C X.env) fp) WF := by
  refine ⟨⟨Z.O.N, ?_, hk, fun x hx => ?_⟩, ⟨Z.T.fn, Z.T.F, fun x c h => ?_, fun x c h => ?_, Z.T.bl, Z.T.co, Z.T.at_, Z.T.room, Z.T.gd, Z.T.sm, fun x t h => ⟨(Z.T.tb x t h).ex⟩, Z.T.met⟩, Z.G.blk, fun σ pins H s e s' I c => passL pins σ H s e s' I c⟩
  · show (relabel scope X.env).names = _
    unfold relabel blkCI
    dsimp only
    have hkd := Z.O.kd
    have hsc := Z.O.sc
    congr 1
    funext y
    show (if (y.2 == NameKind.free && X.env.scope.kind == .function && X.env.scope.names.lookup y.1 == some .cell) = true then (y.1, NameKind.cell) else (y.1, y.2)) = _
    rw [hkd, hsc]
    rfl
  · have := (List.mem_filter.mp hx).2
    exact this
  · have C := Z.T.cl x c h
    exact ⟨C.mg, C.mkc, C.cls, C.F⟩
  · have q := (Z.T.ex x c h).ex
    exact ⟨q⟩
omit Z
def cComp (F : Fam) (ci : CI) (gs : List Comprehension) (scope : Scope) : Option (Tg × It × T × List Nat) :=
  match gs with
  | [⟨tg, iter, ifs, a⟩] => (match cTg (blkCI ci scope) tg, F.cI ci tg iter, (match ifs with
      | [] => some T.yes
      | [c] => F.cT (blkCI ci scope) c
      | _ => none) with
    | some t, some it, some tt => if a = 0 ∧ blkC ci.N { scope with names := ci.sc } scope (ownOf ci scope) = true ∧ (t.ids.all fun i => decide (i ∈ (ownOf ci scope).map (·.2))) = true then some (t, it, tt, (ownOf ci scope).map (·.2)) else none
    | _, _, _ => none)
  | _ => none
def cLc (F : Fam) (ci : CI) (elt : Expr) (gs : List Comprehension) (scope : Scope) : Option E :=
  match cComp F ci gs scope, F.cE (blkCI ci scope) elt with
  | some (t, it, tt, vs), some u => some (.lc u t it tt vs)
  | _, _ => none
def cDc (F : Fam) (ci : CI) (kx vx : Expr) (gs : List Comprehension) (scope : Scope) : Option E :=
  match cComp F ci gs scope, F.cE (blkCI ci scope) kx, F.cE (blkCI ci scope) vx with
  | some (t, it, tt, vs), some u, some v => some (.dc u v t it tt vs)
  | _, _, _ => none
/-- what a comprehension's makings promise -/
structure CompOk (g : GC) (Φ : Phi) (k : Nat) (ci : CI) (X : Cx) (W : WX) (gs : List Comprehension) (scope : Scope) (t : Tg) (it : It) (tt : T) (vs : List Nat) : Prop where
  ex : ∃ tg iter ifs own, gs = [⟨tg, iter, ifs, 0⟩] ∧ vs = own.map (·.2) ∧ PI X tg iter (TIt X g W (evI Φ it)) ∧ blkC X.N X.env.scope scope own = true ∧ (∀ i ∈ t.ids, i ∈ own.map (·.2)) ∧
    (∀ (s : Shared) (H : Hp) (C : Addr) (cl : List (Str × Addr)) (fp : List Addr), PG (X.blk s H scope (compEnvC scope cl C X.env) fp) tg (TGd g t)) ∧
    (∀ (s : Shared) (H : Hp) (C : Addr) (cl : List (Str × Addr)) (fp : List Addr), PTs (X.blk s H scope (compEnvC scope cl C X.env) fp) ifs (TT' g WF (evT Φ tt))) ∧
    (∀ x, foldedSetIterable iter X.env x = pure x) ∧ scope.kind = .function
include Z
theorem cComp_ok (H : Snd g Φ k F) {gs : List Comprehension} {scope : Scope} {t : Tg} {it : It} {tt : T} {vs : List Nat} (h : cComp F ci gs scope = some (t, it, tt, vs)) : CompOk g Φ k ci X W gs scope t it tt vs := by
  unfold cComp at h
  split at h
  · rename_i tg iter ifs a
    split at h
    · rename_i t' it' tt' e1 e2 e3
      split at h
      · rename_i hh
        obtain ⟨rfl, hb, hi⟩ := hh
        cases h
        have hb' : blkC X.N X.env.scope scope (ownOf ci scope) = true := by
          rw [Z.O.N, blkC_names (sc' := { scope with names := ci.sc }) Z.O.sc]
          exact hb
        have hk := blkC_kind hb
        have I := H.cI Z e2
        refine ⟨tg, iter, ifs, ownOf ci scope, rfl, rfl, I.i, hb', fun i hm => ?_, fun s H2 C cl fp => ?_, fun s H2 C cl fp => ?_, folded_no I.s, hk⟩
        · have := List.all_eq_true.mp hi i hm
          exact of_decide_eq_true this
        · have Z2 := blk_good Z hk s H2 C cl fp
          exact cTg_ok Z2.O Z2.G e1
        · have Z2 := blk_good Z hk s H2 C cl fp
          split at e3
          · cases e3
            have : evT Φ .yes = fun _ S => .ok true S := by funext r S; simp only [evT]
            rw [this]
            exact ts_nil
          · exact pts_one (H.cT Z2 e3)
          · cases e3
      · cases h
    · cases h
  · cases h
theorem cLc_ok (H : Snd g Φ k F) {gs : List Comprehension} {scope : Scope} (h : cLc F ci e gs scope = some ir) : SE g Φ X W (.ListComp e gs scope pos) ir := by
  unfold cLc at h
  split at h
  · rename_i t it tt vs u e1 e2
    cases h
    obtain ⟨tg, iter, ifs, own, rfl, rfl, hi, hb, ht, hg, hc, hs, hk⟩ := (cComp_ok Z H e1).ex
    refine .ofF ?_ rfl
    have q := s_lc (pos := pos) Z.G hi hb ht hg hc (fun s H2 C cl fp => (H.cE (blk_good Z hk s H2 C cl fp) e2).v) hs
    simp only [ev]
    exact q
  · cases h
theorem cDc_ok (H : Snd g Φ k F) {gs : List Comprehension} {scope : Scope} (h : cDc F ci a b gs scope = some ir) : SE g Φ X W (.DictComp a b gs scope pos) ir := by
  unfold cDc at h
  split at h
  · rename_i t it tt vs u v e1 e2 e3
    cases h
    obtain ⟨tg, iter, ifs, own, rfl, rfl, hi, hb, ht, hg, hc, hs, hk⟩ := (cComp_ok Z H e1).ex
    refine .ofF ?_ rfl
    have q := s_dc (pos := pos) Z.G hi hb ht hg hc (fun s H2 C cl fp => (H.cE (blk_good Z hk s H2 C cl fp) e2).v) (fun s H2 C cl fp => (H.cE (blk_good Z hk s H2 C cl fp) e3).v) hs
    simp only [ev]
    exact q
  · cases h
omit Z

/-! ### the whole -/
/-- the parts of an f-string -/
def cParts (F : Fam) (ci : CI) : List Expr → Option EL
  | [] => some .nil
  | a :: r => (match F.cE ci a, cParts F ci r with
    | some u, some l => some (.cons u l)
    | _, _ => none)
def elM (Φ : Phi) : EL → List (Rho → Sto → Out D)
  | .nil => []
  | .cons u r => ev Φ u :: elM Φ r
theorem elM_ok (Φ : Phi) : ∀ (l : EL) (r : Rho) (acc : Str) (S : Sto), evF Φ l r acc S = evM (elM Φ l) r acc S
  | .nil, r, acc, S => by simp only [evF, elM, evM]
  | .cons u l, r, acc, S => by
    simp only [evF, elM, evM]
    congr 1
    funext y S
    cases y <;> first | rfl | skip
    simp only [elM_ok Φ l r _ S]
include Z
theorem cParts_ok (H : Snd g Φ k F) : ∀ {es : List Expr} {l : EL}, cParts F ci es = some l → PJd g W X es (elM Φ l)
  | [], l, h => by cases h; exact .nil
  | a :: r, l, h => by
    unfold cParts at h
    split at h
    · rename_i u l' e1 e2
      cases h
      exact .cons (H.cE Z e1).v (cParts_ok H e2)
    · cases h
omit Z
def cJoined (F : Fam) (ci : CI) (es : List Expr) : Option E :=
  match es with
  | a :: b :: r => (cParts F ci (a :: b :: r)).map .fst
  | _ => none
include Z
theorem cJoined_ok (H : Snd g Φ k F) (h : cJoined F ci es = some ir) : SE g Φ X W (.JoinedStr es pos) ir := by
  unfold cJoined at h
  split at h
  · rw [Option.map_eq_some_iff] at h
    obtain ⟨l, e1, rfl⟩ := h
    have q := s_fst (pos := pos) (cParts_ok Z H e1)
    refine .ofV ?_ rfl rfl
    have e2 : ev Φ (.fst l) = fun r S => evM (elM Φ l) r Str.empty S := by
      funext r S
      simp only [ev]
      exact elM_ok Φ l r _ S
    rw [e2]
    exact q
  · cases h
omit Z
/-- the marked displays go into the store -/
def celE (ci : CI) (e : Expr) (u : E) : E := if (e.pos.line, e.pos.col) ∈ ci.tab.cel ∧ u.isNew = true then .cell u else u
theorem celE_ok {u : E} (h : SE g Φ X W e u) : SE g Φ X W e (celE ci e u) := by
  unfold celE
  split
  · rename_i hh
    exact .ofV (by simp only [ev]; exact s_cell (h.f hh.2)) rfl rfl
  · exact h
def stepE0 (F : Fam) (ci : CI) (e : Expr) : Option E :=
  match e with
  | .Name x _ => cName ci x
  | .Constant v _ _ => cConst v
  | .BinOp a o b _ => cBin F ci a o b
  | .UnaryOp o a _ => cUn F ci o a
  | .Compare a ops bs _ => cCmp F ci a ops bs
  | .BoolOp o es pos => cBool F ci o es pos
  | .IfExp c a b _ => cIf F ci c a b
  | .Tuple es _ _ => (F.cL ci es).map E.tup
  | .List es _ => (F.cL ci es).map E.lst
  | .Dict ks vs _ => cDict F ci ks vs
  | .Subscript a i _ => cSub F ci a i
  | .Attribute a f _ => cAttr F ci a f
  | .Call (.Name x _) args [] _ => cCallN F ci x args
  | .Call (.Attribute o m apos) args [] cpos => cCallM F ci o m apos args cpos
  | .ListComp e gs scope _ => cLc F ci e gs scope
  | .DictComp a b gs scope _ => cDc F ci a b gs scope
  | .FormattedValue a c none _ => if c = -1 then (F.cE ci a).map .fmt else none
  | .JoinedStr es _ => cJoined F ci es
  | _ => none
def stepE (F : Fam) (ci : CI) (e : Expr) : Option E := (stepE0 F ci e).map (celE ci e)
def step (F : Fam) : Fam := ⟨stepE F, cTest F, cWs F, cLs F, cIter F⟩
def fam : Nat → Fam
  | 0 => fam0
  | n + 1 => step (fam n)
include Z
theorem stepE0_ok (H : Snd g Φ k F) (h : stepE0 F ci e = some ir) : SE g Φ X W e ir := by
  unfold stepE0 at h
  split at h
  · exact cName_ok Z h
  · exact cConst_ok h
  · exact cBin_ok Z H h
  · exact cUn_ok Z H h
  · exact cCmp_ok Z H h
  · exact cBool_ok Z H h
  · exact cIf_ok Z H h
  · rw [Option.map_eq_some_iff] at h
    obtain ⟨el, e1, rfl⟩ := h
    exact cTup_ok Z H e1
  · rw [Option.map_eq_some_iff] at h
    obtain ⟨el, e1, rfl⟩ := h
    exact cLst_ok Z H e1
  · exact cDict_ok Z H h
  · exact cSub_ok Z H h
  · exact cAttr_ok Z H h
  · exact cCallN_ok Z H h
  · exact cCallM_ok Z H h
  · exact cLc_ok Z H h
  · exact cDc_ok Z H h
  · split at h
    · rename_i hc
      subst hc
      rw [Option.map_eq_some_iff] at h
      obtain ⟨u, e1, rfl⟩ := h
      exact .ofV (by simp only [ev]; exact s_fmt (H.cE Z e1).v) rfl rfl
    · cases h
  · exact cJoined_ok Z H h
  · cases h
theorem stepE_ok (H : Snd g Φ k F) (h : stepE F ci e = some ir) : SE g Φ X W e ir := by
  unfold stepE at h
  rw [Option.map_eq_some_iff] at h
  obtain ⟨u, e1, rfl⟩ := h
  exact celE_ok (stepE0_ok Z H e1)
omit Z
theorem step_ok (H : Snd g Φ k F) : Snd g Φ k (step F) := ⟨fun Z _ _ h => stepE_ok Z H h, fun Z _ _ h => cTest_ok Z H h, fun Z _ _ h => cWs_ok Z H h, fun Z _ _ h => cLs_ok Z H h, fun Z _ _ _ h => cIter_ok Z H h⟩
theorem fam_ok : ∀ n, Snd g Φ k (fam n)
  | 0 => snd0
  | n + 1 => step_ok (fam_ok n)
end
end Pi

/-! Pi10: statements, from a def's text. -/
namespace Pi
open PySem L2 PySem.Spec PyProof.Rows

/-! ### names that stand where a value is wanted -/
def nr (a : E) (l : List Nat) : List Nat := match a with
  | .var _ => []
  | _ => l
mutual
def vE : E → List Nat
  | .var i => [i]
  | .bin _ a b => nr a (vE a) ++ nr b (vE b)
  | .neg a => vE a
  | .cmp _ a b => nr a (vE a) ++ nr b (vE b)
  | .isN a => nr a (vE a)
  | .notN a => nr a (vE a)
  | .chain _ _ a b c => nr a (vE a) ++ nr b (vE b) ++ nr c (vE c)
  | .and a b => vE a ++ vE b
  | .or a b => vE a ++ vE b
  | .not a => nr a (vE a)
  | .ite c a b => vT c ++ vE a ++ vE b
  | .tup es => vL es
  | .lst es => vL es
  | .dct ps => vD ps
  | .call _ es => vL es
  | .callv _ es => vL es
  | .new _ es => vL es
  | .bi _ a => nr a (vE a)
  | .b2 _ a b => vE a ++ vE b
  | .isi a _ => nr a (vE a)
  | .sub a b => nr a (vE a) ++ vE b
  | .slice a b c => nr a (vE a) ++ vE b ++ vE c
  | .attr a _ => vE a
  | .join _ a => nr a (vE a)
  | .get1 a b => nr a (vE a) ++ vE b
  | .get2 a b c => nr a (vE a) ++ vE b ++ vE c
  | .lc e _ it c _ => vE e ++ vI it ++ vT c
  | .dc a b _ it c _ => vE a ++ vE b ++ vI it ++ vT c
  | .mrg a b => vE a ++ vE b
  | .lvals a => nr a (vE a)
  | .mrg1 a b c => vE a ++ vE b ++ vE c
  | .cell a => vE a
  | .cpop a => vE a
  | .meth _ a es => vE a ++ vL es
  | .tsub _ a => vE a
  | .fmt a => vE a
  | .fst es => vL es
  | _ => []
def vT : T → List Nat
  | .e a => nr a (vE a)
  | .and a b => vT a ++ vT b
  | .or a b => vT a ++ vT b
  | .not a => vT a
  | .yes => []
def vL : EL → List Nat
  | .nil => []
  | .cons a l => vE a ++ vL l
def vD : KL → List Nat
  | .nil => []
  | .cons a b l => vE a ++ vE b ++ vD l
def vI : It → List Nat
  | .over a => vE a
  | .rng a => vE a
  | .rng2 a b => vE a ++ vE b
  | .enum a => vE a
  | .rev a => vE a
  | .items a => vE a
  | .vals a => vE a
  | .zip a b => vE a ++ vE b
end
def vS : S → List Nat
  | .asg _ e => vE e
  | .par _ _ a b => vE a ++ vE b
  | .aug _ _ e => vE e
  | .setk _ k e => vE k ++ vE e
  | .app _ e => vE e
  | .ext _ e => vE e
  | .popk _ e => vE e
  | .attr a _ e => vE a ++ vE e
  | .ex e => vE e
  | .ret e => vE e
  | .ite c _ _ => vT c
  | .whl c _ => vT c
  | .for _ it _ => vI it
  | .raise _ es => vL es
  | .capp a e => vE a ++ vE e
  | .csetk a k e => vE a ++ vE k ++ vE e
  | .cdels a e => vE a ++ vE e
  | _ => []
def frzS (s : S) : S := match vS s with
  | [] => s
  | is => .frz is s

section
variable {g : GC} {Φ : Phi} {X : Cx} {ci : CI} {W : WX} {k n : Nat}
def SS (g : GC) (Φ : Phi) (X : Cx) (W : WX) (st : Stmt) (s : S) : Prop := PS X st (TSt g W (ex Φ s))
def SB (g : GC) (Φ : Phi) (X : Cx) (W : WX) (st : List Stmt) (s : SL) : Prop := PSs X st (TSt g W (exL Φ s))
theorem frzS_ok {st : Stmt} {s : S} (h : SS g Φ X W st s) : SS g Φ X W st (frzS s) := by
  unfold frzS
  split
  · exact h
  · have q := PS.frz (vS s) h
    show PS X st (TSt g W (ex Φ (.frz _ s)))
    simp only [ex]
    exact q
/-- what is known of the exceptions' classes -/
structure SubOk (g : GC) (K : PySem.W.Frag) (sub : Nat → Nat → Option Bool) : Prop where
  ex : ∀ c c' b, sub c c' = some b → PySem.W.exmOne K (g.xa c) (g.xa c') = some b
  kt : ∀ c c' b, sub c c' = some b → ∃ D0, g.xa c = .ref D0 ∧ L2.ExcC K D0 ∧ PySem.W.kitOne K (.ref D0) (g.xa c') = some b ∧ PySem.W.kitOne K (.ref D0) (.type "ValueError") = some true
structure GoodS (g : GC) (Φ : Phi) (k : Nat) (ci : CI) (X : Cx) (W : WX) : Prop where
  Z : Good g Φ k ci X W
  tk : Takes X W
  po : PassesOwn (model X.prog X.w) X.A X.env X.xe
  st : X.stack = X.env :: X.outer
  fr : X.env.frame = some X.env.locals
  sb : SubOk g X.K Φ.sub
variable (Y : GoodS g Φ k ci X W) {pos p p2 cpos apos tpos : Pos} {e a b c tg v : Expr} {x y : Str} {es args : List Expr} {s : S} {st : Stmt}

/-! ### a name gets a value -/
def cSet (F : Fam) (ci : CI) (x : Str) (p : Pos) (v : Expr) : Option S :=
  match ci.nm x with
  | none => none
  | some i => (match v with
    | .ListComp elt gs scope cpos => if ci.sc.lookup x = some .local ∧ (p.line == cpos.line) = true ∧ (scope.names.any fun (n, k) => n == x && (k == .local || k == .cell)) = false then (cLc F ci elt gs scope).map (.asg (.nm i)) else none
    | .DictComp kx vx gs scope cpos => if ci.sc.lookup x = some .local ∧ (p.line == cpos.line) = true ∧ (scope.names.any fun (n, k) => n == x && (k == .local || k == .cell)) = false then (cDc F ci kx vx gs scope).map (.asg (.nm i)) else none
    | .Call (.Attribute (.Name y py) m apos) [] [] cpos => if m = "pop" ∧ (apos.endLine == cpos.line) = true then (ci.nv y).map (.popl (.nm i)) else (F.cE ci (.Call (.Attribute (.Name y py) m apos) [] [] cpos)).map (.asg (.nm i))
    | v => if noComp v = true then (F.cE ci v).map (.asg (.nm i)) else none)
include Y
theorem set_ok (H : Snd g Φ k F) {i : Nat} {u : E} (hi : ci.nm x = some i) (hv : F.cE ci v = some u) (hc : noComp v = true) : SS g Φ X W (.Assign [.Name x p] v pos) (.asg (.nm i) u) := by
  have n := Y.Z.O.nm hi
  have A := H.cE Y.Z hv
  show PS X _ _
  simp only [ex]
  by_cases hn : u.isNew = true
  · have q := ts_setO (p := p) (pos := pos) Y.Z.G n (A.f hn) hc
    simp only [hn, D.slot, if_true]
    exact q
  · have q := ts_setV (p := p) (pos := pos) Y.Z.G n A.v hc
    have hn' : u.isNew = false := by simpa using hn
    simp only [hn', D.slot, Bool.false_eq_true, if_false]
    exact q
theorem cSet_ok (H : Snd g Φ k F) (h : cSet F ci x p v = some s) : SS g Φ X W (.Assign [.Name x p] v pos) s := by
  unfold cSet at h
  split at h
  · cases h
  · rename_i i hi
    have n := Y.Z.O.nm hi
    split at h
    · split at h
      · rename_i hh
        obtain ⟨hl, hp, hs⟩ := hh
        rw [Option.map_eq_some_iff] at h
        obtain ⟨u, e1, rfl⟩ := h
        unfold cLc at e1
        split at e1
        · rename_i t it tt vs u' e2 e3
          cases e1
          obtain ⟨tg, iter, ifs, own, rfl, rfl, hi', hb, ht, hg, hc, hs', hk⟩ := (cComp_ok Y.Z H e2).ex
          have q := ts_setLc (pos := pos) Y.Z.G n.at_ (by rw [Y.Z.O.sc]; exact hl) Y.Z.O.kd hp hs hi' hb ht hg hc (fun s H2 C cl fp => (H.cE (blk_good Y.Z hk s H2 C cl fp) e3).v) hs'
          show PS X _ _
          simp only [ex, ev, E.isNew, D.slot, if_true]
          exact q
        · cases e1
      · cases h
    · split at h
      · rename_i hh
        obtain ⟨hl, hp, hs⟩ := hh
        rw [Option.map_eq_some_iff] at h
        obtain ⟨u, e1, rfl⟩ := h
        unfold cDc at e1
        split at e1
        · rename_i t it tt vs u' v' e2 e3 e4
          cases e1
          obtain ⟨tg, iter, ifs, own, rfl, rfl, hi', hb, ht, hg, hc, hs', hk⟩ := (cComp_ok Y.Z H e2).ex
          have q := ts_setDc (pos := pos) Y.Z.G n.at_ (by rw [Y.Z.O.sc]; exact hl) Y.Z.O.kd hp hs hi' hb ht hg hc (fun s H2 C cl fp => (H.cE (blk_good Y.Z hk s H2 C cl fp) e3).v) (fun s H2 C cl fp => (H.cE (blk_good Y.Z hk s H2 C cl fp) e4).v) hs'
          show PS X _ _
          simp only [ex, ev, E.isNew, D.slot, if_true]
          exact q
        · cases e1
      · cases h
    · split at h
      · rename_i hh
        obtain ⟨rfl, hl⟩ := hh
        rw [Option.map_eq_some_iff] at h
        obtain ⟨j, e1, rfl⟩ := h
        show PS X _ _
        simp only [ex]
        exact ts_popl (t := .nm i) Y.Z.G (Y.Z.O.nv e1) (g_nm (pos := p) Y.Z.G n.at_ n.loc n.fn) rfl hl rfl rfl
      · rw [Option.map_eq_some_iff] at h
        obtain ⟨u, e1, rfl⟩ := h
        exact set_ok Y H hi e1 rfl
    · split at h
      · rename_i hc
        rw [Option.map_eq_some_iff] at h
        obtain ⟨u, e1, rfl⟩ := h
        exact set_ok Y H hi e1 hc
      · cases h
omit Y

/-! ### several names get values -/
def cSetT (F : Fam) (ci : CI) (ts : List Expr) (v : Expr) : Option S :=
  match v with
  | .Tuple [a, b] _ _ => (match ts with
    | [.Name x px, .Name y py] => (match ci.nm x, ci.nm y, F.cE ci a, F.cE ci b with
      | some i, some j, some u, some w => if ci.sc.lookup x = some .local ∧ ci.sc.lookup y = some .local ∧ i ≠ j ∧ x ≠ y ∧ (py.line == px.line) = true ∧ noStar a = true ∧ noStar b = true ∧ [a, b].all (foldedForSure 8) = false ∧ [a, b].all (constantsAlone 8) = false then some (.par i j u w) else none
      | _, _, _, _ => none)
    | _ => none)
  | .Call (.Attribute (.Name y py) m apos) [] [] cpos => if m = "pop" ∧ (apos.endLine == cpos.line) = true then (match ci.nv y, nmsOf ci ts with
      | some j, some is => some (.popl (.tup is) j)
      | _, _ => none) else (match nmsOf ci ts, F.cE ci (.Call (.Attribute (.Name y py) m apos) [] [] cpos) with
      | some is, some u => some (.asg (.tup is) u)
      | _, _ => none)
  | v => if noComp v = true ∧ noTup v = true then (match nmsOf ci ts, F.cE ci v with
      | some is, some u => some (.asg (.tup is) u)
      | _, _ => none) else none
include Y
theorem cSetT_ok (H : Snd g Φ k F) {ts : List Expr} {j0 : Nat} (h : cSetT F ci ts v = some s) : SS g Φ X W (.Assign [.Tuple ts j0 p] v pos) s := by
  unfold cSetT at h
  split at h
  · split at h
    · split at h
      · rename_i i j u w e1 e2 e3 e4
        split at h
        · rename_i hh
          obtain ⟨l1, l2, hij, hxy, hl, s1, s2, f1, f2⟩ := hh
          cases h
          have n1 := Y.Z.O.nm e1
          have n2 := Y.Z.O.nm e2
          have m1 := Y.Z.O.sc ▸ l1
          have m2 := Y.Z.O.sc ▸ l2
          show PS X _ _
          simp only [ex]
          exact ts_par Y.Z.G n1 n2 m1 m2 hij (H.cE Y.Z e3).v (H.cE Y.Z e4).v s1 s2 (swapped_two Y.Z.O.kd m1 m2 hl hxy s1 s2 f1 f2)
        · cases h
      · cases h
    · cases h
  · split at h
    · rename_i hh
      obtain ⟨rfl, hl⟩ := hh
      split at h
      · rename_i j is e1 e2
        cases h
        show PS X _ _
        simp only [ex]
        exact ts_popl (t := .tup is) Y.Z.G (Y.Z.O.nv e1) (g_tup (pos := p) Y.Z.G (nmsOf_ok Y.Z.O e2)) rfl hl rfl rfl
      · cases h
    · split at h
      · rename_i is u e1 e2
        cases h
        show PS X _ _
        simp only [ex]
        exact ts_setT (t := .tup is) Y.Z.G (g_tup (pos := p) Y.Z.G (nmsOf_ok Y.Z.O e1)) (H.cE Y.Z e2).v rfl rfl
      · cases h
  · split at h
    · rename_i hh
      split at h
      · rename_i is u e1 e2
        cases h
        show PS X _ _
        simp only [ex]
        exact ts_setT (t := .tup is) Y.Z.G (g_tup (pos := p) Y.Z.G (nmsOf_ok Y.Z.O e1)) (H.cE Y.Z e2).v hh.1 hh.2
      · cases h
    · cases h
omit Y
/-! ### expressions as statements -/
def cExpr (F : Fam) (ci : CI) (e : Expr) : Option S :=
  match e with
  | .Constant (.str _) _ _ => some .pass
  | .Call (.Attribute c m apos) [a] [] cpos => if m = "append" ∨ m = "extend" ∨ m = "pop" then
      (if noStar a = true ∧ (apos.endLine == cpos.line) = true then (match c with
        | .Name x _ => (match ci.nv x, F.cE ci a with
          | some i, some u => if m = "append" then some (.app i u) else if m = "extend" then some (.ext i u) else some (.popk i u)
          | _, _ => none)
        | c => if m = "append" ∧ noBase c = true then (match F.cE ci c, F.cE ci a with
          | some w, some u => some (.capp w u)
          | _, _ => none) else none) else none)
      else (F.cE ci (.Call (.Attribute c m apos) [a] [] cpos)).map .ex
  | e => if noComp e = true then (F.cE ci e).map .ex else none
include Y
theorem cExpr_ok (H : Snd g Φ k F) (h : cExpr F ci e = some s) : SS g Φ X W (.Expr e pos) s := by
  unfold cExpr at h
  split at h
  · cases h
    show PS X _ _
    simp only [ex]
    exact ts_doc
  · split at h
    · rename_i hm
      split at h
      · rename_i hh
        obtain ⟨hs, hl⟩ := hh
        split at h
        · split at h
          · rename_i i u e1 e2
            have n := Y.Z.O.nv e1
            have A := (H.cE Y.Z e2).v
            split at h
            · rename_i hm; subst hm; cases h
              show PS X _ _
              simp only [ex]
              exact ts_app n A hs (mb_of rfl hs hl)
            · rename_i h1
              split at h
              · rename_i hm; subst hm; cases h
                show PS X _ _
                simp only [ex]
                exact ts_ext Y.Z.G n A hs (mb_of rfl hs hl)
              · rename_i h2
                have hm : _ = ("pop" : Str) := (hm.resolve_left h1).resolve_left h2
                subst hm
                cases h
                show PS X _ _
                simp only [ex]
                exact ts_popk n A (m1_of rfl hs hl)
          · cases h
        · split at h
          · rename_i hb
            obtain ⟨rfl, hb⟩ := hb
            split at h
            · rename_i w u e1 e2
              cases h
              show PS X _ _
              simp only [ex]
              exact ts_capp (H.cE Y.Z e1).v (H.cE Y.Z e2).v hs (mb_of hb hs hl)
            · cases h
          · cases h
      · cases h
    · rw [Option.map_eq_some_iff] at h
      obtain ⟨u, e1, rfl⟩ := h
      show PS X _ _
      simp only [ex]
      exact ts_ex (H.cE Y.Z e1).v rfl
  · split at h
    · rename_i hc
      rw [Option.map_eq_some_iff] at h
      obtain ⟨u, e1, rfl⟩ := h
      show PS X _ _
      simp only [ex]
      exact ts_ex (H.cE Y.Z e1).v hc
    · cases h
omit Y
/-! ### stores -/
def cAssign (F : Fam) (ci : CI) (t v : Expr) : Option S :=
  match t with
  | .Name x p => cSet F ci x p v
  | .Tuple ts _ _ => cSetT F ci ts v
  | .Subscript (.Name x _) kx _ => (match ci.nv x, F.cE ci kx, F.cE ci v with
      | some i, some u, some w => if noComp v = true ∧ plainIx kx = true then some (.setk i u w) else none
      | _, _, _ => none)
  | .Subscript c kx _ => (match F.cE ci c, F.cE ci kx, F.cE ci v with
      | some z, some u, some w => if noComp v = true ∧ plainIx kx = true then some (.csetk z u w) else none
      | _, _, _ => none)
  | .Attribute o f _ => (match F.cE ci o, F.cE ci v with
      | some u, some w => if f ∈ ci.tab.ats then some (.attr u f w) else none
      | _, _ => none)
  | _ => none
include Y
theorem cAssign_ok (H : Snd g Φ k F) (h : cAssign F ci a v = some s) : SS g Φ X W (.Assign [a] v pos) s := by
  unfold cAssign at h
  split at h
  · exact cSet_ok Y H h
  · exact cSetT_ok Y H h
  · split at h
    · rename_i i u w e1 e2 e3
      split at h
      · rename_i hc
        cases h
        show PS X _ _
        simp only [ex]
        exact ts_setk Y.Z.G (Y.Z.O.nv e1) (H.cE Y.Z e2).v (H.cE Y.Z e3).v hc.1 hc.2 (by cases v <;> rfl)
      · cases h
    · cases h
  · split at h
    · rename_i z u w e1 e2 e3
      split at h
      · rename_i hc
        cases h
        show PS X _ _
        simp only [ex]
        exact ts_csetk Y.Z.G (H.cE Y.Z e1).v (H.cE Y.Z e2).v (H.cE Y.Z e3).v hc.1 hc.2 (by cases v <;> rfl)
      · cases h
    · cases h
  · split at h
    · rename_i u w e1 e2
      split at h
      · rename_i hh
        cases h
        show PS X _ _
        simp only [ex]
        exact ts_attr Y.Z.G (Y.Z.T.at_ _ hh) (H.cE Y.Z e1).v (H.cE Y.Z e2).v
      · cases h
    · cases h
  · cases h
omit Y
def cAug (F : Fam) (ci : CI) (x : Str) (o : Operator) (v : Expr) : Option S :=
  match ci.nm x, opI o, F.cE ci v with
  | some i, some .add, some u => some (.aug i .add u)
  | some i, some .sub, some u => some (.aug i .sub u)
  | _, _, _ => none
include Y
theorem cAug_ok (H : Snd g Φ k F) {o : Operator} (h : cAug F ci x o v = some s) : SS g Φ X W (.AugAssign (.Name x p) o v pos) s := by
  unfold cAug at h
  split at h
  · rename_i i u e1 e2 e3
    cases h
    rw [opI_ok e2]
    show PS X _ _
    simp only [ex]
    exact ts_aug Y.Z.G (Y.Z.O.nm e1) .add (.inl rfl) (H.cE Y.Z e3).v
  · rename_i i u e1 e2 e3
    cases h
    rw [opI_ok e2]
    show PS X _ _
    simp only [ex]
    exact ts_aug Y.Z.G (Y.Z.O.nm e1) .sub (.inr rfl) (H.cE Y.Z e3).v
  · cases h
omit Y
def cRaise (F : Fam) (ci : CI) (x : Str) (args : List Expr) : Option S :=
  match args, ci.tab.exs.lookup x, F.cL ci args with
  | _ :: _, some c, some el => if ci.gl x = true ∧ fine x = true then some (.raise c el) else none
  | _, _, _ => none
include Y
theorem cRaise_ok (H : Snd g Φ k F) (h : cRaise F ci x args = some s) : SS g Φ X W (.Raise (some (.Call (.Name x p) args [] cpos)) none pos) s := by
  unfold cRaise at h
  split at h
  · rename_i a r c el e1 e2
    split at h
    · rename_i hh
      cases h
      have q := H.cL Y.Z e2
      show PS X _ _
      simp only [ex]
      exact ts_raise Y.Z.G Y.tk (Y.Z.T.ex _ _ e1) (Y.Z.O.gl hh.1) q.a q.s (fine_ok hh.2).1
    · cases h
  · cases h
omit Y
end
end Pi

/-! Pi10t: except suites: constants are returned, behind a test or not. -/
namespace Pi
open PySem L2 PySem.Spec PyProof.Rows
def cstV : E → Option V
  | .int n => some (.int n)
  | .str x => some (.str x)
  | .bl b => some (.bl b)
  | .non => some .non
  | _ => none
section
variable {g : GC} {Φ : Phi} {X : Cx} {ci : CI} {W : WX} {k n : Nat}
theorem cstV_of {u : E} {d : D} (h : cst u = some d) : ∃ v, cstV u = some v ∧ ∀ al H, Dt g al H v d := by
  cases u <;> try (cases h; done)
  all_goals cases h
  · exact ⟨_, rfl, fun _ _ => .int _⟩
  · exact ⟨_, rfl, fun _ _ => .str _⟩
  · exact ⟨_, rfl, fun _ _ => .bl _⟩
  · exact ⟨_, rfl, fun _ _ => .non⟩
theorem pe_cst {v : Const} {j : Nat} {p : Pos} {u : E} (h : cConst v = some u) : ∃ w, cstV u = some w ∧ PE X (.Constant v j p) (tC w) := by
  unfold cConst at h
  split at h <;> cases h
  · exact ⟨_, rfl, pe_int⟩
  · exact ⟨_, rfl, pe_str⟩
  · exact ⟨_, rfl, pe_bl⟩
  · exact ⟨_, rfl, pe_non⟩
/-! ### the exception's class -/
/-- is the exception of class D one of these: a class of the program's, ValueError -/
def kitO (g : GC) (K : PySem.W.Frag) (D : Addr) (o : Option Nat) (b : Bool) : Prop := match o with
  | some c => PySem.W.kitOne K (.ref D) (g.xa c) = some b
  | none => PySem.W.kitOne K (.ref D) (.type "ValueError") = some b
def kitAll (g : GC) (K : PySem.W.Frag) (D : Addr) : List (Option Nat) → Bool → Prop
  | [], b => b = true
  | o :: r, b => ∃ b1, kitO g K D o b1 ∧ (b1 = false → b = false) ∧ (b1 = true → kitAll g K D r b)
/-- what a suite wishes: a holds the exception, cls is its class, j its name's slot -/
def rdX (g : GC) (K : PySem.W.Frag) (j : Option Nat) (a : Addr) (cls : Value) (od : Option Addr) : List XI → TS
  | [] => fun D σ H => D.nx σ H
  | .ret u :: _ => fun D σ H => ∃ v, cstV u = some v ∧ D.rt v H
  | .ifi i n u :: l => fun D σ H => ∃ m, σ[i]? = some (some (.int m)) ∧ (m = n → ∃ v, cstV u = some v ∧ D.rt v H) ∧ (m ≠ n → rdX g K j a cls od l D σ H)
  | .ifx t u :: l => fun D σ H => ∃ D0 b i, cls = .ref D0 ∧ od = none ∧ L2.ExcC K D0 ∧ j = some i ∧ σ[i]? = some (some (.ref a)) ∧ kitAll g K D0 t b ∧ (b = true → ∃ v, cstV u = some v ∧ D.rt v H) ∧ (b = false → rdX g K j a cls od l D σ H)
/-! ### from the text -/
def cIsx (ci : CI) (en : Option (Str × Nat)) : Expr → Option (Option Nat)
  | .Call (.Name f _) [.Name e _, .Name y _] [] _ => if f = "isinstance" ∧ ci.blt f = true ∧ (en.any fun p => decide (p.1 = e)) = true ∧ ci.nv e = en.map (·.2) then
      (match ci.tab.exs.lookup y with
      | some c => if ci.gl y = true ∧ fine y = true then some (some c) else none
      | none => if y = "ValueError" ∧ ci.blt y = true then some none else none)
    else none
  | _ => none
def cSuite (ci : CI) (en : Option (Str × Nat)) : List Stmt → Option (List XI)
  | [] => some []
  | [.Return none _] => some [.ret .non]
  | [.Return (some (.Constant v _ _)) _] => (cConst v).map fun u => [.ret u]
  | .If (.Compare (.Name x _) [.Eq] [.Constant (.int n) _ _] _) [.Return (some (.Constant v _ _)) _] [] _ :: r => (match ci.nv x, cConst v, cSuite ci en r with
    | some i, some u, some l => some (.ifi i n u :: l)
    | _, _, _ => none)
  | .If (.BoolOp .And [c1, c2] _) [.Return (some (.Constant v _ _)) _] [] _ :: r => (match cIsx ci en c1, cIsx ci en c2, cConst v, cSuite ci en r with
    | some a, some b, some u, some l => some (.ifx [a, b] u :: l)
    | _, _, _, _ => none)
  | _ => none
variable (O : CIok ci X) (T : TabOk g Φ X k ci.tab) (hK : g.K = X.K)
include O T
/-- isinstance of the exception at hand -/
theorem cIsx_ok {en : Option (Str × Nat)} {e : Expr} {o : Option Nat} (h : cIsx ci en e = some o) {a : Addr} {oe : Obj} {cls : Value} {od : Option Addr} {pn : List (Addr × Obj)} (hz : Zc cls od oe) (hf : ∃ vs, oe.data = .fields vs) :
    PT (X.suite a ((a, oe) :: pn)) e (fun σ H Q => ∃ D0 b i, cls = .ref D0 ∧ od = none ∧ L2.ExcC X.K D0 ∧ en.map (·.2) = some i ∧ σ[i]? = some (some (.ref a)) ∧ kitO g X.K D0 o b ∧ Q b H) := by
  unfold cIsx at h
  split at h
  · rename_i f pf en' pe y py cp
    split at h
    · rename_i hh
      obtain ⟨rfl, hb, hen, hnv⟩ := hh
      obtain ⟨g1, g2, g3, g4⟩ := O.blt T hb
      -- the name
      cases en with
      | none => cases hen
      | some q =>
        obtain ⟨qn, qi⟩ := q
        have hq : qn = en' := by simpa using hen
        subst hq
        have nv := O.nv (show ci.nv qn = some qi from hnv)
        have arg : ∃ (cv : Value) (c : V), (∀ u, RelV c u → u = cv) ∧ PE (X.suite a ((a, oe) :: pn)) (.Name y py) (tC c) ∧ ∀ D0 b, kitO g X.K D0 o b → PySem.W.kitOne X.K (.ref D0) cv = some b := by
          split at h
          · rename_i c ec
            split at h
            · rename_i hg
              cases h
              obtain ⟨C, B, newId, initId, bmB, e1, e2, e3, e4, e5, e6⟩ := (T.ex _ _ ec).ex
              exact ⟨.ref C, .ref C, fun u r => r, pe_glob (X := X.suite a ((a, oe) :: pn)) (O.gl hg.1) e4 rfl (fine_ok hg.2).1, fun D0 b q => by rw [← e1]; exact q⟩
            · cases h
          · split at h
            · rename_i hg
              cases h
              obtain ⟨rfl, hb2⟩ := hg
              obtain ⟨f1, f2, f3, f4⟩ := O.blt T hb2
              exact ⟨.type "ValueError", .ty "ValueError", fun u r => r, pe_bltn (X := X.suite a ((a, oe) :: pn)) (v := .ty "ValueError") f1 f2 rfl rfl f3 f4, fun D0 b q => q⟩
            · cases h
        obtain ⟨cv, c, hcv, hpe, hkit⟩ := arg
        refine ⟨fun pins s σ H Q I q => ?_⟩
        obtain ⟨D0, b, i, rfl, rfl, hC, hi, hs, hk, hQ⟩ := q
        cases hi
        have P := pt_val (X := X.suite a ((a, oe) :: pn)) (e := .Call (.Name "isinstance" pf) [.Name qn pe, .Name y py] [] cp) (pe_callB (X := X.suite a ((a, oe) :: pn)) (L2.call_isE hC hz hf) g1 g2 rfl (pa_cons (pe_var (X := X.suite a ((a, oe) :: pn)) nv.at_ nv.vis nv.d1 nv.d2) (pa_cons hpe pa_nil (star_ok rfl)) (star_ok rfl)) g3 g4 (star_ok rfl) rfl) (fun _ => rfl)
        exact P.run pins s σ H Q I ⟨_, hs, c, cv, b, rfl, hcv, hkit D0 b hk, b, rfl, hQ⟩
    · cases h
  · cases h
theorem cSuite_ok {en : Option (Str × Nat)} : ∀ {l : List Stmt} {xs : List XI}, cSuite ci en l = some xs → ∀ {a : Addr} {oe : Obj} {cls : Value} {od : Option Addr} {pn : List (Addr × Obj)}, Zc cls od oe → (∃ vs, oe.data = .fields vs) →
    PSs (X.suite a ((a, oe) :: pn)) l (rdX g X.K (en.map (·.2)) a cls od xs)
  | l, xs, h, a, oe, cls, od, pn, hz, hf => by
    unfold cSuite at h
    split at h
    · cases h
      exact PSs.imp pss_nil fun D σ H q => q
    · cases h
      refine PSs.imp (pss_cons ps_retN pss_nil) fun D σ H q => ?_
      obtain ⟨v, e, q⟩ := q
      cases e
      exact q
    · rw [Option.map_eq_some_iff] at h
      obtain ⟨u, e1, rfl⟩ := h
      rename_i v j p p2
      obtain ⟨w, ew, pw⟩ := pe_cst (X := X.suite a ((a, oe) :: pn)) (j := j) (p := p) e1
      refine PSs.imp (pss_cons (ps_ret pw) pss_nil) fun D σ H q => ?_
      obtain ⟨v', e, q⟩ := q
      rw [ew] at e
      cases e
      exact q
    · rename_i x px nn jn pn' pc v jv pv pr pi r
      split at h
      · rename_i i u l' e1 e2 e3
        cases h
        obtain ⟨w, ew, pw⟩ := pe_cst (X := X.suite a ((a, oe) :: pn)) (j := jv) (p := pv) e2
        have nv := O.nv e1
        have rest := cSuite_ok e3 (a := a) (oe := oe) (cls := cls) (od := od) (pn := pn) hz hf
        refine PSs.imp (pss_cons (ps_if (pt_cmp (pc_eqI (pe_var (X := X.suite a ((a, oe) :: pn)) nv.at_ nv.vis nv.d1 nv.d2) pe_int) rfl) (pss_cons (ps_ret pw) pss_nil) pss_nil) rest) fun D σ H q => ?_
        obtain ⟨m, hm, q1, q2⟩ := q
        refine ⟨_, hm, m, nn, rfl, rfl, _, rfl, ?_⟩
        by_cases he : m = nn
        · simp only [he, decide_true, if_true]
          obtain ⟨v', ev', q⟩ := q1 he
          rw [ew] at ev'
          cases ev'
          exact q
        · simp only [he, decide_false, Bool.false_eq_true, if_false]
          exact q2 he
      · cases h
    · rename_i c1 c2 pb v jv pv pr pi r
      split at h
      · rename_i o1 o2 u l' e1 e2 e3 e4
        cases h
        obtain ⟨w, ew, pw⟩ := pe_cst (X := X.suite a ((a, oe) :: pn)) (j := jv) (p := pv) e3
        have t1 := cIsx_ok O T e1 (a := a) (oe := oe) (cls := cls) (od := od) (pn := pn) hz hf
        have t2 := cIsx_ok O T e2 (a := a) (oe := oe) (cls := cls) (od := od) (pn := pn) hz hf
        have rest := cSuite_ok e4 (a := a) (oe := oe) (cls := cls) (od := od) (pn := pn) hz hf
        refine PSs.imp (pss_cons (ps_if (PW.pt (pw_and t1 (pw_and1 t2))) (pss_cons (ps_ret pw) pss_nil) pss_nil) rest) fun D σ H q => ?_
        obtain ⟨D0, b, i, rfl, rfl, hC, hi, hs, hk, q1, q2⟩ := q
        obtain ⟨b1, k1, f1, f2⟩ := hk
        refine ⟨D0, b1, i, rfl, rfl, hC, hi, hs, k1, ?_⟩
        cases b1 with
        | false =>
          rw [if_neg (by decide)]
          exact q2 (f1 rfl)
        | true =>
          rw [if_pos rfl]
          obtain ⟨b2, k2, f3, f4⟩ := f2 rfl
          refine ⟨D0, b2, i, rfl, rfl, hC, hi, hs, k2, ?_⟩
          cases b2 with
          | false =>
            rw [if_neg (by decide)]
            exact q2 (f3 rfl)
          | true =>
            rw [if_pos rfl]
            obtain ⟨v', ev', q⟩ := q1 (f4 rfl)
            rw [ew] at ev'
            cases ev'
            exact q
      · cases h
    · cases h
end
end Pi

/-! Pi10u: try .. except, by data. -/
namespace Pi
open PySem L2 PySem.Spec PyProof.Rows
section
variable {g : GC} {Φ : Phi} {X : Cx} {ci : CI} {W : WX} {k n : Nat} {al al0 : Al} {H H0 : Hp} {S S' : Sto} {r r' : Rho} {σ : L2.St} {K : PySem.W.Frag} {sub : Nat → Nat → Option Bool}
theorem xAll_kit (B : SubOk g K sub) {c : Nat} {D0 : Addr} (hc : g.xa c = .ref D0) (hv : PySem.W.kitOne K (.ref D0) (.type "ValueError") = some true) : ∀ {t : List (Option Nat)} {b : Bool}, xAll sub c t = some b → kitAll g K D0 t b
  | [], b, h => by cases h; rfl
  | none :: t, b, h => ⟨true, hv, (fun z => nomatch z), fun _ => xAll_kit B hc hv (t := t) h⟩
  | some q :: t, b, h => by
    unfold xAll at h
    split at h
    · rename_i e
      obtain ⟨D1, e1, _, e3, _⟩ := B.kt _ _ _ e
      rw [hc] at e1
      cases e1
      exact ⟨true, e3, (fun z => nomatch z), fun _ => xAll_kit B hc hv (t := t) h⟩
    · rename_i e
      cases h
      obtain ⟨D1, e1, _, e3, _⟩ := B.kt _ _ _ e
      rw [hc] at e1
      cases e1
      exact ⟨false, e3, fun _ => rfl, (fun z => nomatch z)⟩
    · cases h
theorem suite_rd (B : SubOk g K sub) {c c0 : Nat} {b0 : Bool} (hc : sub c c0 = some b0) {j : Option Nat} {a : Addr} {D : Ends} (rs : RS g H0 al0 r S al σ H) (hj : ∀ i, j = some i → σ[i]? = some (some (.ref a))) : ∀ (l : List XI), ((∃ (t : List (Option Nat)) (u : E), XI.ifx t u ∈ l) → j.isSome = true) →
    (match xiS sub c l r S with | .nx _ _ => D.nx σ H | .rt d _ => ∀ v, Dt g al H v d → D.rt v H | _ => False) → rdX g K j a (g.xa c) none l D σ H
  | [], _, h => h
  | .ret u :: l, _, h => by
    simp only [xiS] at h
    cases e : cst u with
    | none => rw [e] at h; exact h.elim
    | some d =>
      rw [e] at h
      obtain ⟨v, e1, e2⟩ := cstV_of e
      exact ⟨v, e1, h v (e2 al H)⟩
  | .ifi i n u :: l, hl, h => by
    simp only [xiS] at h
    have key : ∃ m, r[i]? = some (some (.v (.int m))) := by
      cases hr : r[i]? with
      | none => rw [hr] at h; exact h.elim
      | some o =>
        rw [hr] at h
        cases o with
        | none => exact h.elim
        | some s =>
          cases s with
          | v d =>
            cases d <;> first | exact ⟨_, rfl⟩ | exact h.elim
          | ol xs => exact h.elim
          | od xs => exact h.elim
    obtain ⟨m, e⟩ := key
    rw [e] at h
    obtain ⟨v, ev, q⟩ := rs.sl i _ e
    cases q
    refine ⟨m, ev, fun he => ?_, fun he => ?_⟩
    · simp only [if_pos he] at h
      cases e : cst u with
      | none => rw [e] at h; exact h.elim
      | some d =>
        rw [e] at h
        obtain ⟨v, e1, e2⟩ := cstV_of e
        exact ⟨v, e1, h v (e2 al H)⟩
    · simp only [if_neg he] at h
      exact suite_rd B hc rs hj l (fun ⟨t, u, hm⟩ => hl ⟨t, u, List.mem_cons_of_mem _ hm⟩) h
  | .ifx t u :: l, hl, h => by
    simp only [xiS] at h
    obtain ⟨D0, e1, e2, _, e4⟩ := B.kt _ _ _ hc
    obtain ⟨i, hi⟩ := Option.isSome_iff_exists.mp (hl ⟨t, u, List.mem_cons_self⟩)
    cases e : xAll sub c t with
    | none => rw [e] at h; exact h.elim
    | some b =>
      rw [e] at h
      refine ⟨D0, b, i, e1, rfl, e2, hi, hj i hi, xAll_kit B e1 e4 e, fun hb => ?_, fun hb => ?_⟩
      · subst hb
        cases e : cst u with
        | none => rw [e] at h; exact h.elim
        | some d =>
          rw [e] at h
          obtain ⟨v, e1, e2⟩ := cstV_of e
          exact ⟨v, e1, h v (e2 al H)⟩
      · subst hb
        exact suite_rd B hc rs hj l (fun ⟨t, u, hm⟩ => hl ⟨t, u, List.mem_cons_of_mem _ hm⟩) h
theorem xiS_cases (c : Nat) : ∀ (l : List XI) (r : Rho) (S : Sto), xiS sub c l r S = .nx r S ∨ (∃ d, xiS sub c l r S = .rt d S) ∨ xiS sub c l r S = .bad
  | [], r, S => .inl rfl
  | .ret u :: l, r, S => by
    simp only [xiS]
    cases cst u with
    | none => exact .inr (.inr rfl)
    | some d => exact .inr (.inl ⟨d, rfl⟩)
  | .ifi i n u :: l, r, S => by
    simp only [xiS]
    split
    · split
      · cases cst u with
        | none => exact .inr (.inr rfl)
        | some d => exact .inr (.inl ⟨d, rfl⟩)
      · exact xiS_cases c l r S
    · exact .inr (.inr rfl)
  | .ifx t u :: l, r, S => by
    simp only [xiS]
    cases xAll sub c t with
    | none => exact .inr (.inr rfl)
    | some b =>
      cases b with
      | true =>
        cases cst u with
        | none => exact .inr (.inr rfl)
        | some d => exact .inr (.inl ⟨d, rfl⟩)
      | false => exact xiS_cases c l r S
/-- a suite's end, read at a place -/
theorem suite_end {c : Nat} {l : List XI} {D : Ends} (rs : RS g H0 al0 r S al σ H) (h : PstS g W H0 al0 (xiS sub c l r S) D) : match xiS sub c l r S with | .nx _ _ => D.nx σ H | .rt d _ => ∀ v, Dt g al H v d → D.rt v H | _ => False := by
  rcases xiS_cases (sub := sub) c l r S with e | ⟨d, e⟩ | e
  · rw [e] at h ⊢
    exact h σ H al rs
  · rw [e] at h ⊢
    exact fun v q => h v H al rs.keep rs.pre rs.sto q
  · rw [e] at h
    exact h.elim
theorem RS.setX (h : RS g H0 al0 r S al σ H) (j : Nat) (o : Option V) : RS g H0 al0 (r.set j none) S al (σ.set j o) H := by
  refine ⟨h.keep, h.pre, h.sto, by rw [List.length_set, List.length_set]; exact h.len, fun i s e => ?_, fun i i' s t a ne e e' w w' q => ?_⟩
  · have hij : i ≠ j := fun z => by
      subst z
      by_cases hl : i < r.length
      · rw [List.getElem?_set_self hl] at e; cases e
      · rw [List.getElem?_eq_none (by rw [List.length_set]; omega)] at e; cases e
    rw [List.getElem?_set_ne (Ne.symm hij)] at e
    obtain ⟨v, ev, q⟩ := h.sl i s e
    exact ⟨v, by rw [List.getElem?_set_ne (Ne.symm hij)]; exact ev, q⟩
  · have off : ∀ (i : Nat) (s : Sl), (r.set j none)[i]? = some (some s) → i ≠ j ∧ r[i]? = some (some s) := fun i s e => by
      have hij : i ≠ j := fun z => by
        subst z
        by_cases hl : i < r.length
        · rw [List.getElem?_set_self hl] at e; cases e
        · rw [List.getElem?_eq_none (by rw [List.length_set]; omega)] at e; cases e
      rw [List.getElem?_set_ne (Ne.symm hij)] at e
      exact ⟨hij, e⟩
    obtain ⟨n1, e1⟩ := off i s e
    obtain ⟨n2, e2⟩ := off i' t e'
    rw [List.getElem?_set_ne (Ne.symm n1)] at q
    rw [List.getElem?_set_ne (Ne.symm n2)]
    exact h.nd i i' s t a ne e1 e2 w w' q
/-! ### from the text -/
def hasX : List XI → Bool
  | [] => false
  | .ifx _ _ :: _ => true
  | _ :: l => hasX l
theorem hasX_no : ∀ {l : List XI}, hasX l = false → ¬ ∃ (t : List (Option Nat)) (u : E), XI.ifx t u ∈ l
  | [], _, ⟨_, _, h⟩ => nomatch h
  | .ret u :: l, hh, ⟨t, v, h⟩ => by
    rcases List.mem_cons.mp h with h | h
    · cases h
    · exact hasX_no (l := l) hh ⟨t, v, h⟩
  | .ifi _ _ u :: l, hh, ⟨t, v, h⟩ => by
    rcases List.mem_cons.mp h with h | h
    · cases h
    · exact hasX_no (l := l) hh ⟨t, v, h⟩
def cHds (ci : CI) : List ExceptHandler → Option (List (Nat × List XI))
  | [] => some []
  | .ExceptHandler (some (.Name x _)) none (b :: su) _ :: r => (match ci.tab.exs.lookup x, cSuite ci none (b :: su), cHds ci r with
    | some c, some xs, some l => if ci.gl x = true ∧ fine x = true ∧ hasX xs = false then some ((c, xs) :: l) else none
    | _, _, _ => none)
  | _ => none
/-- the clauses' wishes -/
def hdL (g : GC) (K : PySem.W.Frag) (hs : List (Nat × List XI)) : List (Value × (Addr → Value → Option Addr → TS)) := hs.map fun p => (g.xa p.1, fun a cls od => rdX g K none a cls od p.2)
variable (O : CIok ci X) (T : TabOk g Φ X k ci.tab)
include O T
theorem cHds_ok : ∀ {hs : List ExceptHandler} {l : List (Nat × List XI)}, cHds ci hs = some l → HdsOk X hs (hdL g X.K l) ∧ ∀ p ∈ l, hasX p.2 = false
  | hs, l, h => by
    unfold cHds at h
    split at h
    · cases h
      exact ⟨.nil, fun _ h => nomatch h⟩
    · rename_i x px b su p2 r
      split at h
      · rename_i c xs l' e1 e2 e3
        split at h
        · rename_i hh
          obtain ⟨h1, h2, h3⟩ := hh
          cases h
          obtain ⟨q1, q2⟩ := cHds_ok e3
          obtain ⟨C, B, newId, initId, bmB, f1, f2, f3, f4, f5, f6⟩ := (T.ex _ _ e1).ex
          refine ⟨.cons (c := g.xa c) ⟨O.gl h1, (fine_ok h2).1, .inl (by rw [f1]; exact f4)⟩ (fun a oe cls d pn hz hf => cSuite_ok O T e2 hz hf) q1, fun p hp => ?_⟩
          rcases List.mem_cons.mp hp with rfl | hp
          · exact h3
          · exact q2 p hp
        · cases h
      · cases h
    · cases h
omit O T
/-- the exception's way through the clauses -/
theorem many_of (B : SubOk g K sub) {D : Ends} {c : Nat} (rs : RS g H0 al0 r S al σ H) : ∀ {l : List (Nat × List XI)}, (∀ p ∈ l, hasX p.2 = false) → PstS g W H0 al0 (exHs sub c l r S) D → wMany K W D (hdL g K l) (g.xa c) none σ H
  | [], _, h => h σ H al rs
  | (c', xs) :: l, hx, h => by
    simp only [exHs] at h
    cases e : sub c c' with
    | none => rw [e] at h; exact h.elim
    | some b =>
      rw [e] at h
      refine ⟨b, B.ex _ _ _ e, fun hb a ha => ?_, fun hb => ?_⟩
      · subst hb
        exact suite_rd (j := none) B e rs (fun i z => nomatch z) xs (fun z => (hasX_no (hx _ List.mem_cons_self) z).elim) (suite_end rs h)
      · subst hb
        exact many_of B rs (fun p hp => hx p (List.mem_cons_of_mem _ hp)) h
theorem as_of (B : SubOk g K sub) {D : Ends} {c c' j : Nat} {xs : List XI} (hjl : j < r.length) (rs : RS g H0 al0 r S al σ H) (h : PstS g W H0 al0 (match sub c c' with | some true => xiS sub c xs (r.set j none) S | some false => .xc c r S | none => .bad) D) :
    wAs K (g.xa c') j (fun a cls od => rdX g K (some j) a cls od xs) W D (g.xa c) none σ H := by
  cases e : sub c c' with
  | none => rw [e] at h; exact h.elim
  | some b =>
    rw [e] at h
    refine ⟨b, B.ex _ _ _ e, fun hb a ha => ?_, fun hb => ?_⟩
    · subst hb
      have rs' := rs.setX j (some (.ref a))
      refine suite_rd B e rs' (fun i z => by cases z; exact List.getElem?_set_self (by rw [rs.len]; exact hjl)) xs (fun _ => rfl) ?_
      have q := suite_end (rs.setX j none) h
      have fin : ∀ D' : Ends, D'.rt = D.rt → D'.nx (σ.set j (some (.ref a))) H = D.nx (σ.set j none) H → (match xiS sub c xs (r.set j none) S with | .nx _ _ => D.nx (σ.set j none) H | .rt d _ => ∀ v, Dt g al H v d → D.rt v H | _ => False) →
          (match xiS sub c xs (r.set j none) S with | .nx _ _ => D'.nx (σ.set j (some (.ref a))) H | .rt d _ => ∀ v, Dt g al H v d → D'.rt v H | _ => False) := by
        intro D' e1 e2 q
        rw [e1, e2]
        exact q
      exact fin _ rfl (by show D.nx ((σ.set j (some (.ref a))).set j none) H = _; rw [List.set_set]) q
    · subst hb
      exact h σ H al rs
end
end Pi

/-! Pi11: a def's whole body, and all defs of a program. -/
namespace Pi
open PySem L2 PySem.Spec PyProof.Rows
section
variable {g : GC} {Φ : Phi} {X : Cx} {ci : CI} {W : WX} {k n : Nat}
structure SFam where
  cS : CI → Stmt → Option S
  cB : CI → List Stmt → Option SL
def stepS (F : Fam) (Q : SFam) (ci : CI) (st : Stmt) : Option S :=
  match st with
  | .Pass _ => some .pass
  | .Break _ => some .brk
  | .Continue _ => some .cont
  | .Return (some e) _ => (F.cE ci e).map S.ret
  | .Return none _ => some (.ret .non)
  | .Expr e _ => cExpr F ci e
  | .Assign [a] v _ => cAssign F ci a v
  | .AugAssign (.Name x _) o v _ => cAug F ci x o v
  | .If c a b _ => (match F.cT ci c, Q.cB ci a, Q.cB ci b with
    | some t, some u, some v => some (.ite t u v)
    | _, _, _ => none)
  | .While c b [] _ => (match F.cT ci c, Q.cB ci b with
    | some t, some u => some (.whl t u)
    | _, _ => none)
  | .For tg iter b [] _ => (match cTg ci tg, F.cI ci tg iter, Q.cB ci b with
    | some t, some it, some u => some (.for t it u)
    | _, _, _ => none)
  | .Raise (some (.Call (.Name x _) args [] _)) none _ => cRaise F ci x args
  | .Delete [.Subscript c (.Slice (some a) none none _) _] _ => (match F.cE ci c, F.cE ci a with
    | some u, some v => some (.cdels u v)
    | _, _ => none)
  | .Try body [.ExceptHandler (some (.Name x _)) (some n) (b :: su) _] [] [] _ => (match Q.cB ci body, ci.tab.exs.lookup x, ci.nv n with
    | some u, some c, some j => (match cSuite ci (some (n, j)) (b :: su) with
      | some xs => if ci.gl x = true ∧ fine x = true ∧ ci.sc.lookup n = some .local then some (.trx u c j xs) else none
      | none => none)
    | _, _, _ => none)
  | .Try body (h0 :: hs) [] [] _ => (match Q.cB ci body, cHds ci (h0 :: hs) with
    | some u, some l => some (.tri u l)
    | _, _ => none)
  | _ => none
def stepB (Q : SFam) (ci : CI) (l : List Stmt) : Option SL :=
  match l with
  | [] => some .nil
  | st :: r => (match Q.cS ci st, Q.cB ci r with
    | some s, some l => some (.cons s l)
    | _, _ => none)
def sfam (F : Fam) : Nat → SFam
  | 0 => ⟨fun _ _ => none, fun _ _ => none⟩
  | n + 1 => ⟨fun ci st => (stepS F (sfam F n) ci st).map frzS, stepB (sfam F n)⟩
structure SndS (g : GC) (Φ : Phi) (k : Nat) (Q : SFam) : Prop where
  cS : ∀ {ci X W}, GoodS g Φ k ci X W → ∀ {st s}, Q.cS ci st = some s → SS g Φ X W st s
  cB : ∀ {ci X W}, GoodS g Φ k ci X W → ∀ {l s}, Q.cB ci l = some s → SB g Φ X W l s
/-- within a try -/
theorem tr_good (Y : GoodS g Φ k ci X W) {W' : WX} {pn : List (Addr × Obj)} {xe : Value → Shared → Prop} (tk : Takes (X.tr pn xe) W') (po : PassesOwn (model X.prog X.w) X.A X.env xe) : GoodS g Φ k ci (X.tr pn xe) W' := by
  have Z := Y.Z
  refine ⟨⟨⟨Z.O.N, Z.O.sc, Z.O.kd, Z.O.fn⟩, ⟨Z.T.fn, Z.T.F, fun x c h => ?_, fun x c h => ?_, Z.T.bl, Z.T.co, Z.T.at_, Z.T.room, Z.T.gd, Z.T.sm, fun x t h => ⟨(Z.T.tb x t h).ex⟩, Z.T.met⟩, ⟨Z.G.hK, Z.G.calm, Z.G.room, Z.G.nd⟩, passAt tk⟩, tk, po, Y.st, Y.fr, Y.sb⟩
  · have C := Z.T.cl x c h
    exact ⟨C.mg, C.mkc, C.cls, C.F⟩
  · have q := (Z.T.ex x c h).ex
    exact ⟨q⟩
/-- try .. except, the body's end and the clauses' -/
theorem pst_try {H0 : Hp} {al0 : Al} {o : SO} {D : Ends} {f : Nat → Rho → Sto → SO} {W1 : WX} (h : PstS g W H0 al0 (match o with | .xc k r S => f k r S | o => o) D) (hx : ∀ k r S, PstS g W H0 al0 (f k r S) D → ∀ σ H al, RS g H0 al0 r S al σ H → W1 (g.xa k) none σ H) : PstS g W1 H0 al0 o D := by
  cases o with
  | nx r S => exact h
  | bk r S => exact h
  | ct r S => exact h
  | rt d S => exact h
  | xc k r S => exact hx k r S h
  | bad => exact h
theorem tri_ok (Y : GoodS g Φ k ci X W) {body : List Stmt} {h0 : ExceptHandler} {hs : List ExceptHandler} {pos : Pos} {u : SL} {l : List (Nat × List XI)} (hb : ∀ (W' : WX) (pn : List (Addr × Obj)) (xe : Value → Shared → Prop), GoodS g Φ k ci (X.tr pn xe) W' → SB g Φ (X.tr pn xe) W' body u) (hl : cHds ci (h0 :: hs) = some l) : SS g Φ X W (.Try body (h0 :: hs) [] [] pos) (.tri u l) := by
  obtain ⟨q1, q2⟩ := cHds_ok Y.Z.O Y.Z.T hl
  refine PS.imp (ps_try_many Y.st Y.fr Y.tk (tb := fun W' => TSt g W' (exL Φ u)) (fun W' pn xe tk po => hb W' pn xe (tr_good Y tk po)) q1) ?_
  rintro D σ H ⟨H0, al0, al, r, S, rs, h⟩
  refine ⟨H0, al0, al, r, S, rs, ?_⟩
  simp only [ex] at h
  exact pst_try h fun k r S q σ H al rs => many_of Y.sb rs q2 q
theorem trx_ok (Y : GoodS g Φ k ci X W) {body su : List Stmt} {b : Stmt} {x n : Str} {px p2 pos : Pos} {u : SL} {c j : Nat} {xs : List XI} (hb : ∀ (W' : WX) (pn : List (Addr × Obj)) (xe : Value → Shared → Prop), GoodS g Φ k ci (X.tr pn xe) W' → SB g Φ (X.tr pn xe) W' body u) (hc : ci.tab.exs.lookup x = some c) (hj : ci.nv n = some j) (hs : cSuite ci (some (n, j)) (b :: su) = some xs) (hg : ci.gl x = true) (hf : fine x = true) (hln : ci.sc.lookup n = some .local) :
    SS g Φ X W (.Try body [.ExceptHandler (some (.Name x px)) (some n) (b :: su) p2] [] [] pos) (.trx u c j xs) := by
  have nv := Y.Z.O.nv hj
  obtain ⟨C, B, newId, initId, bmB, f1, f2, f3, f4, f5, f6⟩ := (Y.Z.T.ex _ _ hc).ex
  have nmx : Names X x (g.xa c) := ⟨Y.Z.O.gl hg, (fine_ok hf).1, .inl (by rw [f1]; exact f4)⟩
  have hln' : X.env.kindOf n = some .local := by
    show X.env.scope.names.lookup n = _
    rw [Y.Z.O.sc]
    exact hln
  refine PS.imp (ps_try_as Y.st Y.fr Y.Z.G.nd nv.at_ hln' nmx Y.tk (tb := fun W' => TSt g W' (exL Φ u)) (ts := fun a cls od => rdX g X.K (some j) a cls od xs) (fun W' pn xe tk po => hb W' pn xe (tr_good Y tk po)) (fun a oe cls d pn hz hf => cSuite_ok Y.Z.O Y.Z.T hs hz hf)) ?_
  rintro D σ H ⟨H0, al0, al, r, S, rs, h⟩
  refine ⟨H0, al0, al, r, S, rs, ?_⟩
  simp only [ex] at h
  refine pst_try (f := fun k r S => if j < r.length then (match Φ.sub k c with
        | some true => xiS Φ.sub k xs (r.set j none) S
        | some false => .xc k r S
        | none => .bad) else .bad) h fun k r S q σ H al rs => ?_
  by_cases hl : j < r.length
  · rw [if_pos hl] at q
    exact as_of Y.sb hl rs q
  · rw [if_neg hl] at q
    exact q.elim
theorem stepS_ok {F : Fam} {Q : SFam} (H : Snd g Φ k F) (K : SndS g Φ k Q) (Y : GoodS g Φ k ci X W) {st : Stmt} {s : S} (h : stepS F Q ci st = some s) : SS g Φ X W st s := by
  unfold stepS at h
  split at h
  · cases h; show PS X _ _; simp only [ex]; exact ts_pass
  · cases h; show PS X _ _; simp only [ex]; exact ts_break
  · cases h; show PS X _ _; simp only [ex]; exact ts_continue
  · rw [Option.map_eq_some_iff] at h
    obtain ⟨u, e1, rfl⟩ := h
    show PS X _ _; simp only [ex]; exact ts_ret (H.cE Y.Z e1).v
  · cases h; show PS X _ _; simp only [ex, ev]; exact ts_retN
  · exact cExpr_ok Y H h
  · exact cAssign_ok Y H h
  · exact cAug_ok Y H h
  · split at h
    · rename_i t u v e1 e2 e3
      cases h
      show PS X _ _; simp only [ex]; exact ts_if (H.cT Y.Z e1) (K.cB Y e2) (K.cB Y e3)
    · cases h
  · split at h
    · rename_i t u e1 e2
      cases h
      show PS X _ _; simp only [ex]; exact ts_while Y.po (H.cT Y.Z e1) (K.cB Y e2)
    · cases h
  · split at h
    · rename_i t it u e1 e2 e3
      cases h
      have I := H.cI Y.Z e2
      show PS X _ _; simp only [ex]; exact ts_for Y.Z.G Y.po I.i (cTg_ok Y.Z.O Y.Z.G e1) (K.cB Y e3) I.s
    · cases h
  · exact cRaise_ok Y H h
  · split at h
    · rename_i u v e1 e2
      cases h
      show PS X _ _; simp only [ex]; exact ts_cdels (H.cE Y.Z e1).v (H.cE Y.Z e2).v
    · cases h
  · split at h
    · rename_i u c j e1 e2 e3
      split at h
      · rename_i xs e4
        split at h
        · rename_i hh
          cases h
          exact trx_ok Y (fun W' pn xe Y' => K.cB Y' e1) e2 e3 e4 hh.1 hh.2.1 hh.2.2
        · cases h
      · cases h
    · cases h
  · split at h
    · rename_i u l e1 e2
      cases h
      exact tri_ok Y (fun W' pn xe Y' => K.cB Y' e1) e2
    · cases h
  · cases h
theorem sfam_ok {F : Fam} (H : Snd g Φ k F) : ∀ n, SndS g Φ k (sfam F n)
  | 0 => ⟨fun _ _ _ h => (nomatch h), fun _ _ _ h => (nomatch h)⟩
  | n + 1 => by
    have K := sfam_ok H n
    refine ⟨fun Y st s h => ?_, fun Y l s h => ?_⟩
    · simp only [sfam, Option.map_eq_some_iff] at h
      obtain ⟨s', e1, rfl⟩ := h
      exact frzS_ok (stepS_ok H K Y e1)
    · simp only [sfam] at h
      unfold stepB at h
      split at h
      · cases h
        show PSs _ _ _
        simp only [exL]
        exact tss_nil
      · split at h
        · rename_i s1 l1 e1 e2
          cases h
          show PSs _ _ _
          simp only [exL]
          exact tss_cons (K.cS Y e1) (K.cB Y e2)
        · cases h

/-! ### the program's tables -/
variable {P : Program} {w : World} {K : PySem.W.Frag} {mg : Str → Option Value} {base : Heap} {tab : Tab}
structure ModOk (g : GC) (K : PySem.W.Frag) (w : World) (mg : Str → Option Value) (tab : Tab) (ini : Nat → Nat) (nf : Nat) (sub : Nat → Nat → Option Bool) (met : Nat → Str → Option Nat) (tb : Nat → List (Str × D)) : Prop where
  hK : g.K = K
  sb : SubOk g K sub
  fn : ∀ x i, tab.fns.lookup x = some i → mg x = some (.ref (g.fa i)) ∧ i < nf
  cl : ∀ x c, tab.cls.lookup x = some c → mg x = some (.ref (g.ca c)) ∧ Mk K (g.ca c) (g.fa (ini c)) ∧ Cls K (g.ca c) ∧ ini c < nf
  ex : ∀ x c, tab.exs.lookup x = some c → ∃ (C : Addr) (B newId initId : String) (bmB : List Value), g.xa c = .ref C ∧ ExcBaseFacts B newId initId bmB ∧ PySem.W.excIn K C bmB newId = true ∧ mg x = some (.ref C) ∧ PySem.W.keepIn K (.ref C) = true ∧ (∀ X : Cx, X.K = K → Raises X (.ref C))
  bl : ∀ x, x ∈ tab.blt → mg x = none
  co : ∀ x d, tab.con.lookup x = some d → ∃ v u, mg x = some u ∧ RelV v u ∧ ∀ al H, Dt g al H v d
  at_ : ∀ f, f ∈ tab.ats → AtI g f
  tb : ∀ x t, tab.tbs.lookup x = some t → ∃ (d : Addr) (es : Array DictEntry) (n : Nat), mg x = some (.ref d) ∧ KDict K w d es n ∧ ∀ k dv, dget (tb t) k = some dv → ∃ u v, PySem.W.nsIn K d k = some (some u) ∧ RelV v u ∧ ∀ al H, Dt g al H v dv
  met : ∀ c x f, met c x = some f → Cls K (g.ca c) ∧ Meth K (g.ca c) x (g.fa f)
theorem ModOk.tabOk {fx : Fix} {X : Cx} {n : Nat} (M : ModOk g X.K X.w X.mg tab fx.ini fx.tab.length fx.sub fx.met fx.tb) (F : ∀ i, i < fx.tab.length → FnI g (phi fx n) X.prog X.w X.K X.mg X.base k i) (room : Room (k + 1) X.A) (gd : X.A.guards = some []) (sm : Smx X) :
    TabOk g (phi fx n) X k tab := by
  have hn : (phi fx n).n = fx.tab.length := by cases n <;> rfl
  have hi : (phi fx n).ini = fx.ini := by cases n <;> rfl
  have ht : (phi fx n).tb = fx.tb := by cases n <;> rfl
  have hm : (phi fx n).met = fx.met := by cases n <;> rfl
  refine ⟨fun x i h => ⟨(M.fn x i h).1, by rw [hn]; exact (M.fn x i h).2⟩, fun i h => F i (by rw [← hn]; exact h), fun x c h => ?_, fun x c h => ?_, M.bl, M.co, M.at_, room, gd, sm, fun x t h => ⟨by rw [ht]; exact M.tb x t h⟩, ⟨by rw [hm]; exact M.met⟩⟩
  · obtain ⟨h1, h2, h3, h4⟩ := M.cl x c h
    exact ⟨h1, by rw [hi]; exact h2, h3, by rw [hi]; exact F _ h4⟩
  · obtain ⟨C, B, newId, initId, bmB, e1, e2, e3, e4, e5, e6⟩ := M.ex x c h
    exact ⟨⟨C, B, newId, initId, bmB, e1, e2, e3, e4, e5, e6 X rfl⟩⟩

/-! ### a def -/
theorem RS.start {N : List Str} {vs : List V} {ds : List D} {al : Al} {H : Hp} {S : Sto} (l : DtL g al H vs ds) (st : StoOk g al S H) : RS g H al (ds.map (fun d => some (Sl.v d)) ++ List.replicate (N.length - vs.length) none) S al (start N vs) H := by
  have hl := l.length
  have get : ∀ (i : Nat) (s : Sl), (ds.map (fun d => some (Sl.v d)) ++ List.replicate (N.length - vs.length) none)[i]? = some (some s) → ∃ d, ds[i]? = some d ∧ s = .v d := fun i s e => by
    by_cases hi : i < ds.length
    · rw [List.getElem?_append_left (by rw [List.length_map]; exact hi), List.getElem?_map, Option.map_eq_some_iff] at e
      obtain ⟨d, e1, e2⟩ := e
      cases e2
      exact ⟨d, e1, rfl⟩
    · rw [List.getElem?_append_right (by rw [List.length_map]; omega)] at e
      have := List.mem_of_getElem? e
      rw [List.mem_replicate] at this
      cases this.2
  refine ⟨Keep.refl al H, Ext.refl al H, st, ?_, fun i s e => ?_, fun i j s t x ne e e' w _ _ => ?_⟩
  · unfold L2.start
    rw [List.length_append, List.length_append, List.length_map, List.length_map, List.length_replicate, List.length_replicate, hl]
  · obtain ⟨d, e1, rfl⟩ := get i s e
    obtain ⟨v, ev, dv⟩ := l.get e1
    refine ⟨v, ?_, dv⟩
    unfold L2.start
    rw [List.getElem?_append_left (by rw [List.length_map]; exact (List.getElem?_eq_some_iff.mp ev).1), List.getElem?_map, ev]
    rfl
  · obtain ⟨d, _, rfl⟩ := get i s e
    cases w
/-- what is known of a def of the text -/
structure DefOk (g : GC) (K : PySem.W.Frag) (tab : Tab) (nE nS : Nat) (i : Nat) (d : DF) : Prop where
  ex : ∃ (x qual : Str) (st : Stmt) (fd : FuncData) (N ps : List Str), Fun K x qual st (g.fa i) fd ∧ FnScope N ps (defScope st) ∧ Binds K fd ps [] ∧ (sfam (fam nE) nS).cB ⟨tab, N, (defScope st).names, (defScope st).names.map (·.1)⟩ (defBody st) = some d.body ∧ d.ps = ps.length ∧ d.ns = N.length
theorem fnI_step (sm : ∃ o es ep, base.get? sysModules = some o ∧ o.data = .dict es ep) {fx : Fix} {n nE nS i : Nat} {d : DF} (M : ModOk g K w mg tab fx.ini fx.tab.length fx.sub fx.met fx.tb) (F : ∀ i, i < fx.tab.length → FnI g (phi fx n) P w K mg base k i)
    (hd : fx.tab[i]? = some d) (D0 : DefOk g K tab nE nS i d) : FnI g (phi fx (n + 1)) P w K mg base (k + 2) i := by
  obtain ⟨x, qual, st, fd, N, ps, Fu, Sc, hb, hc, hps, hns⟩ := D0.ex
  have hcall : ∀ ds S, (phi fx (n + 1)).call i ds S = runF (phi fx n) d ds S := fun ds S => by
    show (match fx.tab[i]? with | some d => runF (phi fx n) d ds S | none => .bad) = _
    rw [hd]
  have har : ∀ ds S, (phi fx (n + 1)).call i ds S ≠ .bad → ds.length = ps.length := fun ds S h => by
    rw [hcall] at h
    unfold runF at h
    split at h
    · rename_i e; rw [e, hps]
    · exact (h rfl).elim
  have hkp := Fu.kp
  obtain ⟨oc, od, kV, doc, pm, an, cdv, ct, osl, rfl, lk, hcd⟩ := Fu.ex
  refine ⟨_, ps, fn_ofG (k := k + 1) lk hcd Sc (fun vs H Q E h => h.1) ?_, hkp, hb, har⟩
  intro A outer s H vs Q E gd room _ hsp
  obtain ⟨hl, al, ds, S, sto, l, hm⟩ := hsp
  rw [hcall] at hm
  refine ⟨TSt g (fun c d _ H => E c d H) (exL (phi fx n) d.body), ?_, ?_⟩
  · -- the body's rules
    have tk : Takes (cxOf (L2.CX P w) P w K mg base N qual (defScope st) (g.fa i) cdv A outer s H E) (fun c d _ H => E c d H) := takes_of rfl rfl rfl rfl
    have un := room.un
    have G : XG g (cxOf (L2.CX P w) P w K mg base N qual (defScope st) (g.fa i) cdv A outer s H E) := ⟨M.hK, rfl, by show (A.deeper _).units + 200 < cLine; omega, Sc.nd⟩
    have O : CIok ⟨tab, N, (defScope st).names, (defScope st).names.map (·.1)⟩ (cxOf (L2.CX P w) P w K mg base N qual (defScope st) (g.fa i) cdv A outer s H E) := ⟨rfl, rfl, Sc.kind, fun _ _ => rfl⟩
    have T : TabOk g (phi fx n) (cxOf (L2.CX P w) P w K mg base N qual (defScope st) (g.fa i) cdv A outer s H E) k tab := ModOk.tabOk (X := cxOf (L2.CX P w) P w K mg base N qual (defScope st) (g.fa i) cdv A outer s H E) M F room gd sm
    have Y : GoodS g (phi fx n) k ⟨tab, N, (defScope st).names, (defScope st).names.map (·.1)⟩ (cxOf (L2.CX P w) P w K mg base N qual (defScope st) (g.fa i) cdv A outer s H E) (fun c d _ H => E c d H) := ⟨⟨O, T, G, passAt tk⟩, tk, passes_of rfl, rfl, rfl, by
      have e : (phi fx n).sub = fx.sub := by cases n <;> rfl
      rw [e]
      exact M.sb⟩
    exact (sfam_ok (fam_ok nE) nS).cB Y hc
  · -- its reading
    refine ⟨H, al, al, _, S, RS.start (N := N) l sto, ?_⟩
    unfold runF at hm
    have hlen : ds.length = d.ps := by rw [hps, ← hl, l.length]
    rw [if_pos hlen] at hm
    have er : N.length - vs.length = d.ns - d.ps := by rw [hns, hps, hl]
    rw [er]
    revert hm
    generalize exL (phi fx n) d.body (ds.map (fun d => some (Sl.v d)) ++ List.replicate (d.ns - d.ps) none) S = o
    intro hm
    cases o with
    | nx r S' => exact fun σ' H' al' rs => hm H' al' .non rs.keep rs.pre rs.sto .non
    | rt d S' => exact fun v H' al' kp pr st q => hm H' al' v kp pr st q
    | xc c r S' => exact fun σ' H' al' rs => hm H' al' rs.keep rs.pre rs.sto
    | bk r S' => exact hm.elim
    | ct r S' => exact hm.elim
    | bad => exact hm.elim

/-- depth n of calls -/
theorem fnI_zero {fx : Fix} {i nE nS : Nat} {d : DF} (D0 : DefOk g K tab nE nS i d) : FnI g (phi fx 0) P w K mg base 0 i := by
  obtain ⟨x, qual, st, fd, N, ps, Fu, Sc, hb, hc, hps, hns⟩ := D0.ex
  have no : ∀ ar vs H Q E, ¬ SPI g (phi fx 0) ar i vs H Q E := fun ar vs H Q E h => by
    obtain ⟨_, al, ds, S, _, _, hm⟩ := h
    exact hm
  exact ⟨fd, ps, ⟨fun vs H Q E h => (no _ _ _ _ _ h).elim, fun A outer s H args us vs Q E hr gd he hb hv h => (no _ _ _ _ _ h).elim⟩, Fu.kp, hb, fun ds S h => (h rfl).elim⟩
theorem all_fn (sm : ∃ o es ep, base.get? sysModules = some o ∧ o.data = .dict es ep) {fx : Fix} {nE nS : Nat} (M : ModOk g K w mg tab fx.ini fx.tab.length fx.sub fx.met fx.tb) (D0 : ∀ (i : Nat) (d : DF), fx.tab[i]? = some d → DefOk g K tab nE nS i d) :
    ∀ (n i : Nat), i < fx.tab.length → FnI g (phi fx n) P w K mg base (2 * n) i
  | 0, i, hi => fnI_zero (D0 i _ (List.getElem?_eq_getElem hi))
  | n + 1, i, hi => by
    have e : fx.tab[i]? = some fx.tab[i] := List.getElem?_eq_getElem hi
    exact fnI_step sm M (fun j hj => all_fn sm M D0 n j hj) e (D0 i _ e)
end
end Pi

/-! PiH: the law's call. -/
namespace Pi
open PySem L2 PySem.Spec PyProof.Rows
/-- the script's heap: nothing, or the script alone, frozen -/
def lone (a : Addr) (o : Obj) (xs : List V) : Hp := fun b => if b = a then some (.frz o (.lst xs)) else none
/-- the law's def, called where nothing runs -/
theorem law_callG {P : Program} {w : World} {K : PySem.W.Frag} {mg mb : Str → Option Value} {CX : CXT} {k : Nat} {fa a : Addr} {sp : Sp} {s1 : Shared} {vs : List Value} {ns : List Int} (KX : K.In s1.heap) (hns : s1.heap.Ns mainGlobals mg) (hb : s1.heap.Ns builtinsNs mb)
    (hbb : ∀ x : Str, x ≠ "__name__" → mb x = bootBuiltins x) (hlim : s1.heap.NoLimit) (hmods : ∃ mm, s1.heap.Ns sysModules mm) (hg : s1.gens = #[]) (ha : s1.heap.get? a = some { cls := .type "list", data := .seq vs.toArray }) (hi : IntsAre vs ns) (hl : ns.length ≤ sizeLine) (hr : Room k callerA)
    (F : ∀ base : Heap, K.In base → base.Ns mainGlobals mg → (∃ mm, base.Ns sysModules mm) → ∃ (fd : FuncData) (x : Str), FnG P w K mg base CX k fa fd [x] sp ∧ Binds K fd [x] [])
    (hsp : ∀ H : Hp, LsF K [] H a (ns.map V.int) → sp [.ref a] H (fun v _ => v = .bl true) fun _ _ _ => False) (hCX : ∀ H e s', CX [] H s1 (fun _ _ _ => False) e s' → False) :
    codeAny (model P w) callerA (.call (.ref fa) ⟨[.ref a], []⟩) (fun r s' => r = .ok (.ret (.bool true)) ∧ OldK s1.heap s'.heap ∧ s'.os = s1.os ∧ AllBare s'.gens) s1 := by
  have rv := vals_ints hi
  have lv := hi.length
  -- over an abstract heap that tracks the script, or nothing
  have main : ∀ H : Hp, (∀ b, H b ≠ none → b = a ∧ K.lookup a = none) → (∀ b, H b = none ∨ ∃ o xs, H b = some (.frz o (.lst xs))) → LsF K [] H a (ns.map V.int) → HOk P w H s1.heap →
      codeAny (model P w) callerA (.call (.ref fa) ⟨[.ref a], []⟩) (fun r s' => r = .ok (.ret (.bool true)) ∧ OldK s1.heap s'.heap ∧ s'.os = s1.os ∧ AllBare s'.gens) s1 := by
    intro H only kind lst hok
    have free : ∀ {b : Addr} {o : Obj}, s1.heap.get? b = some o → (∀ vs n, o.data ≠ .seq vs n) → H b = none := fun {b o} e nd => by
      cases q : H b with
      | none => rfl
      | some u =>
        obtain ⟨rfl, _⟩ := only b (by rw [q]; simp)
        rw [ha] at e
        cases e
        exact absurd rfl (nd _ _)
    have up : ∀ {b : Addr} {m : Str → Option Value}, s1.heap.Ns b m → (hidT s1.heap H).Ns b m := fun {b m} h => by
      obtain ⟨o, es, ep, e, d, r⟩ := h
      exact ⟨o, es, ep, hidT_get e (free e fun _ _ z => by rw [d] at z; cases z), d, r⟩
    have kin : K.In (hidT s1.heap H) := fun b o e => hidT_get (KX b o e) (by
      cases q : H b with
      | none => rfl
      | some u =>
        obtain ⟨rfl, nk⟩ := only b (by rw [q]; simp)
        rw [nk] at e
        cases e)
    have hM : Mod K mg (hidT s1.heap H) := by
      refine ⟨kin, up hns, ⟨mb, up hb, hbb⟩, ?_⟩
      obtain ⟨mc, h1, h2⟩ := hlim
      exact ⟨mc, up h1, h2⟩
    have e0 : Env0 P w K mg (hidT s1.heap H) callerA [] s1 H := by
      refine ⟨rfl, hM, fun b o e => of_hidT e, Nat.le_of_eq (hidT_size _ _), trivial, ?_, hok, .of_eq hg⟩
      intro b hb
      exact absurd (show b ∈ ([] : List Addr) from hb) (by simp)
    obtain ⟨mm, hmm⟩ := hmods
    obtain ⟨fd, x, FF, hbind⟩ := F _ kin (up hns) ⟨mm, up hmm⟩
    have run := FF.run callerA [] s1 H ⟨[.ref a], []⟩ [.ref a] [.ref a] _ _ hr rfl e0 (hbind s1 [.ref a] KX rfl) (.cons rfl .nil) (hsp H lst)
    refine codeAny_mono run fun out s' post => ?_
    match out, post with
    | .error e, post => exact (hCX H e s' post).elim
    | .ok .next, post => exact post.elim
    | .ok .brk, post => exact post.elim
    | .ok .cont, post => exact post.elim
    | .ok (.ret u), ⟨v, H', os, bare, un, hok', r', q⟩ =>
      have q' : v = .bl true := q
      subst q'
      obtain rfl : u = Value.bool true := r'
      refine ⟨rfl, OldK.of_keep fun b o e => ?_, os, bare⟩
      rcases kind b with n | ⟨ob, xs, z⟩
      · exact un.keep b o e n (fun z => absurd (show b ∈ ([] : List Addr) from z) (by simp)) (by simp)
      · have z2 := un.frzs b ob _ z
        have e1 := (hok b _ z).1
        have e2 := (hok' b _ z2).1
        rw [e] at e1
        cases e1
        exact e2
  cases hk : K.lookup a with
  | some o =>
    have e := KX a o hk
    rw [ha] at e
    cases e
    exact main (fun _ => none) (fun b z => absurd rfl z) (fun _ => .inl rfl) (.inr ⟨_, vs.toArray, _, hk, rfl, rfl, rfl, by rw [List.size_toArray, lv]; exact hl, by simpa using rv⟩) (fun b u z => nomatch z)
  | none =>
    refine main (lone a { cls := .type "list", data := .seq vs.toArray } (ns.map V.int)) (fun b z => ?_) (fun b => ?_) (.inl ⟨⟨_, if_pos rfl⟩, fun ⟨i, dx, e⟩ => by simp at e⟩) (fun b u z => ?_)
    · unfold lone at z
      split at z
      · exact ⟨by assumption, hk⟩
      · exact absurd rfl z
    · unfold lone
      split
      · exact .inr ⟨_, _, rfl⟩
      · exact .inl rfl
    · unfold lone at z
      split at z
      · rename_i hb
        cases z
        subst hb
        exact ⟨ha, by rw [List.length_map]; exact hl, vs, _, rv, ha⟩
      · cases z
end Pi

/-! PiJ: the tables from the head's facts, the law's promise. -/
namespace Pi
open PySem L2 PySem.Spec PyProof.Rows
def faCode : He.Fa → Nat × Str × Option Str × Str × Int × Bool
  | .glo x => (0, x, none, "", 0, false)
  | .free x => (1, x, none, "", 0, false)
  | .int x i => (2, x, none, "", i, false)
  | .str x z => (3, x, none, z, 0, false)
  | .cls x => (4, x, none, "", 0, false)
  | .noat x f => (5, x, none, f, 0, false)
  | .meth x f => (6, x, none, f, 0, false)
  | .mkr x => (7, x, none, "", 0, false)
  | .exc x => (8, x, none, "", 0, false)
  | .exm x y b => (9, x, none, y, 0, b)
  | .keep x => (10, x, none, "", 0, false)
  | .code p q => (11, p.1, p.2, q, 0, false)
theorem faCode_inj : ∀ {a b : He.Fa}, faCode a = faCode b → a = b := by
  intro a b h
  cases a <;> cases b <;> simp_all [faCode]
  rename_i p _ q _
  exact Prod.ext h.1 h.2.1
instance faDec : DecidableEq He.Fa := fun a b => decidable_of_iff (faCode a = faCode b) ⟨faCode_inj, congrArg faCode⟩
/-- where things stand: the defs, the classes, the exceptions; the head's facts -/
structure Where where
  ats : List (Str × Option Str)
  cls : List Str
  exs : List Str
  fac : List He.Fa
  tbs : List (Str × List (Str × D))
  mets : List (Nat × Str × Nat)
def Where.gc (q : Where) (K : PySem.W.Frag) : GC := ⟨K, fun i => He.fAd K (q.ats.getD i ("", none)), fun c => He.ga K (q.cls.getD c (q.cls.headD "")), fun c => .ref (He.ga K (q.exs.getD c ""))⟩
def metF (l : List (Nat × Str × Nat)) (c : Nat) (m : Str) : Option Nat := (l.find? fun p => p.1 == c && decide (p.2.1 = m)).map (·.2.2)
def tbF (l : List (Str × List (Str × D))) (t : Nat) : List (Str × D) := (l.getD t ("", [])).2
/-- a table's value -/
def dtInts : List D → List Value → Bool
  | [], [] => true
  | .int i :: ds, .int j _ :: us => decide (i = j) && dtInts ds us
  | _, _ => false
def Where.dtB (q : Where) (K : PySem.W.Frag) (u : Value) (d : D) : Bool := match d, u with
  | .int i, .int j _ => decide (i = j)
  | .fn i, .ref a => decide (a = He.fAd K (q.ats.getD i ("", none)))
  | .tup ds, .ref a => (match K.lookup a with
    | some ⟨.type c, _, .seq its _, _⟩ => decide (c = "tuple") && (decide (its.size ≤ 100) && dtInts ds its.toList)
    | _ => false)
  | _, _ => false
def Where.tbB (q : Where) (K : PySem.W.Frag) : Bool := q.tbs.all fun t => t.2.all fun p => match PySem.W.nsIn K (He.ga K t.1) p.1 with
  | some (some u) => q.dtB K u p.2
  | _ => false
theorem dtInts_ok {g : GC} {al : Al} {H : Hp} : ∀ {ds : List D} {us : List Value}, dtInts ds us = true → ∃ vs, Vals vs us ∧ DtL g al H vs ds
  | [], [], _ => ⟨[], .nil, .nil⟩
  | .int i :: ds, .int j t :: us, h => by
    simp only [dtInts, Bool.and_eq_true, decide_eq_true_eq] at h
    obtain ⟨rfl, h⟩ := h
    obtain ⟨vs, h1, h2⟩ := dtInts_ok (g := g) (al := al) (H := H) h
    exact ⟨.int i :: vs, .cons ⟨t, rfl⟩ h1, .cons (.int i) h2⟩
theorem Where.dtB_ok {q : Where} {K : PySem.W.Frag} {u : Value} {d : D} (h : q.dtB K u d = true) : ∃ v, RelV v u ∧ ∀ al H, Dt (q.gc K) al H v d := by
  unfold Where.dtB at h
  split at h
  · rename_i i j t
    have e := of_decide_eq_true h
    subst e
    exact ⟨.int i, ⟨t, rfl⟩, fun _ _ => .int i⟩
  · rename_i i a
    have e := of_decide_eq_true h
    subst e
    exact ⟨.ref _, rfl, fun al H => .fn (g := q.gc K) i⟩
  · rename_i ds a
    split at h
    · rename_i c od its n sl e
      simp only [Bool.and_eq_true, decide_eq_true_eq] at h
      obtain ⟨rfl, hz, hd⟩ := h
      refine ⟨.ref a, rfl, fun al H => ?_⟩
      obtain ⟨vs, h1, h2⟩ := dtInts_ok (g := q.gc K) (al := al) (H := H) hd
      exact .tup (.inr ⟨_, its, n, e, rfl, rfl, Nat.le_trans hz (by decide), h1⟩) h2
    · cases h
  · cases h
theorem Where.tbB_ok {q : Where} {K : PySem.W.Frag} (h : q.tbB K = true) {t : Nat} {x : Str} {l : List (Str × D)} (ht : q.tbs[t]? = some (x, l)) {k : Str} {dv : D} (hk : dget (tbF q.tbs t) k = some dv) : ∃ u v, PySem.W.nsIn K (He.ga K x) k = some (some u) ∧ RelV v u ∧ ∀ al H, Dt (q.gc K) al H v dv := by
  have e : tbF q.tbs t = l := by
    unfold tbF
    rw [List.getD_eq_getElem?_getD, ht]
    rfl
  rw [e] at hk
  have hm : (k, dv) ∈ l := by
    unfold dget at hk
    rw [Option.map_eq_some_iff] at hk
    obtain ⟨p, hp, rfl⟩ := hk
    have h1 := List.find?_some hp
    have h2 := List.mem_of_find?_eq_some hp
    have h3 : p.1 = k := of_decide_eq_true h1
    rw [← h3]
    exact h2
  have h1 := List.all_eq_true.mp (List.all_eq_true.mp h _ (List.mem_of_getElem? ht)) _ hm
  dsimp only at h1
  split at h1
  · rename_i u e2
    obtain ⟨v, r, d⟩ := Where.dtB_ok h1
    exact ⟨u, v, e2, r, d⟩
  · cases h1
def Where.chk (q : Where) (tab : Tab) (ini : Nat → Nat) (nf : Nat) : Bool :=
  tab.fns.all (fun p => decide (q.ats[p.2]? = some (p.1, none)) && decide (He.Fa.glo p.1 ∈ q.fac) && decide (p.2 < nf)) &&
  tab.cls.all (fun p => decide (q.cls[p.2]? = some p.1) && decide (He.Fa.glo p.1 ∈ q.fac) && decide (He.Fa.mkr p.1 ∈ q.fac) && decide (He.Fa.cls p.1 ∈ q.fac) && decide (q.ats[ini p.2]? = some (p.1, some ("__init__" : Str))) && decide (ini p.2 < nf)) &&
  tab.exs.all (fun p => decide (q.exs[p.2]? = some p.1) && decide (He.Fa.glo p.1 ∈ q.fac) && decide (He.Fa.exc p.1 ∈ q.fac)) &&
  tab.blt.all (fun x => decide (He.Fa.free x ∈ q.fac)) &&
  tab.con.all (fun p => match p.2 with
    | .int n => decide (He.Fa.int p.1 n ∈ q.fac)
    | .str s => decide (He.Fa.str p.1 s ∈ q.fac)
    | _ => false) &&
  tab.ats.all (fun f => !q.cls.isEmpty && q.cls.all fun x => decide (He.Fa.cls x ∈ q.fac) && decide (He.Fa.noat x f ∈ q.fac)) &&
  tab.tbs.all (fun p => decide ((q.tbs[p.2]?).map (·.1) = some p.1) && decide (He.Fa.glo p.1 ∈ q.fac)) &&
  q.mets.all (fun p => match q.cls[p.1]? with
    | some x => decide (q.ats[p.2.2]? = some (x, some p.2.1)) && decide (He.Fa.cls x ∈ q.fac) && decide (He.Fa.meth x p.2.1 ∈ q.fac)
    | none => false)
theorem lookup_mem {α : Type} {x : Str} {y : α} : ∀ {l : List (Str × α)}, l.lookup x = some y → (x, y) ∈ l
  | [], h => by cases h
  | (a, b) :: l, h => by
    rw [List.lookup_cons] at h
    split at h
    · rename_i e
      cases h
      have : x = a := by simpa using e
      subst this
      exact List.mem_cons_self
    · exact List.mem_cons_of_mem _ (lookup_mem h)
theorem Where.mod {q : Where} {tab : Tab} {ini : Nat → Nat} {nf : Nat} {sub : Nat → Nat → Option Bool} {K : PySem.W.Frag} {w : World} {h : Heap} {mg : Str → Option Value} {fn : List He.DefD} (hc : q.chk tab ini nf = true) (KX : K.In h) (G : h.Ns mainGlobals mg) (c : He.SaysD q.fac fn K) (hsb : SubOk (q.gc K) K sub)
    (hkd : ∀ (t : Nat) (x : Str) (l : List (Str × D)), q.tbs[t]? = some (x, l) → ∃ es n, KDict K w (He.ga K x) es n) (htb : q.tbB K = true) : ModOk (q.gc K) K w mg tab ini nf sub (metF q.mets) (tbF q.tbs) := by
  unfold Where.chk at hc
  simp only [Bool.and_eq_true, List.all_eq_true, decide_eq_true_eq] at hc
  obtain ⟨⟨⟨⟨⟨⟨⟨h1, h2⟩, h3⟩, h4⟩, h5⟩, h6⟩, h7⟩, h8⟩ := hc
  have gl : ∀ {x : Str}, He.Fa.glo x ∈ q.fac → mg x = some (.ref (He.ga K x)) := fun m => He.glo_ok KX G (c.facts m)
  refine ⟨rfl, hsb, fun x i e => ?_, fun x k e => ?_, fun x k e => ?_, fun x m => ?_, fun x d e => ?_, fun f m => ?_, fun x t e => ?_, fun k x f e => ?_⟩
  · obtain ⟨⟨e1, e2⟩, e3⟩ := h1 _ (lookup_mem e)
    refine ⟨?_, e3⟩
    rw [gl e2]
    show _ = some (Value.ref (He.fAd K (q.ats.getD i ("", none))))
    rw [List.getD_eq_getElem?_getD, e1]
    rfl
  · obtain ⟨⟨⟨⟨⟨e1, e2⟩, e3⟩, e4⟩, e5⟩, e6⟩ := h2 _ (lookup_mem e)
    have ec : (q.gc K).ca k = He.ga K x := by
      show He.ga K (q.cls.getD k (q.cls.headD "")) = _
      rw [List.getD_eq_getElem?_getD, e1]
      rfl
    have ef : (q.gc K).fa (ini k) = He.ma K (He.ga K x) "__init__" := by
      show He.fAd K (q.ats.getD (ini k) ("", none)) = _
      rw [List.getD_eq_getElem?_getD, e5]
      rfl
    rw [ec, ef]
    exact ⟨gl e2, He.mkr_ok (c.facts e3), He.cls_ok (c.facts e4), e6⟩
  · obtain ⟨⟨e1, e2⟩, e3⟩ := h3 _ (lookup_mem e)
    obtain ⟨f1, f2, f3, f4⟩ := He.exc_ok (c.facts e3)
    refine ⟨He.ga K x, "ValueError", "ValueError.__new__", "ValueError.__init__", He.veBase, ?_, PySem.F.excBase_ValueError, f1, gl e2, f2, fun X hX => ?_⟩
    · show Value.ref (He.ga K (q.exs.getD k "")) = _
      rw [List.getD_eq_getElem?_getD, e1]
      rfl
    · subst hX
      exact raises_own f3 f4
  · exact He.free_ok KX G (c.facts (h4 x m))
  · have := h5 _ (lookup_mem e)
    cases d <;> try (cases this; done)
    · rename_i n
      obtain ⟨t, et⟩ := He.int_ok KX G (c.facts (of_decide_eq_true this))
      exact ⟨.int n, _, et, ⟨t, rfl⟩, fun _ _ => .int _⟩
    · rename_i s
      obtain ⟨t, et⟩ := He.str_ok KX G (c.facts (of_decide_eq_true this))
      exact ⟨.str s, _, et, ⟨t, rfl⟩, fun _ _ => .str _⟩
  · obtain ⟨n0, all⟩ := h6 f m
    intro k
    have hm : (q.cls.getD k (q.cls.headD "")) ∈ q.cls := by
      rw [List.getD_eq_getElem?_getD]
      cases e : q.cls[k]? with
      | some y => exact List.mem_of_getElem? e
      | none =>
        cases e2 : q.cls with
        | nil => rw [e2] at n0; cases n0
        | cons y l => simp
    obtain ⟨a1, a2⟩ := all _ hm
    exact ⟨He.cls_ok (c.facts a1), He.noat_ok (c.facts a2)⟩
  · obtain ⟨e1, e2⟩ := h7 _ (lookup_mem e)
    rw [Option.map_eq_some_iff] at e1
    obtain ⟨⟨x', l⟩, e1, ex⟩ := e1
    dsimp only at ex e2
    subst ex
    obtain ⟨es, n, kd⟩ := hkd _ _ _ e1
    exact ⟨_, es, n, gl e2, kd, fun k dv hk => Where.tbB_ok htb e1 hk⟩
  · unfold metF at e
    rw [Option.map_eq_some_iff] at e
    obtain ⟨p, hp, rfl⟩ := e
    have f1 := List.find?_some hp
    simp only [Bool.and_eq_true, beq_iff_eq, decide_eq_true_eq] at f1
    obtain ⟨rfl, rfl⟩ := f1
    have f2 := h8 p (List.mem_of_find?_eq_some hp)
    split at f2
    · rename_i y ey
      simp only [Bool.and_eq_true, decide_eq_true_eq] at f2
      obtain ⟨⟨a1, a2⟩, a3⟩ := f2
      have ec : (q.gc K).ca p.1 = He.ga K y := by
        show He.ga K (q.cls.getD p.1 (q.cls.headD "")) = _
        rw [List.getD_eq_getElem?_getD, ey]
        rfl
      have ef : (q.gc K).fa p.2.2 = He.ma K (He.ga K y) p.2.1 := by
        show He.fAd K (q.ats.getD p.2.2 ("", none)) = _
        rw [List.getD_eq_getElem?_getD, a1]
        rfl
      rw [ec, ef]
      exact ⟨He.cls_ok (c.facts a2), He.meth_ok (c.facts a3)⟩
    · cases f2
/-- a def of the text, as the head tells it -/
theorem defOk_of {g : GC} {K : PySem.W.Frag} {tab : Tab} {nE nS i : Nat} {x qual : Str} {st : Stmt} {N ps : List Str} {body : SL} (fd : ∃ fd, FunD K x qual (defArgs st) (defBody st) (defScope st) [] [] (g.fa i) fd) (S : FnScope N ps (defScope st))
    (hb : ∀ (kV doc pm : Value) (an : Option Addr) (cdv ct : Value) (us : List Value), us.length = ps.length → bindArgs (PySem.W.fnOf x qual (defArgs st) (defBody st) (defScope st) .none kV doc pm an cdv ct) ⟨us, []⟩ = pure (ps.zip us))
    (hc : (sfam (fam nE) nS).cB ⟨tab, N, (defScope st).names, (defScope st).names.map (·.1)⟩ (defBody st) = some body) : DefOk g K tab nE nS i ⟨ps.length, N.length, body⟩ := by
  obtain ⟨fd, F⟩ := fd
  have b := FunD.bindsN (ps := ps) F hb
  obtain ⟨oc, od, dV, kV, doc, pm, an, cdv, ct, osl, rfl, lk, hcd, hD, hK⟩ := F.ex
  rcases hD with ⟨_, rfl⟩ | ⟨e, _⟩
  · exact ⟨x, qual, st, _, N, ps, ⟨⟨oc, od, kV, doc, pm, an, cdv, ct, osl, rfl, lk, hcd⟩, F.kp⟩, S, b, hc, rfl, rfl⟩
  · exact absurd rfl e
/-- the law -/
theorem walk_ofG {l : PySem.W.OpenLaw} {n k : Nat} {q : Program} {loose : List Str} {XP : (Str → Option Value) → Heap → Prop} {YP : World → Heap → Prop} {d : DefRec} (hn : l.most = some n) (hn2 : n ≤ sizeLine) (hdf : d.params.defaults = []) (hr : Room k callerA) (hq : importsNone q = true)
    (F : ∀ (w : World) (mg : Str → Option Value) (fa : Addr) (h : Heap), YP w h → h.Ns mainGlobals mg → mg d.name = some (.ref fa) →
      ∃ (K : PySem.W.Frag) (g : GC) (Φ : Phi) (i : Nat), K.In h ∧ g.K = K ∧ fa = g.fa i ∧
        (∀ ns : List Int, ns.length ≤ n → (∀ z ∈ ns, Builtin.Int.intBits z ≤ 1048576) → ∃ S', Φ.call i [.lst (ns.map D.int)] [] = .ok (.bl true) S') ∧
        ∀ base : Heap, K.In base → base.Ns mainGlobals mg → (∃ mm, base.Ns sysModules mm) → FnI g Φ l.prog w K mg base k i) :
    PySem.W.WalkO q loose XP YP l.row.toRowW d [] (fun f vs => PySem.call f vs) := by
  refine Att.attach_callB hn hdf fun w s0 s1 mg mb fa o pm cd doc a vs ns G Y ho hd hcd hmg hobj hints hlen hbits hg => ?_
  obtain ⟨K, g, Φ, i, KX, hK, rfl, hph, hF⟩ := F w mg fa _ Y G.T.g hmg
  have hm : ∃ mm, s1.heap.Ns sysModules mm := by
    obtain ⟨mm, h1, _⟩ := (G.T.seer hq).mods
    exact ⟨mm, h1⟩
  obtain ⟨S', e⟩ := hph ns hlen hbits
  refine law_callG (CX := L2.CX l.prog w) (sp := SPI g Φ 1 i) KX G.T.g G.T.b G.T.builtins G.T.nolimit hm hg hobj hints (Nat.le_trans hlen hn2) hr (fun base b1 b2 b3 => ?_) (fun H hl => ?_) fun H e s' z => ?_
  · obtain ⟨fd, ps, F1, _, F2, F3⟩ := hF base b1 b2 b3
    have h1 := F3 [.lst (ns.map D.int)] [] (by rw [e]; intro z; cases z)
    match ps, h1 with
    | [x], _ => exact ⟨fd, x, F1, F2⟩
  · refine ⟨rfl, [], [.lst (ns.map D.int)], [], ⟨rfl, fun i x dx o e => (by simp at e), fun i j x dx dx' e => (by simp at e)⟩, .cons (.lst (hK ▸ hl) ?_) .nil, ?_⟩
    · have li : ∀ l : List Int, DtL g [] H (l.map V.int) (l.map D.int) := fun l => by
        induction l with
        | nil => exact .nil
        | cons z l ih => exact .cons (.int z) ih
      exact li ns
    · rw [e]
      intro H' al' v _ _ _ q
      cases q
      rfl
  · obtain ⟨_, _, _, _, _, _, _, _, _, _, _, _, z⟩ := z
    exact z
end Pi

/-! PiK: the exceptions' classes, from the head. -/
namespace Pi
open PySem L2 PySem.Spec PyProof.Rows
def excCb (K : PySem.W.Frag) (D : Addr) : Bool :=
  He.eqO (PySem.W.findIn K (.ref D) "__getattribute__") (some (some (.builtin "BaseException.__getattribute__"))) && (He.eqO (PySem.W.findIn K (.ref D) "__getattr__") (some none) && (decide (PySem.W.subIn K (.ref D) (.type "BaseException") = some true) && (PySem.W.hasDictIn K D &&
  (He.eqO (PySem.W.findIn K (.ref D) "__class__") (some (some (.builtin "object.__class__"))) && (He.eqO (PySem.W.specialIn K (.builtin "object.__class__") "__get__") (some (some (.builtin "getset_descriptor.__get__"))) && (decide (PySem.W.takesIn K (.builtin "object.__class__") = some true) && decide (PySem.W.mroIn K D (.type "object") = some true)))))))
theorem excC_of {K : PySem.W.Frag} {D : Addr} (h : excCb K D = true) : L2.ExcC K D := by
  obtain ⟨h1, h⟩ := He.ba h
  obtain ⟨h2, h⟩ := He.ba h
  obtain ⟨h3, h⟩ := He.ba h
  obtain ⟨h4, h⟩ := He.ba h
  obtain ⟨h5, h⟩ := He.ba h
  obtain ⟨h6, h⟩ := He.ba h
  obtain ⟨h7, h8⟩ := He.ba h
  exact ⟨He.eqO_ok h1, He.eqO_ok h2, of_decide_eq_true h3, h4, He.eqO_ok h5, He.eqO_ok h6, of_decide_eq_true h7, of_decide_eq_true h8⟩
def Where.exB (q : Where) (n : Nat) (sub : Nat → Nat → Option Bool) (K : PySem.W.Frag) : Bool :=
  (List.range n).all fun c => excCb K (He.ga K (q.exs.getD c "")) && (decide (PySem.W.kitOne K (.ref (He.ga K (q.exs.getD c ""))) (.type "ValueError") = some true) && (List.range n).all fun c' => match sub c c' with
    | some b => decide (PySem.W.exmOne K (.ref (He.ga K (q.exs.getD c ""))) (.ref (He.ga K (q.exs.getD c' ""))) = some b) && decide (PySem.W.kitOne K (.ref (He.ga K (q.exs.getD c ""))) (.ref (He.ga K (q.exs.getD c' ""))) = some b)
    | none => true)
/-- a table of who stands below whom -/
def subT (l : List (List Bool)) : Nat → Nat → Option Bool := fun c c' => (l[c]?).bind fun r => r[c']?
theorem subOk_of {q : Where} {l : List (List Bool)} {K : PySem.W.Frag} (hl : l.all (fun r => decide (r.length ≤ l.length)) = true) (h : q.exB l.length (subT l) K = true) : SubOk (q.gc K) K (subT l) := by
  have main : ∀ c c' b, subT l c c' = some b → excCb K (He.ga K (q.exs.getD c "")) = true ∧ PySem.W.kitOne K (.ref (He.ga K (q.exs.getD c ""))) (.type "ValueError") = some true ∧ PySem.W.exmOne K (.ref (He.ga K (q.exs.getD c ""))) (.ref (He.ga K (q.exs.getD c' ""))) = some b ∧ PySem.W.kitOne K (.ref (He.ga K (q.exs.getD c ""))) (.ref (He.ga K (q.exs.getD c' ""))) = some b := by
    intro c c' b e
    have e0 := e
    unfold subT at e
    rw [Option.bind_eq_some_iff] at e
    obtain ⟨r, e1, e2⟩ := e
    have c1 : c < l.length := (List.getElem?_eq_some_iff.mp e1).1
    have c2 : c' < r.length := (List.getElem?_eq_some_iff.mp e2).1
    have c3 := of_decide_eq_true (List.all_eq_true.mp hl r (List.mem_of_getElem? e1))
    obtain ⟨h1, h2⟩ := He.ba (List.all_eq_true.mp h c (List.mem_range.mpr c1))
    obtain ⟨h3, h4⟩ := He.ba h2
    have h5 := List.all_eq_true.mp h4 c' (List.mem_range.mpr (by omega))
    rw [e0] at h5
    obtain ⟨h6, h7⟩ := He.ba h5
    exact ⟨h1, of_decide_eq_true h3, of_decide_eq_true h6, of_decide_eq_true h7⟩
  refine ⟨fun c c' b e => (main c c' b e).2.2.1, fun c c' b e => ?_⟩
  obtain ⟨h1, h2, h3, h4⟩ := main c c' b e
  exact ⟨_, rfl, excC_of h1, h4, h2⟩
theorem subOk_none {g : GC} {K : PySem.W.Frag} : SubOk g K (fun _ _ => none) := ⟨fun _ _ _ e => (nomatch e), fun _ _ _ e => (nomatch e)⟩
theorem saysD_of {fa : List He.Fa} {fn : List He.DefD} {ts : List He.Tab} {w : World} {K : PySem.W.Frag} (h : He.SaysT fa fn ts w K) : He.SaysD fa fn K := congrArg Prod.fst h
/-- a world whose answer to one question stands apart -/
def w1 (b : Bool) (f : String → Bool) : String → Bool := fun r => match decide (r = "special-get-raises") with | true => b | false => f r
def wx (b : Bool) (w : World) : World := ⟨w.draws, { w.params with followText := w1 b w.params.followText }⟩
theorem w1_eq (f : String → Bool) : w1 (f "special-get-raises") f = f := by
  funext r
  unfold w1
  by_cases h : r = "special-get-raises"
  · subst h; rw [decide_eq_true rfl]
  · rw [decide_eq_false h]
theorem w_eq (w : World) : w = wx (w.params.followText "special-get-raises") w := by
  unfold wx
  rw [w1_eq]
end Pi

namespace K04
open PySem PySem.Spec PyProof.Rows L2 Pi
def top (i : Nat) : Stmt := PySem.Challenge.pw_kindsure_k04_numbers_reckoned.main.body.getD i (.Pass ⟨0, 0, 0, 0⟩)
def d_reckoned : He.DefD := ⟨(("reckoned" : Str), (none : Option Str)), "reckoned", "reckoned", defArgs (top 13), defBody (top 13), defScope (top 13), [], []⟩
def d_Scope_init : He.DefD := ⟨(("Scope" : Str), some ("__init__" : Str)), "__init__", "Scope.__init__", defArgs (inClass (top 14) 0), defBody (inClass (top 14) 0), defScope (inClass (top 14) 0), [], []⟩
def d_Scope_with_name : He.DefD := ⟨(("Scope" : Str), some ("with_name" : Str)), "with_name", "Scope.with_name", defArgs (inClass (top 14) 1), defBody (inClass (top 14) 1), defScope (inClass (top 14) 1), [], []⟩
def d_Run_init : He.DefD := ⟨(("Run" : Str), some ("__init__" : Str)), "__init__", "Run.__init__", defArgs (inClass (top 15) 0), defBody (inClass (top 15) 0), defScope (inClass (top 15) 0), [], []⟩
def d_Run_ask : He.DefD := ⟨(("Run" : Str), some ("ask" : Str)), "ask", "Run.ask", defArgs (inClass (top 15) 1), defBody (inClass (top 15) 1), defScope (inClass (top 15) 1), [], []⟩
def d_Run_go_on : He.DefD := ⟨(("Run" : Str), some ("go_on" : Str)), "go_on", "Run.go_on", defArgs (inClass (top 15) 2), defBody (inClass (top 15) 2), defScope (inClass (top 15) 2), [], []⟩
def d_Run_begin : He.DefD := ⟨(("Run" : Str), some ("begin" : Str)), "begin", "Run.begin", defArgs (inClass (top 15) 3), defBody (inClass (top 15) 3), defScope (inClass (top 15) 3), [], []⟩
def d_Run_place_of_deed : He.DefD := ⟨(("Run" : Str), some ("place_of_deed" : Str)), "place_of_deed", "Run.place_of_deed", defArgs (inClass (top 15) 4), defBody (inClass (top 15) 4), defScope (inClass (top 15) 4), [], []⟩
def d_Run_give : He.DefD := ⟨(("Run" : Str), some ("give" : Str)), "give", "Run.give", defArgs (inClass (top 15) 5), defBody (inClass (top 15) 5), defScope (inClass (top 15) 5), [], []⟩
def d_Run_give_number : He.DefD := ⟨(("Run" : Str), some ("give_number" : Str)), "give_number", "Run.give_number", defArgs (inClass (top 15) 6), defBody (inClass (top 15) 6), defScope (inClass (top 15) 6), [], []⟩
def d_Run_take_value : He.DefD := ⟨(("Run" : Str), some ("take_value" : Str)), "take_value", "Run.take_value", defArgs (inClass (top 15) 7), defBody (inClass (top 15) 7), defScope (inClass (top 15) 7), [], []⟩
def d_Run_take_values : He.DefD := ⟨(("Run" : Str), some ("take_values" : Str)), "take_values", "Run.take_values", defArgs (inClass (top 15) 8), defBody (inClass (top 15) 8), defScope (inClass (top 15) 8), [], []⟩
def d_Run_take_numbers : He.DefD := ⟨(("Run" : Str), some ("take_numbers" : Str)), "take_numbers", "Run.take_numbers", defArgs (inClass (top 15) 9), defBody (inClass (top 15) 9), defScope (inClass (top 15) 9), [], []⟩
def d_parts_at_once : He.DefD := ⟨(("parts_at_once" : Str), (none : Option Str)), "parts_at_once", "parts_at_once", defArgs (top 16), defBody (top 16), defScope (top 16), [], []⟩
def d_reckon_num : He.DefD := ⟨(("reckon_num" : Str), (none : Option Str)), "reckon_num", "reckon_num", defArgs (top 17), defBody (top 17), defScope (top 17), [], []⟩
def d_reckon_truth : He.DefD := ⟨(("reckon_truth" : Str), (none : Option Str)), "reckon_truth", "reckon_truth", defArgs (top 18), defBody (top 18), defScope (top 18), [], []⟩
def d_reckon_name : He.DefD := ⟨(("reckon_name" : Str), (none : Option Str)), "reckon_name", "reckon_name", defArgs (top 19), defBody (top 19), defScope (top 19), [], []⟩
def d_reckon_add : He.DefD := ⟨(("reckon_add" : Str), (none : Option Str)), "reckon_add", "reckon_add", defArgs (top 20), defBody (top 20), defScope (top 20), [], []⟩
def d_reckon_take : He.DefD := ⟨(("reckon_take" : Str), (none : Option Str)), "reckon_take", "reckon_take", defArgs (top 21), defBody (top 21), defScope (top 21), [], []⟩
def d_reckon_part : He.DefD := ⟨(("reckon_part" : Str), (none : Option Str)), "reckon_part", "reckon_part", defArgs (top 22), defBody (top 22), defScope (top 22), [], []⟩
def d_reckon_less : He.DefD := ⟨(("reckon_less" : Str), (none : Option Str)), "reckon_less", "reckon_less", defArgs (top 23), defBody (top 23), defScope (top 23), [], []⟩
def d_reckon_let : He.DefD := ⟨(("reckon_let" : Str), (none : Option Str)), "reckon_let", "reckon_let", defArgs (top 24), defBody (top 24), defScope (top 24), [], []⟩
def d_reckon_if : He.DefD := ⟨(("reckon_if" : Str), (none : Option Str)), "reckon_if", "reckon_if", defArgs (top 25), defBody (top 25), defScope (top 25), [], []⟩
def d_reckon_record : He.DefD := ⟨(("reckon_record" : Str), (none : Option Str)), "reckon_record", "reckon_record", defArgs (top 26), defBody (top 26), defScope (top 26), [], []⟩
def d_reckon_field : He.DefD := ⟨(("reckon_field" : Str), (none : Option Str)), "reckon_field", "reckon_field", defArgs (top 27), defBody (top 27), defScope (top 27), [], []⟩
def d_reckon_with : He.DefD := ⟨(("reckon_with" : Str), (none : Option Str)), "reckon_with", "reckon_with", defArgs (top 28), defBody (top 28), defScope (top 28), [], []⟩
def d_must_be_record : He.DefD := ⟨(("must_be_record" : Str), (none : Option Str)), "must_be_record", "must_be_record", defArgs (top 29), defBody (top 29), defScope (top 29), [], []⟩
def d_reckon_choice : He.DefD := ⟨(("reckon_choice" : Str), (none : Option Str)), "reckon_choice", "reckon_choice", defArgs (top 30), defBody (top 30), defScope (top 30), [], []⟩
def d_reckon_case : He.DefD := ⟨(("reckon_case" : Str), (none : Option Str)), "reckon_case", "reckon_case", defArgs (top 31), defBody (top 31), defScope (top 31), [], []⟩
def d_reckon_again : He.DefD := ⟨(("reckon_again" : Str), (none : Option Str)), "reckon_again", "reckon_again", defArgs (top 32), defBody (top 32), defScope (top 32), [], []⟩
def d_reckon_call : He.DefD := ⟨(("reckon_call" : Str), (none : Option Str)), "reckon_call", "reckon_call", defArgs (top 33), defBody (top 33), defScope (top 33), [], []⟩
def d__law_cell_at : He.DefD := ⟨(("_law_cell_at" : Str), (none : Option Str)), "_law_cell_at", "_law_cell_at", defArgs (top 36), defBody (top 36), defScope (top 36), [], []⟩
def d__law_name_by : He.DefD := ⟨(("_law_name_by" : Str), (none : Option Str)), "_law_name_by", "_law_name_by", defArgs (top 37), defBody (top 37), defScope (top 37), [], []⟩
def d__law_number_by : He.DefD := ⟨(("_law_number_by" : Str), (none : Option Str)), "_law_number_by", "_law_number_by", defArgs (top 38), defBody (top 38), defScope (top 38), [], []⟩
def d__law_sum : He.DefD := ⟨(("_law_sum" : Str), (none : Option Str)), "_law_sum", "_law_sum", defArgs (top 39), defBody (top 39), defScope (top 39), [], []⟩
def d__law_if : He.DefD := ⟨(("_law_if" : Str), (none : Option Str)), "_law_if", "_law_if", defArgs (top 40), defBody (top 40), defScope (top 40), [], []⟩
def d__law_joined : He.DefD := ⟨(("_law_joined" : Str), (none : Option Str)), "_law_joined", "_law_joined", defArgs (top 41), defBody (top 41), defScope (top 41), [], []⟩
def d__law_told : He.DefD := ⟨(("_law_told" : Str), (none : Option Str)), "_law_told", "_law_told", defArgs (top 42), defBody (top 42), defScope (top 42), [], []⟩
def d__law_alike : He.DefD := ⟨(("_law_alike" : Str), (none : Option Str)), "_law_alike", "_law_alike", defArgs (top 43), defBody (top 43), defScope (top 43), [], []⟩
def d_law : He.DefD := ⟨(("law" : Str), (none : Option Str)), "law", "law", defArgs (top 44), defBody (top 44), defScope (top 44), [], []⟩
def fn : List He.DefD := [d_reckoned, d_Scope_init, d_Scope_with_name, d_Run_init, d_Run_ask, d_Run_go_on, d_Run_begin, d_Run_place_of_deed, d_Run_give, d_Run_give_number, d_Run_take_value, d_Run_take_values, d_Run_take_numbers, d_parts_at_once, d_reckon_num, d_reckon_truth, d_reckon_name, d_reckon_add, d_reckon_take, d_reckon_part, d_reckon_less, d_reckon_let, d_reckon_if, d_reckon_record, d_reckon_field, d_reckon_with, d_must_be_record, d_reckon_choice, d_reckon_case, d_reckon_again, d_reckon_call, d__law_cell_at, d__law_name_by, d__law_number_by, d__law_sum, d__law_if, d__law_joined, d__law_told, d__law_alike, d_law]
def fac : List He.Fa := [.glo "reckoned", .glo "parts_at_once", .glo "reckon_num", .glo "reckon_truth", .glo "reckon_name", .glo "reckon_add", .glo "reckon_take", .glo "reckon_part", .glo "reckon_less", .glo "reckon_let", .glo "reckon_if", .glo "reckon_record", .glo "reckon_field", .glo "reckon_with", .glo "must_be_record", .glo "reckon_choice", .glo "reckon_case", .glo "reckon_again", .glo "reckon_call", .glo "_law_cell_at", .glo "_law_name_by", .glo "_law_number_by", .glo "_law_sum", .glo "_law_if", .glo "_law_joined", .glo "_law_told", .glo "_law_alike", .glo "law", .free "len", .free "int", .free "list", .free "dict", .free "abs", .free "max", .free "isinstance", .free "bool", .free "str", .free "tuple", .free "range", .free "enumerate", .free "reversed", .free "zip", .free "ValueError", .int "MOST" (1000000000000), .glo "PLACES", .glo "ACTIONS", .glo "Scope", .mkr "Scope", .cls "Scope", .noat "Scope" "ahead", .noat "Scope" "deeds", .noat "Scope" "names", .noat "Scope" "pending", .noat "Scope" "places", .noat "Scope" "results", .glo "Run", .mkr "Run", .cls "Run", .noat "Run" "ahead", .noat "Run" "deeds", .noat "Run" "names", .noat "Run" "pending", .noat "Run" "places", .noat "Run" "results", .meth "Scope" "with_name", .meth "Run" "ask", .meth "Run" "go_on", .meth "Run" "begin", .meth "Run" "place_of_deed", .meth "Run" "give", .meth "Run" "give_number", .meth "Run" "take_value", .meth "Run" "take_values", .meth "Run" "take_numbers", .glo "KindError", .exc "KindError", .glo "Stuck", .exc "Stuck", .glo "Stopped", .exc "Stopped", .glo "LostName", .exc "LostName", .glo "LostField", .exc "LostField", .glo "LostShape", .exc "LostShape", .glo "Misfit", .exc "Misfit", .glo "ByNought", .exc "ByNought", .glo "TooGreat", .exc "TooGreat"]
def tb_PLACES : List (Str × D) := [("num", .tup []), ("truth", .tup []), ("name", .tup []), ("add", .tup [.int 1, .int 2]), ("take", .tup [.int 1, .int 2]), ("part", .tup [.int 1, .int 2]), ("less", .tup [.int 1, .int 2]), ("let", .tup [.int 2]), ("if", .tup [.int 1]), ("field", .tup [.int 1]), ("with", .tup [.int 1, .int 3]), ("choice", .tup [.int 2]), ("case", .tup [.int 1]), ("again", .tup [.int 3])]
def tb_ACTIONS : List (Str × D) := [("num", .fn 14), ("truth", .fn 15), ("name", .fn 16), ("add", .fn 17), ("take", .fn 18), ("part", .fn 19), ("less", .fn 20), ("let", .fn 21), ("if", .fn 22), ("record", .fn 23), ("field", .fn 24), ("with", .fn 25), ("choice", .fn 27), ("case", .fn 28), ("again", .fn 29), ("call", .fn 30)]
def whr : Where := ⟨[(("reckoned" : Str), (none : Option Str)), (("Scope" : Str), some ("__init__" : Str)), (("Scope" : Str), some ("with_name" : Str)), (("Run" : Str), some ("__init__" : Str)), (("Run" : Str), some ("ask" : Str)), (("Run" : Str), some ("go_on" : Str)), (("Run" : Str), some ("begin" : Str)), (("Run" : Str), some ("place_of_deed" : Str)), (("Run" : Str), some ("give" : Str)), (("Run" : Str), some ("give_number" : Str)), (("Run" : Str), some ("take_value" : Str)), (("Run" : Str), some ("take_values" : Str)), (("Run" : Str), some ("take_numbers" : Str)), (("parts_at_once" : Str), (none : Option Str)), (("reckon_num" : Str), (none : Option Str)), (("reckon_truth" : Str), (none : Option Str)), (("reckon_name" : Str), (none : Option Str)), (("reckon_add" : Str), (none : Option Str)), (("reckon_take" : Str), (none : Option Str)), (("reckon_part" : Str), (none : Option Str)), (("reckon_less" : Str), (none : Option Str)), (("reckon_let" : Str), (none : Option Str)), (("reckon_if" : Str), (none : Option Str)), (("reckon_record" : Str), (none : Option Str)), (("reckon_field" : Str), (none : Option Str)), (("reckon_with" : Str), (none : Option Str)), (("must_be_record" : Str), (none : Option Str)), (("reckon_choice" : Str), (none : Option Str)), (("reckon_case" : Str), (none : Option Str)), (("reckon_again" : Str), (none : Option Str)), (("reckon_call" : Str), (none : Option Str)), (("_law_cell_at" : Str), (none : Option Str)), (("_law_name_by" : Str), (none : Option Str)), (("_law_number_by" : Str), (none : Option Str)), (("_law_sum" : Str), (none : Option Str)), (("_law_if" : Str), (none : Option Str)), (("_law_joined" : Str), (none : Option Str)), (("_law_told" : Str), (none : Option Str)), (("_law_alike" : Str), (none : Option Str)), (("law" : Str), (none : Option Str))], ["Scope", "Run"], ["KindError", "Stuck", "Stopped", "LostName", "LostField", "LostShape", "Misfit", "ByNought", "TooGreat"], fac, [("PLACES", tb_PLACES), ("ACTIONS", tb_ACTIONS)], [(0, "with_name", 2), (1, "ask", 4), (1, "go_on", 5), (1, "begin", 6), (1, "place_of_deed", 7), (1, "give", 8), (1, "give_number", 9), (1, "take_value", 10), (1, "take_values", 11), (1, "take_numbers", 12)]⟩
def tab : Tab := ⟨[("reckoned", 0), ("parts_at_once", 13), ("reckon_num", 14), ("reckon_truth", 15), ("reckon_name", 16), ("reckon_add", 17), ("reckon_take", 18), ("reckon_part", 19), ("reckon_less", 20), ("reckon_let", 21), ("reckon_if", 22), ("reckon_record", 23), ("reckon_field", 24), ("reckon_with", 25), ("must_be_record", 26), ("reckon_choice", 27), ("reckon_case", 28), ("reckon_again", 29), ("reckon_call", 30), ("_law_cell_at", 31), ("_law_name_by", 32), ("_law_number_by", 33), ("_law_sum", 34), ("_law_if", 35), ("_law_joined", 36), ("_law_told", 37), ("_law_alike", 38), ("law", 39)], [("Scope", 0), ("Run", 1)], [("KindError", 0), ("Stuck", 1), ("Stopped", 2), ("LostName", 3), ("LostField", 4), ("LostShape", 5), ("Misfit", 6), ("ByNought", 7), ("TooGreat", 8)], ["len", "int", "list", "dict", "abs", "max", "isinstance", "bool", "str", "tuple", "range", "enumerate", "reversed", "zip", "ValueError"], [("MOST", .int (1000000000000))], ["ahead", "deeds", "names", "pending", "places", "results"], [("PLACES", 0), ("ACTIONS", 1)], ["ask", "begin", "give", "give_number", "go_on", "place_of_deed", "take_numbers", "take_value", "take_values", "with_name"], [(42, 23), (43, 23), (270, 18), (270, 40)]⟩
def ini (c : Nat) : Nat := ([1, 3] : List Nat).getD c 0
def q_reckoned_0 : SL := .cons (.frz [3] (.ex (.meth "go_on" (.var 3) .nil))) .nil
def q_reckoned_1 : SL := .cons (.frz [3] (.ret (.cpop (.attr (.var 3) "results")))) .nil
def q_reckoned_2 : SL := .cons (.frz [3] (.whl (.e (.attr (.var 3) "pending")) q_reckoned_0)) q_reckoned_1
def q_reckoned_3 : SL := .cons (.frz [3, 2, 1] (.ex (.meth "ask" (.var 3) (.cons (.var 2) (.cons (.new 0 (.cons (.var 1) (.cons (.bi .len (.var 0)) .nil))) .nil))))) q_reckoned_2
def q_reckoned_4 : SL := .cons (.frz [0] (.asg (.nm 3) (.new 1 (.cons (.var 0) .nil)))) q_reckoned_3
abbrev b_reckoned : SL := q_reckoned_4
theorem c_reckoned : (sfam (fam 40) 40).cB ⟨tab, ["deeds", "names", "tree", "run"], (defScope (top 13)).names, (defScope (top 13)).names.map (·.1)⟩ (defBody (top 13)) = some b_reckoned := by decide +kernel
theorem s_reckoned : FnScope ["deeds", "names", "tree", "run"] ["deeds", "names", "tree"] (defScope (top 13)) := ⟨rfl, rfl, rfl, by decide +kernel, rfl, by decide +kernel, by decide +kernel⟩
def q_Scope_init_0 : SL := .cons (.frz [0, 2] (.attr (.var 0) "ahead" (.var 2))) .nil
def q_Scope_init_1 : SL := .cons (.frz [0, 1] (.attr (.var 0) "names" (.var 1))) q_Scope_init_0
abbrev b_Scope_init : SL := q_Scope_init_1
theorem c_Scope_init : (sfam (fam 40) 40).cB ⟨tab, ["self", "names", "ahead"], (defScope (inClass (top 14) 0)).names, (defScope (inClass (top 14) 0)).names.map (·.1)⟩ (defBody (inClass (top 14) 0)) = some b_Scope_init := by decide +kernel
theorem s_Scope_init : FnScope ["self", "names", "ahead"] ["self", "names", "ahead"] (defScope (inClass (top 14) 0)) := ⟨rfl, rfl, rfl, by decide +kernel, rfl, by decide +kernel, by decide +kernel⟩
def q_Scope_with_name_0 : SL := .cons (.frz [0, 1, 2, 0] (.ret (.new 0 (.cons (.mrg1 (.attr (.var 0) "names") (.var 1) (.var 2)) (.cons (.attr (.var 0) "ahead") .nil))))) .nil
abbrev b_Scope_with_name : SL := q_Scope_with_name_0
theorem c_Scope_with_name : (sfam (fam 40) 40).cB ⟨tab, ["self", "name", "value"], (defScope (inClass (top 14) 1)).names, (defScope (inClass (top 14) 1)).names.map (·.1)⟩ (defBody (inClass (top 14) 1)) = some b_Scope_with_name := by decide +kernel
theorem s_Scope_with_name : FnScope ["self", "name", "value"] ["self", "name", "value"] (defScope (inClass (top 14) 1)) := ⟨rfl, rfl, rfl, by decide +kernel, rfl, by decide +kernel, by decide +kernel⟩
def q_Run_init_0 : SL := .cons (.frz [0] (.attr (.var 0) "results" (.cell (.lst .nil)))) .nil
def q_Run_init_1 : SL := .cons (.frz [0] (.attr (.var 0) "pending" (.cell (.lst .nil)))) q_Run_init_0
def q_Run_init_2 : SL := .cons (.frz [0, 2, 1] (.attr (.var 0) "places" (.dc (.sub (.var 3) (.int (0))) (.var 2) (.tup [2, 3]) (.enum (.var 1)) .yes [2, 3]))) q_Run_init_1
def q_Run_init_3 : SL := .cons (.frz [0, 1] (.attr (.var 0) "deeds" (.var 1))) q_Run_init_2
abbrev b_Run_init : SL := q_Run_init_3
theorem c_Run_init : (sfam (fam 40) 40).cB ⟨tab, ["self", "deeds", "at", "deed"], (defScope (inClass (top 15) 0)).names, (defScope (inClass (top 15) 0)).names.map (·.1)⟩ (defBody (inClass (top 15) 0)) = some b_Run_init := by decide +kernel
theorem s_Run_init : FnScope ["self", "deeds", "at", "deed"] ["self", "deeds"] (defScope (inClass (top 15) 0)) := ⟨rfl, rfl, rfl, by decide +kernel, rfl, by decide +kernel, by decide +kernel⟩
def q_Run_ask_0 : SL := .cons (.frz [0, 1, 2] (.capp (.attr (.var 0) "pending") (.tup (.cons (.var 1) (.cons (.var 2) (.cons (.bl false) .nil)))))) .nil
abbrev b_Run_ask : SL := q_Run_ask_0
theorem c_Run_ask : (sfam (fam 40) 40).cB ⟨tab, ["self", "tree", "scope"], (defScope (inClass (top 15) 1)).names, (defScope (inClass (top 15) 1)).names.map (·.1)⟩ (defBody (inClass (top 15) 1)) = some b_Run_ask := by decide +kernel
theorem s_Run_ask : FnScope ["self", "tree", "scope"] ["self", "tree", "scope"] (defScope (inClass (top 15) 1)) := ⟨rfl, rfl, rfl, by decide +kernel, rfl, by decide +kernel, by decide +kernel⟩
def q_Run_go_on_0 : SL := .cons (.frz [0, 1, 2] (.ex (.callv 4 (.cons (.var 0) (.cons (.var 1) (.cons (.var 2) .nil)))))) .nil
def q_Run_go_on_1 : SL := .cons (.asg (.nm 4) (.tsub 1 (.sub (.var 1) (.int (0))))) q_Run_go_on_0
def q_Run_go_on_2 : SL := .cons (.frz [0, 1, 2] (.ex (.meth "begin" (.var 0) (.cons (.var 1) (.cons (.var 2) .nil))))) .nil
def q_Run_go_on_3 : SL := .cons (.ite (.e (.var 3)) q_Run_go_on_1 q_Run_go_on_2) .nil
def q_Run_go_on_4 : SL := .cons (.frz [0] (.asg (.tup [1, 2, 3]) (.cpop (.attr (.var 0) "pending")))) q_Run_go_on_3
abbrev b_Run_go_on : SL := q_Run_go_on_4
theorem c_Run_go_on : (sfam (fam 40) 40).cB ⟨tab, ["self", "tree", "scope", "parts_reckoned", "action"], (defScope (inClass (top 15) 2)).names, (defScope (inClass (top 15) 2)).names.map (·.1)⟩ (defBody (inClass (top 15) 2)) = some b_Run_go_on := by decide +kernel
theorem s_Run_go_on : FnScope ["self", "tree", "scope", "parts_reckoned", "action"] ["self"] (defScope (inClass (top 15) 2)) := ⟨rfl, rfl, rfl, by decide +kernel, rfl, by decide +kernel, by decide +kernel⟩
def q_Run_begin_0 : SL := .cons (.frz [0, 2] (.ex (.meth "place_of_deed" (.var 0) (.cons (.sub (.var 1) (.int (1))) (.cons (.var 2) .nil))))) .nil
def q_Run_begin_1 : SL := .cons (.frz [0, 1, 2] (.capp (.attr (.var 0) "pending") (.tup (.cons (.var 1) (.cons (.var 2) (.cons (.bl true) .nil)))))) .nil
def q_Run_begin_2 : SL := .cons (.frz [0, 5, 2] (.ex (.meth "ask" (.var 0) (.cons (.var 5) (.cons (.var 2) .nil))))) .nil
def q_Run_begin_3 : SL := .cons (.frz [1] (.for (.nm 5) (.rev (.call 13 (.cons (.var 1) .nil))) q_Run_begin_2)) .nil
def q_Run_begin_4 : SL := .cons (.frz [3] (.for (.nm 4) (.rng (.var 3)) q_Run_begin_1)) q_Run_begin_3
def q_Run_begin_5 : SL := .cons (.asg (.nm 3) (.ite (.e (.cmp .eq (.sub (.var 1) (.int (0))) (.str "again"))) (.sub (.var 1) (.int (1))) (.int (1)))) q_Run_begin_4
def q_Run_begin_6 : SL := .cons (.ite (.e (.cmp .eq (.sub (.var 1) (.int (0))) (.str "call"))) q_Run_begin_0 .nil) q_Run_begin_5
abbrev b_Run_begin : SL := q_Run_begin_6
theorem c_Run_begin : (sfam (fam 40) 40).cB ⟨tab, ["self", "tree", "scope", "times", "_", "part"], (defScope (inClass (top 15) 3)).names, (defScope (inClass (top 15) 3)).names.map (·.1)⟩ (defBody (inClass (top 15) 3)) = some b_Run_begin := by decide +kernel
theorem s_Run_begin : FnScope ["self", "tree", "scope", "times", "_", "part"] ["self", "tree", "scope"] (defScope (inClass (top 15) 3)) := ⟨rfl, rfl, rfl, by decide +kernel, rfl, by decide +kernel, by decide +kernel⟩
def q_Run_place_of_deed_0 : SL := .cons (.frz [1] (.raise 3 (.cons (.fst (.cons (.str "no deed ") (.cons (.fmt (.var 1)) (.cons (.str " is told ahead") .nil)))) .nil))) .nil
def q_Run_place_of_deed_1 : SL := .cons (.frz [0, 1] (.ret (.sub (.attr (.var 0) "places") (.var 1)))) .nil
def q_Run_place_of_deed_2 : SL := .cons (.frz [0, 0, 1, 2] (.ite (.or (.e (.cmp .nin (.var 1) (.attr (.var 0) "places"))) (.e (.cmp .ge (.sub (.attr (.var 0) "places") (.var 1)) (.attr (.var 2) "ahead")))) q_Run_place_of_deed_0 .nil)) q_Run_place_of_deed_1
abbrev b_Run_place_of_deed : SL := q_Run_place_of_deed_2
theorem c_Run_place_of_deed : (sfam (fam 40) 40).cB ⟨tab, ["self", "name", "scope"], (defScope (inClass (top 15) 4)).names, (defScope (inClass (top 15) 4)).names.map (·.1)⟩ (defBody (inClass (top 15) 4)) = some b_Run_place_of_deed := by decide +kernel
theorem s_Run_place_of_deed : FnScope ["self", "name", "scope"] ["self", "name", "scope"] (defScope (inClass (top 15) 4)) := ⟨rfl, rfl, rfl, by decide +kernel, rfl, by decide +kernel, by decide +kernel⟩
def q_Run_give_0 : SL := .cons (.frz [0, 1] (.capp (.attr (.var 0) "results") (.var 1))) .nil
abbrev b_Run_give : SL := q_Run_give_0
theorem c_Run_give : (sfam (fam 40) 40).cB ⟨tab, ["self", "value"], (defScope (inClass (top 15) 5)).names, (defScope (inClass (top 15) 5)).names.map (·.1)⟩ (defBody (inClass (top 15) 5)) = some b_Run_give := by decide +kernel
theorem s_Run_give : FnScope ["self", "value"] ["self", "value"] (defScope (inClass (top 15) 5)) := ⟨rfl, rfl, rfl, by decide +kernel, rfl, by decide +kernel, by decide +kernel⟩
def q_Run_give_number_0 : SL := .cons (.raise 8 (.cons (.fst (.cons (.str "there is no number beyond ") (.cons (.fmt (.int (1000000000000))) (.cons (.str " either way") .nil)))) .nil)) .nil
def q_Run_give_number_1 : SL := .cons (.frz [0, 1] (.ex (.meth "give" (.var 0) (.cons (.var 1) .nil)))) .nil
def q_Run_give_number_2 : SL := .cons (.ite (.or (.e (.cmp .lt (.var 1) (.neg (.int (1000000000000))))) (.e (.cmp .gt (.var 1) (.int (1000000000000))))) q_Run_give_number_0 .nil) q_Run_give_number_1
abbrev b_Run_give_number : SL := q_Run_give_number_2
theorem c_Run_give_number : (sfam (fam 40) 40).cB ⟨tab, ["self", "number"], (defScope (inClass (top 15) 6)).names, (defScope (inClass (top 15) 6)).names.map (·.1)⟩ (defBody (inClass (top 15) 6)) = some b_Run_give_number := by decide +kernel
theorem s_Run_give_number : FnScope ["self", "number"] ["self", "number"] (defScope (inClass (top 15) 6)) := ⟨rfl, rfl, rfl, by decide +kernel, rfl, by decide +kernel, by decide +kernel⟩
def q_Run_take_value_0 : SL := .cons (.frz [0] (.ret (.cpop (.attr (.var 0) "results")))) .nil
abbrev b_Run_take_value : SL := q_Run_take_value_0
theorem c_Run_take_value : (sfam (fam 40) 40).cB ⟨tab, ["self"], (defScope (inClass (top 15) 7)).names, (defScope (inClass (top 15) 7)).names.map (·.1)⟩ (defBody (inClass (top 15) 7)) = some b_Run_take_value := by decide +kernel
theorem s_Run_take_value : FnScope ["self"] ["self"] (defScope (inClass (top 15) 7)) := ⟨rfl, rfl, rfl, by decide +kernel, rfl, by decide +kernel, by decide +kernel⟩
def q_Run_take_values_0 : SL := .cons (.frz [3] (.ret (.var 3))) .nil
def q_Run_take_values_1 : SL := .cons (.frz [0, 2] (.cdels (.attr (.var 0) "results") (.var 2))) q_Run_take_values_0
def q_Run_take_values_2 : SL := .cons (.frz [0, 2] (.asg (.nm 3) (.slice (.attr (.var 0) "results") (.var 2) .non))) q_Run_take_values_1
def q_Run_take_values_3 : SL := .cons (.frz [0] (.asg (.nm 2) (.bin .sub (.bi .len (.attr (.var 0) "results")) (.var 1)))) q_Run_take_values_2
abbrev b_Run_take_values : SL := q_Run_take_values_3
theorem c_Run_take_values : (sfam (fam 40) 40).cB ⟨tab, ["self", "count", "start", "taken"], (defScope (inClass (top 15) 8)).names, (defScope (inClass (top 15) 8)).names.map (·.1)⟩ (defBody (inClass (top 15) 8)) = some b_Run_take_values := by decide +kernel
theorem s_Run_take_values : FnScope ["self", "count", "start", "taken"] ["self", "count"] (defScope (inClass (top 15) 8)) := ⟨rfl, rfl, rfl, by decide +kernel, rfl, by decide +kernel, by decide +kernel⟩
def q_Run_take_numbers_0 : SL := .cons (.raise 6 (.cons (.str "what is wanted here is a number") .nil)) .nil
def q_Run_take_numbers_1 : SL := .cons (.ite (.or (.e (.isi (.var 1) [.bool])) (.not (.e (.isi (.var 1) [.int])))) q_Run_take_numbers_0 .nil) .nil
def q_Run_take_numbers_2 : SL := .cons (.frz [2, 3] (.ret (.tup (.cons (.var 2) (.cons (.var 3) .nil))))) .nil
def q_Run_take_numbers_3 : SL := .cons (.frz [2, 3] (.for (.nm 1) (.over (.tup (.cons (.var 2) (.cons (.var 3) .nil)))) q_Run_take_numbers_1)) q_Run_take_numbers_2
def q_Run_take_numbers_4 : SL := .cons (.frz [0] (.asg (.tup [2, 3]) (.meth "take_values" (.var 0) (.cons (.int (2)) .nil)))) q_Run_take_numbers_3
abbrev b_Run_take_numbers : SL := q_Run_take_numbers_4
theorem c_Run_take_numbers : (sfam (fam 40) 40).cB ⟨tab, ["self", "value", "one", "other"], (defScope (inClass (top 15) 9)).names, (defScope (inClass (top 15) 9)).names.map (·.1)⟩ (defBody (inClass (top 15) 9)) = some b_Run_take_numbers := by decide +kernel
theorem s_Run_take_numbers : FnScope ["self", "value", "one", "other"] ["self"] (defScope (inClass (top 15) 9)) := ⟨rfl, rfl, rfl, by decide +kernel, rfl, by decide +kernel, by decide +kernel⟩
def q_parts_at_once_0 : SL := .cons (.frz [4] (.ret (.lc (.var 4) (.tup [3, 4]) (.over (.sub (.var 0) (.int (1)))) .yes [3, 4]))) .nil
def q_parts_at_once_1 : SL := .cons (.ret (.bi .list (.sub (.var 0) (.int (2))))) .nil
def q_parts_at_once_2 : SL := .cons (.frz [2, 1] (.ret (.lc (.sub (.var 0) (.var 2)) (.nm 2) (.over (.tsub 0 (.var 1))) .yes [2]))) .nil
def q_parts_at_once_3 : SL := .cons (.ite (.e (.cmp .eq (.var 1) (.str "call"))) q_parts_at_once_1 .nil) q_parts_at_once_2
def q_parts_at_once_4 : SL := .cons (.ite (.e (.cmp .eq (.var 1) (.str "record"))) q_parts_at_once_0 .nil) q_parts_at_once_3
def q_parts_at_once_5 : SL := .cons (.asg (.nm 1) (.sub (.var 0) (.int (0)))) q_parts_at_once_4
abbrev b_parts_at_once : SL := q_parts_at_once_5
theorem c_parts_at_once : (sfam (fam 40) 40).cB ⟨tab, ["tree", "word", "at", "_", "part"], (defScope (top 16)).names, (defScope (top 16)).names.map (·.1)⟩ (defBody (top 16)) = some b_parts_at_once := by decide +kernel
theorem s_parts_at_once : FnScope ["tree", "word", "at", "_", "part"] ["tree"] (defScope (top 16)) := ⟨rfl, rfl, rfl, by decide +kernel, rfl, by decide +kernel, by decide +kernel⟩
def q_reckon_num_0 : SL := .cons (.frz [0] (.ex (.meth "give_number" (.var 0) (.cons (.sub (.var 1) (.int (1))) .nil)))) .nil
abbrev b_reckon_num : SL := q_reckon_num_0
theorem c_reckon_num : (sfam (fam 40) 40).cB ⟨tab, ["run", "tree", "scope"], (defScope (top 17)).names, (defScope (top 17)).names.map (·.1)⟩ (defBody (top 17)) = some b_reckon_num := by decide +kernel
theorem s_reckon_num : FnScope ["run", "tree", "scope"] ["run", "tree", "scope"] (defScope (top 17)) := ⟨rfl, rfl, rfl, by decide +kernel, rfl, by decide +kernel, by decide +kernel⟩
def q_reckon_truth_0 : SL := .cons (.frz [0] (.ex (.meth "give" (.var 0) (.cons (.sub (.var 1) (.int (1))) .nil)))) .nil
abbrev b_reckon_truth : SL := q_reckon_truth_0
theorem c_reckon_truth : (sfam (fam 40) 40).cB ⟨tab, ["run", "tree", "scope"], (defScope (top 18)).names, (defScope (top 18)).names.map (·.1)⟩ (defBody (top 18)) = some b_reckon_truth := by decide +kernel
theorem s_reckon_truth : FnScope ["run", "tree", "scope"] ["run", "tree", "scope"] (defScope (top 18)) := ⟨rfl, rfl, rfl, by decide +kernel, rfl, by decide +kernel, by decide +kernel⟩
def q_reckon_name_0 : SL := .cons (.frz [3] (.raise 3 (.cons (.fst (.cons (.str "there is no name ") (.cons (.fmt (.var 3)) .nil))) .nil))) .nil
def q_reckon_name_1 : SL := .cons (.frz [0, 2, 3] (.ex (.meth "give" (.var 0) (.cons (.sub (.attr (.var 2) "names") (.var 3)) .nil)))) .nil
def q_reckon_name_2 : SL := .cons (.frz [2] (.ite (.e (.cmp .nin (.var 3) (.attr (.var 2) "names"))) q_reckon_name_0 .nil)) q_reckon_name_1
def q_reckon_name_3 : SL := .cons (.asg (.nm 3) (.sub (.var 1) (.int (1)))) q_reckon_name_2
abbrev b_reckon_name : SL := q_reckon_name_3
theorem c_reckon_name : (sfam (fam 40) 40).cB ⟨tab, ["run", "tree", "scope", "name"], (defScope (top 19)).names, (defScope (top 19)).names.map (·.1)⟩ (defBody (top 19)) = some b_reckon_name := by decide +kernel
theorem s_reckon_name : FnScope ["run", "tree", "scope", "name"] ["run", "tree", "scope"] (defScope (top 19)) := ⟨rfl, rfl, rfl, by decide +kernel, rfl, by decide +kernel, by decide +kernel⟩
def q_reckon_add_0 : SL := .cons (.frz [0] (.ex (.meth "give_number" (.var 0) (.cons (.bin .add (.var 3) (.var 4)) .nil)))) .nil
def q_reckon_add_1 : SL := .cons (.frz [0] (.asg (.tup [3, 4]) (.meth "take_numbers" (.var 0) .nil))) q_reckon_add_0
abbrev b_reckon_add : SL := q_reckon_add_1
theorem c_reckon_add : (sfam (fam 40) 40).cB ⟨tab, ["run", "tree", "scope", "one", "other"], (defScope (top 20)).names, (defScope (top 20)).names.map (·.1)⟩ (defBody (top 20)) = some b_reckon_add := by decide +kernel
theorem s_reckon_add : FnScope ["run", "tree", "scope", "one", "other"] ["run", "tree", "scope"] (defScope (top 20)) := ⟨rfl, rfl, rfl, by decide +kernel, rfl, by decide +kernel, by decide +kernel⟩
def q_reckon_take_0 : SL := .cons (.frz [0] (.ex (.meth "give_number" (.var 0) (.cons (.bin .sub (.var 3) (.var 4)) .nil)))) .nil
def q_reckon_take_1 : SL := .cons (.frz [0] (.asg (.tup [3, 4]) (.meth "take_numbers" (.var 0) .nil))) q_reckon_take_0
abbrev b_reckon_take : SL := q_reckon_take_1
theorem c_reckon_take : (sfam (fam 40) 40).cB ⟨tab, ["run", "tree", "scope", "one", "other"], (defScope (top 21)).names, (defScope (top 21)).names.map (·.1)⟩ (defBody (top 21)) = some b_reckon_take := by decide +kernel
theorem s_reckon_take : FnScope ["run", "tree", "scope", "one", "other"] ["run", "tree", "scope"] (defScope (top 21)) := ⟨rfl, rfl, rfl, by decide +kernel, rfl, by decide +kernel, by decide +kernel⟩
def q_reckon_part_0 : SL := .cons (.raise 7 (.cons (.str "no number is parted by nought") .nil)) .nil
def q_reckon_part_1 : SL := .cons (.frz [0] (.ex (.meth "give_number" (.var 0) (.cons (.bin .fdiv (.var 3) (.var 4)) .nil)))) .nil
def q_reckon_part_2 : SL := .cons (.ite (.e (.cmp .eq (.var 4) (.int (0)))) q_reckon_part_0 .nil) q_reckon_part_1
def q_reckon_part_3 : SL := .cons (.frz [0] (.asg (.tup [3, 4]) (.meth "take_numbers" (.var 0) .nil))) q_reckon_part_2
abbrev b_reckon_part : SL := q_reckon_part_3
theorem c_reckon_part : (sfam (fam 40) 40).cB ⟨tab, ["run", "tree", "scope", "one", "other"], (defScope (top 22)).names, (defScope (top 22)).names.map (·.1)⟩ (defBody (top 22)) = some b_reckon_part := by decide +kernel
theorem s_reckon_part : FnScope ["run", "tree", "scope", "one", "other"] ["run", "tree", "scope"] (defScope (top 22)) := ⟨rfl, rfl, rfl, by decide +kernel, rfl, by decide +kernel, by decide +kernel⟩
def q_reckon_less_0 : SL := .cons (.frz [0] (.ex (.meth "give" (.var 0) (.cons (.cmp .lt (.var 3) (.var 4)) .nil)))) .nil
def q_reckon_less_1 : SL := .cons (.frz [0] (.asg (.tup [3, 4]) (.meth "take_numbers" (.var 0) .nil))) q_reckon_less_0
abbrev b_reckon_less : SL := q_reckon_less_1
theorem c_reckon_less : (sfam (fam 40) 40).cB ⟨tab, ["run", "tree", "scope", "one", "other"], (defScope (top 23)).names, (defScope (top 23)).names.map (·.1)⟩ (defBody (top 23)) = some b_reckon_less := by decide +kernel
theorem s_reckon_less : FnScope ["run", "tree", "scope", "one", "other"] ["run", "tree", "scope"] (defScope (top 23)) := ⟨rfl, rfl, rfl, by decide +kernel, rfl, by decide +kernel, by decide +kernel⟩
def q_reckon_let_0 : SL := .cons (.frz [0, 4, 2, 3, 0] (.ex (.meth "ask" (.var 0) (.cons (.var 4) (.cons (.meth "with_name" (.var 2) (.cons (.var 3) (.cons (.meth "take_value" (.var 0) .nil) .nil))) .nil))))) .nil
def q_reckon_let_1 : SL := .cons (.asg (.nm 4) (.sub (.var 1) (.int (3)))) q_reckon_let_0
def q_reckon_let_2 : SL := .cons (.asg (.nm 3) (.sub (.var 1) (.int (1)))) q_reckon_let_1
abbrev b_reckon_let : SL := q_reckon_let_2
theorem c_reckon_let : (sfam (fam 40) 40).cB ⟨tab, ["run", "tree", "scope", "name", "then"], (defScope (top 24)).names, (defScope (top 24)).names.map (·.1)⟩ (defBody (top 24)) = some b_reckon_let := by decide +kernel
theorem s_reckon_let : FnScope ["run", "tree", "scope", "name", "then"] ["run", "tree", "scope"] (defScope (top 24)) := ⟨rfl, rfl, rfl, by decide +kernel, rfl, by decide +kernel, by decide +kernel⟩
def q_reckon_if_0 : SL := .cons (.raise 6 (.cons (.str "what is wanted here is a truth") .nil)) .nil
def q_reckon_if_1 : SL := .cons (.frz [0, 2] (.ex (.meth "ask" (.var 0) (.cons (.ite (.e (.var 3)) (.sub (.var 1) (.int (2))) (.sub (.var 1) (.int (3)))) (.cons (.var 2) .nil))))) .nil
def q_reckon_if_2 : SL := .cons (.ite (.not (.e (.isi (.var 3) [.bool]))) q_reckon_if_0 .nil) q_reckon_if_1
def q_reckon_if_3 : SL := .cons (.frz [0] (.asg (.nm 3) (.meth "take_value" (.var 0) .nil))) q_reckon_if_2
abbrev b_reckon_if : SL := q_reckon_if_3
theorem c_reckon_if : (sfam (fam 40) 40).cB ⟨tab, ["run", "tree", "scope", "test"], (defScope (top 25)).names, (defScope (top 25)).names.map (·.1)⟩ (defBody (top 25)) = some b_reckon_if := by decide +kernel
theorem s_reckon_if : FnScope ["run", "tree", "scope", "test"] ["run", "tree", "scope"] (defScope (top 25)) := ⟨rfl, rfl, rfl, by decide +kernel, rfl, by decide +kernel, by decide +kernel⟩
def q_reckon_record_0 : SL := .cons (.frz [0, 6, 3, 4] (.ex (.meth "give" (.var 0) (.cons (.dc (.sub (.var 5) (.int (0))) (.var 6) (.tup [5, 6]) (.zip (.var 3) (.var 4)) .yes [5, 6]) .nil)))) .nil
def q_reckon_record_1 : SL := .cons (.frz [0] (.asg (.nm 4) (.meth "take_values" (.var 0) (.cons (.bi .len (.var 3)) .nil)))) q_reckon_record_0
def q_reckon_record_2 : SL := .cons (.asg (.nm 3) (.sub (.var 1) (.int (1)))) q_reckon_record_1
abbrev b_reckon_record : SL := q_reckon_record_2
theorem c_reckon_record : (sfam (fam 40) 40).cB ⟨tab, ["run", "tree", "scope", "rows", "values", "row", "value"], (defScope (top 26)).names, (defScope (top 26)).names.map (·.1)⟩ (defBody (top 26)) = some b_reckon_record := by decide +kernel
theorem s_reckon_record : FnScope ["run", "tree", "scope", "rows", "values", "row", "value"] ["run", "tree", "scope"] (defScope (top 26)) := ⟨rfl, rfl, rfl, by decide +kernel, rfl, by decide +kernel, by decide +kernel⟩
def q_reckon_field_0 : SL := .cons (.frz [3] (.raise 4 (.cons (.fst (.cons (.str "the record has no field ") (.cons (.fmt (.var 3)) .nil))) .nil))) .nil
def q_reckon_field_1 : SL := .cons (.frz [0, 3] (.ex (.meth "give" (.var 0) (.cons (.sub (.var 4) (.var 3)) .nil)))) .nil
def q_reckon_field_2 : SL := .cons (.ite (.e (.cmp .nin (.var 3) (.var 4))) q_reckon_field_0 .nil) q_reckon_field_1
def q_reckon_field_3 : SL := .cons (.frz [4] (.ex (.call 26 (.cons (.var 4) .nil)))) q_reckon_field_2
def q_reckon_field_4 : SL := .cons (.frz [0] (.asg (.nm 4) (.meth "take_value" (.var 0) .nil))) q_reckon_field_3
def q_reckon_field_5 : SL := .cons (.asg (.nm 3) (.sub (.var 1) (.int (2)))) q_reckon_field_4
abbrev b_reckon_field : SL := q_reckon_field_5
theorem c_reckon_field : (sfam (fam 40) 40).cB ⟨tab, ["run", "tree", "scope", "field", "record"], (defScope (top 27)).names, (defScope (top 27)).names.map (·.1)⟩ (defBody (top 27)) = some b_reckon_field := by decide +kernel
theorem s_reckon_field : FnScope ["run", "tree", "scope", "field", "record"] ["run", "tree", "scope"] (defScope (top 27)) := ⟨rfl, rfl, rfl, by decide +kernel, rfl, by decide +kernel, by decide +kernel⟩
def q_reckon_with_0 : SL := .cons (.frz [0, 3, 4] (.ex (.meth "give" (.var 0) (.cons (.mrg1 (.var 3) (.sub (.var 1) (.int (2))) (.var 4)) .nil)))) .nil
def q_reckon_with_1 : SL := .cons (.frz [3] (.ex (.call 26 (.cons (.var 3) .nil)))) q_reckon_with_0
def q_reckon_with_2 : SL := .cons (.frz [0] (.asg (.tup [3, 4]) (.meth "take_values" (.var 0) (.cons (.int (2)) .nil)))) q_reckon_with_1
abbrev b_reckon_with : SL := q_reckon_with_2
theorem c_reckon_with : (sfam (fam 40) 40).cB ⟨tab, ["run", "tree", "scope", "record", "value"], (defScope (top 28)).names, (defScope (top 28)).names.map (·.1)⟩ (defBody (top 28)) = some b_reckon_with := by decide +kernel
theorem s_reckon_with : FnScope ["run", "tree", "scope", "record", "value"] ["run", "tree", "scope"] (defScope (top 28)) := ⟨rfl, rfl, rfl, by decide +kernel, rfl, by decide +kernel, by decide +kernel⟩
def q_must_be_record_0 : SL := .cons (.raise 6 (.cons (.str "what is wanted here is a record") .nil)) .nil
def q_must_be_record_1 : SL := .cons (.ite (.not (.e (.isi (.var 0) [.dict]))) q_must_be_record_0 .nil) .nil
abbrev b_must_be_record : SL := q_must_be_record_1
theorem c_must_be_record : (sfam (fam 40) 40).cB ⟨tab, ["value"], (defScope (top 29)).names, (defScope (top 29)).names.map (·.1)⟩ (defBody (top 29)) = some b_must_be_record := by decide +kernel
theorem s_must_be_record : FnScope ["value"] ["value"] (defScope (top 29)) := ⟨rfl, rfl, rfl, by decide +kernel, rfl, by decide +kernel, by decide +kernel⟩
def q_reckon_choice_0 : SL := .cons (.frz [0, 0] (.ex (.meth "give" (.var 0) (.cons (.tup (.cons (.sub (.var 1) (.int (1))) (.cons (.meth "take_value" (.var 0) .nil) .nil))) .nil)))) .nil
abbrev b_reckon_choice : SL := q_reckon_choice_0
theorem c_reckon_choice : (sfam (fam 40) 40).cB ⟨tab, ["run", "tree", "scope"], (defScope (top 30)).names, (defScope (top 30)).names.map (·.1)⟩ (defBody (top 30)) = some b_reckon_choice := by decide +kernel
theorem s_reckon_choice : FnScope ["run", "tree", "scope"] ["run", "tree", "scope"] (defScope (top 30)) := ⟨rfl, rfl, rfl, by decide +kernel, rfl, by decide +kernel, by decide +kernel⟩
def q_reckon_case_0 : SL := .cons (.raise 6 (.cons (.str "what is wanted here is a choice") .nil)) .nil
def q_reckon_case_1 : SL := .cons (.ret .non) .nil
def q_reckon_case_2 : SL := .cons (.frz [0, 8, 2, 7, 5] (.ex (.meth "ask" (.var 0) (.cons (.var 8) (.cons (.meth "with_name" (.var 2) (.cons (.var 7) (.cons (.var 5) .nil))) .nil))))) q_reckon_case_1
def q_reckon_case_3 : SL := .cons (.ite (.e (.cmp .eq (.var 6) (.var 4))) q_reckon_case_2 .nil) .nil
def q_reckon_case_4 : SL := .cons (.frz [4] (.raise 5 (.cons (.fst (.cons (.str "no row has the shape ") (.cons (.fmt (.var 4)) .nil))) .nil))) .nil
def q_reckon_case_5 : SL := .cons (.for (.tup [6, 7, 8]) (.over (.sub (.var 1) (.int (2)))) q_reckon_case_3) q_reckon_case_4
def q_reckon_case_6 : SL := .cons (.frz [3] (.asg (.tup [4, 5]) (.var 3))) q_reckon_case_5
def q_reckon_case_7 : SL := .cons (.ite (.not (.e (.isi (.var 3) [.tuple]))) q_reckon_case_0 .nil) q_reckon_case_6
def q_reckon_case_8 : SL := .cons (.frz [0] (.asg (.nm 3) (.meth "take_value" (.var 0) .nil))) q_reckon_case_7
abbrev b_reckon_case : SL := q_reckon_case_8
theorem c_reckon_case : (sfam (fam 40) 40).cB ⟨tab, ["run", "tree", "scope", "choice", "shape", "content", "row_shape", "name", "part"], (defScope (top 31)).names, (defScope (top 31)).names.map (·.1)⟩ (defBody (top 31)) = some b_reckon_case := by decide +kernel
theorem s_reckon_case : FnScope ["run", "tree", "scope", "choice", "shape", "content", "row_shape", "name", "part"] ["run", "tree", "scope"] (defScope (top 31)) := ⟨rfl, rfl, rfl, by decide +kernel, rfl, by decide +kernel, by decide +kernel⟩
def q_reckon_again_0 : SL := .cons (.frz [0, 5, 2, 3, 0] (.ex (.meth "ask" (.var 0) (.cons (.var 5) (.cons (.meth "with_name" (.var 2) (.cons (.var 3) (.cons (.meth "take_value" (.var 0) .nil) .nil))) .nil))))) .nil
def q_reckon_again_1 : SL := .cons (.asg (.tup [3, 4, 5]) (.slice (.var 1) (.int (2)) .non)) q_reckon_again_0
abbrev b_reckon_again : SL := q_reckon_again_1
theorem c_reckon_again : (sfam (fam 40) 40).cB ⟨tab, ["run", "tree", "scope", "name", "_", "then"], (defScope (top 32)).names, (defScope (top 32)).names.map (·.1)⟩ (defBody (top 32)) = some b_reckon_again := by decide +kernel
theorem s_reckon_again : FnScope ["run", "tree", "scope", "name", "_", "then"] ["run", "tree", "scope"] (defScope (top 32)) := ⟨rfl, rfl, rfl, by decide +kernel, rfl, by decide +kernel, by decide +kernel⟩
def q_reckon_call_0 : SL := .cons (.frz [6] (.raise 6 (.cons (.fst (.cons (.fmt (.var 6)) (.cons (.str " wants another number of args") .nil))) .nil))) .nil
def q_reckon_call_1 : SL := .cons (.frz [0, 9, 11, 8, 3, 4] (.ex (.meth "ask" (.var 0) (.cons (.var 9) (.cons (.new 0 (.cons (.dc (.sub (.var 10) (.int (0))) (.var 11) (.tup [10, 11]) (.zip (.var 8) (.var 3)) .yes [10, 11]) (.cons (.var 4) .nil))) .nil))))) .nil
def q_reckon_call_2 : SL := .cons (.ite (.e (.cmp .ne (.bi .len (.var 3)) (.bi .len (.var 8)))) q_reckon_call_0 .nil) q_reckon_call_1
def q_reckon_call_3 : SL := .cons (.frz [0, 4] (.asg (.tup [5, 8, 9]) (.sub (.attr (.var 0) "deeds") (.var 4)))) q_reckon_call_2
def q_reckon_call_4 : SL := .cons (.frz [0, 6, 2] (.asg (.nm 4) (.meth "place_of_deed" (.var 0) (.cons (.var 6) (.cons (.var 2) .nil))))) q_reckon_call_3
def q_reckon_call_5 : SL := .cons (.frz [0] (.asg (.nm 3) (.meth "take_values" (.var 0) (.cons (.bi .len (.var 7)) .nil)))) q_reckon_call_4
def q_reckon_call_6 : SL := .cons (.frz [1] (.asg (.tup [5, 6, 7]) (.var 1))) q_reckon_call_5
abbrev b_reckon_call : SL := q_reckon_call_6
theorem c_reckon_call : (sfam (fam 40) 40).cB ⟨tab, ["run", "tree", "scope", "values", "place", "_", "name", "args", "params", "then", "param", "value"], (defScope (top 33)).names, (defScope (top 33)).names.map (·.1)⟩ (defBody (top 33)) = some b_reckon_call := by decide +kernel
theorem s_reckon_call : FnScope ["run", "tree", "scope", "values", "place", "_", "name", "args", "params", "then", "param", "value"] ["run", "tree", "scope"] (defScope (top 33)) := ⟨rfl, rfl, rfl, by decide +kernel, rfl, by decide +kernel, by decide +kernel⟩
def q__law_cell_at_0 : SL := .cons (.frz [1] (.ret (.sub (.var 0) (.var 1)))) .nil
def q__law_cell_at_1 : SL := .cons (.ret (.int (0))) .nil
def q__law_cell_at_2 : SL := .cons (.ite (.e (.cmp .lt (.var 1) (.bi .len (.var 0)))) q__law_cell_at_0 .nil) q__law_cell_at_1
abbrev b__law_cell_at : SL := q__law_cell_at_2
theorem c__law_cell_at : (sfam (fam 40) 40).cB ⟨tab, ["_law_script", "_law_k"], (defScope (top 36)).names, (defScope (top 36)).names.map (·.1)⟩ (defBody (top 36)) = some b__law_cell_at := by decide +kernel
theorem s__law_cell_at : FnScope ["_law_script", "_law_k"] ["_law_script", "_law_k"] (defScope (top 36)) := ⟨rfl, rfl, rfl, by decide +kernel, rfl, by decide +kernel, by decide +kernel⟩
def q__law_name_by_0 : SL := .cons (.app 2 (.sub (.var 1) (.bin .mod (.bin .add (.bin .fdiv (.var 0) (.int (12))) (.bin .mul (.var 3) (.bin .add (.int (1)) (.bin .mod (.bin .fdiv (.var 0) (.int (312))) (.int (25)))))) (.int (26))))) .nil
def q__law_name_by_1 : SL := .cons (.ret (.join "" (.var 2))) .nil
def q__law_name_by_2 : SL := .cons (.for (.nm 3) (.rng (.bin .add (.int (1)) (.bin .mod (.var 0) (.int (12))))) q__law_name_by_0) q__law_name_by_1
def q__law_name_by_3 : SL := .cons (.asg (.nm 2) (.lst .nil)) q__law_name_by_2
def q__law_name_by_4 : SL := .cons (.asg (.nm 1) (.str "abcdefghijklmnopqrstuvwxyz")) q__law_name_by_3
abbrev b__law_name_by : SL := q__law_name_by_4
theorem c__law_name_by : (sfam (fam 40) 40).cB ⟨tab, ["_law_cell", "_law_some", "_law_signs", "_law_k"], (defScope (top 37)).names, (defScope (top 37)).names.map (·.1)⟩ (defBody (top 37)) = some b__law_name_by := by decide +kernel
theorem s__law_name_by : FnScope ["_law_cell", "_law_some", "_law_signs", "_law_k"] ["_law_cell"] (defScope (top 37)) := ⟨rfl, rfl, rfl, by decide +kernel, rfl, by decide +kernel, by decide +kernel⟩
def q__law_number_by_0 : SL := .cons (.ret (.bin .sub (.bin .mod (.bin .fdiv (.var 0) (.int (3))) (.int (9))) (.int (4)))) .nil
def q__law_number_by_1 : SL := .cons (.ret (.bin .sub (.bin .mod (.bin .fdiv (.var 0) (.int (3))) (.int (2000000000001))) (.int (1000000000000)))) .nil
def q__law_number_by_2 : SL := .cons (.ite (.e (.cmp .gt (.bin .mod (.var 0) (.int (3))) (.int (0)))) q__law_number_by_0 .nil) q__law_number_by_1
abbrev b__law_number_by : SL := q__law_number_by_2
theorem c__law_number_by : (sfam (fam 40) 40).cB ⟨tab, ["_law_cell"], (defScope (top 38)).names, (defScope (top 38)).names.map (·.1)⟩ (defBody (top 38)) = some b__law_number_by := by decide +kernel
theorem s__law_number_by : FnScope ["_law_cell"] ["_law_cell"] (defScope (top 38)) := ⟨rfl, rfl, rfl, by decide +kernel, rfl, by decide +kernel, by decide +kernel⟩
def q__law_sum_0 : SL := .cons (.frz [3] (.ret (.var 3))) .nil
def q__law_sum_1 : SL := .cons (.ite (.e (.isi (.var 3) [.str])) q__law_sum_0 .nil) .nil
def q__law_sum_2 : SL := .cons (.ret (.cmp .lt (.var 1) (.var 2))) .nil
def q__law_sum_3 : SL := .cons (.ret (.str "by nought")) .nil
def q__law_sum_4 : SL := .cons (.asg (.nm 4) (.bin .sub (.var 1) (.var 2))) .nil
def q__law_sum_5 : SL := .cons (.asg (.nm 4) (.bin .fdiv (.var 1) (.var 2))) .nil
def q__law_sum_6 : SL := .cons (.ret (.str "too great")) .nil
def q__law_sum_7 : SL := .cons (.frz [4] (.ret (.var 4))) .nil
def q__law_sum_8 : SL := .cons (.ite (.e (.cmp .gt (.bi .abs (.var 4)) (.int (1000000000000)))) q__law_sum_6 .nil) q__law_sum_7
def q__law_sum_9 : SL := .cons (.ite (.e (.cmp .eq (.var 0) (.str "part"))) q__law_sum_5 .nil) q__law_sum_8
def q__law_sum_10 : SL := .cons (.ite (.e (.cmp .eq (.var 0) (.str "take"))) q__law_sum_4 .nil) q__law_sum_9
def q__law_sum_11 : SL := .cons (.asg (.nm 4) (.bin .add (.var 1) (.var 2))) q__law_sum_10
def q__law_sum_12 : SL := .cons (.ite (.and (.e (.cmp .eq (.var 0) (.str "part"))) (.e (.cmp .eq (.var 2) (.int (0))))) q__law_sum_3 .nil) q__law_sum_11
def q__law_sum_13 : SL := .cons (.ite (.e (.cmp .eq (.var 0) (.str "less"))) q__law_sum_2 .nil) q__law_sum_12
def q__law_sum_14 : SL := .cons (.frz [1, 2] (.for (.nm 3) (.over (.lst (.cons (.var 1) (.cons (.var 2) .nil)))) q__law_sum_1)) q__law_sum_13
abbrev b__law_sum : SL := q__law_sum_14
theorem c__law_sum : (sfam (fam 40) 40).cB ⟨tab, ["_law_word", "_law_one", "_law_other", "_law_part", "_law_found"], (defScope (top 39)).names, (defScope (top 39)).names.map (·.1)⟩ (defBody (top 39)) = some b__law_sum := by decide +kernel
theorem s__law_sum : FnScope ["_law_word", "_law_one", "_law_other", "_law_part", "_law_found"] ["_law_word", "_law_one", "_law_other"] (defScope (top 39)) := ⟨rfl, rfl, rfl, by decide +kernel, rfl, by decide +kernel, by decide +kernel⟩
def q__law_if_0 : SL := .cons (.frz [0] (.ret (.var 0))) .nil
def q__law_if_1 : SL := .cons (.frz [1] (.ret (.var 1))) .nil
def q__law_if_2 : SL := .cons (.frz [2] (.ret (.var 2))) .nil
def q__law_if_3 : SL := .cons (.ite (.e (.var 0)) q__law_if_1 .nil) q__law_if_2
def q__law_if_4 : SL := .cons (.ite (.e (.isi (.var 0) [.str])) q__law_if_0 .nil) q__law_if_3
abbrev b__law_if : SL := q__law_if_4
theorem c__law_if : (sfam (fam 40) 40).cB ⟨tab, ["_law_test", "_law_one", "_law_other"], (defScope (top 40)).names, (defScope (top 40)).names.map (·.1)⟩ (defBody (top 40)) = some b__law_if := by decide +kernel
theorem s__law_if : FnScope ["_law_test", "_law_one", "_law_other"] ["_law_test", "_law_one", "_law_other"] (defScope (top 40)) := ⟨rfl, rfl, rfl, by decide +kernel, rfl, by decide +kernel, by decide +kernel⟩
def q__law_joined_0 : SL := .cons (.frz [10, 10, 9] (.app 4 (.tup (.cons (.tup (.cons (.var 10) (.cons (.sub (.var 8) (.int (0))) (.cons (.sub (.var 7) (.int (0))) .nil)))) (.cons (.call 34 (.cons (.var 10) (.cons (.sub (.var 8) (.int (1))) (.cons (.sub (.var 7) (.int (1))) .nil)))) (.cons (.var 9) .nil)))))) .nil
def q__law_joined_1 : SL := .cons (.frz [6] (.asg (.nm 10) (.sub (.lst (.cons (.str "add") (.cons (.str "take") (.cons (.str "part") .nil)))) (.var 6)))) q__law_joined_0
def q__law_joined_2 : SL := .cons (.frz [8] (.app 4 (.var 8))) .nil
def q__law_joined_3 : SL := .cons (.frz [9] (.app 5 (.tup (.cons (.tup (.cons (.str "less") (.cons (.sub (.var 8) (.int (0))) (.cons (.sub (.var 7) (.int (0))) .nil)))) (.cons (.call 34 (.cons (.str "less") (.cons (.sub (.var 8) (.int (1))) (.cons (.sub (.var 7) (.int (1))) .nil)))) (.cons (.var 9) .nil)))))) q__law_joined_2
def q__law_joined_4 : SL := .cons (.frz [12, 9] (.app 4 (.tup (.cons (.var 12) (.cons (.call 35 (.cons (.sub (.var 11) (.int (1))) (.cons (.sub (.var 8) (.int (1))) (.cons (.sub (.var 7) (.int (1))) .nil)))) (.cons (.b2 .max (.var 9) (.bin .add (.int (1)) (.sub (.var 11) (.int (2))))) .nil)))))) .nil
def q__law_joined_5 : SL := .cons (.asg (.nm 12) (.tup (.cons (.str "if") (.cons (.sub (.var 11) (.int (0))) (.cons (.sub (.var 8) (.int (0))) (.cons (.sub (.var 7) (.int (0))) .nil)))))) q__law_joined_4
def q__law_joined_6 : SL := .cons (.popl (.nm 11) 5) q__law_joined_5
def q__law_joined_7 : SL := .cons (.frz [12] (.app 4 (.tup (.cons (.var 12) (.cons (.call 34 (.cons (.str "take") (.cons (.sub (.var 8) (.int (1))) (.cons (.sub (.var 7) (.int (1))) .nil)))) (.cons (.bin .add (.int (1)) (.var 9)) .nil)))))) .nil
def q__law_joined_8 : SL := .cons (.frz [2, 2] (.asg (.nm 12) (.tup (.cons (.str "let") (.cons (.var 2) (.cons (.sub (.var 8) (.int (0))) (.cons (.tup (.cons (.str "take") (.cons (.tup (.cons (.str "name") (.cons (.var 2) .nil))) (.cons (.sub (.var 7) (.int (0))) .nil)))) .nil))))))) q__law_joined_7
def q__law_joined_9 : SL := .cons (.frz [12] (.app 4 (.tup (.cons (.var 12) (.cons (.call 34 (.cons (.str "take") (.cons (.sub (.var 8) (.int (1))) (.cons (.sub (.var 7) (.int (1))) .nil)))) (.cons (.bin .add (.int (1)) (.var 9)) .nil)))))) .nil
def q__law_joined_10 : SL := .cons (.frz [3, 3] (.asg (.nm 12) (.tup (.cons (.str "take") (.cons (.tup (.cons (.str "let") (.cons (.var 3) (.cons (.sub (.var 8) (.int (0))) (.cons (.tup (.cons (.str "name") (.cons (.var 3) .nil))) .nil))))) (.cons (.sub (.var 7) (.int (0))) .nil)))))) q__law_joined_9
def q__law_joined_11 : SL := .cons (.asg (.nm 13) (.sub (.var 8) (.int (1)))) .nil
def q__law_joined_12 : SL := .cons (.frz [12, 13] (.app 4 (.tup (.cons (.var 12) (.cons (.var 13) (.cons (.bin .add (.int (1)) (.var 9)) .nil)))))) .nil
def q__law_joined_13 : SL := .cons (.ite (.e (.isi (.sub (.var 8) (.int (1))) [.str])) q__law_joined_11 .nil) q__law_joined_12
def q__law_joined_14 : SL := .cons (.asg (.nm 13) (.sub (.var 7) (.int (1)))) q__law_joined_13
def q__law_joined_15 : SL := .cons (.frz [2, 2, 2] (.asg (.nm 12) (.tup (.cons (.str "let") (.cons (.var 2) (.cons (.sub (.var 8) (.int (0))) (.cons (.tup (.cons (.str "let") (.cons (.var 2) (.cons (.sub (.var 7) (.int (0))) (.cons (.tup (.cons (.str "name") (.cons (.var 2) .nil))) .nil))))) .nil))))))) q__law_joined_14
def q__law_joined_16 : SL := .cons (.ite (.e (.cmp .eq (.bin .mod (.bin .fdiv (.var 1) (.int (6))) (.int (3))) (.int (1)))) q__law_joined_10 q__law_joined_15) .nil
def q__law_joined_17 : SL := .cons (.ite (.e (.cmp .eq (.bin .mod (.bin .fdiv (.var 1) (.int (6))) (.int (3))) (.int (0)))) q__law_joined_8 q__law_joined_16) .nil
def q__law_joined_18 : SL := .cons (.ite (.and (.e (.cmp .eq (.var 6) (.int (4)))) (.e (.cmp .ne (.var 5) (.lst .nil)))) q__law_joined_6 q__law_joined_17) .nil
def q__law_joined_19 : SL := .cons (.ite (.e (.cmp .eq (.var 6) (.int (3)))) q__law_joined_3 q__law_joined_18) .nil
def q__law_joined_20 : SL := .cons (.ite (.e (.cmp .lt (.var 6) (.int (3)))) q__law_joined_1 q__law_joined_19) .nil
def q__law_joined_21 : SL := .cons (.asg (.nm 9) (.bin .add (.int (1)) (.b2 .max (.sub (.var 8) (.int (2))) (.sub (.var 7) (.int (2)))))) q__law_joined_20
def q__law_joined_22 : SL := .cons (.popl (.nm 8) 4) q__law_joined_21
def q__law_joined_23 : SL := .cons (.popl (.nm 7) 4) q__law_joined_22
def q__law_joined_24 : SL := .cons (.asg (.nm 6) (.bin .mod (.var 1) (.int (6)))) q__law_joined_23
def q__law_joined_25 : SL := .cons (.asg (.nm 5) (.sub (.var 0) (.int (1)))) q__law_joined_24
def q__law_joined_26 : SL := .cons (.asg (.nm 4) (.sub (.var 0) (.int (0)))) q__law_joined_25
abbrev b__law_joined : SL := q__law_joined_26
theorem c__law_joined : (sfam (fam 40) 40).cB ⟨tab, ["_law_piles", "_law_cell", "_law_x", "_law_first", "_law_numbers", "_law_truths", "_law_pick", "_law_right", "_law_left", "_law_deep", "_law_word", "_law_test", "_law_tree", "_law_due"], (defScope (top 41)).names, (defScope (top 41)).names.map (·.1)⟩ (defBody (top 41)) = some b__law_joined := by decide +kernel
theorem s__law_joined : FnScope ["_law_piles", "_law_cell", "_law_x", "_law_first", "_law_numbers", "_law_truths", "_law_pick", "_law_right", "_law_left", "_law_deep", "_law_word", "_law_test", "_law_tree", "_law_due"] ["_law_piles", "_law_cell", "_law_x", "_law_first"] (defScope (top 41)) := ⟨rfl, rfl, rfl, by decide +kernel, rfl, by decide +kernel, by decide +kernel⟩
def q__law_told_0 : SL := .cons (.frz [0, 1] (.ret (.call 0 (.cons (.lst .nil) (.cons (.var 0) (.cons (.var 1) .nil)))))) .nil
def q__law_told_1 : SL := .cons (.frz [0, 1] (.ex (.call 0 (.cons (.lst .nil) (.cons (.var 0) (.cons (.var 1) .nil)))))) .nil
def q__law_told_2 : SL := .cons (.ret (.str "no such refusal")) .nil
def q__law_told_3 : SL := .cons (.trx q__law_told_1 2 3 [(.ifx [some 0, some 7] (.str "by nought")), (.ifx [none, some 8] (.str "too great"))]) q__law_told_2
def q__law_told_4 : SL := .cons (.tri q__law_told_0 [(7, [(.ifi 2 (0) (.str "by nought"))]), (8, [(.ifi 2 (0) (.str "too great"))])]) q__law_told_3
abbrev b__law_told : SL := q__law_told_4
theorem c__law_told : (sfam (fam 40) 40).cB ⟨tab, ["_law_names", "_law_tree", "_law_pick", "e"], (defScope (top 42)).names, (defScope (top 42)).names.map (·.1)⟩ (defBody (top 42)) = some b__law_told := by decide +kernel
theorem s__law_told : FnScope ["_law_names", "_law_tree", "_law_pick", "e"] ["_law_names", "_law_tree", "_law_pick"] (defScope (top 42)) := ⟨rfl, rfl, rfl, by decide +kernel, rfl, by decide +kernel, by decide +kernel⟩
def q__law_alike_0 : SL := .cons (.ret (.and (.isi (.var 1) [.bool]) (.and (.isi (.var 0) [.bool]) (.and (.bl true) (.cmp .eq (.var 0) (.var 1)))))) .nil
def q__law_alike_1 : SL := .cons (.ret (.and (.isi (.var 0) [.str]) (.and (.bl true) (.cmp .eq (.var 0) (.var 1))))) .nil
def q__law_alike_2 : SL := .cons (.ret (.and (.isi (.var 0) [.int]) (.and (.bl true) (.cmp .eq (.var 0) (.var 1))))) .nil
def q__law_alike_3 : SL := .cons (.ite (.e (.isi (.var 1) [.str])) q__law_alike_1 .nil) q__law_alike_2
def q__law_alike_4 : SL := .cons (.ite (.or (.e (.isi (.var 1) [.bool])) (.e (.isi (.var 0) [.bool]))) q__law_alike_0 .nil) q__law_alike_3
abbrev b__law_alike : SL := q__law_alike_4
theorem c__law_alike : (sfam (fam 40) 40).cB ⟨tab, ["_law_found", "_law_due"], (defScope (top 43)).names, (defScope (top 43)).names.map (·.1)⟩ (defBody (top 43)) = some b__law_alike := by decide +kernel
theorem s__law_alike : FnScope ["_law_found", "_law_due"] ["_law_found", "_law_due"] (defScope (top 43)) := ⟨rfl, rfl, rfl, by decide +kernel, rfl, by decide +kernel, by decide +kernel⟩
def q_law_0 : SL := .cons (.frz [14] (.asg (.nm 12) (.sub (.var 5) (.var 14)))) .nil
def q_law_1 : SL := .cons (.frz [14] (.asg (.nm 13) (.tup (.cons (.str "name") (.cons (.var 14) .nil))))) q_law_0
def q_law_2 : SL := .cons (.frz [3, 4] (.asg (.nm 14) (.sub (.lst (.cons (.var 3) (.cons (.var 4) .nil))) (.bin .mod (.bin .fdiv (.var 8) (.int (15))) (.int (2)))))) q_law_1
def q_law_3 : SL := .cons (.frz [13, 12] (.capp (.sub (.var 7) (.int (0))) (.tup (.cons (.var 13) (.cons (.var 12) (.cons (.int (1)) .nil)))))) .nil
def q_law_4 : SL := .cons (.ite (.e (.cmp .eq (.bin .mod (.bin .fdiv (.var 8) (.int (3))) (.int (5))) (.int (0)))) q_law_2 .nil) q_law_3
def q_law_5 : SL := .cons (.frz [12] (.asg (.nm 13) (.tup (.cons (.str "num") (.cons (.var 12) .nil))))) q_law_4
def q_law_6 : SL := .cons (.asg (.nm 12) (.call 33 (.cons (.bin .fdiv (.var 8) (.int (15))) .nil))) q_law_5
def q_law_7 : SL := .cons (.frz [7, 2, 3] (.ex (.call 36 (.cons (.var 7) (.cons (.bin .fdiv (.var 8) (.int (3))) (.cons (.bin .add (.bin .add (.slice (.var 1) .non (.var 2)) (.sub (.str "uvwx") (.bin .mod (.bin .fdiv (.var 8) (.int (54))) (.int (4))))) (.slice (.var 1) (.bin .add (.var 2) (.int (1))) .non)) (.cons (.var 3) .nil))))))) .nil
def q_law_8 : SL := .cons (.capp (.sub (.var 7) (.int (1))) (.tup (.cons (.tup (.cons (.str "truth") (.cons (.cmp .eq (.bin .mod (.bin .fdiv (.var 8) (.int (19))) (.int (2))) (.int (1))) .nil))) (.cons (.cmp .eq (.bin .mod (.bin .fdiv (.var 8) (.int (19))) (.int (2))) (.int (1))) (.cons (.int (1)) .nil))))) .nil
def q_law_9 : SL := .cons (.ite (.e (.cmp .eq (.bin .mod (.var 8) (.int (19))) (.int (4)))) q_law_8 .nil) .nil
def q_law_10 : SL := .cons (.ite (.or (.e (.cmp .eq (.bin .mod (.var 8) (.int (3))) (.int (0)))) (.or (.e (.cmp .lt (.bi .len (.sub (.var 7) (.int (0)))) (.int (2)))) (.e (.cmp .gt (.var 10) (.int (26)))))) q_law_6 q_law_7) q_law_9
def q_law_11 : SL := .cons (.asg (.nm 10) (.bi .max (.lc (.sub (.var 9) (.int (2))) (.nm 9) (.over (.sub (.var 7) (.int (0)))) .yes [9]))) q_law_10
def q_law_12 : SL := .cons (.ret (.bl false)) .nil
def q_law_13 : SL := .cons (.frz [11] (.ite (.or (.not (.e (.call 38 (.cons (.var 11) (.cons (.sub (.var 9) (.int (1))) .nil))))) (.e (.cmp .ne (.var 6) (.var 5)))) q_law_12 .nil)) .nil
def q_law_14 : SL := .cons (.frz [6, 0] (.asg (.nm 11) (.call 37 (.cons (.var 6) (.cons (.sub (.var 9) (.int (0))) (.cons (.bin .mod (.call 31 (.cons (.var 0) (.cons (.int (1)) .nil))) (.int (2))) .nil)))))) q_law_13
def q_law_15 : SL := .cons (.ret (.bl true)) .nil
def q_law_16 : SL := .cons (.for (.nm 9) (.over (.bin .add (.slice (.sub (.var 7) (.int (0))) (.neg (.int (2))) .non) (.slice (.sub (.var 7) (.int (1))) (.neg (.int (1))) .non))) q_law_14) q_law_15
def q_law_17 : SL := .cons (.for (.nm 8) (.over (.slice (.var 0) (.int (2)) .non)) q_law_11) q_law_16
def q_law_18 : SL := .cons (.asg (.nm 7) (.lst (.cons (.cell (.lst (.cons (.tup (.cons (.tup (.cons (.str "num") (.cons (.int (7)) .nil))) (.cons (.int (7)) (.cons (.int (1)) .nil)))) .nil))) (.cons (.cell (.lst (.cons (.tup (.cons (.tup (.cons (.str "truth") (.cons (.bl true) .nil))) (.cons (.bl true) (.cons (.int (1)) .nil)))) .nil))) .nil)))) q_law_17
def q_law_19 : SL := .cons (.asg (.nm 6) (.bi .dict (.var 5))) q_law_18
def q_law_20 : SL := .cons (.frz [3, 0, 4, 0] (.asg (.nm 5) (.dct (.cons (.var 3) (.call 33 (.cons (.call 31 (.cons (.var 0) (.cons (.int (1)) .nil))) .nil)) (.cons (.var 4) (.call 33 (.cons (.call 31 (.cons (.var 0) (.cons (.int (0)) .nil))) .nil)) .nil))))) q_law_19
def q_law_21 : SL := .cons (.frz [2] (.asg (.nm 4) (.bin .add (.bin .add (.slice (.var 1) .non (.var 2)) (.str "z")) (.slice (.var 1) (.bin .add (.var 2) (.int (1))) .non)))) q_law_20
def q_law_22 : SL := .cons (.frz [2] (.asg (.nm 3) (.bin .add (.bin .add (.slice (.var 1) .non (.var 2)) (.str "y")) (.slice (.var 1) (.bin .add (.var 2) (.int (1))) .non)))) q_law_21
def q_law_23 : SL := .cons (.frz [0] (.asg (.nm 2) (.bin .mod (.call 31 (.cons (.var 0) (.cons (.int (1)) .nil))) (.bi .len (.var 1))))) q_law_22
def q_law_24 : SL := .cons (.frz [0] (.asg (.nm 1) (.call 32 (.cons (.call 31 (.cons (.var 0) (.cons (.int (0)) .nil))) .nil)))) q_law_23
abbrev b_law : SL := q_law_24
theorem c_law : (sfam (fam 40) 40).cB ⟨tab, ["_law_script", "_law_base", "_law_at", "_law_first", "_law_second", "_law_names", "_law_handed", "_law_piles", "_law_cell", "_law_one", "_law_deep", "_law_found", "_law_value", "_law_tree", "_law_name"], (defScope (top 44)).names, (defScope (top 44)).names.map (·.1)⟩ (defBody (top 44)) = some b_law := by decide +kernel
theorem s_law : FnScope ["_law_script", "_law_base", "_law_at", "_law_first", "_law_second", "_law_names", "_law_handed", "_law_piles", "_law_cell", "_law_one", "_law_deep", "_law_found", "_law_value", "_law_tree", "_law_name"] ["_law_script"] (defScope (top 44)) := ⟨rfl, rfl, rfl, by decide +kernel, rfl, by decide +kernel, by decide +kernel⟩
def dfs : List DF := [⟨3, 4, b_reckoned⟩, ⟨3, 3, b_Scope_init⟩, ⟨3, 3, b_Scope_with_name⟩, ⟨2, 4, b_Run_init⟩, ⟨3, 3, b_Run_ask⟩, ⟨1, 5, b_Run_go_on⟩, ⟨3, 6, b_Run_begin⟩, ⟨3, 3, b_Run_place_of_deed⟩, ⟨2, 2, b_Run_give⟩, ⟨2, 2, b_Run_give_number⟩, ⟨1, 1, b_Run_take_value⟩, ⟨2, 4, b_Run_take_values⟩, ⟨1, 4, b_Run_take_numbers⟩, ⟨1, 5, b_parts_at_once⟩, ⟨3, 3, b_reckon_num⟩, ⟨3, 3, b_reckon_truth⟩, ⟨3, 4, b_reckon_name⟩, ⟨3, 5, b_reckon_add⟩, ⟨3, 5, b_reckon_take⟩, ⟨3, 5, b_reckon_part⟩, ⟨3, 5, b_reckon_less⟩, ⟨3, 5, b_reckon_let⟩, ⟨3, 4, b_reckon_if⟩, ⟨3, 7, b_reckon_record⟩, ⟨3, 5, b_reckon_field⟩, ⟨3, 5, b_reckon_with⟩, ⟨1, 1, b_must_be_record⟩, ⟨3, 3, b_reckon_choice⟩, ⟨3, 9, b_reckon_case⟩, ⟨3, 6, b_reckon_again⟩, ⟨3, 12, b_reckon_call⟩, ⟨2, 2, b__law_cell_at⟩, ⟨1, 4, b__law_name_by⟩, ⟨1, 1, b__law_number_by⟩, ⟨3, 5, b__law_sum⟩, ⟨3, 3, b__law_if⟩, ⟨4, 14, b__law_joined⟩, ⟨3, 4, b__law_told⟩, ⟨2, 2, b__law_alike⟩, ⟨1, 15, b_law⟩]
theorem defs_ok {K : PySem.W.Frag} (c : He.SaysD fac fn K) : ∀ (i : Nat) (d : DF), dfs[i]? = some d → DefOk (whr.gc K) K tab 40 40 i d
  | 0, _, h => by cases h; exact defOk_of (ps := ["deeds", "names", "tree"]) (c.def_ 0 (d := d_reckoned) rfl) s_reckoned (fun _ _ _ _ _ _ us hl => match us, hl with | [_, _, _], _ => rfl) c_reckoned
  | 1, _, h => by cases h; exact defOk_of (ps := ["self", "names", "ahead"]) (c.def_ 1 (d := d_Scope_init) rfl) s_Scope_init (fun _ _ _ _ _ _ us hl => match us, hl with | [_, _, _], _ => rfl) c_Scope_init
  | 2, _, h => by cases h; exact defOk_of (ps := ["self", "name", "value"]) (c.def_ 2 (d := d_Scope_with_name) rfl) s_Scope_with_name (fun _ _ _ _ _ _ us hl => match us, hl with | [_, _, _], _ => rfl) c_Scope_with_name
  | 3, _, h => by cases h; exact defOk_of (ps := ["self", "deeds"]) (c.def_ 3 (d := d_Run_init) rfl) s_Run_init (fun _ _ _ _ _ _ us hl => match us, hl with | [_, _], _ => rfl) c_Run_init
  | 4, _, h => by cases h; exact defOk_of (ps := ["self", "tree", "scope"]) (c.def_ 4 (d := d_Run_ask) rfl) s_Run_ask (fun _ _ _ _ _ _ us hl => match us, hl with | [_, _, _], _ => rfl) c_Run_ask
  | 5, _, h => by cases h; exact defOk_of (ps := ["self"]) (c.def_ 5 (d := d_Run_go_on) rfl) s_Run_go_on (fun _ _ _ _ _ _ us hl => match us, hl with | [_], _ => rfl) c_Run_go_on
  | 6, _, h => by cases h; exact defOk_of (ps := ["self", "tree", "scope"]) (c.def_ 6 (d := d_Run_begin) rfl) s_Run_begin (fun _ _ _ _ _ _ us hl => match us, hl with | [_, _, _], _ => rfl) c_Run_begin
  | 7, _, h => by cases h; exact defOk_of (ps := ["self", "name", "scope"]) (c.def_ 7 (d := d_Run_place_of_deed) rfl) s_Run_place_of_deed (fun _ _ _ _ _ _ us hl => match us, hl with | [_, _, _], _ => rfl) c_Run_place_of_deed
  | 8, _, h => by cases h; exact defOk_of (ps := ["self", "value"]) (c.def_ 8 (d := d_Run_give) rfl) s_Run_give (fun _ _ _ _ _ _ us hl => match us, hl with | [_, _], _ => rfl) c_Run_give
  | 9, _, h => by cases h; exact defOk_of (ps := ["self", "number"]) (c.def_ 9 (d := d_Run_give_number) rfl) s_Run_give_number (fun _ _ _ _ _ _ us hl => match us, hl with | [_, _], _ => rfl) c_Run_give_number
  | 10, _, h => by cases h; exact defOk_of (ps := ["self"]) (c.def_ 10 (d := d_Run_take_value) rfl) s_Run_take_value (fun _ _ _ _ _ _ us hl => match us, hl with | [_], _ => rfl) c_Run_take_value
  | 11, _, h => by cases h; exact defOk_of (ps := ["self", "count"]) (c.def_ 11 (d := d_Run_take_values) rfl) s_Run_take_values (fun _ _ _ _ _ _ us hl => match us, hl with | [_, _], _ => rfl) c_Run_take_values
  | 12, _, h => by cases h; exact defOk_of (ps := ["self"]) (c.def_ 12 (d := d_Run_take_numbers) rfl) s_Run_take_numbers (fun _ _ _ _ _ _ us hl => match us, hl with | [_], _ => rfl) c_Run_take_numbers
  | 13, _, h => by cases h; exact defOk_of (ps := ["tree"]) (c.def_ 13 (d := d_parts_at_once) rfl) s_parts_at_once (fun _ _ _ _ _ _ us hl => match us, hl with | [_], _ => rfl) c_parts_at_once
  | 14, _, h => by cases h; exact defOk_of (ps := ["run", "tree", "scope"]) (c.def_ 14 (d := d_reckon_num) rfl) s_reckon_num (fun _ _ _ _ _ _ us hl => match us, hl with | [_, _, _], _ => rfl) c_reckon_num
  | 15, _, h => by cases h; exact defOk_of (ps := ["run", "tree", "scope"]) (c.def_ 15 (d := d_reckon_truth) rfl) s_reckon_truth (fun _ _ _ _ _ _ us hl => match us, hl with | [_, _, _], _ => rfl) c_reckon_truth
  | 16, _, h => by cases h; exact defOk_of (ps := ["run", "tree", "scope"]) (c.def_ 16 (d := d_reckon_name) rfl) s_reckon_name (fun _ _ _ _ _ _ us hl => match us, hl with | [_, _, _], _ => rfl) c_reckon_name
  | 17, _, h => by cases h; exact defOk_of (ps := ["run", "tree", "scope"]) (c.def_ 17 (d := d_reckon_add) rfl) s_reckon_add (fun _ _ _ _ _ _ us hl => match us, hl with | [_, _, _], _ => rfl) c_reckon_add
  | 18, _, h => by cases h; exact defOk_of (ps := ["run", "tree", "scope"]) (c.def_ 18 (d := d_reckon_take) rfl) s_reckon_take (fun _ _ _ _ _ _ us hl => match us, hl with | [_, _, _], _ => rfl) c_reckon_take
  | 19, _, h => by cases h; exact defOk_of (ps := ["run", "tree", "scope"]) (c.def_ 19 (d := d_reckon_part) rfl) s_reckon_part (fun _ _ _ _ _ _ us hl => match us, hl with | [_, _, _], _ => rfl) c_reckon_part
  | 20, _, h => by cases h; exact defOk_of (ps := ["run", "tree", "scope"]) (c.def_ 20 (d := d_reckon_less) rfl) s_reckon_less (fun _ _ _ _ _ _ us hl => match us, hl with | [_, _, _], _ => rfl) c_reckon_less
  | 21, _, h => by cases h; exact defOk_of (ps := ["run", "tree", "scope"]) (c.def_ 21 (d := d_reckon_let) rfl) s_reckon_let (fun _ _ _ _ _ _ us hl => match us, hl with | [_, _, _], _ => rfl) c_reckon_let
  | 22, _, h => by cases h; exact defOk_of (ps := ["run", "tree", "scope"]) (c.def_ 22 (d := d_reckon_if) rfl) s_reckon_if (fun _ _ _ _ _ _ us hl => match us, hl with | [_, _, _], _ => rfl) c_reckon_if
  | 23, _, h => by cases h; exact defOk_of (ps := ["run", "tree", "scope"]) (c.def_ 23 (d := d_reckon_record) rfl) s_reckon_record (fun _ _ _ _ _ _ us hl => match us, hl with | [_, _, _], _ => rfl) c_reckon_record
  | 24, _, h => by cases h; exact defOk_of (ps := ["run", "tree", "scope"]) (c.def_ 24 (d := d_reckon_field) rfl) s_reckon_field (fun _ _ _ _ _ _ us hl => match us, hl with | [_, _, _], _ => rfl) c_reckon_field
  | 25, _, h => by cases h; exact defOk_of (ps := ["run", "tree", "scope"]) (c.def_ 25 (d := d_reckon_with) rfl) s_reckon_with (fun _ _ _ _ _ _ us hl => match us, hl with | [_, _, _], _ => rfl) c_reckon_with
  | 26, _, h => by cases h; exact defOk_of (ps := ["value"]) (c.def_ 26 (d := d_must_be_record) rfl) s_must_be_record (fun _ _ _ _ _ _ us hl => match us, hl with | [_], _ => rfl) c_must_be_record
  | 27, _, h => by cases h; exact defOk_of (ps := ["run", "tree", "scope"]) (c.def_ 27 (d := d_reckon_choice) rfl) s_reckon_choice (fun _ _ _ _ _ _ us hl => match us, hl with | [_, _, _], _ => rfl) c_reckon_choice
  | 28, _, h => by cases h; exact defOk_of (ps := ["run", "tree", "scope"]) (c.def_ 28 (d := d_reckon_case) rfl) s_reckon_case (fun _ _ _ _ _ _ us hl => match us, hl with | [_, _, _], _ => rfl) c_reckon_case
  | 29, _, h => by cases h; exact defOk_of (ps := ["run", "tree", "scope"]) (c.def_ 29 (d := d_reckon_again) rfl) s_reckon_again (fun _ _ _ _ _ _ us hl => match us, hl with | [_, _, _], _ => rfl) c_reckon_again
  | 30, _, h => by cases h; exact defOk_of (ps := ["run", "tree", "scope"]) (c.def_ 30 (d := d_reckon_call) rfl) s_reckon_call (fun _ _ _ _ _ _ us hl => match us, hl with | [_, _, _], _ => rfl) c_reckon_call
  | 31, _, h => by cases h; exact defOk_of (ps := ["_law_script", "_law_k"]) (c.def_ 31 (d := d__law_cell_at) rfl) s__law_cell_at (fun _ _ _ _ _ _ us hl => match us, hl with | [_, _], _ => rfl) c__law_cell_at
  | 32, _, h => by cases h; exact defOk_of (ps := ["_law_cell"]) (c.def_ 32 (d := d__law_name_by) rfl) s__law_name_by (fun _ _ _ _ _ _ us hl => match us, hl with | [_], _ => rfl) c__law_name_by
  | 33, _, h => by cases h; exact defOk_of (ps := ["_law_cell"]) (c.def_ 33 (d := d__law_number_by) rfl) s__law_number_by (fun _ _ _ _ _ _ us hl => match us, hl with | [_], _ => rfl) c__law_number_by
  | 34, _, h => by cases h; exact defOk_of (ps := ["_law_word", "_law_one", "_law_other"]) (c.def_ 34 (d := d__law_sum) rfl) s__law_sum (fun _ _ _ _ _ _ us hl => match us, hl with | [_, _, _], _ => rfl) c__law_sum
  | 35, _, h => by cases h; exact defOk_of (ps := ["_law_test", "_law_one", "_law_other"]) (c.def_ 35 (d := d__law_if) rfl) s__law_if (fun _ _ _ _ _ _ us hl => match us, hl with | [_, _, _], _ => rfl) c__law_if
  | 36, _, h => by cases h; exact defOk_of (ps := ["_law_piles", "_law_cell", "_law_x", "_law_first"]) (c.def_ 36 (d := d__law_joined) rfl) s__law_joined (fun _ _ _ _ _ _ us hl => match us, hl with | [_, _, _, _], _ => rfl) c__law_joined
  | 37, _, h => by cases h; exact defOk_of (ps := ["_law_names", "_law_tree", "_law_pick"]) (c.def_ 37 (d := d__law_told) rfl) s__law_told (fun _ _ _ _ _ _ us hl => match us, hl with | [_, _, _], _ => rfl) c__law_told
  | 38, _, h => by cases h; exact defOk_of (ps := ["_law_found", "_law_due"]) (c.def_ 38 (d := d__law_alike) rfl) s__law_alike (fun _ _ _ _ _ _ us hl => match us, hl with | [_, _], _ => rfl) c__law_alike
  | 39, _, h => by cases h; exact defOk_of (ps := ["_law_script"]) (c.def_ 39 (d := d_law) rfl) s_law (fun _ _ _ _ _ _ us hl => match us, hl with | [_], _ => rfl) c_law
  | n + 40, _, h => by cases h
def subL : List (List Bool) := [[true, false, false, false, false, false, false, false, false], [true, true, false, false, false, false, false, false, false], [true, false, true, false, false, false, false, false, false], [true, true, false, true, false, false, false, false, false], [true, true, false, false, true, false, false, false, false], [true, true, false, false, false, true, false, false, false], [true, true, false, false, false, false, true, false, false], [true, false, true, false, false, false, false, true, false], [true, false, true, false, false, false, false, false, true]]
def sub : Nat → Nat → Option Bool := subT subL
def exK (K : PySem.W.Frag) : Bool := whr.exB subL.length sub K && whr.tbB K
def tbs : List He.Tab := [(fun K => He.ga K "PLACES", ["num", "truth", "name", "add", "take", "part", "less", "let", "if", "field", "with", "choice", "case", "again"]), (fun K => He.ga K "ACTIONS", ["num", "truth", "name", "add", "take", "part", "less", "let", "if", "record", "field", "with", "choice", "case", "again", "call"])]
def fx : Fix := ⟨dfs, ini, sub, metF whr.mets, tbF whr.tbs⟩
noncomputable abbrev phi0 : Phi := phi fx 20
def lawNo : Nat := 39
end K04

namespace K04
open PySem PySem.Spec PyProof.Rows L2 Pi
theorem chk_ok : whr.chk tab ini dfs.length = true := by decide +kernel
theorem kd_ok {w : World} {K : PySem.W.Frag} (c : He.SaysT fac fn tbs w K) : ∀ (t : Nat) (x : Str) (l : List (Str × D)), whr.tbs[t]? = some (x, l) → ∃ es n, KDict K w (He.ga K x) es n
  | 0, _, _, h => by cases h; exact c.tab 0
  | 1, _, _, h => by cases h; exact c.tab 1
  | n + 2, _, _, h => by cases h
abbrev R : PySem.W.OpenRow := PySem.W.OpenLaw.row PySem.Challenge.rw_kindsure_k04_numbers_reckoned
abbrev hk : PySem.W.Hook := He.hookX 4 fac fn tbs [] exK
def ob (s : PySem.W.SharedT) : He.AlX := He.obsX 4 fac fn tbs [] exK (HandSHeadRun.getT s)
theorem ob_eq (s : PySem.W.SharedT) : ob s = hk.obs s.abs := He.obsX_eq (HandSHeadRun.getT_eq s)
def names : List Str := (["ACTIONS", "ByNought", "KindError", "LostField", "LostName", "LostShape", "MOST", "Misfit", "PLACES", "Run", "Scope", "Stopped", "Stuck", "TooGreat", "_law_alike", "_law_cell_at", "_law_if", "_law_joined", "_law_name_by", "_law_number_by", "_law_sum", "_law_told", "must_be_record", "parts_at_once", "reckon_add", "reckon_again", "reckon_call", "reckon_case", "reckon_choice", "reckon_field"] : List Str) ++ (["reckon_if", "reckon_less", "reckon_let", "reckon_name", "reckon_num", "reckon_part", "reckon_record", "reckon_take", "reckon_truth", "reckon_with", "reckoned"] : List Str)
theorem runX_true (w : World) : HandSHeadRun.RunEq R (PySem.W.view R.prog [44]) hk ob 12000 names (wx true w) := by
  intro os
  kernel_rfl
theorem runX_false (w : World) : HandSHeadRun.RunEq R (PySem.W.view R.prog [44]) hk ob 12000 names (wx false w) := by
  intro os
  kernel_rfl
theorem runX (b : Bool) (w : World) : HandSHeadRun.RunEq R (PySem.W.view R.prog [44]) hk ob 12000 names (wx b w) := by
  cases b
  · exact runX_false w
  · exact runX_true w
theorem run (w : World) : HandSHeadRun.RunEq R (PySem.W.view R.prog [44]) hk ob 12000 names w := by
  rw [w_eq w]
  exact runX _ w
/-- the law by its reckoning -/
theorem holds_of (hph : ∀ ns : List Int, ns.length ≤ 63 → (∀ z ∈ ns, Builtin.Int.intBits z ≤ 1048576) → ∃ S, phi0.call lawNo [.lst (ns.map D.int)] [] = .ok (.bl true) S) : PySem.Challenge.rw_kindsure_k04_numbers_reckoned.Holds := by
  open PySem.W PySem.Calls in
  w_on; o_law
  refine HandSHeadRun.head_any (r := PySem.W.OpenLaw.row PySem.Challenge.rw_kindsure_k04_numbers_reckoned) (q := PySem.W.view (PySem.W.OpenLaw.row PySem.Challenge.rw_kindsure_k04_numbers_reckoned).prog [44]) (H := hk) (ob := ob) (M := 12000) (loose := names) (d := HandSHeadRun.topDef (PySem.W.OpenLaw.row PySem.Challenge.rw_kindsure_k04_numbers_reckoned).prog 44) (kwd := []) ob_eq
    (by kernel_rfl) (fun s => by kernel_rfl) run (by kernel_rfl) (by kernel_rfl) (by kernel_rfl) (by rfl) (by first | assumption | decide +kernel) (by decide +kernel) ⟨rfl, rfl, rfl, rfl, rfl, by decide +kernel⟩ ?hw ?hc
  case hw => w_witness2
  case hc =>
    refine walk_ofG (l := PySem.Challenge.rw_kindsure_k04_numbers_reckoned) (n := 63) (k := 2 * 20) rfl (by decide) (by kernel_rfl) ⟨rfl, by decide, by decide⟩ (by kernel_rfl) ?_
    intro w mg fa h Y G hmg0
    obtain ⟨K, KX, c0⟩ := Y
    have c : He.SaysD fac fn K := saysD_of c0.t
    obtain ⟨m1, m2⟩ := He.ba c0.more
    have hmg : mg ("law" : PySem.Str) = some (.ref fa) := by
      have e : (HandSHeadRun.topDef (PySem.W.OpenLaw.row PySem.Challenge.rw_kindsure_k04_numbers_reckoned).prog 44).name = ("law" : PySem.Str) := by kernel_rfl
      rw [← e]
      exact hmg0
    have e := hmg.symm.trans (He.glo_ok KX G (c.facts (f := .glo "law") (by decide)))
    cases e
    refine ⟨K, whr.gc K, phi0, lawNo, KX, rfl, rfl, hph, fun base KB GB hmm => ?_⟩
    obtain ⟨mm, o, es, ep, q1, q2, _⟩ := hmm
    exact all_fn (P := PySem.Challenge.pw_kindsure_k04_numbers_reckoned) (w := w) (base := base) (fx := fx) ⟨o, es, ep, q1, q2⟩ (Where.mod chk_ok KX G c (subOk_of (by decide) m1) (kd_ok c0.t) m2) (defs_ok c) 20 lawNo (by decide)
end K04

/-! Pi12: the reckoning, step by step (a simp set: the words "pi"). -/
namespace Pi
open PySem
/-- the next statement -/
def SO.then (o : SO) (k : Rho → Sto → SO) : SO :=
  match o with
  | .nx r S => k r S
  | o => o
def SO.out (o : SO) : Out D :=
  match o with
  | .rt d S => .ok d S
  | .nx _ S => .ok .non S
  | .xc c _ S => .exc c S
  | _ => .bad
section
variable {α β : Type} {a : α} {S : Sto} {r : Rho} {c n : Nat} {Φ : Phi} {d : D}
theorem bnd_ok (f : α → Sto → Out β) : (Out.ok a S).bnd f = f a S := rfl
theorem bnd_exc (f : α → Sto → Out β) : (Out.exc c S : Out α).bnd f = .exc c S := rfl
theorem bnd_bad (f : α → Sto → Out β) : (Out.bad : Out α).bnd f = .bad := rfl
theorem bnd_ite {p : Prop} [Decidable p] (x y : Out α) (f : α → Sto → Out β) : (if p then x else y).bnd f = if p then x.bnd f else y.bnd f := by split <;> rfl
theorem st_ok (f : α → Sto → SO) : (Out.ok a S).st r f = f a S := rfl
theorem st_exc (f : α → Sto → SO) : (Out.exc c S : Out α).st r f = .xc c r S := rfl
theorem st_bad (f : α → Sto → SO) : (Out.bad : Out α).st r f = .bad := rfl
theorem st_ite {p : Prop} [Decidable p] (x y : Out α) (f : α → Sto → SO) : (if p then x else y).st r f = if p then x.st r f else y.st r f := by split <;> rfl
theorem lift_some : lift (some a) S = .ok a S := rfl
theorem lift_none : (lift (none : Option α) S) = .bad := rfl
theorem lift_ite {p : Prop} [Decidable p] (x y : Option α) : lift (if p then x else y) S = if p then lift x S else lift y S := by split <;> rfl
theorem then_nx (k : Rho → Sto → SO) : (SO.nx r S).then k = k r S := rfl
theorem then_rt (k : Rho → Sto → SO) : (SO.rt d S).then k = .rt d S := rfl
theorem then_bk (k : Rho → Sto → SO) : (SO.bk r S).then k = .bk r S := rfl
theorem then_ct (k : Rho → Sto → SO) : (SO.ct r S).then k = .ct r S := rfl
theorem then_xc (k : Rho → Sto → SO) : (SO.xc c r S).then k = .xc c r S := rfl
theorem then_bad (k : Rho → Sto → SO) : (SO.bad).then k = .bad := rfl
theorem then_ite {p : Prop} [Decidable p] (x y : SO) (k : Rho → Sto → SO) : (if p then x else y).then k = if p then x.then k else y.then k := by split <;> rfl
theorem out_rt : (SO.rt d S).out = .ok d S := rfl
theorem out_nx : (SO.nx r S).out = .ok .non S := rfl
theorem out_xc : (SO.xc c r S).out = .exc c S := rfl
theorem out_bad : SO.bad.out = .bad := rfl
theorem out_ite {p : Prop} [Decidable p] (x y : SO) : (if p then x else y).out = if p then x.out else y.out := by split <;> rfl
theorem ofO_some : ofO (some r) S = .nx r S := rfl
theorem ofO_none : ofO none S = .bad := rfl
theorem exL_nil : exL Φ .nil r S = .nx r S := by simp only [exL]
theorem exL_cons (s : Pi.S) (l : SL) : exL Φ (.cons s l) r S = (ex Φ s r S).then (exL Φ l) := by
  simp only [exL]
  cases ex Φ s r S <;> rfl
theorem runF_of {f : DF} {ds : List D} (h : ds.length = f.ps) : runF Φ f ds S = (exL Φ f.body (ds.map (fun d => some (.v d)) ++ List.replicate (f.ns - f.ps) none) S).out := by
  unfold runF
  rw [if_pos h]
  cases exL Φ f.body (ds.map (fun d => some (.v d)) ++ List.replicate (f.ns - f.ps) none) S <;> rfl
theorem frz_v : Sl.frz (.v d) = .v d := rfl
theorem frz_l {xs : List D} : Sl.frz (.ol xs) = .v (.lst xs) := rfl
theorem frz_d {xs : List (Str × D)} : Sl.frz (.od xs) = .v (.dic xs) := rfl
end
/-- a for loop's turn -/
noncomputable def forB (Φ : Phi) (t : Tg) (b : SL) : D → Rho → Sto → SO := fun x r S => match bindT t x r with | some r => exL Φ b r S | none => .bad
theorem ex_for (Φ : Phi) (t : Tg) (it : It) (b : SL) (r : Rho) (S : Sto) : ex Φ (.for t it b) r S = (evI Φ it r S).st r fun k S => match k.w with
      | none => forS (forB Φ t b) k.xs r S
      | some _ => .bad := by
  simp only [ex]
  rfl
/-- a comprehension whose turns always come to a value -/
theorem loopL_map {g : D → Sto → Out (Option D)} {f : D → D} {S : Sto} : ∀ {xs : List D}, (∀ x ∈ xs, g x S = .ok (some (f x)) S) → loopL g xs S = .ok (xs.map f) S
  | [], _ => rfl
  | x :: r, h => by
    simp only [loopL, h x List.mem_cons_self, bnd_ok, loopL_map fun y hy => h y (List.mem_cons_of_mem _ hy), List.map_cons]
/-- a for loop, one turn after another, by an invariant -/
theorem forS_inv {f : D → Rho → Sto → SO} (I : Nat → Rho → Sto → Prop) {xs : List D} (h : ∀ i x r S, xs[i]? = some x → I i r S → ∃ r' S', f x r S = .nx r' S' ∧ I (i + 1) r' S') : ∀ (k : Nat) {r : Rho} {S : Sto}, k ≤ xs.length → I k r S → ∃ r' S', forS f (xs.drop k) r S = .nx r' S' ∧ I xs.length r' S' := by
  intro k
  generalize hn : xs.length - k = n
  induction n generalizing k with
  | zero =>
    intro r S hk hI
    have : k = xs.length := by omega
    subst this
    rw [List.drop_length]
    exact ⟨r, S, rfl, hI⟩
  | succ n ih =>
    intro r S hk hI
    have hlt : k < xs.length := by omega
    rw [List.drop_eq_getElem_cons hlt]
    obtain ⟨r1, S1, e, h1⟩ := h k _ r S (List.getElem?_eq_getElem hlt) hI
    obtain ⟨r2, S2, e2, h2⟩ := ih (k + 1) (by omega) (r := r1) (S := S1) (by omega) h1
    refine ⟨r2, S2, ?_, h2⟩
    rw [forS, e]
    exact e2
/-- items of lists by natural places -/
theorem ixd_nat {n i : Nat} (h : i < n) : ixd n (i : Int) = some i := by
  unfold ixd
  rw [if_pos (by omega), if_pos (by omega)]
  simp
theorem ixd_int {n : Nat} {i : Int} (h0 : 0 ≤ i) (h : i < n) : ixd n i = some i.toNat := by
  unfold ixd
  rw [if_pos h0, if_pos h]
/-- a range, without its bound being unfolded -/
noncomputable def rngF (x : D) (S : Sto) : Out Wk := match x with
      | .int j => if fits62 j = true then .ok ⟨none, rngD 0 j.toNat⟩ S else .bad
      | _ => .bad
theorem rngF_ok {j : Int} {S : Sto} (hf : fits62 j = true) : rngF (.int j) S = .ok ⟨none, rngD 0 j.toNat⟩ S := if_pos hf
theorem evI_rng (Φ : Phi) (a : E) (r : Rho) (S : Sto) : evI Φ (.rng a) r S = (ev Φ a r S).bnd rngF := by rw [evI]; rfl
theorem fits_small (k : Nat) (hk : k ≤ 1000000) : fits62 (k : Int) = true := by
  refine fits62_of (Int.natCast_nonneg k) ?_
  have : ((k:Nat) : Int) ≤ (1000000 : Nat) := Int.ofNat_le.mpr hk
  exact Int.lt_of_le_of_lt this (by decide)
theorem rngF_nat {k : Nat} {S : Sto} (hk : k ≤ 1000000) : rngF (.int (k : Int)) S = .ok ⟨none, rngD 0 k⟩ S := by
  rw [rngF_ok (fits_small k hk), Int.toNat_natCast]
theorem rng_ok (Φ : Phi) (k : Nat) (hf : fits62 (k : Int) = true) (r : Rho) (S : Sto) (i : Nat) (h : r[i]? = some (some (.v (.int k)))) : evI Φ (.rng (.var i)) r S = .ok ⟨none, rngD 0 k⟩ S := by
  have e : ev Φ (.var i) r S = .ok (.int k) S := by rw [ev, h]
  rw [evI_rng, e, bnd_ok, rngF_ok hf, Int.toNat_natCast]
end Pi

/-! Pi13: one statement after another. -/
namespace Pi
open PySem
section
variable {Φ : Phi} {s : Pi.S} {l a b : SL} {r r' : Rho} {S S' : Sto} {o : SO} {e : E} {d : D} {c : T} {k : Bool}
theorem stp (h : ex Φ s r S = .nx r' S') : exL Φ (.cons s l) r S = exL Φ l r' S' := by rw [exL_cons, h, then_nx]
theorem stp_rt (h : ex Φ s r S = .rt d S') : exL Φ (.cons s l) r S = .rt d S' := by rw [exL_cons, h, then_rt]
theorem stp_xc {c : Nat} (h : ex Φ s r S = .xc c r' S') : exL Φ (.cons s l) r S = .xc c r' S' := by rw [exL_cons, h, then_xc]
theorem ex_frz {is : List Nat} : ex Φ (.frz is s) r S = ex Φ s (frzR r is) S := by rw [ex]
theorem ex_ret (h : ev Φ e r S = .ok d S') : ex Φ (.ret e) r S = .rt d S' := by rw [ex, h, st_ok]
theorem ex_asg {i : Nat} (h : ev Φ e r S = .ok d S') (hi : i < r.length) : ex Φ (.asg (.nm i) e) r S = .nx (r.set i (some (d.slot e.isNew))) S' := by
  rw [ex, h, st_ok]
  show ofO (setR i (d.slot e.isNew) r) S' = _
  rw [setR, if_pos hi, ofO_some]
theorem ex_set {i : Nat} (h : ev Φ e r S = .ok d S') (hr : setR i (d.slot e.isNew) r = some r') : ex Φ (.asg (.nm i) e) r S = .nx r' S' := by
  rw [ex, h, st_ok]
  show ofO (setR i (d.slot e.isNew) r) S' = _
  rw [hr, ofO_some]
theorem ex_if (h : evT Φ c r S = .ok k S') : ex Φ (.ite c a b) r S = if k = true then exL Φ a r S' else exL Φ b r S' := by rw [ex, h, st_ok]
theorem ex_if_t (h : evT Φ c r S = .ok true S') : ex Φ (.ite c a b) r S = exL Φ a r S' := by rw [ex_if h, if_pos rfl]
theorem ex_if_f (h : evT Φ c r S = .ok false S') : ex Φ (.ite c a b) r S = exL Φ b r S' := by rw [ex_if h, if_neg (by decide)]
theorem ex_setk {i : Nat} {kx : E} {kvs : List (Str × D)} {x : Str} {S'' : Sto} (h : ev Φ e r S = .ok d S') (hi : r[i]? = some (some (.od kvs))) (hk : ev Φ kx r S' = .ok (.str x) S'') (hs : kvs.length < sizeLine) : ex Φ (.setk i kx e) r S = .nx (r.set i (some (.od (dput kvs x d)))) S'' := by
  rw [ex, h, st_ok, hi]
  simp only
  rw [hk, st_ok]
  simp only
  have hl : i < r.length := (List.getElem?_eq_some_iff.mp hi).1
  rw [if_pos hs, setR, if_pos hl, ofO_some]
theorem ex_app {i : Nat} {xs : List D} (h : ev Φ e r S = .ok d S') (hi : r[i]? = some (some (.ol xs))) (hs : xs.length < sizeLine) : ex Φ (.app i e) r S = .nx (r.set i (some (.ol (xs ++ [d])))) S' := by
  have hl : i < r.length := (List.getElem?_eq_some_iff.mp hi).1
  rw [ex, hi]
  simp only
  rw [h, st_ok, if_pos hs, setR, if_pos hl, ofO_some]
theorem ex_loop {t : Tg} {it : It} {xs : List D} (h : evI Φ it r S = .ok ⟨none, xs⟩ S') (h2 : forS (forB Φ t b) xs r S' = o) : ex Φ (.for t it b) r S = o := by rw [ex_for, h, st_ok, h2]
theorem ev_bin {o : O2} {a b : E} {x y d : D} {S1 S2 : Sto} (ha : rd a r S (ev Φ a r S) = .ok x S1) (hb : rd b r S1 (ev Φ b r S1) = .ok y S2) (h : o2D o (der S2 x) (der S2 y) = some d) : ev Φ (.bin o a b) r S = .ok d S2 := by
  rw [ev, ha, bnd_ok, hb, bnd_ok, h, lift_some]
theorem ev_cmp {o : Cm} {a b : E} {x y : D} {k : Bool} {S1 S2 : Sto} (ha : rd a r S (ev Φ a r S) = .ok x S1) (hb : rd b r S1 (ev Φ b r S1) = .ok y S2) (h : cmD o (der S2 x) (der S2 y) = some k) : ev Φ (.cmp o a b) r S = .ok (.bl k) S2 := by
  rw [ev, ha, bnd_ok, hb, bnd_ok, h, lift_some, bnd_ok]
theorem evT_e {a : E} {x : D} {k : Bool} {S1 : Sto} (ha : rd a r S (ev Φ a r S) = .ok x S1) (h : truD (der S1 x) = some k) : evT Φ (.e a) r S = .ok k S1 := by
  rw [evT, ha, bnd_ok, h, lift_some]
theorem evT_not {c : T} {k : Bool} {S1 : Sto} (h : evT Φ c r S = .ok k S1) : evT Φ (.not c) r S = .ok (!k) S1 := by
  rw [evT, h, bnd_ok]
theorem evT_or_t {c d : T} {S1 : Sto} (h : evT Φ c r S = .ok true S1) : evT Φ (.or c d) r S = .ok true S1 := by
  rw [evT, h, bnd_ok, if_pos rfl]
theorem evT_or_f {c d : T} {S1 : Sto} {o : Out Bool} (h : evT Φ c r S = .ok false S1) (h2 : evT Φ d r S1 = o) : evT Φ (.or c d) r S = o := by
  rw [evT, h, bnd_ok, if_neg (by decide), h2]
theorem evT_and_f {c d : T} {S1 : Sto} (h : evT Φ c r S = .ok false S1) : evT Φ (.and c d) r S = .ok false S1 := by
  rw [evT, h, bnd_ok, if_neg (by decide)]
theorem evT_and_t {c d : T} {S1 : Sto} {o : Out Bool} (h : evT Φ c r S = .ok true S1) (h2 : evT Φ d r S1 = o) : evT Φ (.and c d) r S = o := by
  rw [evT, h, bnd_ok, if_pos rfl, h2]
theorem evL_nil : evL Φ .nil r S = .ok [] S := by rw [evL]
theorem evL_cons {a : E} {es : EL} {x : D} {xs : List D} {S1 S2 : Sto} (h : ev Φ a r S = .ok x S1) (h2 : evL Φ es r S1 = .ok xs S2) : evL Φ (.cons a es) r S = .ok (x :: xs) S2 := by
  rw [evL, h, bnd_ok, h2, bnd_ok]
theorem ev_call {f : Nat} {es : EL} {ds : List D} {S1 : Sto} {o : Out D} (h : evL Φ es r S = .ok ds S1) (h2 : Φ.call f ds S1 = o) : ev Φ (.call f es) r S = o := by
  rw [ev, h, bnd_ok, h2]
theorem ev_lst {es : EL} {ds : List D} {S1 : Sto} (h : evL Φ es r S = .ok ds S1) (h2 : ds.length ≤ sizeLine) : ev Φ (.lst es) r S = .ok (.lst ds) S1 := by
  rw [ev, h, bnd_ok, if_pos h2]
theorem ev_tup {es : EL} {ds : List D} {S1 : Sto} (h : evL Φ es r S = .ok ds S1) (h2 : ds.length ≤ sizeLine) : ev Φ (.tup es) r S = .ok (.tup ds) S1 := by
  rw [ev, h, bnd_ok, if_pos h2]
theorem ev_sub {a i : E} {x y d : D} {S1 S2 : Sto} (ha : rd a r S (ev Φ a r S) = .ok x S1) (hb : ev Φ i r S1 = .ok y S2) (h : subD (der S2 x) y = some d) : ev Φ (.sub a i) r S = .ok d S2 := by
  rw [ev, ha, bnd_ok, hb, bnd_ok, h, lift_some]
theorem ev_bi {o : Bi} {a : E} {x d : D} {S1 : Sto} (ha : rd a r S (ev Φ a r S) = .ok x S1) (h : biD o (der S1 x) = some d) : ev Φ (.bi o a) r S = .ok d S1 := by
  rw [ev, ha, bnd_ok, h, lift_some]
theorem ev_isi {a : E} {ts : List Ty} {x : D} {k : Bool} {S1 : Sto} (ha : rd a r S (ev Φ a r S) = .ok x S1) (h : isiD (der S1 x) ts = some k) : ev Φ (.isi a ts) r S = .ok (.bl k) S1 := by
  rw [ev, ha, bnd_ok, h, lift_some, bnd_ok]
theorem ev_var {i : Nat} {d : D} (h : r[i]? = some (some (.v d))) : ev Φ (.var i) r S = .ok d S := by rw [ev, h]
theorem ev_int {n : Int} : ev Φ (.int n) r S = .ok (.int n) S := by rw [ev]
theorem ev_str {x : Str} : ev Φ (.str x) r S = .ok (.str x) S := by rw [ev]
theorem ev_bl {b : Bool} : ev Φ (.bl b) r S = .ok (.bl b) S := by rw [ev]
theorem ev_non : ev Φ .non r S = .ok .non S := by rw [ev]
theorem rd_var {i : Nat} {d : D} {o : Out D} (h : look i r = some d) : rd (.var i) r S o = .ok d S := by
  show lift (look i r) S = _
  rw [h, lift_some]
theorem rd_int {n : Int} : rd (.int n) r S (ev Φ (.int n) r S) = .ok (.int n) S := ev_int (Φ := Φ) (r := r)
theorem rd_str {x : Str} : rd (.str x) r S (ev Φ (.str x) r S) = .ok (.str x) S := ev_str (Φ := Φ) (r := r)
theorem rd_bin {o : O2} {a b : E} {q : Out D} (h : ev Φ (.bin o a b) r S = q) : rd (.bin o a b) r S (ev Φ (.bin o a b) r S) = q := h
theorem rd_cmp {o : Cm} {a b : E} {q : Out D} (h : ev Φ (.cmp o a b) r S = q) : rd (.cmp o a b) r S (ev Φ (.cmp o a b) r S) = q := h
theorem rd_call {f : Nat} {es : EL} {q : Out D} (h : ev Φ (.call f es) r S = q) : rd (.call f es) r S (ev Φ (.call f es) r S) = q := h
theorem rd_sub {a i : E} {q : Out D} (h : ev Φ (.sub a i) r S = q) : rd (.sub a i) r S (ev Φ (.sub a i) r S) = q := h
theorem rd_lst {es : EL} {q : Out D} (h : ev Φ (.lst es) r S = q) : rd (.lst es) r S (ev Φ (.lst es) r S) = q := h
theorem rd_bi {o : Bi} {a : E} {q : Out D} (h : ev Φ (.bi o a) r S = q) : rd (.bi o a) r S (ev Φ (.bi o a) r S) = q := h
theorem rd_isi {a : E} {ts : List Ty} {q : Out D} (h : ev Φ (.isi a ts) r S = q) : rd (.isi a ts) r S (ev Φ (.isi a ts) r S) = q := h
theorem rd_dct {ps : KL} {q : Out D} (h : ev Φ (.dct ps) r S = q) : rd (.dct ps) r S (ev Φ (.dct ps) r S) = q := h
end
end Pi

/-! Pi14: steps on things that may change, and a walker: pie (trees), pir (what is read), pit (tests), pil (lists of trees), pis (statements); stl and dgt: lookups, to be told more in each text. -/
namespace Pi
open PySem
theorem sz {n : Nat} (h : n ≤ 16777216) : n ≤ sizeLine := h
theorem szl {n : Nat} (h : n < 16777216) : n < sizeLine := h
section
variable {Φ : Phi} {s : Pi.S} {l a b : SL} {r r' : Rho} {S S' S1 S2 S3 : Sto} {o : SO} {e : E} {d : D} {c : T} {k : Bool}
theorem ev_attr {a : E} {f : Str} {i : Nat} {o : Ob} {d : D} (ha : ev Φ a r S = .ok (.obj i) S1) (hi : S1[i]? = some o) (hd : dget o.fs f = some d) : ev Φ (.attr a f) r S = .ok d S1 := by
  rw [ev, ha, bnd_ok]
  simp only [hi, Option.bind_some, hd, lift_some]
theorem rd_nv {e : E} {q : Out D} (h : ∀ i, e ≠ .var i) (h2 : ev Φ e r S = q) : rd e r S (ev Φ e r S) = q := by
  cases e <;> first | exact h2 | exact absurd rfl (h _)
theorem rd_attr {a : E} {f : Str} {q : Out D} (h : ev Φ (.attr a f) r S = q) : rd (.attr a f) r S (ev Φ (.attr a f) r S) = q := h
theorem rd_slice {a lo hi : E} {q : Out D} (h : ev Φ (.slice a lo hi) r S = q) : rd (.slice a lo hi) r S (ev Φ (.slice a lo hi) r S) = q := h
theorem rd_meth {m : Str} {a : E} {es : EL} {q : Out D} (h : ev Φ (.meth m a es) r S = q) : rd (.meth m a es) r S (ev Φ (.meth m a es) r S) = q := h
theorem rd_tup {es : EL} {q : Out D} (h : ev Φ (.tup es) r S = q) : rd (.tup es) r S (ev Φ (.tup es) r S) = q := h
theorem rd_bl {b : Bool} : rd (.bl b) r S (ev Φ (.bl b) r S) = .ok (.bl b) S := ev_bl (Φ := Φ) (r := r)
theorem rd_neg {a : E} {q : Out D} (h : ev Φ (.neg a) r S = q) : rd (.neg a) r S (ev Φ (.neg a) r S) = q := h
theorem rd_cpop {a : E} {q : Out D} (h : ev Φ (.cpop a) r S = q) : rd (.cpop a) r S (ev Φ (.cpop a) r S) = q := h
theorem rd_tsub {t : Nat} {a : E} {q : Out D} (h : ev Φ (.tsub t a) r S = q) : rd (.tsub t a) r S (ev Φ (.tsub t a) r S) = q := h
theorem rd_lc {e : E} {t : Tg} {it : It} {c : T} {vs : List Nat} {q : Out D} (h : ev Φ (.lc e t it c vs) r S = q) : rd (.lc e t it c vs) r S (ev Φ (.lc e t it c vs) r S) = q := h
theorem ev_neg {a : E} {i : Int} (h : ev Φ a r S = .ok (.int i) S1) : ev Φ (.neg a) r S = .ok (.int (-i)) S1 := by rw [ev, h, bnd_ok]
theorem ev_cpop {a : E} {i : Nat} {xs : List D} {d : D} (ha : ev Φ a r S = .ok (.obj i) S1) (hi : S1[i]? = some (.ol (xs ++ [d]))) : ev Φ (.cpop a) r S = .ok d (S1.set i (.ol xs)) := by
  rw [ev, ha, bnd_ok, popD, hi]
  simp only [List.getLast?_append, List.getLast?_singleton, Option.some_or, List.dropLast_concat]
theorem ev_cell {a : E} {xs : List D} (ha : ev Φ a r S = .ok (.lst xs) S1) : ev Φ (.cell a) r S = .ok (.obj S1.length) (S1 ++ [.ol xs]) := by
  rw [ev, ha, bnd_ok]; rfl
theorem ev_meth {m : Str} {a : E} {es : EL} {i c : Nat} {fs : List (Str × D)} {f : Nat} {xs : List D} {o : Out D} (ha : ev Φ a r S = .ok (.obj i) S1) (hi : S1[i]? = some (.ins c fs)) (hm : Φ.met c m = some f) (hf : f < Φ.n) (hn : dget fs m = none) (he : evL Φ es r S1 = .ok xs S2) (hc : Φ.call f (.obj i :: xs) S2 = o) : ev Φ (.meth m a es) r S = o := by
  rw [ev, ha, bnd_ok]
  simp only [hi, hm, hf, hn, he, bnd_ok, hc, and_self, if_true]
theorem ev_new {c : Nat} {es : EL} {xs : List D} (he : evL Φ es r S = .ok xs S1) (hc : Φ.call (Φ.ini c) (.obj S1.length :: xs) (S1 ++ [.ins c []]) = .ok .non S2) : ev Φ (.new c es) r S = .ok (.obj S1.length) S2 := by
  rw [ev, he, bnd_ok]
  simp only [hc]
theorem ev_tsub {t : Nat} {k : E} {y : Str} {d : D} (hk : ev Φ k r S = .ok (.str y) S1) (hd : dget (Φ.tb t) y = some d) : ev Φ (.tsub t k) r S = .ok d S1 := by
  rw [ev, hk, bnd_ok]
  simp only [hd, lift_some]
theorem ev_callv {i f : Nat} {es : EL} {xs : List D} {o : Out D} (hi : r[i]? = some (some (.v (.fn f)))) (hf : f < Φ.n) (he : evL Φ es r S = .ok xs S1) (hc : Φ.call f xs S1 = o) : ev Φ (.callv i es) r S = o := by
  rw [ev]
  simp only [hi, hf, if_true, he, bnd_ok, hc]
theorem partO_non {o : Out D} : partO .non S o = .ok .non S := rfl
theorem partO_int {e : E} {i : Int} (he : ev Φ e r S = .ok (.int i) S1) : partO e S (ev Φ e r S) = .ok (.int i) S1 := by
  cases e <;> first | (rw [ev] at he; cases he; done) | (rw [he]; rfl)
theorem ev_slice {a lo hi : E} {x i j d : D} (ha : rd a r S (ev Φ a r S) = .ok x S1) (hl : partO lo S1 (ev Φ lo r S1) = .ok i S2) (hh : partO hi S2 (ev Φ hi r S2) = .ok j S3) (h : sliceD (der S3 x) i j = some d) : ev Φ (.slice a lo hi) r S = .ok d S3 := by
  rw [ev, ha, bnd_ok, hl, bnd_ok, hh, bnd_ok, h, lift_some]
theorem ev_ite_t {c : T} {a b : E} {o : Out D} (h : evT Φ c r S = .ok true S1) (h2 : ev Φ a r S1 = o) : ev Φ (.ite c a b) r S = o := by rw [ev, h, bnd_ok, if_pos rfl, h2]
theorem ev_ite_f {c : T} {a b : E} {o : Out D} (h : evT Φ c r S = .ok false S1) (h2 : ev Φ b r S1 = o) : ev Φ (.ite c a b) r S = o := by rw [ev, h, bnd_ok, if_neg (by decide), h2]
theorem ev_and_t {a b : E} {x : D} {o : Out D} (h : ev Φ a r S = .ok x S1) (ht : truD (der S1 x) = some true) (h2 : ev Φ b r S1 = o) : ev Φ (.and a b) r S = o := by rw [ev, h, bnd_ok, ht, lift_some, bnd_ok, if_pos rfl, h2]
theorem ev_and_f {a b : E} {x : D} (h : ev Φ a r S = .ok x S1) (ht : truD (der S1 x) = some false) : ev Φ (.and a b) r S = .ok x S1 := by rw [ev, h, bnd_ok, ht, lift_some, bnd_ok, if_neg (by decide)]
theorem ev_mrg1 {a k b : E} {kx : List (Str × D)} {y : Str} {z : D} (ha : ev Φ a r S = .ok (.dic kx) S1) (hk : ev Φ k r S1 = .ok (.str y) S2) (hb : ev Φ b r S2 = .ok z S3) (hs : kx.length < sizeLine) : ev Φ (.mrg1 a k b) r S = .ok (.dic (dput (mrgK [] kx) y z)) S3 := by
  rw [ev, ha, bnd_ok]
  simp only
  rw [hk, bnd_ok, hb, bnd_ok]
  simp only [hs, if_true]
theorem ev_fst {ps : EL} {x : Str} (h : evF Φ ps r Str.empty S = .ok (.str x) S1) : ev Φ (.fst ps) r S = .ok (.str x) S1 := by rw [ev, h]
theorem ev_b2 {o : B2} {a b : E} {x y d : D} (ha : ev Φ a r S = .ok x S1) (hb : ev Φ b r S1 = .ok y S2) (h : b2D o x y = some d) : ev Φ (.b2 o a b) r S = .ok d S2 := by rw [ev, ha, bnd_ok, hb, bnd_ok, h, lift_some]
theorem ex_ex {d : D} (h : ev Φ e r S = .ok d S') : ex Φ (.ex e) r S = .nx r S' := by rw [ex, h, st_ok]
theorem ex_exx {c : Nat} (h : ev Φ e r S = .exc c S') : ex Φ (.ex e) r S = .xc c r S' := by rw [ex, h, st_exc]
theorem ex_retx {c : Nat} (h : ev Φ e r S = .exc c S') : ex Φ (.ret e) r S = .xc c r S' := by rw [ex, h, st_exc]
theorem ex_asgx {c : Nat} {t : Tg} (h : ev Φ e r S = .exc c S') : ex Φ (.asg t e) r S = .xc c r S' := by rw [ex, h, st_exc]
theorem ex_ast {is : List Nat} (h : ev Φ e r S = .ok d S') (hb : bindT (.tup is) d r = some r') : ex Φ (.asg (.tup is) e) r S = .nx r' S' := by
  rw [ex, h, st_ok]
  show ofO (bindT (.tup is) d r) S' = _
  rw [hb, ofO_some]
theorem ex_attr {a e : E} {f : Str} {i c : Nat} {fs : List (Str × D)} {d : D} (he : ev Φ e r S = .ok d S1) (ha : ev Φ a r S1 = .ok (.obj i) S2) (hi : S2[i]? = some (.ins c fs)) (hs : fs.length < 1000) : ex Φ (.attr a f e) r S = .nx r (S2.set i (.ins c (fput f d fs))) := by
  rw [ex, he, st_ok, ha, st_ok]
  simp only [hi, hs, if_true]
theorem ex_capp {a e : E} {j : Nat} {xs ys : List D} {d : D} (ha : ev Φ a r S = .ok (.obj j) S1) (hj : S1[j]? = some (.ol ys)) (he : ev Φ e r S1 = .ok d S2) (hj2 : S2[j]? = some (.ol xs)) (hs : xs.length < sizeLine) : ex Φ (.capp a e) r S = .nx r (S2.set j (.ol (xs ++ [d]))) := by
  rw [ex, ha, st_ok]
  simp only [isOl, hj, if_true, he, st_ok, appS, hj2, hs]
theorem ex_cdels {a e : E} {j : Nat} {xs : List D} {i : Int} (ha : ev Φ a r S = .ok (.obj j) S1) (he : ev Φ e r S1 = .ok (.int i) S2) (hj : S2[j]? = some (.ol xs)) (h0 : 0 ≤ i) (h1 : i ≤ xs.length) : ex Φ (.cdels a e) r S = .nx r (S2.set j (.ol (xs.take i.toNat))) := by
  rw [ex, ha, st_ok]
  simp only [he, st_ok, hj, h0, h1, and_self, if_true]
theorem ex_raise {c : Nat} {es : EL} {xs : List D} (h : evL Φ es r S = .ok xs S') (hs : xs.length ≤ sizeLine) : ex Φ (.raise c es) r S = .xc c r S' := by rw [ex, h, st_ok, if_pos hs]
theorem evI_over {a : E} {x : D} {w : Wk} (h : ev Φ a r S = .ok x S1) (h2 : overD S1 x = .ok w S2) : evI Φ (.over a) r S = .ok w S2 := by rw [evI, h, bnd_ok, h2]
theorem evI_rev {a : E} {xs : List D} (h : ev Φ a r S = .ok (.lst xs) S1) : evI Φ (.rev a) r S = .ok ⟨none, xs.reverse⟩ S1 := by rw [evI, h, bnd_ok]
theorem evI_rn {a : E} {n : Nat} (h : ev Φ a r S = .ok (.int n) S1) (hf : fits62 (n : Int) = true) : evI Φ (.rng a) r S = .ok ⟨none, rngD 0 n⟩ S1 := by
  rw [evI_rng, h, bnd_ok, rngF_ok hf, Int.toNat_natCast]
theorem forS_nil {f : D → Rho → Sto → SO} : forS f [] r S = .nx r S := rfl
theorem forS_nx {f : D → Rho → Sto → SO} {x : D} {xs : List D} (h : f x r S = .nx r' S') : forS f (x :: xs) r S = forS f xs r' S' := by rw [forS, h]
theorem forS_xc {f : D → Rho → Sto → SO} {x : D} {xs : List D} {c : Nat} (h : f x r S = .xc c r' S') : forS f (x :: xs) r S = .xc c r' S' := by rw [forS, h]
theorem forS_rt {f : D → Rho → Sto → SO} {x : D} {xs : List D} (h : f x r S = .rt d S') : forS f (x :: xs) r S = .rt d S' := by rw [forS, h]
theorem forB_of {t : Tg} {b : SL} {x : D} (hb : bindT t x r = some r') : forB Φ t b x r S = exL Φ b r' S := by rw [forB, hb]
theorem evT_and {c d : T} : evT Φ (.and c d) r S = (evT Φ c r S).bnd fun k S => if k = true then evT Φ d r S else .ok false S := by rw [evT]
end
section
variable {p : Fix} {k : Nat} {s : Pi.S} {l a b : SL} {r r' : Rho} {S S' S1 S2 S3 : Sto} {d : D}
theorem phi_n : (phi p k).n = p.tab.length := by cases k <;> rfl
theorem phi_ini : (phi p k).ini = p.ini := by cases k <;> rfl
theorem phi_sub : (phi p k).sub = p.sub := by cases k <;> rfl
theorem phi_met : (phi p k).met = p.met := by cases k <;> rfl
theorem phi_tb : (phi p k).tb = p.tb := by cases k <;> rfl
theorem evp_meth {m : Str} {a : E} {es : EL} {i c : Nat} {fs : List (Str × D)} {f : Nat} {xs : List D} {o : Out D} (ha : ev (phi p k) a r S = .ok (.obj i) S1) (hi : S1[i]? = some (.ins c fs)) (hm : p.met c m = some f) (hf : f < p.tab.length) (hn : dget fs m = none) (he : evL (phi p k) es r S1 = .ok xs S2) (hc : (phi p k).call f (.obj i :: xs) S2 = o) : ev (phi p k) (.meth m a es) r S = o :=
  ev_meth ha hi (by rw [phi_met]; exact hm) (by rw [phi_n]; exact hf) hn he hc
theorem evp_new {c f : Nat} {es : EL} {xs : List D} (he : evL (phi p k) es r S = .ok xs S1) (hf : p.ini c = f) (hc : (phi p k).call f (.obj S1.length :: xs) (S1 ++ [.ins c []]) = .ok .non S2) : ev (phi p k) (.new c es) r S = .ok (.obj S1.length) S2 :=
  ev_new he (by rw [phi_ini, hf]; exact hc)
theorem evp_tsub {t : Nat} {e : E} {y : Str} {d : D} (hk : ev (phi p k) e r S = .ok (.str y) S1) (hd : dget (p.tb t) y = some d) : ev (phi p k) (.tsub t e) r S = .ok d S1 := ev_tsub hk (by rw [phi_tb]; exact hd)
theorem evp_callv {i f : Nat} {es : EL} {xs : List D} {o : Out D} (hi : r[i]? = some (some (.v (.fn f)))) (hf : f < p.tab.length) (he : evL (phi p k) es r S = .ok xs S1) (hc : (phi p k).call f xs S1 = o) : ev (phi p k) (.callv i es) r S = o := ev_callv hi (by rw [phi_n]; exact hf) he hc
end
theorem ex_frz0 {Φ : Phi} {s : Pi.S} {r : Rho} {S : Sto} {is : List Nat} {o : SO} (h : frzR r is = r) (h2 : ex Φ s r S = o) : ex Φ (.frz is s) r S = o := by rw [ex, h, h2]
theorem call_nx {p : Fix} {k f : Nat} {g : DF} {ds : List D} {S S' : Sto} {r : Rho} (hf : p.tab[f]? = some g) (hl : ds.length = g.ps) (hr : ds.map (fun d => some (.v d)) ++ List.replicate (g.ns - g.ps) none = r) (h : ∃ r', exL (phi p k) g.body r S = .nx r' S') : (phi p (k + 1)).call f ds S = .ok .non S' := by
  obtain ⟨r', h⟩ := h
  show (match p.tab[f]? with | some d => runF (phi p k) d ds S | none => Out.bad) = _
  rw [hf]
  show runF (phi p k) g ds S = _
  rw [runF_of hl, hr, h]; rfl
theorem call_rt {p : Fix} {k f : Nat} {g : DF} {ds : List D} {S S' : Sto} {r : Rho} {d : D} (hf : p.tab[f]? = some g) (hl : ds.length = g.ps) (hr : ds.map (fun d => some (.v d)) ++ List.replicate (g.ns - g.ps) none = r) (h : exL (phi p k) g.body r S = .rt d S') : (phi p (k + 1)).call f ds S = .ok d S' := by
  show (match p.tab[f]? with | some d => runF (phi p k) d ds S | none => Out.bad) = _
  rw [hf]
  show runF (phi p k) g ds S = _
  rw [runF_of hl, hr, h]; rfl
theorem call_xc {p : Fix} {k f : Nat} {g : DF} {ds : List D} {S S' : Sto} {r : Rho} {c : Nat} (hf : p.tab[f]? = some g) (hl : ds.length = g.ps) (hr : ds.map (fun d => some (.v d)) ++ List.replicate (g.ns - g.ps) none = r) (h : ∃ r', exL (phi p k) g.body r S = .xc c r' S') : (phi p (k + 1)).call f ds S = .exc c S' := by
  obtain ⟨r', h⟩ := h
  show (match p.tab[f]? with | some d => runF (phi p k) d ds S | none => Out.bad) = _
  rw [hf]
  show runF (phi p k) g ds S = _
  rw [runF_of hl, hr, h]; rfl
theorem stp2 {Φ : Phi} {s : Pi.S} {l : SL} {r r' : Rho} {S S' : Sto} {o : SO} (h : ex Φ s r S = .nx r' S') (h2 : exL Φ l r' S' = o) : exL Φ (.cons s l) r S = o := (stp h).trans h2
theorem exL_frz {Φ : Phi} {s : Pi.S} {l : SL} {r r' : Rho} {S : Sto} {o : SO} {is : List Nat} (h : frzR r is = r') (h2 : exL Φ (.cons s l) r' S = o) : exL Φ (.cons (.frz is s) l) r S = o := by
  rw [exL_cons, ex_frz, h, ← exL_cons, h2]
theorem exL_ift {Φ : Phi} {c : T} {a b l : SL} {r : Rho} {S S' : Sto} {o : SO} (h : evT Φ c r S = .ok true S') (h2 : (exL Φ a r S').then (exL Φ l) = o) : exL Φ (.cons (.ite c a b) l) r S = o := by
  rw [exL_cons, ex_if_t h, h2]
theorem exL_iff {Φ : Phi} {c : T} {a b l : SL} {r : Rho} {S S' : Sto} {o : SO} (h : evT Φ c r S = .ok false S') (h2 : (exL Φ b r S').then (exL Φ l) = o) : exL Φ (.cons (.ite c a b) l) r S = o := by
  rw [exL_cons, ex_if_f h, h2]
theorem exL_iff0 {Φ : Phi} {c : T} {a l : SL} {r : Rho} {S S' : Sto} {o : SO} (h : evT Φ c r S = .ok false S') (h2 : exL Φ l r S' = o) : exL Φ (.cons (.ite c a .nil) l) r S = o := by
  rw [exL_cons, ex_if_f h, exL_nil, then_nx, h2]
/-- the last statement -/
theorem exL_one {Φ : Phi} {s : Pi.S} {r : Rho} {S : Sto} {o : SO} (h : ex Φ s r S = o) : exL Φ (.cons s .nil) r S = o := by
  rw [exL_cons, h]; cases o <;> first | rfl | exact exL_nil
theorem exL_iftL {Φ : Phi} {c : T} {a b : SL} {r : Rho} {S S' : Sto} {o : SO} (h : evT Φ c r S = .ok true S') (h2 : exL Φ a r S' = o) : exL Φ (.cons (.ite c a b) .nil) r S = o := exL_one ((ex_if_t h).trans h2)
theorem exL_iffL {Φ : Phi} {c : T} {a b : SL} {r : Rho} {S S' : Sto} {o : SO} (h : evT Φ c r S = .ok false S') (h2 : exL Φ b r S' = o) : exL Φ (.cons (.ite c a b) .nil) r S = o := exL_one ((ex_if_f h).trans h2)
theorem exL_rt {Φ : Phi} {s : Pi.S} {l : SL} {r : Rho} {S S' : Sto} {d : D} (h : ex Φ s r S = .rt d S') : exL Φ (.cons s l) r S = .rt d S' := stp_rt h
theorem exL_xc {Φ : Phi} {s : Pi.S} {l : SL} {r r' : Rho} {S S' : Sto} {c : Nat} (h : ex Φ s r S = .xc c r' S') : exL Φ (.cons s l) r S = .xc c r' S' := stp_xc h
theorem exL_iftR {Φ : Phi} {c : T} {a b l : SL} {r : Rho} {S S' S2 : Sto} {d : D} (h : evT Φ c r S = .ok true S') (h2 : exL Φ a r S' = .rt d S2) : exL Φ (.cons (.ite c a b) l) r S = .rt d S2 := stp_rt ((ex_if_t h).trans h2)
theorem exL_iftX {Φ : Phi} {c : T} {a b l : SL} {r r' : Rho} {S S' S2 : Sto} {x : Nat} (h : evT Φ c r S = .ok true S') (h2 : exL Φ a r S' = .xc x r' S2) : exL Φ (.cons (.ite c a b) l) r S = .xc x r' S2 := stp_xc ((ex_if_t h).trans h2)
theorem evT_not_t {Φ : Phi} {c : T} {r : Rho} {S S1 : Sto} (h : evT Φ c r S = .ok false S1) : evT Φ (.not c) r S = .ok true S1 := evT_not h
theorem evT_not_f {Φ : Phi} {c : T} {r : Rho} {S S1 : Sto} (h : evT Φ c r S = .ok true S1) : evT Φ (.not c) r S = .ok false S1 := evT_not h
theorem evF_nil {Φ : Phi} {r : Rho} {S : Sto} {acc : Str} : evF Φ .nil r acc S = .ok (.str acc) S := by rw [evF]
theorem evF_cons {Φ : Phi} {a : E} {l : EL} {r : Rho} {S S1 S2 : Sto} {acc y x : Str} (h : ev Φ a r S = .ok (.str y) S1) (hs : (acc ++ y).length ≤ sizeLine) (h2 : evF Φ l r (acc ++ y) S1 = .ok (.str x) S2) : evF Φ (.cons a l) r acc S = .ok (.str x) S2 := by
  rw [evF, h, bnd_ok]; simp only [hs, if_true]; exact h2
theorem ev_fmt {Φ : Phi} {a : E} {r : Rho} {S S1 : Sto} {x d : D} (h : ev Φ a r S = .ok x S1) (hf : fmtD x = some d) : ev Φ (.fmt a) r S = .ok d S1 := by rw [ev, h, bnd_ok, hf, lift_some]
theorem fs_cons {f : D → Rho → Sto → SO} {x : D} {xs : List D} {r r' : Rho} {S S' : Sto} {o : SO} (h : f x r S = .nx r' S') (h2 : forS f xs r' S' = o) : forS f (x :: xs) r S = o := (forS_nx h).trans h2
theorem fs_nil {f : D → Rho → Sto → SO} {r : Rho} {S : Sto} : forS f [] r S = .nx r S := rfl
theorem fb_of {Φ : Phi} {t : Tg} {b : SL} {x : D} {r r' : Rho} {S : Sto} {o : SO} (hb : bindT t x r = some r') (h : exL Φ b r' S = o) : forB Φ t b x r S = o := (forB_of hb).trans h
theorem lc_nil {f : D → Sto → Out (Option D)} {S : Sto} : loopL f [] S = .ok [] S := rfl
theorem lc_cons {f : D → Sto → Out (Option D)} {x y : D} {xs ys : List D} {S S1 S2 : Sto} (h : f x S = .ok (some y) S1) (h2 : loopL f xs S1 = .ok ys S2) : loopL f (x :: xs) S = .ok (y :: ys) S2 := by
  rw [loopL, h, bnd_ok, h2, bnd_ok]
theorem lcs_yes {Φ : Phi} {t : Tg} {vs : List Nat} {r r' : Rho} {e : E} {x y : D} {S S1 : Sto} (hb : bindT t x (wipeR r vs) = some r') (he : ev Φ e r' S = .ok y S1) : lcStep t vs r (fun r S => evT Φ .yes r S) (fun r S => ev Φ e r S) x S = .ok (some y) S1 := by
  unfold lcStep
  rw [hb]
  simp only [evT, bnd_ok, if_true, he, nox]
theorem ev_lc {Φ : Phi} {e : E} {t : Tg} {it : It} {c : T} {vs : List Nat} {r : Rho} {xs ys : List D} {S S1 S2 : Sto} (hi : evI Φ it r S = .ok ⟨none, xs⟩ S1) (hl : loopL (lcStep t vs r (fun r S => evT Φ c r S) (fun r S => ev Φ e r S)) xs S1 = .ok ys S2) (hs : xs.length ≤ sizeLine) : ev Φ (.lc e t it c vs) r S = .ok (.lst ys) S2 := by
  rw [ev, hi, bnd_ok]
  simp only [hl, bnd_ok, hs, if_true]
  rfl
theorem ev_list {a : E} {Φ : Phi} {r : Rho} {S S1 : Sto} {x d : D} (ha : rd a r S (ev Φ a r S) = .ok x S1) (h : biD .list (der S1 x) = some d) : ev Φ (.bi .list a) r S = .ok d S1 := ev_bi ha h
theorem evT_t {Φ : Phi} {a : E} {r : Rho} {S S1 : Sto} {x : D} (ha : rd a r S (ev Φ a r S) = .ok x S1) {k : Bool} (h : truD (der S1 x) = some k) : evT Φ (.e a) r S = .ok k S1 := evT_e ha h
theorem ex_popl {Φ : Phi} {t : Tg} {i : Nat} {r r' : Rho} {S S1 : Sto} {d x : D} (h : r[i]? = some (some (.v d))) (hp : popD S d = .ok x S1) (hb : bindT t x r = some r') : ex Φ (.popl t i) r S = .nx r' S1 := by
  rw [ex, h]
  simp only [hp, st_ok, hb, ofO_some]
theorem ex_appO {Φ : Phi} {i j : Nat} {e : E} {r : Rho} {S S1 : Sto} {xs ys : List D} {d : D} (hi : r[i]? = some (some (.v (.obj j)))) (hj : S[j]? = some (.ol ys)) (he : ev Φ e r S = .ok d S1) (hj2 : S1[j]? = some (.ol xs)) (hs : xs.length < sizeLine) : ex Φ (.app i e) r S = .nx r (S1.set j (.ol (xs ++ [d]))) := by
  rw [ex, hi]
  simp only [isOl, hj, if_true, he, st_ok, appS, hj2, hs]
set_option exponentiation.threshold 10000 in
theorem fdv {i j : Int} (h : 0 < j) (h2 : j ≤ 1000000000000) : o2D .fdiv (.int i) (.int j) = some (.int (i.fdiv j)) := by
  refine if_pos ⟨by omega, ?_⟩
  have : j.natAbs < 2 ^ 41 := by omega
  exact Nat.lt_of_lt_of_le this (Nat.pow_le_pow_right (by decide) (by decide))
theorem fmd {i j : Int} (h : j ≠ 0) : o2D .mod (.int i) (.int j) = some (.int (i.fmod j)) := if_pos h
/-- a comprehension over a thing that may change, its turns all with a value -/
theorem ev_lcw {Φ : Phi} {e : E} {t : Tg} {it : It} {c : T} {vs : List Nat} {r : Rho} {xs ys : List D} {S S1 S2 S3 : Sto} {w : Option Nat} (hi : evI Φ it r S = .ok ⟨w, xs⟩ S1) (hl : loopL (lcStep t vs r (fun r S => evT Φ c r S) (fun r S => ev Φ e r S)) xs S1 = .ok ys S2) (hs : xs.length ≤ sizeLine) (hu : ulS w S2 = S3) : ev Φ (.lc e t it c vs) r S = .ok (.lst ys) S3 := by
  rw [ev, hi, bnd_ok]
  simp only [hl, bnd_ok, hs, if_true, Out.unl, hu]
theorem ex_tri_rt {Φ : Phi} {b : SL} {hs : List (Nat × List XI)} {r : Rho} {S S' : Sto} {d : D} (h : exL Φ b r S = .rt d S') : ex Φ (.tri b hs) r S = .rt d S' := by rw [ex, h]
theorem ex_tri_nx {Φ : Phi} {b : SL} {hs : List (Nat × List XI)} {r r' : Rho} {S S' : Sto} (h : exL Φ b r S = .nx r' S') : ex Φ (.tri b hs) r S = .nx r' S' := by rw [ex, h]
theorem ex_tri_x {p : Fix} {k : Nat} {b : SL} {hs : List (Nat × List XI)} {r r' : Rho} {S S' : Sto} {c : Nat} {o : SO} (h : exL (phi p k) b r S = .xc c r' S') (h2 : exHs p.sub c hs r' S' = o) : ex (phi p k) (.tri b hs) r S = o := by
  rw [ex, h]
  simp only
  rw [phi_sub, h2]
theorem ex_trx_x {p : Fix} {k : Nat} {b : SL} {c0 j : Nat} {xs : List XI} {r r' : Rho} {S S' : Sto} {c : Nat} {o : SO} (h : exL (phi p k) b r S = .xc c r' S') (hj : j < r'.length) (hs : p.sub c c0 = some true) (h2 : xiS p.sub c xs (r'.set j none) S' = o) : ex (phi p k) (.trx b c0 j xs) r S = o := by
  rw [ex, h]
  simp only
  rw [if_pos hj, phi_sub, hs]
  exact h2
theorem ev_dct {Φ : Phi} {ps : KL} {r : Rho} {S S1 : Sto} {d : D} (h : evD Φ ps r [] S = .ok d S1) : ev Φ (.dct ps) r S = .ok d S1 := by rw [ev, h]
theorem evD_nil {Φ : Phi} {r : Rho} {S : Sto} {acc : List (Str × D)} : evD Φ .nil r acc S = .ok (.dic acc) S := by rw [evD]
theorem evD_cons {Φ : Phi} {kx e : E} {ps : KL} {r : Rho} {S S1 S2 S3 : Sto} {acc : List (Str × D)} {y : Str} {z d : D} (hk : ev Φ kx r S = .ok (.str y) S1) (he : ev Φ e r S1 = .ok z S2) (h : evD Φ ps r (dput acc y z) S2 = .ok d S3) : evD Φ (.cons kx e ps) r acc S = .ok d S3 := by
  rw [evD, hk, bnd_ok, he, bnd_ok]; exact h
/-- a def is called -/
theorem call_eq {p : Fix} {k f : Nat} {g : DF} {ds : List D} {S : Sto} {o : SO} (hf : p.tab[f]? = some g) (hl : ds.length = g.ps) (h : exL (phi p k) g.body (ds.map (fun d => some (.v d)) ++ List.replicate (g.ns - g.ps) none) S = o) : (phi p (k + 1)).call f ds S = o.out := by
  show (match p.tab[f]? with | some d => runF (phi p k) d ds S | none => Out.bad) = _
  rw [hf]
  show runF (phi p k) g ds S = _
  rw [runF_of hl, h]
theorem exL_iftN {Φ : Phi} {c : T} {a b l : SL} {r r1 : Rho} {S S' S1 : Sto} {o : SO} (h : evT Φ c r S = .ok true S') (h2 : exL Φ a r S' = .nx r1 S1) (h3 : exL Φ l r1 S1 = o) : exL Φ (.cons (.ite c a b) l) r S = o := exL_ift h (by rw [h2, then_nx, h3])
theorem exL_iffN {Φ : Phi} {c : T} {a b l : SL} {r r1 : Rho} {S S' S1 : Sto} {o : SO} (h : evT Φ c r S = .ok false S') (h2 : exL Φ b r S' = .nx r1 S1) (h3 : exL Φ l r1 S1 = o) : exL Φ (.cons (.ite c a b) l) r S = o := exL_iff h (by rw [h2, then_nx, h3])
end Pi

/-! the machine: its store, its small defs -/
namespace K04
open PySem PySem.Spec PyProof.Rows L2 Pi
abbrev V (d : D) : Option Sl := some (.v d)
def runO (n : Nat) (ds : List D) (pl : List (Str × D)) : Ob := .ins 1 [("deeds", .lst ds), ("places", .dic pl), ("pending", .obj (n + 1)), ("results", .obj (n + 2))]
def scO (nm : List (Str × D)) (a : Int) : Ob := .ins 0 [("names", .dic nm), ("ahead", .int a)]
/-- what stood, the run with what is pending and what came out, the scopes -/
def st (S0 : Sto) (ds : List D) (pl : List (Str × D)) (ps rs : List D) (scs : Sto) : Sto := S0 ++ (runO S0.length ds pl :: .ol ps :: .ol rs :: scs)
section
variable {S0 scs : Sto} {ds ps rs ps' rs' : List D} {pl : List (Str × D)}
theorem st_0 : (st S0 ds pl ps rs scs)[S0.length]? = some (runO S0.length ds pl) := by
  unfold st; rw [List.getElem?_append_right (Nat.le_refl _), Nat.sub_self]; rfl
theorem st_1 : (st S0 ds pl ps rs scs)[S0.length + 1]? = some (.ol ps) := by
  unfold st; rw [List.getElem?_append_right (by omega), show S0.length + 1 - S0.length = 1 by omega]; rfl
theorem st_2 : (st S0 ds pl ps rs scs)[S0.length + 2]? = some (.ol rs) := by
  unfold st; rw [List.getElem?_append_right (by omega), show S0.length + 2 - S0.length = 2 by omega]; rfl
theorem st_sc {j : Nat} {o : Ob} (h : scs[j]? = some o) : (st S0 ds pl ps rs scs)[S0.length + 3 + j]? = some o := by
  unfold st; rw [List.getElem?_append_right (by omega), show S0.length + 3 + j - S0.length = j + 3 by omega]; exact h
theorem st_len : (st S0 ds pl ps rs scs).length = S0.length + 3 + scs.length := by
  unfold st; simp only [List.length_append, List.length_cons]; omega
theorem st_p : (st S0 ds pl ps rs scs).set (S0.length + 1) (.ol ps') = st S0 ds pl ps' rs scs := by
  unfold st; rw [List.set_append_right _ _ (by omega), show S0.length + 1 - S0.length = 1 by omega]; rfl
theorem st_r : (st S0 ds pl ps rs scs).set (S0.length + 2) (.ol rs') = st S0 ds pl ps rs' scs := by
  unfold st; rw [List.set_append_right _ _ (by omega), show S0.length + 2 - S0.length = 2 by omega]; rfl
theorem st_new {o : Ob} : st S0 ds pl ps rs scs ++ [o] = st S0 ds pl ps rs (scs ++ [o]) := by
  unfold st; rw [List.append_assoc]; rfl
theorem st_at {o : Ob} : (st S0 ds pl ps rs (scs ++ [o]))[S0.length + 3 + scs.length]? = some o := st_sc (by simp)
theorem st_ns {o o' : Ob} : (st S0 ds pl ps rs (scs ++ [o])).set (S0.length + 3 + scs.length) o' = st S0 ds pl ps rs (scs ++ [o']) := by
  unfold st; rw [List.set_append_right _ _ (by omega), show S0.length + 3 + scs.length - S0.length = scs.length + 3 by omega]
  simp only [List.set_cons_succ, List.append_cancel_left_eq, List.cons.injEq, true_and]
  rw [List.set_append_right _ _ (Nat.le_refl _), Nat.sub_self]; rfl
end
theorem a_deeds {n ds pl} : dget (runO n ds pl).fs "deeds" = some (.lst ds) := by rfl
theorem a_places {n ds pl} : dget (runO n ds pl).fs "places" = some (.dic pl) := by rfl
theorem a_pending {n ds pl} : dget (runO n ds pl).fs "pending" = some (.obj (n + 1)) := by rfl
theorem a_results {n ds pl} : dget (runO n ds pl).fs "results" = some (.obj (n + 2)) := by rfl
theorem a_names {nm a} : dget (scO nm a).fs "names" = some (.dic nm) := by rfl
theorem a_ahead {nm a} : dget (scO nm a).fs "ahead" = some (.int a) := by rfl
section
variable {k : Nat} {S0 scs : Sto} {ds ps rs ps' rs' : List D} {pl : List (Str × D)}
theorem ask_of {t : D} {j : D} (hp : ps.length < 16777216) : (phi fx (k + 1)).call 4 [.obj S0.length, t, j] (st S0 ds pl ps rs scs) = .ok .non (st S0 ds pl (ps ++ [.tup [t, j, .bl false]]) rs scs) := by
  refine call_nx (g := ⟨3, 3, b_Run_ask⟩) rfl rfl rfl ?_; apply Exists.intro
  (refine exL_frz rfl ?_; apply stp2; (· apply ex_capp; (· apply ev_attr; (· exact ev_var rfl); (· exact st_0); (· exact a_pending)); (· exact st_1); (· apply ev_tup; (· apply evL_cons; (· exact ev_var rfl); (· apply evL_cons; (· exact ev_var rfl); (· apply evL_cons; (· exact ev_bl); (· exact evL_nil)))); (· exact Nat.le_of_ble_eq_true rfl)); (· exact st_1); (· assumption)))
  rw [st_p]
  exact exL_nil
theorem give_of {v : D} (hr : rs.length < 16777216) : (phi fx (k + 1)).call 8 [.obj S0.length, v] (st S0 ds pl ps rs scs) = .ok .non (st S0 ds pl ps (rs ++ [v]) scs) := by
  refine call_nx (g := ⟨2, 2, b_Run_give⟩) rfl rfl rfl ?_; apply Exists.intro
  (refine exL_frz rfl ?_; apply stp2; (· apply ex_capp; (· apply ev_attr; (· exact ev_var rfl); (· exact st_0); (· exact a_results)); (· exact st_2); (· exact ev_var rfl); (· exact st_2); (· assumption)))
  rw [st_r]
  exact exL_nil
def MOST : Int := 1000000000000
theorem give_number_of {z : Int} (hr : rs.length < 16777216) (h1 : -1000000000000 ≤ z) (h2 : z ≤ 1000000000000) : (phi fx (k + 2)).call 9 [.obj S0.length, .int z] (st S0 ds pl ps rs scs) = .ok .non (st S0 ds pl ps (rs ++ [.int z]) scs) := by
  refine call_nx (g := ⟨2, 2, b_Run_give_number⟩) rfl rfl rfl ?_; apply Exists.intro
  (apply exL_iff0; (· apply evT_or_f; (· apply evT_e; (· apply rd_cmp; (· apply ev_cmp; (· exact rd_var rfl); (· apply rd_neg; (· apply ev_neg; (· exact ev_int))); (· rfl))); (· refine congrArg some ?_; exact decide_eq_false (by omega))); (· apply evT_e; (· apply rd_cmp; (· apply ev_cmp; (· exact rd_var rfl); (· exact rd_int); (· rfl))); (· refine congrArg some ?_; exact decide_eq_false (by omega)))))
  (refine exL_frz rfl ?_; apply stp2; (· apply ex_ex; (· apply evp_meth; (· exact ev_var rfl); (· exact st_0); (· rfl); (· exact Nat.le_of_ble_eq_true rfl); (· rfl); (· apply evL_cons; (· exact ev_var rfl); (· exact evL_nil)); (· exact give_of (by first | assumption | exact Nat.le_of_ble_eq_true rfl | omega)))))
  exact exL_nil
theorem give_number_x {z : Int} (h : z < -1000000000000 ∨ 1000000000000 < z) : (phi fx (k + 1)).call 9 [.obj S0.length, .int z] (st S0 ds pl ps rs scs) = .exc 8 (st S0 ds pl ps rs scs) := by
  refine call_xc (g := ⟨2, 2, b_Run_give_number⟩) rfl rfl rfl ?_; apply Exists.intro
  rcases h with h | h
  · (apply exL_iftX; (· apply evT_or_t; (· apply evT_e; (· apply rd_cmp; (· apply ev_cmp; (· exact rd_var rfl); (· apply rd_neg; (· apply ev_neg; (· exact ev_int))); (· rfl))); (· refine congrArg some ?_; exact decide_eq_true (by omega)))))
    (skip); apply exL_xc; apply ex_raise
    · (apply evL_cons; (· apply ev_fst; (· apply evF_cons; (· exact ev_str); (· exact Nat.le_of_ble_eq_true rfl); (· apply evF_cons; (· apply ev_fmt; (· exact ev_int); (· rfl)); (· exact Nat.le_of_ble_eq_true rfl); (· apply evF_cons; (· exact ev_str); (· exact Nat.le_of_ble_eq_true rfl); (· exact evF_nil))))); (· exact evL_nil))
    · (exact Nat.le_of_ble_eq_true rfl)
  · (apply exL_iftX; (· apply evT_or_f; (· apply evT_e; (· apply rd_cmp; (· apply ev_cmp; (· exact rd_var rfl); (· apply rd_neg; (· apply ev_neg; (· exact ev_int))); (· rfl))); (· refine congrArg some ?_; exact decide_eq_false (by omega))); (· apply evT_e; (· apply rd_cmp; (· apply ev_cmp; (· exact rd_var rfl); (· exact rd_int); (· rfl))); (· refine congrArg some ?_; exact decide_eq_true (by omega)))))
    (skip); apply exL_xc; apply ex_raise
    · (apply evL_cons; (· apply ev_fst; (· apply evF_cons; (· exact ev_str); (· exact Nat.le_of_ble_eq_true rfl); (· apply evF_cons; (· apply ev_fmt; (· exact ev_int); (· rfl)); (· exact Nat.le_of_ble_eq_true rfl); (· apply evF_cons; (· exact ev_str); (· exact Nat.le_of_ble_eq_true rfl); (· exact evF_nil))))); (· exact evL_nil))
    · (exact Nat.le_of_ble_eq_true rfl)
theorem take_value_of {v : D} : (phi fx (k + 1)).call 10 [.obj S0.length] (st S0 ds pl ps (rs ++ [v]) scs) = .ok v (st S0 ds pl ps rs scs) := by
  refine call_rt (g := ⟨1, 1, b_Run_take_value⟩) rfl rfl rfl ?_
  (refine exL_frz rfl ?_; skip); apply exL_rt; rw [← st_r (rs := rs ++ [v]) (rs' := rs)]; apply ex_ret
  (apply ev_cpop; (· apply ev_attr; (· exact ev_var rfl); (· exact st_0); (· exact a_results)); (· exact st_2))
theorem der_r : der (st S0 ds pl ps rs scs) (.obj (S0.length + 2)) = .lst rs := by
  unfold der; simp only [st_2]; rfl
theorem len_r : biD .len (der (st S0 ds pl ps rs scs) (.obj (S0.length + 2))) = some (.int rs.length) := by rw [der_r]; rfl
theorem cut_r {vs : List D} {c : Int} (h : (vs.length : Int) = c) : sliceD (der (st S0 ds pl ps (rs ++ vs) scs) (.obj (S0.length + 2))) (.int ((rs ++ vs).length - c)) .non = some (.lst vs) := by
  rw [der_r]
  have e : ((rs ++ vs).length : Int) - c = (rs.length : Nat) := by rw [List.length_append]; omega
  rw [e]
  show some (D.lst (List.take _ (List.drop _ _))) = _
  have e1 : (if ((rs.length : Nat) : Int) < 0 then ((rs.length : Nat) + ((rs ++ vs).length : Int)).toNat else min ((rs.length : Nat) : Int).toNat (rs ++ vs).length) = rs.length := by
    rw [if_neg (by omega), Int.toNat_natCast, List.length_append]; omega
  rw [e1, List.drop_left, List.length_append, Nat.add_sub_cancel_left, List.take_length]
theorem take_values_of {vs : List D} {c : Int} (h : (vs.length : Int) = c) : (phi fx (k + 1)).call 11 [.obj S0.length, .int c] (st S0 ds pl ps (rs ++ vs) scs) = .ok (.lst vs) (st S0 ds pl ps rs scs) := by
  refine call_rt (g := ⟨2, 4, b_Run_take_values⟩) rfl rfl rfl ?_
  have h1 := len_r (S0 := S0) (ds := ds) (pl := pl) (ps := ps) (rs := rs ++ vs) (scs := scs)
  have h2 := cut_r (S0 := S0) (ds := ds) (pl := pl) (ps := ps) (rs := rs) (scs := scs) h
  (refine exL_frz rfl ?_; apply stp2; (· apply ex_set; (· apply ev_bin; (· apply rd_bi; (· apply ev_bi; (· apply rd_attr; (· apply ev_attr; (· exact ev_var rfl); (· exact st_0); (· exact a_results))); (· exact h1))); (· exact rd_var rfl); (· rfl)); (· rfl)))
  (refine exL_frz rfl ?_; apply stp2; (· apply ex_set; (· apply ev_slice; (· apply rd_attr; (· apply ev_attr; (· exact ev_var rfl); (· exact st_0); (· exact a_results))); (· apply partO_int; (· exact ev_var rfl)); (· exact partO_non); (· exact h2)); (· rfl)))
  (refine exL_frz rfl ?_; skip)
  apply stp2
  · apply ex_cdels
    · (apply ev_attr; (· exact ev_var rfl); (· exact st_0); (· exact a_results))
    · (exact ev_var rfl)
    · exact st_2
    · rw [List.length_append]; omega
    · rw [List.length_append]; omega
  rw [st_r]
  have e : (((rs ++ vs).length : Int) - c).toNat = rs.length := by rw [List.length_append]; omega
  rw [e, List.take_left]
  (refine exL_frz rfl ?_; apply exL_rt; apply ex_ret; (· exact ev_var rfl))
end
end K04

/-! the machine: numbers taken, scopes, parts -/
namespace K04
open PySem PySem.Spec PyProof.Rows L2 Pi
section
variable {k : Nat} {S0 scs : Sto} {ds ps rs ps' rs' : List D} {pl : List (Str × D)}
theorem take_numbers_of {z w : Int} : (phi fx (k + 2)).call 12 [.obj S0.length] (st S0 ds pl ps (rs ++ [.int z, .int w]) scs) = .ok (.tup [.int z, .int w]) (st S0 ds pl ps rs scs) := by
  refine call_rt (g := ⟨1, 4, b_Run_take_numbers⟩) rfl rfl rfl ?_
  (refine exL_frz rfl ?_; apply stp2; (· apply ex_ast; (· apply evp_meth; (· exact ev_var rfl); (· exact st_0); (· rfl); (· exact Nat.le_of_ble_eq_true rfl); (· rfl); (· apply evL_cons; (· exact ev_int); (· exact evL_nil)); (· exact take_values_of rfl)); (· rfl)))
  (refine exL_frz rfl ?_; skip)
  apply stp2
  · apply ex_loop
    · (apply evI_over; (· apply ev_tup; (· apply evL_cons; (· exact ev_var rfl); (· apply evL_cons; (· exact ev_var rfl); (· exact evL_nil))); (· exact Nat.le_of_ble_eq_true rfl)); (· rfl))
    · apply fs_cons
      · apply fb_of
        · rfl
        · (apply exL_iff0; (· apply evT_or_f; (· apply evT_e; (· apply rd_isi; (· apply ev_isi; (· exact rd_var rfl); (· rfl))); (· rfl)); (· apply evT_not_f; (· apply evT_e; (· apply rd_isi; (· apply ev_isi; (· exact rd_var rfl); (· rfl))); (· rfl)))))
          exact exL_nil
      · apply fs_cons
        · apply fb_of
          · rfl
          · (apply exL_iff0; (· apply evT_or_f; (· apply evT_e; (· apply rd_isi; (· apply ev_isi; (· exact rd_var rfl); (· rfl))); (· rfl)); (· apply evT_not_f; (· apply evT_e; (· apply rd_isi; (· apply ev_isi; (· exact rd_var rfl); (· rfl))); (· rfl)))))
            exact exL_nil
        · exact fs_nil
  (refine exL_frz rfl ?_; apply exL_rt; apply ex_ret; (· apply ev_tup; (· apply evL_cons; (· exact ev_var rfl); (· apply evL_cons; (· exact ev_var rfl); (· exact evL_nil))); (· exact Nat.le_of_ble_eq_true rfl)))
theorem scope_init_of {nm : List (Str × D)} {a : Int} : (phi fx (k + 1)).call 1 [.obj (st S0 ds pl ps rs scs).length, .dic nm, .int a] (st S0 ds pl ps rs scs ++ [.ins 0 []]) = .ok .non (st S0 ds pl ps rs (scs ++ [scO nm a])) := by
  rw [st_len, st_new]
  refine call_nx (g := ⟨3, 3, b_Scope_init⟩) rfl rfl rfl ?_; apply Exists.intro
  have e1 : ∀ o : Ob, (st S0 ds pl ps rs (scs ++ [o]))[S0.length + 3 + scs.length]? = some o := fun o => st_at
  (refine exL_frz rfl ?_; skip)
  apply stp2
  · apply ex_attr
    · (exact ev_var rfl)
    · (exact ev_var rfl)
    · exact st_at
    · (exact Nat.le_of_ble_eq_true rfl)
  rw [st_ns]
  (refine exL_frz rfl ?_; skip)
  apply stp2
  · apply ex_attr
    · (exact ev_var rfl)
    · (exact ev_var rfl)
    · exact st_at
    · (exact Nat.le_of_ble_eq_true rfl)
  rw [st_ns]
  exact exL_nil
theorem with_name_of {nm : List (Str × D)} {a : Int} {j : Nat} {x : Str} {v : D} (h : scs[j]? = some (scO nm a)) (hn : nm.length < 16777216) : (phi fx (k + 2)).call 2 [.obj (S0.length + 3 + j), .str x, v] (st S0 ds pl ps rs scs) = .ok (.obj (S0.length + 3 + scs.length)) (st S0 ds pl ps rs (scs ++ [scO (dput (mrgK [] nm) x v) a])) := by
  rw [← st_len (S0 := S0) (ds := ds) (pl := pl) (ps := ps) (rs := rs) (scs := scs)]
  refine call_rt (g := ⟨3, 3, b_Scope_with_name⟩) rfl rfl rfl ?_
  (refine exL_frz rfl ?_; apply exL_rt; apply ex_ret; (· apply evp_new; (· apply evL_cons; (· apply ev_mrg1; (· apply ev_attr; (· exact ev_var rfl); (· apply st_sc; assumption); (· exact a_names)); (· exact ev_var rfl); (· exact ev_var rfl); (· assumption)); (· apply evL_cons; (· apply ev_attr; (· exact ev_var rfl); (· apply st_sc; assumption); (· exact a_ahead)); (· exact evL_nil))); (· rfl); (· exact scope_init_of)))
theorem pl_num : dget (fx.tb 0) "num" = some (.tup []) := by rfl
theorem pl_truth : dget (fx.tb 0) "truth" = some (.tup []) := by rfl
theorem pl_name : dget (fx.tb 0) "name" = some (.tup []) := by rfl
theorem pl_add : dget (fx.tb 0) "add" = some (.tup [.int 1, .int 2]) := by rfl
theorem pl_take : dget (fx.tb 0) "take" = some (.tup [.int 1, .int 2]) := by rfl
theorem pl_part : dget (fx.tb 0) "part" = some (.tup [.int 1, .int 2]) := by rfl
theorem pl_less : dget (fx.tb 0) "less" = some (.tup [.int 1, .int 2]) := by rfl
theorem pl_let : dget (fx.tb 0) "let" = some (.tup [.int 2]) := by rfl
theorem pl_if : dget (fx.tb 0) "if" = some (.tup [.int 1]) := by rfl
theorem pl_field : dget (fx.tb 0) "field" = some (.tup [.int 1]) := by rfl
theorem pl_with : dget (fx.tb 0) "with" = some (.tup [.int 1, .int 3]) := by rfl
theorem pl_choice : dget (fx.tb 0) "choice" = some (.tup [.int 2]) := by rfl
theorem pl_case : dget (fx.tb 0) "case" = some (.tup [.int 1]) := by rfl
theorem pl_again : dget (fx.tb 0) "again" = some (.tup [.int 3]) := by rfl
theorem parts_num {x : D} {S : Sto} : (phi fx (k + 1)).call 13 [.tup [.str "num", x]] S = .ok (.lst []) S := by
  refine call_rt (g := ⟨1, 5, b_parts_at_once⟩) rfl rfl rfl ?_
  (apply stp2; (· apply ex_set; (· apply ev_sub; (· exact rd_var rfl); (· exact ev_int); (· rfl)); (· rfl)))
  (apply exL_iff0; (· apply evT_e; (· apply rd_cmp; (· apply ev_cmp; (· exact rd_var rfl); (· exact rd_str); (· rfl))); (· rfl)))
  (apply exL_iff0; (· apply evT_e; (· apply rd_cmp; (· apply ev_cmp; (· exact rd_var rfl); (· exact rd_str); (· rfl))); (· rfl)))
  (refine exL_frz rfl ?_; apply exL_rt; apply ex_ret; (· apply ev_lc; (· apply evI_over; (· apply evp_tsub; (· exact ev_var rfl); (· exact pl_num)); (· rfl)); (· exact lc_nil); (· exact Nat.le_of_ble_eq_true rfl)))
theorem parts_truth {x : D} {S : Sto} : (phi fx (k + 1)).call 13 [.tup [.str "truth", x]] S = .ok (.lst []) S := by
  refine call_rt (g := ⟨1, 5, b_parts_at_once⟩) rfl rfl rfl ?_
  (apply stp2; (· apply ex_set; (· apply ev_sub; (· exact rd_var rfl); (· exact ev_int); (· rfl)); (· rfl)))
  (apply exL_iff0; (· apply evT_e; (· apply rd_cmp; (· apply ev_cmp; (· exact rd_var rfl); (· exact rd_str); (· rfl))); (· rfl)))
  (apply exL_iff0; (· apply evT_e; (· apply rd_cmp; (· apply ev_cmp; (· exact rd_var rfl); (· exact rd_str); (· rfl))); (· rfl)))
  (refine exL_frz rfl ?_; apply exL_rt; apply ex_ret; (· apply ev_lc; (· apply evI_over; (· apply evp_tsub; (· exact ev_var rfl); (· exact pl_num)); (· rfl)); (· exact lc_nil); (· exact Nat.le_of_ble_eq_true rfl)))
theorem parts_name {x : D} {S : Sto} : (phi fx (k + 1)).call 13 [.tup [.str "name", x]] S = .ok (.lst []) S := by
  refine call_rt (g := ⟨1, 5, b_parts_at_once⟩) rfl rfl rfl ?_
  (apply stp2; (· apply ex_set; (· apply ev_sub; (· exact rd_var rfl); (· exact ev_int); (· rfl)); (· rfl)))
  (apply exL_iff0; (· apply evT_e; (· apply rd_cmp; (· apply ev_cmp; (· exact rd_var rfl); (· exact rd_str); (· rfl))); (· rfl)))
  (apply exL_iff0; (· apply evT_e; (· apply rd_cmp; (· apply ev_cmp; (· exact rd_var rfl); (· exact rd_str); (· rfl))); (· rfl)))
  (refine exL_frz rfl ?_; apply exL_rt; apply ex_ret; (· apply ev_lc; (· apply evI_over; (· apply evp_tsub; (· exact ev_var rfl); (· exact pl_num)); (· rfl)); (· exact lc_nil); (· exact Nat.le_of_ble_eq_true rfl)))
theorem parts_add {x y : D} {S : Sto} : (phi fx (k + 1)).call 13 [.tup [.str "add", x, y]] S = .ok (.lst [x, y]) S := by
  refine call_rt (g := ⟨1, 5, b_parts_at_once⟩) rfl rfl rfl ?_
  (apply stp2; (· apply ex_set; (· apply ev_sub; (· exact rd_var rfl); (· exact ev_int); (· rfl)); (· rfl)))
  (apply exL_iff0; (· apply evT_e; (· apply rd_cmp; (· apply ev_cmp; (· exact rd_var rfl); (· exact rd_str); (· rfl))); (· rfl)))
  (apply exL_iff0; (· apply evT_e; (· apply rd_cmp; (· apply ev_cmp; (· exact rd_var rfl); (· exact rd_str); (· rfl))); (· rfl)))
  (refine exL_frz rfl ?_; apply exL_rt; apply ex_ret; (· apply ev_lc; (· apply evI_over; (· apply evp_tsub; (· exact ev_var rfl); (· exact pl_add)); (· rfl)); (· apply lc_cons; (· apply lcs_yes; (· rfl); (· apply ev_sub; (· exact rd_var rfl); (· exact ev_var rfl); (· rfl))); (· apply lc_cons; (· apply lcs_yes; (· rfl); (· apply ev_sub; (· exact rd_var rfl); (· exact ev_var rfl); (· rfl))); (· exact lc_nil))); (· exact Nat.le_of_ble_eq_true rfl)))
theorem parts_take {x y : D} {S : Sto} : (phi fx (k + 1)).call 13 [.tup [.str "take", x, y]] S = .ok (.lst [x, y]) S := by
  refine call_rt (g := ⟨1, 5, b_parts_at_once⟩) rfl rfl rfl ?_
  (apply stp2; (· apply ex_set; (· apply ev_sub; (· exact rd_var rfl); (· exact ev_int); (· rfl)); (· rfl)))
  (apply exL_iff0; (· apply evT_e; (· apply rd_cmp; (· apply ev_cmp; (· exact rd_var rfl); (· exact rd_str); (· rfl))); (· rfl)))
  (apply exL_iff0; (· apply evT_e; (· apply rd_cmp; (· apply ev_cmp; (· exact rd_var rfl); (· exact rd_str); (· rfl))); (· rfl)))
  (refine exL_frz rfl ?_; apply exL_rt; apply ex_ret; (· apply ev_lc; (· apply evI_over; (· apply evp_tsub; (· exact ev_var rfl); (· exact pl_add)); (· rfl)); (· apply lc_cons; (· apply lcs_yes; (· rfl); (· apply ev_sub; (· exact rd_var rfl); (· exact ev_var rfl); (· rfl))); (· apply lc_cons; (· apply lcs_yes; (· rfl); (· apply ev_sub; (· exact rd_var rfl); (· exact ev_var rfl); (· rfl))); (· exact lc_nil))); (· exact Nat.le_of_ble_eq_true rfl)))
theorem parts_part {x y : D} {S : Sto} : (phi fx (k + 1)).call 13 [.tup [.str "part", x, y]] S = .ok (.lst [x, y]) S := by
  refine call_rt (g := ⟨1, 5, b_parts_at_once⟩) rfl rfl rfl ?_
  (apply stp2; (· apply ex_set; (· apply ev_sub; (· exact rd_var rfl); (· exact ev_int); (· rfl)); (· rfl)))
  (apply exL_iff0; (· apply evT_e; (· apply rd_cmp; (· apply ev_cmp; (· exact rd_var rfl); (· exact rd_str); (· rfl))); (· rfl)))
  (apply exL_iff0; (· apply evT_e; (· apply rd_cmp; (· apply ev_cmp; (· exact rd_var rfl); (· exact rd_str); (· rfl))); (· rfl)))
  (refine exL_frz rfl ?_; apply exL_rt; apply ex_ret; (· apply ev_lc; (· apply evI_over; (· apply evp_tsub; (· exact ev_var rfl); (· exact pl_add)); (· rfl)); (· apply lc_cons; (· apply lcs_yes; (· rfl); (· apply ev_sub; (· exact rd_var rfl); (· exact ev_var rfl); (· rfl))); (· apply lc_cons; (· apply lcs_yes; (· rfl); (· apply ev_sub; (· exact rd_var rfl); (· exact ev_var rfl); (· rfl))); (· exact lc_nil))); (· exact Nat.le_of_ble_eq_true rfl)))
theorem parts_less {x y : D} {S : Sto} : (phi fx (k + 1)).call 13 [.tup [.str "less", x, y]] S = .ok (.lst [x, y]) S := by
  refine call_rt (g := ⟨1, 5, b_parts_at_once⟩) rfl rfl rfl ?_
  (apply stp2; (· apply ex_set; (· apply ev_sub; (· exact rd_var rfl); (· exact ev_int); (· rfl)); (· rfl)))
  (apply exL_iff0; (· apply evT_e; (· apply rd_cmp; (· apply ev_cmp; (· exact rd_var rfl); (· exact rd_str); (· rfl))); (· rfl)))
  (apply exL_iff0; (· apply evT_e; (· apply rd_cmp; (· apply ev_cmp; (· exact rd_var rfl); (· exact rd_str); (· rfl))); (· rfl)))
  (refine exL_frz rfl ?_; apply exL_rt; apply ex_ret; (· apply ev_lc; (· apply evI_over; (· apply evp_tsub; (· exact ev_var rfl); (· exact pl_add)); (· rfl)); (· apply lc_cons; (· apply lcs_yes; (· rfl); (· apply ev_sub; (· exact rd_var rfl); (· exact ev_var rfl); (· rfl))); (· apply lc_cons; (· apply lcs_yes; (· rfl); (· apply ev_sub; (· exact rd_var rfl); (· exact ev_var rfl); (· rfl))); (· exact lc_nil))); (· exact Nat.le_of_ble_eq_true rfl)))
theorem parts_let {x y z : D} {S : Sto} : (phi fx (k + 1)).call 13 [.tup [.str "let", x, y, z]] S = .ok (.lst [y]) S := by
  refine call_rt (g := ⟨1, 5, b_parts_at_once⟩) rfl rfl rfl ?_
  (apply stp2; (· apply ex_set; (· apply ev_sub; (· exact rd_var rfl); (· exact ev_int); (· rfl)); (· rfl)))
  (apply exL_iff0; (· apply evT_e; (· apply rd_cmp; (· apply ev_cmp; (· exact rd_var rfl); (· exact rd_str); (· rfl))); (· rfl)))
  (apply exL_iff0; (· apply evT_e; (· apply rd_cmp; (· apply ev_cmp; (· exact rd_var rfl); (· exact rd_str); (· rfl))); (· rfl)))
  (refine exL_frz rfl ?_; apply exL_rt; apply ex_ret; (· apply ev_lc; (· apply evI_over; (· apply evp_tsub; (· exact ev_var rfl); (· exact pl_let)); (· rfl)); (· apply lc_cons; (· apply lcs_yes; (· rfl); (· apply ev_sub; (· exact rd_var rfl); (· exact ev_var rfl); (· rfl))); (· exact lc_nil)); (· exact Nat.le_of_ble_eq_true rfl)))
theorem parts_if {x y z : D} {S : Sto} : (phi fx (k + 1)).call 13 [.tup [.str "if", x, y, z]] S = .ok (.lst [x]) S := by
  refine call_rt (g := ⟨1, 5, b_parts_at_once⟩) rfl rfl rfl ?_
  (apply stp2; (· apply ex_set; (· apply ev_sub; (· exact rd_var rfl); (· exact ev_int); (· rfl)); (· rfl)))
  (apply exL_iff0; (· apply evT_e; (· apply rd_cmp; (· apply ev_cmp; (· exact rd_var rfl); (· exact rd_str); (· rfl))); (· rfl)))
  (apply exL_iff0; (· apply evT_e; (· apply rd_cmp; (· apply ev_cmp; (· exact rd_var rfl); (· exact rd_str); (· rfl))); (· rfl)))
  (refine exL_frz rfl ?_; apply exL_rt; apply ex_ret; (· apply ev_lc; (· apply evI_over; (· apply evp_tsub; (· exact ev_var rfl); (· exact pl_if)); (· rfl)); (· apply lc_cons; (· apply lcs_yes; (· rfl); (· apply ev_sub; (· exact rd_var rfl); (· exact ev_var rfl); (· rfl))); (· exact lc_nil)); (· exact Nat.le_of_ble_eq_true rfl)))
theorem parts_field {x y : D} {S : Sto} : (phi fx (k + 1)).call 13 [.tup [.str "field", x, y]] S = .ok (.lst [x]) S := by
  refine call_rt (g := ⟨1, 5, b_parts_at_once⟩) rfl rfl rfl ?_
  (apply stp2; (· apply ex_set; (· apply ev_sub; (· exact rd_var rfl); (· exact ev_int); (· rfl)); (· rfl)))
  (apply exL_iff0; (· apply evT_e; (· apply rd_cmp; (· apply ev_cmp; (· exact rd_var rfl); (· exact rd_str); (· rfl))); (· rfl)))
  (apply exL_iff0; (· apply evT_e; (· apply rd_cmp; (· apply ev_cmp; (· exact rd_var rfl); (· exact rd_str); (· rfl))); (· rfl)))
  (refine exL_frz rfl ?_; apply exL_rt; apply ex_ret; (· apply ev_lc; (· apply evI_over; (· apply evp_tsub; (· exact ev_var rfl); (· exact pl_if)); (· rfl)); (· apply lc_cons; (· apply lcs_yes; (· rfl); (· apply ev_sub; (· exact rd_var rfl); (· exact ev_var rfl); (· rfl))); (· exact lc_nil)); (· exact Nat.le_of_ble_eq_true rfl)))
theorem parts_with {x y z : D} {S : Sto} : (phi fx (k + 1)).call 13 [.tup [.str "with", x, y, z]] S = .ok (.lst [x, z]) S := by
  refine call_rt (g := ⟨1, 5, b_parts_at_once⟩) rfl rfl rfl ?_
  (apply stp2; (· apply ex_set; (· apply ev_sub; (· exact rd_var rfl); (· exact ev_int); (· rfl)); (· rfl)))
  (apply exL_iff0; (· apply evT_e; (· apply rd_cmp; (· apply ev_cmp; (· exact rd_var rfl); (· exact rd_str); (· rfl))); (· rfl)))
  (apply exL_iff0; (· apply evT_e; (· apply rd_cmp; (· apply ev_cmp; (· exact rd_var rfl); (· exact rd_str); (· rfl))); (· rfl)))
  (refine exL_frz rfl ?_; apply exL_rt; apply ex_ret; (· apply ev_lc; (· apply evI_over; (· apply evp_tsub; (· exact ev_var rfl); (· exact pl_with)); (· rfl)); (· apply lc_cons; (· apply lcs_yes; (· rfl); (· apply ev_sub; (· exact rd_var rfl); (· exact ev_var rfl); (· rfl))); (· apply lc_cons; (· apply lcs_yes; (· rfl); (· apply ev_sub; (· exact rd_var rfl); (· exact ev_var rfl); (· rfl))); (· exact lc_nil))); (· exact Nat.le_of_ble_eq_true rfl)))
theorem parts_choice {x y : D} {S : Sto} : (phi fx (k + 1)).call 13 [.tup [.str "choice", x, y]] S = .ok (.lst [y]) S := by
  refine call_rt (g := ⟨1, 5, b_parts_at_once⟩) rfl rfl rfl ?_
  (apply stp2; (· apply ex_set; (· apply ev_sub; (· exact rd_var rfl); (· exact ev_int); (· rfl)); (· rfl)))
  (apply exL_iff0; (· apply evT_e; (· apply rd_cmp; (· apply ev_cmp; (· exact rd_var rfl); (· exact rd_str); (· rfl))); (· rfl)))
  (apply exL_iff0; (· apply evT_e; (· apply rd_cmp; (· apply ev_cmp; (· exact rd_var rfl); (· exact rd_str); (· rfl))); (· rfl)))
  (refine exL_frz rfl ?_; apply exL_rt; apply ex_ret; (· apply ev_lc; (· apply evI_over; (· apply evp_tsub; (· exact ev_var rfl); (· exact pl_let)); (· rfl)); (· apply lc_cons; (· apply lcs_yes; (· rfl); (· apply ev_sub; (· exact rd_var rfl); (· exact ev_var rfl); (· rfl))); (· exact lc_nil)); (· exact Nat.le_of_ble_eq_true rfl)))
theorem parts_case {x y : D} {S : Sto} : (phi fx (k + 1)).call 13 [.tup [.str "case", x, y]] S = .ok (.lst [x]) S := by
  refine call_rt (g := ⟨1, 5, b_parts_at_once⟩) rfl rfl rfl ?_
  (apply stp2; (· apply ex_set; (· apply ev_sub; (· exact rd_var rfl); (· exact ev_int); (· rfl)); (· rfl)))
  (apply exL_iff0; (· apply evT_e; (· apply rd_cmp; (· apply ev_cmp; (· exact rd_var rfl); (· exact rd_str); (· rfl))); (· rfl)))
  (apply exL_iff0; (· apply evT_e; (· apply rd_cmp; (· apply ev_cmp; (· exact rd_var rfl); (· exact rd_str); (· rfl))); (· rfl)))
  (refine exL_frz rfl ?_; apply exL_rt; apply ex_ret; (· apply ev_lc; (· apply evI_over; (· apply evp_tsub; (· exact ev_var rfl); (· exact pl_if)); (· rfl)); (· apply lc_cons; (· apply lcs_yes; (· rfl); (· apply ev_sub; (· exact rd_var rfl); (· exact ev_var rfl); (· rfl))); (· exact lc_nil)); (· exact Nat.le_of_ble_eq_true rfl)))
end
end K04

/-! the machine: begin, go_on -/
namespace K04
open PySem PySem.Spec PyProof.Rows L2 Pi
section
variable {k : Nat} {S0 scs : Sto} {ds ps rs ps' rs' : List D} {pl : List (Str × D)}
theorem asks_of {b c d e f : Option Sl} {sc : D} : ∀ {qs ps : List D} {u : Option Sl}, ps.length + qs.length ≤ 16777216 → ∃ u', forS (forB (phi fx (k + 1)) (.nm 5) q_Run_begin_2) qs [V (.obj S0.length), b, V sc, d, e, u] (st S0 ds pl ps rs scs) = .nx [V (.obj S0.length), b, V sc, d, e, u'] (st S0 ds pl (ps ++ qs.map fun q => .tup [q, sc, .bl false]) rs scs)
  | [], ps, u, _ => ⟨u, by rw [List.map_nil, List.append_nil]; exact fs_nil⟩
  | q :: qs, ps, u, h => by
    rw [List.length_cons] at h
    obtain ⟨u', e'⟩ := asks_of (b := b) (d := d) (e := e) (c := c) (f := f) (sc := sc) (qs := qs) (ps := ps ++ [.tup [q, sc, .bl false]]) (u := V q) (by rw [List.length_append, List.length_singleton]; omega)
    refine ⟨u', ?_⟩
    have hp : ps.length < 16777216 := by omega
    refine fs_cons (r' := [V (.obj S0.length), b, V sc, d, e, V q]) (S' := st S0 ds pl (ps ++ [.tup [q, sc, .bl false]]) rs scs) ?_ ?_
    · apply fb_of
      · rfl
      · (refine exL_frz rfl ?_; apply stp2; (· apply ex_ex; (· apply evp_meth; (· exact ev_var rfl); (· exact st_0); (· rfl); (· exact Nat.le_of_ble_eq_true rfl); (· rfl); (· apply evL_cons; (· exact ev_var rfl); (· apply evL_cons; (· exact ev_var rfl); (· exact evL_nil))); (· exact ask_of (by first | assumption | exact Nat.le_of_ble_eq_true rfl | omega)))))
        exact exL_nil
    · rw [e', List.append_assoc]; rfl
/-- a tree's turn comes, its parts first -/
theorem begin_of {w : Str} {rest qs : List D} {sc : D} (h1 : eqq (.str w) (.str "call") = some false) (h2 : eqq (.str w) (.str "again") = some false) (hq : ∀ S, (phi fx (k + 1)).call 13 [.tup (.str w :: rest)] S = .ok (.lst qs) S) (hp : ps.length + 1 + qs.length ≤ 16777216) :
    (phi fx (k + 2)).call 6 [.obj S0.length, .tup (.str w :: rest), sc] (st S0 ds pl ps rs scs) = .ok .non (st S0 ds pl (ps ++ .tup [.tup (.str w :: rest), sc, .bl true] :: qs.reverse.map fun q => .tup [q, sc, .bl false]) rs scs) := by
  have hp1 : ps.length < 16777216 := by omega
  have h1' : cmD .eq (.str w) (.str "call") = some false := h1
  have h2' : cmD .eq (.str w) (.str "again") = some false := h2
  have hs : subD (.tup (.str w :: rest)) (.int 0) = some (.str w) := by
    show (ixd (rest.length + 1) 0).bind _ = _
    rw [show (0 : Int) = ((0 : Nat) : Int) from rfl, ixd_nat (Nat.succ_pos _)]; rfl
  have hc := hq (st S0 ds pl (ps ++ [.tup [.tup (.str w :: rest), sc, .bl true]]) rs scs)
  obtain ⟨u', e⟩ := asks_of (k := k) (S0 := S0) (ds := ds) (pl := pl) (rs := rs) (scs := scs) (b := V (.tup (.str w :: rest))) (c := none) (f := none) (d := V (.int 1)) (e := V (.int 0)) (sc := sc) (u := none) (qs := qs.reverse) (ps := ps ++ [.tup [.tup (.str w :: rest), sc, .bl true]]) (by rw [List.length_append, List.length_singleton, List.length_reverse]; omega)
  refine call_nx (g := ⟨3, 6, b_Run_begin⟩) rfl rfl rfl ?_; apply Exists.intro
  (apply exL_iff0; (· apply evT_e; (· apply rd_cmp; (· apply ev_cmp; (· apply rd_sub; (· apply ev_sub; (· exact rd_var rfl); (· exact ev_int); (· exact hs))); (· exact rd_str); (· exact h1'))); (· rfl)))
  (skip)
  apply stp2
  · apply ex_set
    · apply ev_ite_f
      · (apply evT_e; (· apply rd_cmp; (· apply ev_cmp; (· apply rd_sub; (· apply ev_sub; (· exact rd_var rfl); (· exact ev_int); (· exact hs))); (· exact rd_str); (· exact h2'))); (· rfl))
      · (exact ev_int)
    · rfl
  (refine exL_frz rfl ?_; skip)
  apply stp2
  · apply ex_loop
    · (apply evI_rn; (· exact ev_var rfl); (· rfl))
    · apply fs_cons
      · apply fb_of
        · rfl
        · (refine exL_frz rfl ?_; apply stp2; (· apply ex_capp; (· apply ev_attr; (· exact ev_var rfl); (· exact st_0); (· exact a_pending)); (· exact st_1); (· apply ev_tup; (· apply evL_cons; (· exact ev_var rfl); (· apply evL_cons; (· exact ev_var rfl); (· apply evL_cons; (· exact ev_bl); (· exact evL_nil)))); (· exact Nat.le_of_ble_eq_true rfl)); (· exact st_1); (· assumption)))
          rw [st_p]
          exact exL_nil
      · exact fs_nil
  (refine exL_frz rfl ?_; skip)
  apply stp2
  · apply ex_loop
    · (apply evI_rev; (· apply ev_call; (· apply evL_cons; (· exact ev_var rfl); (· exact evL_nil)); (· exact hc)))
    · exact e
  rw [List.append_assoc, List.singleton_append]
  exact exL_nil
/-- a tree is taken from what is pending -/
theorem go_begin {w : Str} {rest qs : List D} {sc : D} (h1 : eqq (.str w) (.str "call") = some false) (h2 : eqq (.str w) (.str "again") = some false) (hq : ∀ S, (phi fx (k + 1)).call 13 [.tup (.str w :: rest)] S = .ok (.lst qs) S) (hp : ps.length + 1 + qs.length ≤ 16777216) :
    (phi fx (k + 3)).call 5 [.obj S0.length] (st S0 ds pl (ps ++ [.tup [.tup (.str w :: rest), sc, .bl false]]) rs scs) = .ok .non (st S0 ds pl (ps ++ .tup [.tup (.str w :: rest), sc, .bl true] :: qs.reverse.map fun q => .tup [q, sc, .bl false]) rs scs) := by
  refine call_nx (g := ⟨1, 5, b_Run_go_on⟩) rfl rfl rfl ?_; apply Exists.intro
  (refine exL_frz rfl ?_; apply stp2; (· apply ex_ast; (· apply ev_cpop; (· apply ev_attr; (· exact ev_var rfl); (· exact st_0); (· exact a_pending)); (· exact st_1)); (· rfl)))
  rw [st_p]
  (apply exL_iffL; (· apply evT_e; (· exact rd_var rfl); (· rfl)))
  (refine exL_frz rfl ?_; apply stp2; (· apply ex_ex; (· apply evp_meth; (· exact ev_var rfl); (· exact st_0); (· rfl); (· exact Nat.le_of_ble_eq_true rfl); (· rfl); (· apply evL_cons; (· exact ev_var rfl); (· apply evL_cons; (· exact ev_var rfl); (· exact evL_nil))); (· exact begin_of ‹_› ‹_› ‹_› ‹_›))))
  exact exL_nil
/-- a tree whose parts are reckoned: its action -/
theorem go_act {t sc : D} {f : Nat} {S' : Sto} {u : Str} (ht : subD t (.int 0) = some (.str u)) (ha : dget (fx.tb 1) u = some (.fn f)) (hf : f < fx.tab.length) (h : (phi fx k).call f [.obj S0.length, t, sc] (st S0 ds pl ps rs scs) = .ok .non S') (hd : ∀ S, der S t = t) :
    (phi fx (k + 1)).call 5 [.obj S0.length] (st S0 ds pl (ps ++ [.tup [t, sc, .bl true]]) rs scs) = .ok .non S' := by
  refine call_nx (g := ⟨1, 5, b_Run_go_on⟩) rfl rfl rfl ?_; apply Exists.intro
  (refine exL_frz rfl ?_; apply stp2; (· apply ex_ast; (· apply ev_cpop; (· apply ev_attr; (· exact ev_var rfl); (· exact st_0); (· exact a_pending)); (· exact st_1)); (· rfl)))
  rw [st_p]
  (apply exL_iftL; (· apply evT_e; (· exact rd_var rfl); (· rfl)))
  have ht2 : subD (der (st S0 ds pl ps rs scs) t) (.int 0) = some (.str u) := by rw [hd]; exact ht
  (apply stp2; (· apply ex_set; (· apply evp_tsub; (· apply ev_sub; (· exact rd_var rfl); (· exact ev_int); (· exact ht2)); (· assumption)); (· rfl)))
  (refine exL_frz rfl ?_; skip)
  apply stp2
  · apply ex_ex
    apply evp_callv
    · rfl
    · exact hf
    · (apply evL_cons; (· exact ev_var rfl); (· apply evL_cons; (· exact ev_var rfl); (· apply evL_cons; (· exact ev_var rfl); (· exact evL_nil))))
    · exact h
  exact exL_nil
theorem go_actx {t sc : D} {f c : Nat} {S' : Sto} {u : Str} (ht : subD t (.int 0) = some (.str u)) (ha : dget (fx.tb 1) u = some (.fn f)) (hf : f < fx.tab.length) (h : (phi fx k).call f [.obj S0.length, t, sc] (st S0 ds pl ps rs scs) = .exc c S') (hd : ∀ S, der S t = t) :
    (phi fx (k + 1)).call 5 [.obj S0.length] (st S0 ds pl (ps ++ [.tup [t, sc, .bl true]]) rs scs) = .exc c S' := by
  refine call_xc (g := ⟨1, 5, b_Run_go_on⟩) rfl rfl rfl ?_; apply Exists.intro
  (refine exL_frz rfl ?_; apply stp2; (· apply ex_ast; (· apply ev_cpop; (· apply ev_attr; (· exact ev_var rfl); (· exact st_0); (· exact a_pending)); (· exact st_1)); (· rfl)))
  rw [st_p]
  (apply exL_iftL; (· apply evT_e; (· exact rd_var rfl); (· rfl)))
  have ht2 : subD (der (st S0 ds pl ps rs scs) t) (.int 0) = some (.str u) := by rw [hd]; exact ht
  (apply stp2; (· apply ex_set; (· apply evp_tsub; (· apply ev_sub; (· exact rd_var rfl); (· exact ev_int); (· exact ht2)); (· assumption)); (· rfl)))
  (refine exL_frz rfl ?_; skip)
  apply exL_xc
  apply ex_exx
  apply evp_callv
  · rfl
  · exact hf
  · (apply evL_cons; (· exact ev_var rfl); (· apply evL_cons; (· exact ev_var rfl); (· apply evL_cons; (· exact ev_var rfl); (· exact evL_nil))))
  · exact h
end
end K04

/-! the machine: what its actions do -/
namespace K04
open PySem PySem.Spec PyProof.Rows L2 Pi
section
variable {k : Nat} {S0 scs : Sto} {ds ps rs ps' rs' : List D} {pl : List (Str × D)} {sc : D} {z w : Int}
theorem act_num (hr : rs.length < 16777216) (h1 : -1000000000000 ≤ z) (h2 : z ≤ 1000000000000) : (phi fx (k + 3)).call 14 [.obj S0.length, .tup [.str "num", .int z], sc] (st S0 ds pl ps rs scs) = .ok .non (st S0 ds pl ps (rs ++ [.int z]) scs) := by
  refine call_nx (g := ⟨3, 3, b_reckon_num⟩) rfl rfl rfl ?_; apply Exists.intro
  (refine exL_frz rfl ?_; apply stp2; (· apply ex_ex; (· apply evp_meth; (· exact ev_var rfl); (· exact st_0); (· rfl); (· exact Nat.le_of_ble_eq_true rfl); (· rfl); (· apply evL_cons; (· apply ev_sub; (· exact rd_var rfl); (· exact ev_int); (· rfl)); (· exact evL_nil)); (· exact give_number_of (by assumption) (by assumption) (by assumption)))))
  exact exL_nil
theorem act_truth {b : D} (hr : rs.length < 16777216) : (phi fx (k + 3)).call 15 [.obj S0.length, .tup [.str "truth", b], sc] (st S0 ds pl ps rs scs) = .ok .non (st S0 ds pl ps (rs ++ [b]) scs) := by
  refine call_nx (g := ⟨3, 3, b_reckon_truth⟩) rfl rfl rfl ?_; apply Exists.intro
  (refine exL_frz rfl ?_; apply stp2; (· apply ex_ex; (· apply evp_meth; (· exact ev_var rfl); (· exact st_0); (· rfl); (· exact Nat.le_of_ble_eq_true rfl); (· rfl); (· apply evL_cons; (· apply ev_sub; (· exact rd_var rfl); (· exact ev_int); (· rfl)); (· exact evL_nil)); (· exact give_of (by first | assumption | exact Nat.le_of_ble_eq_true rfl | omega)))))
  exact exL_nil
theorem act_name {x : Str} {nm : List (Str × D)} {a : Int} {j : Nat} {v : D} (hr : rs.length < 16777216) (h : scs[j]? = some (scO nm a)) (hx : dget nm x = some v) : (phi fx (k + 3)).call 16 [.obj S0.length, .tup [.str "name", .str x], .obj (S0.length + 3 + j)] (st S0 ds pl ps rs scs) = .ok .non (st S0 ds pl ps (rs ++ [v]) scs) := by
  have h1 : cmD .nin (.str x) (.dic nm) = some false := by
    show (some (dget nm x).isSome).map _ = _
    rw [hx]; rfl
  have h2 : subD (.dic nm) (.str x) = some v := hx
  refine call_nx (g := ⟨3, 4, b_reckon_name⟩) rfl rfl rfl ?_; apply Exists.intro
  (apply stp2; (· apply ex_set; (· apply ev_sub; (· exact rd_var rfl); (· exact ev_int); (· rfl)); (· rfl)))
  (refine exL_frz rfl ?_; apply exL_iff0; (· apply evT_e; (· apply rd_cmp; (· apply ev_cmp; (· exact rd_var rfl); (· apply rd_attr; (· apply ev_attr; (· exact ev_var rfl); (· apply st_sc; assumption); (· exact a_names))); (· exact h1))); (· rfl)))
  (refine exL_frz rfl ?_; apply stp2; (· apply ex_ex; (· apply evp_meth; (· exact ev_var rfl); (· exact st_0); (· rfl); (· exact Nat.le_of_ble_eq_true rfl); (· rfl); (· apply evL_cons; (· apply ev_sub; (· apply rd_attr; (· apply ev_attr; (· exact ev_var rfl); (· apply st_sc; assumption); (· exact a_names))); (· exact ev_var rfl); (· exact h2)); (· exact evL_nil)); (· exact give_of (by first | assumption | exact Nat.le_of_ble_eq_true rfl | omega)))))
  exact exL_nil
theorem act_add (hr : rs.length < 16777216) (h1 : -1000000000000 ≤ z + w) (h2 : z + w ≤ 1000000000000) : (phi fx (k + 3)).call 17 [.obj S0.length, .tup [.str "add", t1, t2], sc] (st S0 ds pl ps (rs ++ [.int z, .int w]) scs) = .ok .non (st S0 ds pl ps (rs ++ [.int (z + w)]) scs) := by
  refine call_nx (g := ⟨3, 5, b_reckon_add⟩) rfl rfl rfl ?_; apply Exists.intro
  (refine exL_frz rfl ?_; apply stp2; (· apply ex_ast; (· apply evp_meth; (· exact ev_var rfl); (· exact st_0); (· rfl); (· exact Nat.le_of_ble_eq_true rfl); (· rfl); (· exact evL_nil); (· exact take_numbers_of)); (· rfl)))
  (refine exL_frz rfl ?_; apply stp2; (· apply ex_ex; (· apply evp_meth; (· exact ev_var rfl); (· exact st_0); (· rfl); (· exact Nat.le_of_ble_eq_true rfl); (· rfl); (· apply evL_cons; (· apply ev_bin; (· exact rd_var rfl); (· exact rd_var rfl); (· rfl)); (· exact evL_nil)); (· exact give_number_of (by assumption) (by assumption) (by assumption)))))
  exact exL_nil
theorem act_take (hr : rs.length < 16777216) (h1 : -1000000000000 ≤ z - w) (h2 : z - w ≤ 1000000000000) : (phi fx (k + 3)).call 18 [.obj S0.length, .tup [.str "take", t1, t2], sc] (st S0 ds pl ps (rs ++ [.int z, .int w]) scs) = .ok .non (st S0 ds pl ps (rs ++ [.int (z - w)]) scs) := by
  refine call_nx (g := ⟨3, 5, b_reckon_take⟩) rfl rfl rfl ?_; apply Exists.intro
  (refine exL_frz rfl ?_; apply stp2; (· apply ex_ast; (· apply evp_meth; (· exact ev_var rfl); (· exact st_0); (· rfl); (· exact Nat.le_of_ble_eq_true rfl); (· rfl); (· exact evL_nil); (· exact take_numbers_of)); (· rfl)))
  (refine exL_frz rfl ?_; apply stp2; (· apply ex_ex; (· apply evp_meth; (· exact ev_var rfl); (· exact st_0); (· rfl); (· exact Nat.le_of_ble_eq_true rfl); (· rfl); (· apply evL_cons; (· apply ev_bin; (· exact rd_var rfl); (· exact rd_var rfl); (· rfl)); (· exact evL_nil)); (· exact give_number_of (by assumption) (by assumption) (by assumption)))))
  exact exL_nil
theorem part_op (h0 : w ≠ 0) (hw : w.natAbs < 2 ^ 9000) : o2D .fdiv (.int z) (.int w) = some (.int (z.fdiv w)) := if_pos ⟨h0, hw⟩
theorem eq0 {b : Bool} (h : decide (w = 0) = b) : cmD .eq (.int w) (.int 0) = some b := by
  show (if min 0 0 ≤ 100 then some (w == 0) else none) = _
  rw [if_pos (by decide), ← h]; rfl
theorem act_part (hr : rs.length < 16777216) (h0 : w ≠ 0) (hw : w.natAbs < 2 ^ 9000) (h1 : -1000000000000 ≤ z.fdiv w) (h2 : z.fdiv w ≤ 1000000000000) : (phi fx (k + 3)).call 19 [.obj S0.length, .tup [.str "part", t1, t2], sc] (st S0 ds pl ps (rs ++ [.int z, .int w]) scs) = .ok .non (st S0 ds pl ps (rs ++ [.int (z.fdiv w)]) scs) := by
  have e1 := part_op (z := z) h0 hw
  have e2 := eq0 (w := w) (b := false) (decide_eq_false h0)
  refine call_nx (g := ⟨3, 5, b_reckon_part⟩) rfl rfl rfl ?_; apply Exists.intro
  (refine exL_frz rfl ?_; apply stp2; (· apply ex_ast; (· apply evp_meth; (· exact ev_var rfl); (· exact st_0); (· rfl); (· exact Nat.le_of_ble_eq_true rfl); (· rfl); (· exact evL_nil); (· exact take_numbers_of)); (· rfl)))
  (apply exL_iff0; (· apply evT_e; (· apply rd_cmp; (· apply ev_cmp; (· exact rd_var rfl); (· exact rd_int); (· exact e2))); (· rfl)))
  (refine exL_frz rfl ?_; apply stp2; (· apply ex_ex; (· apply evp_meth; (· exact ev_var rfl); (· exact st_0); (· rfl); (· exact Nat.le_of_ble_eq_true rfl); (· rfl); (· apply evL_cons; (· apply ev_bin; (· exact rd_var rfl); (· exact rd_var rfl); (· exact e1)); (· exact evL_nil)); (· exact give_number_of (by assumption) (by assumption) (by assumption)))))
  exact exL_nil
theorem act_part0 : (phi fx (k + 3)).call 19 [.obj S0.length, .tup [.str "part", t1, t2], sc] (st S0 ds pl ps (rs ++ [.int z, .int 0]) scs) = .exc 7 (st S0 ds pl ps rs scs) := by
  have e2 := eq0 (w := 0) (b := true) rfl
  refine call_xc (g := ⟨3, 5, b_reckon_part⟩) rfl rfl rfl ?_; apply Exists.intro
  (refine exL_frz rfl ?_; apply stp2; (· apply ex_ast; (· apply evp_meth; (· exact ev_var rfl); (· exact st_0); (· rfl); (· exact Nat.le_of_ble_eq_true rfl); (· rfl); (· exact evL_nil); (· exact take_numbers_of)); (· rfl)))
  (apply exL_iftX; (· apply evT_e; (· apply rd_cmp; (· apply ev_cmp; (· exact rd_var rfl); (· exact rd_int); (· exact e2))); (· rfl)))
  (skip); apply exL_xc; (apply ex_raise; (· apply evL_cons; (· exact ev_str); (· exact evL_nil)); (· exact Nat.le_of_ble_eq_true rfl))
theorem act_num_x (h : z < -1000000000000 ∨ 1000000000000 < z) : (phi fx (k + 2)).call 14 [.obj S0.length, .tup [.str "num", .int z], sc] (st S0 ds pl ps rs scs) = .exc 8 (st S0 ds pl ps rs scs) := by
  refine call_xc (g := ⟨3, 3, b_reckon_num⟩) rfl rfl rfl ?_; apply Exists.intro
  (refine exL_frz rfl ?_; skip); apply exL_xc; apply ex_exx; apply evp_meth
  · (exact ev_var rfl)
  · (exact st_0)
  · rfl
  · exact Nat.le_of_ble_eq_true rfl
  · (rfl)
  · (apply evL_cons; (· apply ev_sub; (· exact rd_var rfl); (· exact ev_int); (· rfl)); (· exact evL_nil))
  · exact give_number_x h
theorem act_add_x (h : z + w < -1000000000000 ∨ 1000000000000 < z + w) : (phi fx (k + 3)).call 17 [.obj S0.length, .tup [.str "add", t1, t2], sc] (st S0 ds pl ps (rs ++ [.int z, .int w]) scs) = .exc 8 (st S0 ds pl ps rs scs) := by
  refine call_xc (g := ⟨3, 5, b_reckon_add⟩) rfl rfl rfl ?_; apply Exists.intro
  (refine exL_frz rfl ?_; apply stp2; (· apply ex_ast; (· apply evp_meth; (· exact ev_var rfl); (· exact st_0); (· rfl); (· exact Nat.le_of_ble_eq_true rfl); (· rfl); (· exact evL_nil); (· exact take_numbers_of)); (· rfl)))
  (refine exL_frz rfl ?_; skip); apply exL_xc; apply ex_exx; apply evp_meth
  · (exact ev_var rfl)
  · (exact st_0)
  · rfl
  · exact Nat.le_of_ble_eq_true rfl
  · (rfl)
  · (apply evL_cons; (· apply ev_bin; (· exact rd_var rfl); (· exact rd_var rfl); (· rfl)); (· exact evL_nil))
  · exact give_number_x h
theorem act_take_x (h : z - w < -1000000000000 ∨ 1000000000000 < z - w) : (phi fx (k + 3)).call 18 [.obj S0.length, .tup [.str "take", t1, t2], sc] (st S0 ds pl ps (rs ++ [.int z, .int w]) scs) = .exc 8 (st S0 ds pl ps rs scs) := by
  refine call_xc (g := ⟨3, 5, b_reckon_take⟩) rfl rfl rfl ?_; apply Exists.intro
  (refine exL_frz rfl ?_; apply stp2; (· apply ex_ast; (· apply evp_meth; (· exact ev_var rfl); (· exact st_0); (· rfl); (· exact Nat.le_of_ble_eq_true rfl); (· rfl); (· exact evL_nil); (· exact take_numbers_of)); (· rfl)))
  (refine exL_frz rfl ?_; skip); apply exL_xc; apply ex_exx; apply evp_meth
  · (exact ev_var rfl)
  · (exact st_0)
  · rfl
  · exact Nat.le_of_ble_eq_true rfl
  · (rfl)
  · (apply evL_cons; (· apply ev_bin; (· exact rd_var rfl); (· exact rd_var rfl); (· rfl)); (· exact evL_nil))
  · exact give_number_x h
theorem act_part_x (h0 : w ≠ 0) (hw : w.natAbs < 2 ^ 9000) (h : z.fdiv w < -1000000000000 ∨ 1000000000000 < z.fdiv w) : (phi fx (k + 3)).call 19 [.obj S0.length, .tup [.str "part", t1, t2], sc] (st S0 ds pl ps (rs ++ [.int z, .int w]) scs) = .exc 8 (st S0 ds pl ps rs scs) := by
  have e1 := part_op (z := z) h0 hw
  have e2 := eq0 (w := w) (b := false) (decide_eq_false h0)
  refine call_xc (g := ⟨3, 5, b_reckon_part⟩) rfl rfl rfl ?_; apply Exists.intro
  (refine exL_frz rfl ?_; apply stp2; (· apply ex_ast; (· apply evp_meth; (· exact ev_var rfl); (· exact st_0); (· rfl); (· exact Nat.le_of_ble_eq_true rfl); (· rfl); (· exact evL_nil); (· exact take_numbers_of)); (· rfl)))
  (apply exL_iff0; (· apply evT_e; (· apply rd_cmp; (· apply ev_cmp; (· exact rd_var rfl); (· exact rd_int); (· exact e2))); (· rfl)))
  (refine exL_frz rfl ?_; skip); apply exL_xc; apply ex_exx; apply evp_meth
  · (exact ev_var rfl)
  · (exact st_0)
  · rfl
  · exact Nat.le_of_ble_eq_true rfl
  · (rfl)
  · (apply evL_cons; (· apply ev_bin; (· exact rd_var rfl); (· exact rd_var rfl); (· exact e1)); (· exact evL_nil))
  · exact give_number_x h
theorem act_less (hr : rs.length < 16777216) : (phi fx (k + 3)).call 20 [.obj S0.length, .tup [.str "less", t1, t2], sc] (st S0 ds pl ps (rs ++ [.int z, .int w]) scs) = .ok .non (st S0 ds pl ps (rs ++ [.bl (decide (z < w))]) scs) := by
  refine call_nx (g := ⟨3, 5, b_reckon_less⟩) rfl rfl rfl ?_; apply Exists.intro
  (refine exL_frz rfl ?_; apply stp2; (· apply ex_ast; (· apply evp_meth; (· exact ev_var rfl); (· exact st_0); (· rfl); (· exact Nat.le_of_ble_eq_true rfl); (· rfl); (· exact evL_nil); (· exact take_numbers_of)); (· rfl)))
  (refine exL_frz rfl ?_; apply stp2; (· apply ex_ex; (· apply evp_meth; (· exact ev_var rfl); (· exact st_0); (· rfl); (· exact Nat.le_of_ble_eq_true rfl); (· rfl); (· apply evL_cons; (· apply ev_cmp; (· exact rd_var rfl); (· exact rd_var rfl); (· rfl)); (· exact evL_nil)); (· exact give_of (by first | assumption | exact Nat.le_of_ble_eq_true rfl | omega)))))
  exact exL_nil
theorem act_let {x : Str} {e b v : D} {nm : List (Str × D)} {a : Int} {j : Nat} (hp : ps.length < 16777216) (h : scs[j]? = some (scO nm a)) (hn : nm.length < 16777216) : (phi fx (k + 3)).call 21 [.obj S0.length, .tup [.str "let", .str x, e, b], .obj (S0.length + 3 + j)] (st S0 ds pl ps (rs ++ [v]) scs) = .ok .non (st S0 ds pl (ps ++ [.tup [b, .obj (S0.length + 3 + scs.length), .bl false]]) rs (scs ++ [scO (dput (mrgK [] nm) x v) a])) := by
  refine call_nx (g := ⟨3, 5, b_reckon_let⟩) rfl rfl rfl ?_; apply Exists.intro
  (apply stp2; (· apply ex_set; (· apply ev_sub; (· exact rd_var rfl); (· exact ev_int); (· rfl)); (· rfl)))
  (apply stp2; (· apply ex_set; (· apply ev_sub; (· exact rd_var rfl); (· exact ev_int); (· rfl)); (· rfl)))
  (refine exL_frz rfl ?_; apply stp2; (· apply ex_ex; (· apply evp_meth; (· exact ev_var rfl); (· exact st_0); (· rfl); (· exact Nat.le_of_ble_eq_true rfl); (· rfl); (· apply evL_cons; (· exact ev_var rfl); (· apply evL_cons; (· apply evp_meth; (· exact ev_var rfl); (· apply st_sc; assumption); (· rfl); (· exact Nat.le_of_ble_eq_true rfl); (· rfl); (· apply evL_cons; (· exact ev_var rfl); (· apply evL_cons; (· apply evp_meth; (· exact ev_var rfl); (· exact st_0); (· rfl); (· exact Nat.le_of_ble_eq_true rfl); (· rfl); (· exact evL_nil); (· exact take_value_of)); (· exact evL_nil))); (· exact with_name_of ‹_› ‹_›)); (· exact evL_nil))); (· exact ask_of (by first | assumption | exact Nat.le_of_ble_eq_true rfl | omega)))))
  exact exL_nil
theorem act_if {b : Bool} {t1 t2 t3 : D} (hp : ps.length < 16777216) : (phi fx (k + 3)).call 22 [.obj S0.length, .tup [.str "if", t1, t2, t3], sc] (st S0 ds pl ps (rs ++ [.bl b]) scs) = .ok .non (st S0 ds pl (ps ++ [.tup [if b = true then t2 else t3, sc, .bl false]]) rs scs) := by
  cases b
  · refine call_nx (g := ⟨3, 4, b_reckon_if⟩) rfl rfl rfl ?_; apply Exists.intro
    (refine exL_frz rfl ?_; apply stp2; (· apply ex_set; (· apply evp_meth; (· exact ev_var rfl); (· exact st_0); (· rfl); (· exact Nat.le_of_ble_eq_true rfl); (· rfl); (· exact evL_nil); (· exact take_value_of)); (· rfl)))
    (apply exL_iff0; (· apply evT_not_f; (· apply evT_e; (· apply rd_isi; (· apply ev_isi; (· exact rd_var rfl); (· rfl))); (· rfl))))
    (refine exL_frz rfl ?_; apply stp2; (· apply ex_ex; (· apply evp_meth; (· exact ev_var rfl); (· exact st_0); (· rfl); (· exact Nat.le_of_ble_eq_true rfl); (· rfl); (· apply evL_cons; (· apply ev_ite_f; (· apply evT_e; (· exact rd_var rfl); (· rfl)); (· apply ev_sub; (· exact rd_var rfl); (· exact ev_int); (· rfl))); (· apply evL_cons; (· exact ev_var rfl); (· exact evL_nil))); (· exact ask_of (by first | assumption | exact Nat.le_of_ble_eq_true rfl | omega)))))
    exact exL_nil
  · refine call_nx (g := ⟨3, 4, b_reckon_if⟩) rfl rfl rfl ?_; apply Exists.intro
    (refine exL_frz rfl ?_; apply stp2; (· apply ex_set; (· apply evp_meth; (· exact ev_var rfl); (· exact st_0); (· rfl); (· exact Nat.le_of_ble_eq_true rfl); (· rfl); (· exact evL_nil); (· exact take_value_of)); (· rfl)))
    (apply exL_iff0; (· apply evT_not_f; (· apply evT_e; (· apply rd_isi; (· apply ev_isi; (· exact rd_var rfl); (· rfl))); (· rfl))))
    (refine exL_frz rfl ?_; apply stp2; (· apply ex_ex; (· apply evp_meth; (· exact ev_var rfl); (· exact st_0); (· rfl); (· exact Nat.le_of_ble_eq_true rfl); (· rfl); (· apply evL_cons; (· apply ev_ite_t; (· apply evT_e; (· exact rd_var rfl); (· rfl)); (· apply ev_sub; (· exact rd_var rfl); (· exact ev_int); (· rfl))); (· apply evL_cons; (· exact ev_var rfl); (· exact evL_nil))); (· exact ask_of (by first | assumption | exact Nat.le_of_ble_eq_true rfl | omega)))))
    exact exL_nil
end
end K04

/-! the machine: what a tree comes to -/
namespace K04
open PySem PySem.Spec PyProof.Rows L2 Pi
abbrev rr (S0 : Sto) (r0 r1 r2 : Option Sl) : Rho := [r0, r1, r2, V (.obj S0.length)]
/-- the turns that are left -/
noncomputable def wl (k : Nat) (S0 : Sto) (r0 r1 r2 : Option Sl) (S : Sto) : SO := whS (evT (phi fx (k + 4)) (.e (.attr (.var 3) "pending"))) (exL (phi fx (k + 4)) q_reckoned_0) (rr S0 r0 r1 r2) S
section
variable {k : Nat} {S0 scs : Sto} {ds ps rs ps' rs' : List D} {pl : List (Str × D)} {sc : D} {z w : Int} {r0 r1 r2 : Option Sl}
theorem der_p : der (st S0 ds pl ps rs scs) (.obj (S0.length + 1)) = .lst ps := by
  unfold der; simp only [st_1]; rfl
theorem tru_p {x : D} : truD (der (st S0 ds pl (ps ++ [x]) rs scs) (.obj (S0.length + 1))) = some true := by
  rw [der_p]
  show some (!(ps ++ [x]).isEmpty) = _
  cases ps <;> rfl
theorem tru_e : truD (der (st S0 ds pl [] rs scs) (.obj (S0.length + 1))) = some false := by rw [der_p]; rfl
theorem wl_step {x : D} {S' : Sto} (h : (phi fx (k + 4)).call 5 [.obj S0.length] (st S0 ds pl (ps ++ [x]) rs scs) = .ok .non S') : wl k S0 r0 r1 r2 (st S0 ds pl (ps ++ [x]) rs scs) = wl k S0 r0 r1 r2 S' := by
  have ht : evT (phi fx (k + 4)) (.e (.attr (.var 3) "pending")) (rr S0 r0 r1 r2) (st S0 ds pl (ps ++ [x]) rs scs) = .ok true (st S0 ds pl (ps ++ [x]) rs scs) := by
    apply evT_e
    · (apply rd_attr; (· apply ev_attr; (· exact ev_var rfl); (· exact st_0); (· exact a_pending)))
    · exact tru_p
  have hb : exL (phi fx (k + 4)) q_reckoned_0 (rr S0 r0 r1 r2) (st S0 ds pl (ps ++ [x]) rs scs) = .nx (rr S0 r0 r1 r2) S' := by
    (refine exL_frz rfl ?_; apply stp2; (· apply ex_ex; (· apply evp_meth; (· exact ev_var rfl); (· exact st_0); (· rfl); (· exact Nat.le_of_ble_eq_true rfl); (· rfl); (· exact evL_nil); (· exact h))))
    exact exL_nil
  unfold wl
  rw [whS_eq, ht, st_ok, if_pos rfl, hb]
theorem wl_x {x : D} {S' : Sto} {c : Nat} (h : (phi fx (k + 4)).call 5 [.obj S0.length] (st S0 ds pl (ps ++ [x]) rs scs) = .exc c S') : wl k S0 r0 r1 r2 (st S0 ds pl (ps ++ [x]) rs scs) = .xc c (rr S0 r0 r1 r2) S' := by
  have ht : evT (phi fx (k + 4)) (.e (.attr (.var 3) "pending")) (rr S0 r0 r1 r2) (st S0 ds pl (ps ++ [x]) rs scs) = .ok true (st S0 ds pl (ps ++ [x]) rs scs) := by
    apply evT_e
    · (apply rd_attr; (· apply ev_attr; (· exact ev_var rfl); (· exact st_0); (· exact a_pending)))
    · exact tru_p
  have hb : exL (phi fx (k + 4)) q_reckoned_0 (rr S0 r0 r1 r2) (st S0 ds pl (ps ++ [x]) rs scs) = .xc c (rr S0 r0 r1 r2) S' := by
    (refine exL_frz rfl ?_; skip)
    apply exL_xc
    apply ex_exx
    (apply evp_meth; (· exact ev_var rfl); (· exact st_0); (· rfl); (· exact Nat.le_of_ble_eq_true rfl); (· rfl); (· exact evL_nil); (· exact h))
  unfold wl
  rw [whS_eq, ht, st_ok, if_pos rfl, hb]
theorem wl_end : wl k S0 r0 r1 r2 (st S0 ds pl [] rs scs) = .nx (rr S0 r0 r1 r2) (st S0 ds pl [] rs scs) := by
  have ht : evT (phi fx (k + 4)) (.e (.attr (.var 3) "pending")) (rr S0 r0 r1 r2) (st S0 ds pl [] rs scs) = .ok false (st S0 ds pl [] rs scs) := by
    apply evT_e
    · (apply rd_attr; (· apply ev_attr; (· exact ev_var rfl); (· exact st_0); (· exact a_pending)))
    · exact tru_e
  unfold wl
  rw [whS_eq, ht, st_ok, if_neg (by decide)]
end
inductive RO where
  | v (d : D) | x (c : Nat)
/-- a tree in a scope comes to o, in a machine that is high by h at most -/
def Ev (ds : List D) (pl : List (Str × D)) (h : Nat) (nm : List (Str × D)) (a : Int) (t : D) (o : RO) : Prop :=
  ∀ (k : Nat) (S0 : Sto) (ps rs : List D) (scs : Sto) (j : Nat) (r0 r1 r2 : Option Sl), scs[j]? = some (scO nm a) → ps.length + h ≤ 16000000 → rs.length + h ≤ 16000000 →
    match o with
    | .v d => ∃ more, wl k S0 r0 r1 r2 (st S0 ds pl (ps ++ [.tup [t, .obj (S0.length + 3 + j), .bl false]]) rs scs) = wl k S0 r0 r1 r2 (st S0 ds pl ps (rs ++ [d]) (scs ++ more))
    | .x c => ∃ more, wl k S0 r0 r1 r2 (st S0 ds pl (ps ++ [.tup [t, .obj (S0.length + 3 + j), .bl false]]) rs scs) = .xc c (rr S0 r0 r1 r2) (S0 ++ more)
section
variable {ds : List D} {pl nm : List (Str × D)} {h h1 h2 h3 : Nat} {a : Int} {t l r d1 d2 d3 : D} {w : Str} {rest : List D} {z y : Int} {o : RO} {c : Nat}
theorem st_ap {S0 : Sto} {ps rs : List D} {scs : Sto} : ∃ more, st S0 ds pl ps rs scs = S0 ++ more := ⟨_, rfl⟩
theorem sc_more {scs more : Sto} {j : Nat} {o : Ob} (h : scs[j]? = some o) : (scs ++ more)[j]? = some o := by
  rw [List.getElem?_append_left (List.getElem?_eq_some_iff.mp h).1]; exact h
/-- two parts -/
theorem Ev.two (n1 : eqq (.str w) (.str "call") = some false) (n2 : eqq (.str w) (.str "again") = some false) (hq : ∀ k S, (phi fx (k + 1)).call 13 [.tup (.str w :: rest)] S = .ok (.lst [l, r]) S)
    (el : Ev ds pl h1 nm a l (.v d1)) (er : Ev ds pl h2 nm a r (.v d2)) (hh : h1 + 3 ≤ h) (hh2 : h2 + 3 ≤ h)
    (k : Nat) (S0 : Sto) (ps rs : List D) (scs : Sto) (j : Nat) (r0 r1 r2 : Option Sl) (hs : scs[j]? = some (scO nm a)) (hp : ps.length + h ≤ 16000000) (hr : rs.length + h ≤ 16000000) :
    ∃ more, wl k S0 r0 r1 r2 (st S0 ds pl (ps ++ [.tup [.tup (.str w :: rest), .obj (S0.length + 3 + j), .bl false]]) rs scs) = wl k S0 r0 r1 r2 (st S0 ds pl (ps ++ [.tup [.tup (.str w :: rest), .obj (S0.length + 3 + j), .bl true]]) (rs ++ [d1, d2]) (scs ++ more)) := by
  have e0 := go_begin (k := k + 1) (S0 := S0) (ds := ds) (pl := pl) (ps := ps) (rs := rs) (scs := scs) (sc := .obj (S0.length + 3 + j)) n1 n2 (hq _) (by simp only [List.length_cons, List.length_nil]; omega)
  obtain ⟨m1, e1⟩ := el k S0 (ps ++ [.tup [.tup (.str w :: rest), .obj (S0.length + 3 + j), .bl true], .tup [r, .obj (S0.length + 3 + j), .bl false]]) rs scs j r0 r1 r2 hs (by simp only [List.length_append, List.length_cons, List.length_nil]; omega) (by omega)
  obtain ⟨m2, e2⟩ := er k S0 (ps ++ [.tup [.tup (.str w :: rest), .obj (S0.length + 3 + j), .bl true]]) (rs ++ [d1]) (scs ++ m1) j r0 r1 r2 (sc_more hs) (by simp only [List.length_append, List.length_cons, List.length_nil]; omega) (by simp only [List.length_append, List.length_cons, List.length_nil]; omega)
  refine ⟨m1 ++ m2, ?_⟩
  rw [wl_step e0]
  simp only [List.append_assoc, List.cons_append, List.nil_append, List.reverse_cons, List.reverse_nil, List.map_cons, List.map_nil] at e1 e2 ⊢
  rw [e1, e2]
theorem Ev.two_l (n1 : eqq (.str w) (.str "call") = some false) (n2 : eqq (.str w) (.str "again") = some false) (hq : ∀ k S, (phi fx (k + 1)).call 13 [.tup (.str w :: rest)] S = .ok (.lst [l, r]) S)
    (el : Ev ds pl h1 nm a l (.x c)) (hh : h1 + 3 ≤ h) : Ev ds pl h nm a (.tup (.str w :: rest)) (.x c) := by
  intro k S0 ps rs scs j r0 r1 r2 hs hp hr
  have e0 := go_begin (k := k + 1) (S0 := S0) (ds := ds) (pl := pl) (ps := ps) (rs := rs) (scs := scs) (sc := .obj (S0.length + 3 + j)) n1 n2 (hq _) (by simp only [List.length_cons, List.length_nil]; omega)
  obtain ⟨m1, e1⟩ := el k S0 (ps ++ [.tup [.tup (.str w :: rest), .obj (S0.length + 3 + j), .bl true], .tup [r, .obj (S0.length + 3 + j), .bl false]]) rs scs j r0 r1 r2 hs (by simp only [List.length_append, List.length_cons, List.length_nil]; omega) (by omega)
  refine ⟨m1, ?_⟩
  rw [wl_step e0]
  simp only [List.append_assoc, List.cons_append, List.nil_append, List.reverse_cons, List.reverse_nil, List.map_cons, List.map_nil] at e1 ⊢
  rw [e1]
theorem Ev.two_r (n1 : eqq (.str w) (.str "call") = some false) (n2 : eqq (.str w) (.str "again") = some false) (hq : ∀ k S, (phi fx (k + 1)).call 13 [.tup (.str w :: rest)] S = .ok (.lst [l, r]) S)
    (el : Ev ds pl h1 nm a l (.v d1)) (er : Ev ds pl h2 nm a r (.x c)) (hh : h1 + 3 ≤ h) (hh2 : h2 + 3 ≤ h) : Ev ds pl h nm a (.tup (.str w :: rest)) (.x c) := by
  intro k S0 ps rs scs j r0 r1 r2 hs hp hr
  have e0 := go_begin (k := k + 1) (S0 := S0) (ds := ds) (pl := pl) (ps := ps) (rs := rs) (scs := scs) (sc := .obj (S0.length + 3 + j)) n1 n2 (hq _) (by simp only [List.length_cons, List.length_nil]; omega)
  obtain ⟨m1, e1⟩ := el k S0 (ps ++ [.tup [.tup (.str w :: rest), .obj (S0.length + 3 + j), .bl true], .tup [r, .obj (S0.length + 3 + j), .bl false]]) rs scs j r0 r1 r2 hs (by simp only [List.length_append, List.length_cons, List.length_nil]; omega) (by omega)
  obtain ⟨m2, e2⟩ := er k S0 (ps ++ [.tup [.tup (.str w :: rest), .obj (S0.length + 3 + j), .bl true]]) (rs ++ [d1]) (scs ++ m1) j r0 r1 r2 (sc_more hs) (by simp only [List.length_append, List.length_cons, List.length_nil]; omega) (by simp only [List.length_append, List.length_cons, List.length_nil]; omega)
  refine ⟨m2, ?_⟩
  rw [wl_step e0]
  simp only [List.append_assoc, List.cons_append, List.nil_append, List.reverse_cons, List.reverse_nil, List.map_cons, List.map_nil] at e1 e2 ⊢
  rw [e1, e2]
/-- one part -/
theorem Ev.one (n1 : eqq (.str w) (.str "call") = some false) (n2 : eqq (.str w) (.str "again") = some false) (hq : ∀ k S, (phi fx (k + 1)).call 13 [.tup (.str w :: rest)] S = .ok (.lst [l]) S)
    (el : Ev ds pl h1 nm a l (.v d1)) (hh : h1 + 3 ≤ h)
    (k : Nat) (S0 : Sto) (ps rs : List D) (scs : Sto) (j : Nat) (r0 r1 r2 : Option Sl) (hs : scs[j]? = some (scO nm a)) (hp : ps.length + h ≤ 16000000) (hr : rs.length + h ≤ 16000000) :
    ∃ more, wl k S0 r0 r1 r2 (st S0 ds pl (ps ++ [.tup [.tup (.str w :: rest), .obj (S0.length + 3 + j), .bl false]]) rs scs) = wl k S0 r0 r1 r2 (st S0 ds pl (ps ++ [.tup [.tup (.str w :: rest), .obj (S0.length + 3 + j), .bl true]]) (rs ++ [d1]) (scs ++ more)) := by
  have e0 := go_begin (k := k + 1) (S0 := S0) (ds := ds) (pl := pl) (ps := ps) (rs := rs) (scs := scs) (sc := .obj (S0.length + 3 + j)) n1 n2 (hq _) (by simp only [List.length_cons, List.length_nil]; omega)
  obtain ⟨m1, e1⟩ := el k S0 (ps ++ [.tup [.tup (.str w :: rest), .obj (S0.length + 3 + j), .bl true]]) rs scs j r0 r1 r2 hs (by simp only [List.length_append, List.length_cons, List.length_nil]; omega) (by omega)
  refine ⟨m1, ?_⟩
  rw [wl_step e0]
  simp only [List.append_assoc, List.cons_append, List.nil_append, List.reverse_cons, List.reverse_nil, List.map_cons, List.map_nil] at e1 ⊢
  rw [e1]
theorem Ev.one_x (n1 : eqq (.str w) (.str "call") = some false) (n2 : eqq (.str w) (.str "again") = some false) (hq : ∀ k S, (phi fx (k + 1)).call 13 [.tup (.str w :: rest)] S = .ok (.lst [l]) S)
    (el : Ev ds pl h1 nm a l (.x c)) (hh : h1 + 3 ≤ h) : Ev ds pl h nm a (.tup (.str w :: rest)) (.x c) := by
  intro k S0 ps rs scs j r0 r1 r2 hs hp hr
  have e0 := go_begin (k := k + 1) (S0 := S0) (ds := ds) (pl := pl) (ps := ps) (rs := rs) (scs := scs) (sc := .obj (S0.length + 3 + j)) n1 n2 (hq _) (by simp only [List.length_cons, List.length_nil]; omega)
  obtain ⟨m1, e1⟩ := el k S0 (ps ++ [.tup [.tup (.str w :: rest), .obj (S0.length + 3 + j), .bl true]]) rs scs j r0 r1 r2 hs (by simp only [List.length_append, List.length_cons, List.length_nil]; omega) (by omega)
  refine ⟨m1, ?_⟩
  rw [wl_step e0]
  simp only [List.append_assoc, List.cons_append, List.nil_append, List.reverse_cons, List.reverse_nil, List.map_cons, List.map_nil] at e1 ⊢
  rw [e1]
/-- none -/
theorem Ev.nul (n1 : eqq (.str w) (.str "call") = some false) (n2 : eqq (.str w) (.str "again") = some false) (hq : ∀ k S, (phi fx (k + 1)).call 13 [.tup (.str w :: rest)] S = .ok (.lst []) S) (hh : 3 ≤ h)
    (k : Nat) (S0 : Sto) (ps rs : List D) (scs : Sto) (j : Nat) (r0 r1 r2 : Option Sl) (hp : ps.length + h ≤ 16000000) :
    wl k S0 r0 r1 r2 (st S0 ds pl (ps ++ [.tup [.tup (.str w :: rest), .obj (S0.length + 3 + j), .bl false]]) rs scs) = wl k S0 r0 r1 r2 (st S0 ds pl (ps ++ [.tup [.tup (.str w :: rest), .obj (S0.length + 3 + j), .bl true]]) rs scs) := by
  have e0 := go_begin (k := k + 1) (S0 := S0) (ds := ds) (pl := pl) (ps := ps) (rs := rs) (scs := scs) (sc := .obj (S0.length + 3 + j)) n1 n2 (hq _) (by simp only [List.length_cons, List.length_nil]; omega)
  rw [wl_step e0]
  rfl
theorem sub0 {rest : List D} : subD (.tup (.str w :: rest)) (.int 0) = some (.str w) := by
  show (ixd (rest.length + 1) 0).bind _ = _
  rw [show (0 : Int) = ((0 : Nat) : Int) from rfl, ixd_nat (Nat.succ_pos _)]; rfl
theorem ac_num : dget (fx.tb 1) "num" = some (.fn 14) := by rfl
theorem ac_truth : dget (fx.tb 1) "truth" = some (.fn 15) := by rfl
theorem ac_name : dget (fx.tb 1) "name" = some (.fn 16) := by rfl
theorem ac_add : dget (fx.tb 1) "add" = some (.fn 17) := by rfl
theorem ac_take : dget (fx.tb 1) "take" = some (.fn 18) := by rfl
theorem ac_part : dget (fx.tb 1) "part" = some (.fn 19) := by rfl
theorem ac_less : dget (fx.tb 1) "less" = some (.fn 20) := by rfl
theorem ac_let : dget (fx.tb 1) "let" = some (.fn 21) := by rfl
theorem ac_if : dget (fx.tb 1) "if" = some (.fn 22) := by rfl
/-- the action gives -/
theorem Ev.act {k f : Nat} {S0 : Sto} {ps rs : List D} {scs S' : Sto} {sc : D} {r0 r1 r2 : Option Sl} (ha : dget (fx.tb 1) w = some (.fn f)) (hf : f < fx.tab.length) (he : (phi fx (k + 3)).call f [.obj S0.length, .tup (.str w :: rest), sc] (st S0 ds pl ps rs scs) = .ok .non S') :
    wl k S0 r0 r1 r2 (st S0 ds pl (ps ++ [.tup [.tup (.str w :: rest), sc, .bl true]]) rs scs) = wl k S0 r0 r1 r2 S' := wl_step (go_act sub0 ha hf he (fun _ => rfl))
theorem Ev.actx {k f : Nat} {S0 : Sto} {ps rs : List D} {scs S' : Sto} {sc : D} {r0 r1 r2 : Option Sl} (ha : dget (fx.tb 1) w = some (.fn f)) (hf : f < fx.tab.length) (he : (phi fx (k + 3)).call f [.obj S0.length, .tup (.str w :: rest), sc] (st S0 ds pl ps rs scs) = .exc c S') :
    wl k S0 r0 r1 r2 (st S0 ds pl (ps ++ [.tup [.tup (.str w :: rest), sc, .bl true]]) rs scs) = .xc c (rr S0 r0 r1 r2) S' := wl_x (go_actx sub0 ha hf he (fun _ => rfl))
theorem Ev.num (b1 : -1000000000000 ≤ z) (b2 : z ≤ 1000000000000) (hh : 3 ≤ h) : Ev ds pl h nm a (.tup [.str "num", .int z]) (.v (.int z)) := fun k S0 ps rs scs j r0 r1 r2 hs hp hr =>
  ⟨[], by rw [Ev.nul rfl rfl (fun _ _ => parts_num) hh k S0 ps rs scs j r0 r1 r2 hp, Ev.act ac_num (Nat.le_of_ble_eq_true rfl) (act_num (by omega) b1 b2), List.append_nil]⟩
theorem Ev.truth {b : D} (hh : 3 ≤ h) : Ev ds pl h nm a (.tup [.str "truth", b]) (.v b) := fun k S0 ps rs scs j r0 r1 r2 hs hp hr =>
  ⟨[], by rw [Ev.nul rfl rfl (fun _ _ => parts_truth) hh k S0 ps rs scs j r0 r1 r2 hp, Ev.act ac_truth (Nat.le_of_ble_eq_true rfl) (act_truth (by omega)), List.append_nil]⟩
theorem Ev.name {x : Str} {d : D} (hx : dget nm x = some d) (hh : 3 ≤ h) : Ev ds pl h nm a (.tup [.str "name", .str x]) (.v d) := fun k S0 ps rs scs j r0 r1 r2 hs hp hr =>
  ⟨[], by rw [Ev.nul rfl rfl (fun _ _ => parts_name) hh k S0 ps rs scs j r0 r1 r2 hp, Ev.act ac_name (Nat.le_of_ble_eq_true rfl) (act_name (by omega) hs hx), List.append_nil]⟩
theorem Ev.add (el : Ev ds pl h1 nm a l (.v (.int z))) (er : Ev ds pl h2 nm a r (.v (.int y))) (hh : h1 + 3 ≤ h) (hh2 : h2 + 3 ≤ h) (b1 : -1000000000000 ≤ z + y) (b2 : z + y ≤ 1000000000000) : Ev ds pl h nm a (.tup [.str "add", l, r]) (.v (.int (z + y))) := fun k S0 ps rs scs j r0 r1 r2 hs hp hr => by
  obtain ⟨m, e⟩ := Ev.two rfl rfl (fun _ _ => parts_add) el er hh hh2 k S0 ps rs scs j r0 r1 r2 hs hp hr
  exact ⟨m, e.trans (Ev.act ac_add (Nat.le_of_ble_eq_true rfl) (act_add (by omega) b1 b2))⟩
theorem Ev.add_x (el : Ev ds pl h1 nm a l (.v (.int z))) (er : Ev ds pl h2 nm a r (.v (.int y))) (hh : h1 + 3 ≤ h) (hh2 : h2 + 3 ≤ h) (b : z + y < -1000000000000 ∨ 1000000000000 < z + y) : Ev ds pl h nm a (.tup [.str "add", l, r]) (.x 8) := fun k S0 ps rs scs j r0 r1 r2 hs hp hr => by
  obtain ⟨m, e⟩ := Ev.two rfl rfl (fun _ _ => parts_add) el er hh hh2 k S0 ps rs scs j r0 r1 r2 hs hp hr
  exact ⟨_, e.trans (Ev.actx ac_add (Nat.le_of_ble_eq_true rfl) (act_add_x b))⟩
theorem Ev.take (el : Ev ds pl h1 nm a l (.v (.int z))) (er : Ev ds pl h2 nm a r (.v (.int y))) (hh : h1 + 3 ≤ h) (hh2 : h2 + 3 ≤ h) (b1 : -1000000000000 ≤ z - y) (b2 : z - y ≤ 1000000000000) : Ev ds pl h nm a (.tup [.str "take", l, r]) (.v (.int (z - y))) := fun k S0 ps rs scs j r0 r1 r2 hs hp hr => by
  obtain ⟨m, e⟩ := Ev.two rfl rfl (fun _ _ => parts_take) el er hh hh2 k S0 ps rs scs j r0 r1 r2 hs hp hr
  exact ⟨m, e.trans (Ev.act ac_take (Nat.le_of_ble_eq_true rfl) (act_take (by omega) b1 b2))⟩
theorem Ev.take_x (el : Ev ds pl h1 nm a l (.v (.int z))) (er : Ev ds pl h2 nm a r (.v (.int y))) (hh : h1 + 3 ≤ h) (hh2 : h2 + 3 ≤ h) (b : z - y < -1000000000000 ∨ 1000000000000 < z - y) : Ev ds pl h nm a (.tup [.str "take", l, r]) (.x 8) := fun k S0 ps rs scs j r0 r1 r2 hs hp hr => by
  obtain ⟨m, e⟩ := Ev.two rfl rfl (fun _ _ => parts_take) el er hh hh2 k S0 ps rs scs j r0 r1 r2 hs hp hr
  exact ⟨_, e.trans (Ev.actx ac_take (Nat.le_of_ble_eq_true rfl) (act_take_x b))⟩
theorem Ev.part (el : Ev ds pl h1 nm a l (.v (.int z))) (er : Ev ds pl h2 nm a r (.v (.int y))) (hh : h1 + 3 ≤ h) (hh2 : h2 + 3 ≤ h) (h0 : y ≠ 0) (hw : y.natAbs < 2 ^ 9000) (b1 : -1000000000000 ≤ z.fdiv y) (b2 : z.fdiv y ≤ 1000000000000) : Ev ds pl h nm a (.tup [.str "part", l, r]) (.v (.int (z.fdiv y))) := fun k S0 ps rs scs j r0 r1 r2 hs hp hr => by
  obtain ⟨m, e⟩ := Ev.two rfl rfl (fun _ _ => parts_part) el er hh hh2 k S0 ps rs scs j r0 r1 r2 hs hp hr
  exact ⟨m, e.trans (Ev.act ac_part (Nat.le_of_ble_eq_true rfl) (act_part (by omega) h0 hw b1 b2))⟩
theorem Ev.part_x (el : Ev ds pl h1 nm a l (.v (.int z))) (er : Ev ds pl h2 nm a r (.v (.int y))) (hh : h1 + 3 ≤ h) (hh2 : h2 + 3 ≤ h) (h0 : y ≠ 0) (hw : y.natAbs < 2 ^ 9000) (b : z.fdiv y < -1000000000000 ∨ 1000000000000 < z.fdiv y) : Ev ds pl h nm a (.tup [.str "part", l, r]) (.x 8) := fun k S0 ps rs scs j r0 r1 r2 hs hp hr => by
  obtain ⟨m, e⟩ := Ev.two rfl rfl (fun _ _ => parts_part) el er hh hh2 k S0 ps rs scs j r0 r1 r2 hs hp hr
  exact ⟨_, e.trans (Ev.actx ac_part (Nat.le_of_ble_eq_true rfl) (act_part_x h0 hw b))⟩
theorem Ev.part0 (el : Ev ds pl h1 nm a l (.v (.int z))) (er : Ev ds pl h2 nm a r (.v (.int 0))) (hh : h1 + 3 ≤ h) (hh2 : h2 + 3 ≤ h) : Ev ds pl h nm a (.tup [.str "part", l, r]) (.x 7) := fun k S0 ps rs scs j r0 r1 r2 hs hp hr => by
  obtain ⟨m, e⟩ := Ev.two rfl rfl (fun _ _ => parts_part) el er hh hh2 k S0 ps rs scs j r0 r1 r2 hs hp hr
  exact ⟨_, e.trans (Ev.actx ac_part (Nat.le_of_ble_eq_true rfl) act_part0)⟩
theorem Ev.less (el : Ev ds pl h1 nm a l (.v (.int z))) (er : Ev ds pl h2 nm a r (.v (.int y))) (hh : h1 + 3 ≤ h) (hh2 : h2 + 3 ≤ h) : Ev ds pl h nm a (.tup [.str "less", l, r]) (.v (.bl (decide (z < y)))) := fun k S0 ps rs scs j r0 r1 r2 hs hp hr => by
  obtain ⟨m, e⟩ := Ev.two rfl rfl (fun _ _ => parts_less) el er hh hh2 k S0 ps rs scs j r0 r1 r2 hs hp hr
  exact ⟨m, e.trans (Ev.act ac_less (Nat.le_of_ble_eq_true rfl) (act_less (by omega)))⟩
theorem Ev.if_ {b : Bool} {t1 t2 t3 : D} (el : Ev ds pl h1 nm a t1 (.v (.bl b))) (er : Ev ds pl h2 nm a (if b = true then t2 else t3) o) (hh : h1 + 3 ≤ h) (hh2 : h2 + 3 ≤ h) : Ev ds pl h nm a (.tup [.str "if", t1, t2, t3]) o := fun k S0 ps rs scs j r0 r1 r2 hs hp hr => by
  obtain ⟨m, e⟩ := Ev.one rfl rfl (fun _ _ => parts_if (x := t1) (y := t2) (z := t3)) el hh k S0 ps rs scs j r0 r1 r2 hs hp hr
  have e1 := e.trans (Ev.act ac_if (Nat.le_of_ble_eq_true rfl) (act_if (by omega)))
  have e2 := er k S0 ps rs (scs ++ m) j r0 r1 r2 (sc_more hs) (by omega) (by omega)
  cases o with
  | v d => obtain ⟨m2, e2⟩ := e2; exact ⟨m ++ m2, by rw [e1, e2, List.append_assoc]⟩
  | x c => obtain ⟨m2, e2⟩ := e2; exact ⟨m2, by rw [e1, e2]⟩
theorem Ev.let_ {x : Str} {e b : D} (el : Ev ds pl h1 nm a e (.v d1)) (er : Ev ds pl h2 (dput (mrgK [] nm) x d1) a b o) (hn : nm.length < 16777216) (hh : h1 + 3 ≤ h) (hh2 : h2 + 3 ≤ h) : Ev ds pl h nm a (.tup [.str "let", .str x, e, b]) o := fun k S0 ps rs scs j r0 r1 r2 hs hp hr => by
  obtain ⟨m, e⟩ := Ev.one rfl rfl (fun _ _ => parts_let (x := .str x) (y := e) (z := b)) el hh k S0 ps rs scs j r0 r1 r2 hs hp hr
  have e1 := e.trans (Ev.act ac_let (Nat.le_of_ble_eq_true rfl) (act_let (by omega) (sc_more hs) hn))
  have e2 := er k S0 ps rs (scs ++ m ++ [scO (dput (mrgK [] nm) x d1) a]) (scs ++ m).length r0 r1 r2 (by simp) (by omega) (by omega)
  cases o with
  | v d => obtain ⟨m2, e2⟩ := e2; exact ⟨m ++ ([scO (dput (mrgK [] nm) x d1) a] ++ m2), by rw [e1, e2]; simp only [List.append_assoc]⟩
  | x c => obtain ⟨m2, e2⟩ := e2; exact ⟨m2, by rw [e1, e2]⟩
theorem Ev.let_x {x : Str} {e b : D} (el : Ev ds pl h1 nm a e (.x c)) (hh : h1 + 3 ≤ h) : Ev ds pl h nm a (.tup [.str "let", .str x, e, b]) (.x c) := Ev.one_x rfl rfl (fun _ _ => parts_let) el hh
theorem Ev.if_x {t1 t2 t3 : D} (el : Ev ds pl h1 nm a t1 (.x c)) (hh : h1 + 3 ≤ h) : Ev ds pl h nm a (.tup [.str "if", t1, t2, t3]) (.x c) := Ev.one_x rfl rfl (fun _ _ => parts_if) el hh
end
end K04

/-! the machine: reckoned, where no deeds are told -/
namespace K04
open PySem PySem.Spec PyProof.Rows L2 Pi
section
variable {k : Nat} {S0 : Sto} {nm : List (Str × D)} {t d : D} {h : Nat}
theorem gx {S : Sto} {o : Ob} {f : Ob → Sto} (hf : ∀ o, f o = S ++ [o]) : (f o)[S.length]? = some o := by rw [hf]; simp
theorem run_init0 : (phi fx (k + 1)).call 3 [.obj S0.length, .lst []] (S0 ++ [.ins 1 []]) = .ok .non (st S0 [] [] [] [] []) := by
  have g : ∀ (o : Ob) (r : Sto), (S0 ++ o :: r)[S0.length]? = some o := fun o r => by rw [List.getElem?_append_right (Nat.le_refl _), Nat.sub_self]; rfl
  have s : ∀ (o o' : Ob) (r : Sto), (S0 ++ o :: r).set S0.length o' = S0 ++ o' :: r := fun o o' r => by rw [List.set_append_right _ _ (Nat.le_refl _), Nat.sub_self]; rfl
  have l1 : ∀ o : Ob, (S0 ++ [o]).length = S0.length + 1 := fun o => by simp
  have l2 : ∀ o o' : Ob, (S0 ++ [o, o']).length = S0.length + 2 := fun o o' => by simp
  refine call_nx (g := ⟨2, 4, b_Run_init⟩) rfl rfl rfl ?_; apply Exists.intro
  (refine exL_frz rfl ?_; skip)
  apply stp2
  · apply ex_attr
    · (exact ev_var rfl)
    · (exact ev_var rfl)
    · exact g _ _
    · (exact Nat.le_of_ble_eq_true rfl)
  rw [s]
  (refine exL_frz rfl ?_; skip)
  apply stp2
  · apply ex_attr
    · show ev _ _ _ _ = .ok (.dic []) _
      simp only [ev, evI, ev, bnd_ok, enumD, loopK]
      rfl
    · (exact ev_var rfl)
    · exact g _ _
    · (exact Nat.le_of_ble_eq_true rfl)
  simp only [ulS]
  rw [s]
  (refine exL_frz rfl ?_; skip)
  apply stp2
  · apply ex_attr
    · apply ev_cell
      (apply ev_lst; (· exact evL_nil); (· exact Nat.le_of_ble_eq_true rfl))
    · (exact ev_var rfl)
    · simp only [List.append_assoc, List.cons_append, List.nil_append]
      exact g _ _
    · (exact Nat.le_of_ble_eq_true rfl)
  simp only [List.append_assoc, List.cons_append, List.nil_append]
  rw [s, l1]
  (refine exL_frz rfl ?_; skip)
  apply stp2
  · apply ex_attr
    · apply ev_cell
      (apply ev_lst; (· exact evL_nil); (· exact Nat.le_of_ble_eq_true rfl))
    · (exact ev_var rfl)
    · simp only [List.append_assoc, List.cons_append, List.nil_append]
      exact g _ _
    · (exact Nat.le_of_ble_eq_true rfl)
  simp only [List.append_assoc, List.cons_append, List.nil_append]
  rw [s, l2]
  exact exL_nil
theorem wl_of {c : SL} {S S' : Sto} {r0 r1 r2 : Option Sl} {o : SO} (h : wl k S0 r0 r1 r2 S = .nx (rr S0 r0 r1 r2) S') (h2 : exL (phi fx (k + 4)) c (rr S0 r0 r1 r2) S' = o) : exL (phi fx (k + 4)) (.cons (.whl (.e (.attr (.var 3) "pending")) q_reckoned_0) c) (rr S0 r0 r1 r2) S = o := by
  refine (stp ?_).trans h2
  rw [ex]
  exact h
theorem wl_ofx {c : SL} {S S' : Sto} {r0 r1 r2 : Option Sl} {x : Nat} (h : wl k S0 r0 r1 r2 S = .xc x (rr S0 r0 r1 r2) S') : exL (phi fx (k + 4)) (.cons (.whl (.e (.attr (.var 3) "pending")) q_reckoned_0) c) (rr S0 r0 r1 r2) S = .xc x (rr S0 r0 r1 r2) S' := by
  refine stp_xc ?_
  rw [ex]
  exact h
/-- up to the loop -/
theorem rk_head {o : SO} (hl : exL (phi fx (k + 4)) q_reckoned_2 (rr S0 (V (.lst [])) (V (.dic nm)) (V t)) (st S0 [] [] ([] ++ [.tup [t, .obj (S0.length + 3 + 0), .bl false]]) [] [scO nm 0]) = o) : exL (phi fx (k + 4)) b_reckoned [V (.lst []), V (.dic nm), V t, none] S0 = o := by
  (refine exL_frz rfl ?_; apply stp2; (· apply ex_set; (· apply evp_new; (· apply evL_cons; (· exact ev_var rfl); (· exact evL_nil)); (· rfl); (· exact run_init0)); (· rfl)))
  (refine exL_frz rfl ?_; skip)
  apply stp2
  · apply ex_ex
    apply evp_meth
    · (exact ev_var rfl)
    · (exact st_0)
    · rfl
    · exact Nat.le_of_ble_eq_true rfl
    · (rfl)
    · apply evL_cons
      · (exact ev_var rfl)
      · apply evL_cons
        · apply evp_new
          · (apply evL_cons; (· exact ev_var rfl); (· apply evL_cons; (· apply ev_bi; (· exact rd_var rfl); (· rfl)); (· exact evL_nil)))
          · rfl
          · (exact scope_init_of)
        · (exact evL_nil)
    · rw [st_len]
      (exact ask_of (by first | assumption | exact Nat.le_of_ble_eq_true rfl | omega))
  exact hl
theorem reckoned_v (he : Ev [] [] h nm 0 t (.v d)) (hh : h ≤ 16000000) : ∃ more, (phi fx (k + 5)).call 0 [.lst [], .dic nm, t] S0 = .ok d (S0 ++ more) := by
  obtain ⟨more, e⟩ := he k S0 [] [] [scO nm 0] 0 (V (.lst [])) (V (.dic nm)) (V t) rfl (by simpa using hh) (by simpa using hh)
  rw [List.nil_append] at e
  rw [wl_end] at e
  refine ⟨runO S0.length [] [] :: .ol [] :: .ol [] :: ([scO nm 0] ++ more), ?_⟩
  show _ = Out.ok d (st S0 [] [] [] [] ([scO nm 0] ++ more))
  refine call_rt (g := ⟨3, 4, b_reckoned⟩) rfl rfl rfl ?_
  refine rk_head ?_
  (refine exL_frz rfl ?_; skip)
  refine wl_of e ?_
  (refine exL_frz rfl ?_; skip)
  apply exL_rt
  rw [← st_r (rs := [d]) (rs' := [])]
  apply ex_ret
  apply ev_cpop
  · (apply ev_attr; (· exact ev_var rfl); (· exact st_0); (· exact a_results))
  · exact st_2 (rs := [] ++ [d])
theorem reckoned_x {c : Nat} (he : Ev [] [] h nm 0 t (.x c)) (hh : h ≤ 16000000) : ∃ more, (phi fx (k + 5)).call 0 [.lst [], .dic nm, t] S0 = .exc c (S0 ++ more) := by
  obtain ⟨more, e⟩ := he k S0 [] [] [scO nm 0] 0 (V (.lst [])) (V (.dic nm)) (V t) rfl (by simpa using hh) (by simpa using hh)
  refine ⟨more, ?_⟩
  refine call_xc (g := ⟨3, 4, b_reckoned⟩) rfl rfl rfl ?_; apply Exists.intro
  refine rk_head ?_
  (refine exL_frz rfl ?_; skip)
  exact wl_ofx e
end
end K04

/-! the law's small defs -/
namespace K04
open PySem PySem.Spec PyProof.Rows L2 Pi
def cellAt (ns : List Int) (k : Nat) : Int := ns.getD k 0
section
variable {k : Nat} {S : Sto} {c : Int}
theorem cell_ok (ns : List Int) (j : Nat) : (phi fx (k + 1)).call 31 [.lst (ns.map D.int), .int j] S = .ok (.int (cellAt ns j)) S := by
  have hl : (ns.map D.int).length = ns.length := List.length_map ..
  by_cases h : j < ns.length
  · have hs : subD (.lst (ns.map D.int)) (.int j) = some (.int (cellAt ns j)) := by
      show (ixd (ns.map D.int).length j).bind _ = _
      rw [ixd_nat (by omega), Option.bind_some, List.getElem?_map, List.getElem?_eq_getElem h, Option.map_some]
      show some (D.int ns[j]) = some (D.int (ns.getD j 0))
      rw [List.getD_eq_getElem?_getD, List.getElem?_eq_getElem h]; rfl
    refine call_rt (g := ⟨2, 2, b__law_cell_at⟩) rfl rfl rfl ?_
    (apply exL_iftR; (· apply evT_e; (· apply rd_cmp; (· apply ev_cmp; (· exact rd_var rfl); (· apply rd_bi; (· apply ev_bi; (· exact rd_var rfl); (· rfl))); (· rfl))); (· refine congrArg some ?_; exact decide_eq_true (by omega))))
    (refine exL_frz rfl ?_; apply exL_rt; apply ex_ret; (· apply ev_sub; (· exact rd_var rfl); (· exact ev_var rfl); (· exact hs)))
  · have e : cellAt ns j = 0 := by
      unfold cellAt
      rw [List.getD_eq_getElem?_getD, List.getElem?_eq_none (by omega)]; rfl
    rw [e]
    refine call_rt (g := ⟨2, 2, b__law_cell_at⟩) rfl rfl rfl ?_
    (apply exL_iff0; (· apply evT_e; (· apply rd_cmp; (· apply ev_cmp; (· exact rd_var rfl); (· apply rd_bi; (· apply ev_bi; (· exact rd_var rfl); (· rfl))); (· rfl))); (· refine congrArg some ?_; exact decide_eq_false (by omega))))
    (apply exL_rt; apply ex_ret; (· exact ev_int))
theorem number_ok : ∃ z : Int, -1000000000000 ≤ z ∧ z ≤ 1000000000000 ∧ ∀ k S, (phi fx (k + 1)).call 33 [.int c] S = .ok (.int z) S := by
  have a0 : 0 ≤ (c.fdiv 3).fmod 9 := Int.fmod_nonneg_of_pos _ (by decide)
  have a1 : (c.fdiv 3).fmod 9 < 9 := Int.fmod_lt_of_pos _ (by decide)
  have b0 : 0 ≤ (c.fdiv 3).fmod 2000000000001 := Int.fmod_nonneg_of_pos _ (by decide)
  have b1 : (c.fdiv 3).fmod 2000000000001 < 2000000000001 := Int.fmod_lt_of_pos _ (by decide)
  by_cases h : 0 < c.fmod 3
  · refine ⟨(c.fdiv 3).fmod 9 - 4, by omega, by omega, fun k S => ?_⟩
    refine call_rt (g := ⟨1, 1, b__law_number_by⟩) rfl rfl rfl ?_
    (apply exL_iftR; (· apply evT_e; (· apply rd_cmp; (· apply ev_cmp; (· apply rd_bin; (· apply ev_bin; (· exact rd_var rfl); (· exact rd_int); (· exact fmd (by decide)))); (· exact rd_int); (· rfl))); (· refine congrArg some ?_; exact decide_eq_true (by omega))))
    (apply exL_rt; apply ex_ret; (· apply ev_bin; (· apply rd_bin; (· apply ev_bin; (· apply rd_bin; (· apply ev_bin; (· exact rd_var rfl); (· exact rd_int); (· exact fdv (by decide) (by decide)))); (· exact rd_int); (· exact fmd (by decide)))); (· exact rd_int); (· rfl)))
  · refine ⟨(c.fdiv 3).fmod 2000000000001 - 1000000000000, by omega, by omega, fun k S => ?_⟩
    refine call_rt (g := ⟨1, 1, b__law_number_by⟩) rfl rfl rfl ?_
    (apply exL_iff0; (· apply evT_e; (· apply rd_cmp; (· apply ev_cmp; (· apply rd_bin; (· apply ev_bin; (· exact rd_var rfl); (· exact rd_int); (· exact fmd (by decide)))); (· exact rd_int); (· rfl))); (· refine congrArg some ?_; exact decide_eq_false (by omega))))
    (apply exL_rt; apply ex_ret; (· apply ev_bin; (· apply rd_bin; (· apply ev_bin; (· apply rd_bin; (· apply ev_bin; (· exact rd_var rfl); (· exact rd_int); (· exact fdv (by decide) (by decide)))); (· exact rd_int); (· exact fmd (by decide)))); (· exact rd_int); (· rfl)))
/-! names -/
theorem abc_len : ("abcdefghijklmnopqrstuvwxyz" : Str).cps.toList.length = 26 := by decide
theorem sub_str {x : Str} {i : Int} (hx : x.length ≤ sizeLine) (h0 : 0 ≤ i) (h : i < (x.cps.toList.length : Nat)) : ∃ c, subD (.str x) (.int i) = some (.str ⟨#[c]⟩) := by
  have hl : i.toNat < x.cps.toList.length := by omega
  refine ⟨x.cps.toList[i.toNat], ?_⟩
  simp only [subD, if_pos hx, ixd_int h0 h, Option.bind_some, List.getElem?_eq_getElem hl, Option.map_some]
theorem abc_sub (i : Int) : ∃ c, subD (.str "abcdefghijklmnopqrstuvwxyz") (.int (i.fmod 26)) = some (.str ⟨#[c]⟩) := by
  refine sub_str (by decide) (Int.fmod_nonneg_of_pos _ (by decide)) ?_
  rw [abc_len]
  exact Int.fmod_lt_of_pos _ (by decide)
theorem one_len (c : Nat) : (⟨#[c]⟩ : Str).length = 1 := rfl
theorem rngD_len (i : Int) (n : Nat) : (rngD i n).length = n := by simp [rngD]
theorem rngD_get (i : Int) (n k : Nat) (d : D) (h : (rngD i n)[k]? = some d) : d = .int (i + k) := by
  have hk : k < n := by
    have := (List.getElem?_eq_some_iff.mp h).1
    rwa [rngD_len] at this
  simp only [rngD, List.getElem?_map, List.getElem?_range hk, Option.map_some, Option.some.injEq] at h
  exact h.symm
theorem strs_one : ∀ cs : List Nat, strsD (cs.map fun c => D.str ⟨#[c]⟩) = some (cs.map fun c => (⟨#[c]⟩ : Str))
  | [] => rfl
  | c :: r => by rw [List.map_cons, List.map_cons, strsD, strs_one r]; rfl
theorem sum_one : ∀ cs : List Nat, ((cs.map fun c => (⟨#[c]⟩ : Str)).map (·.length)).sum = cs.length
  | [] => rfl
  | c :: r => by
    have ih := sum_one r
    simp only [List.map_cons, List.sum_cons, List.length_cons, one_len] at ih ⊢
    rw [ih]
    omega
theorem mul_op {i j : Int} (h0 : 0 ≤ i) (h : i ≤ 1000) : o2D .mul (.int i) (.int j) = some (.int (i * j)) := if_pos (.inl ⟨Int.lt_of_lt_of_le (by decide) h0, Int.lt_of_le_of_lt h (by decide)⟩)
noncomputable def ltr (c : Int) (i : Nat) : Nat := (abc_sub (c.fdiv 12 + (0 + (i : Nat)) * (1 + (c.fdiv 312).fmod 25))).choose
theorem letters (n : Nat) (sz : Nat) (hsz : sz ≤ 12) (o : Option Sl) : ∃ o', forS (forB (phi fx k) (.nm 3) q__law_name_by_0) (rngD 0 sz) [V (.int c), V (.str "abcdefghijklmnopqrstuvwxyz"), some (.ol []), o] S = .nx [V (.int c), V (.str "abcdefghijklmnopqrstuvwxyz"), some (.ol (((List.range sz).map (ltr c)).map fun c => D.str ⟨#[c]⟩)), o'] S := by
  obtain ⟨r', S', e, rfl, o', rfl⟩ := forS_inv (f := forB (phi fx k) (.nm 3) q__law_name_by_0) (xs := rngD 0 sz) (fun i r S' => S' = S ∧ ∃ (o' : Option Sl), r = [V (.int c), V (.str "abcdefghijklmnopqrstuvwxyz"), some (.ol (((List.range i).map (ltr c)).map fun c => D.str ⟨#[c]⟩)), o']) (by
    rintro i x r S1 hx ⟨rfl, o', rfl⟩
    have hi : i < sz := by
      have := (List.getElem?_eq_some_iff.mp hx).1
      rwa [rngD_len] at this
    have ex := rngD_get _ _ _ _ hx
    subst ex
    have ec := (abc_sub (c.fdiv 12 + (0 + (i : Nat)) * (1 + (c.fdiv 312).fmod 25))).choose_spec
    have hm := mul_op (i := 0 + (i : Nat)) (j := 1 + (c.fdiv 312).fmod 25) (by omega) (by omega)
    have hb : (((List.range i).map (ltr c)).map fun c => D.str ⟨#[c]⟩).length < 16777216 := by rw [List.length_map, List.length_map, List.length_range]; omega
    refine ⟨[V (.int c), V (.str "abcdefghijklmnopqrstuvwxyz"), some (.ol (((List.range (i + 1)).map (ltr c)).map fun c => D.str ⟨#[c]⟩)), V (.int (0 + (i : Nat)))], S1, ?_, rfl, _, rfl⟩
    rw [List.range_succ, List.map_append, List.map_append]
    apply fb_of
    · rfl
    · (apply stp2; (· apply ex_app; (· apply ev_sub; (· exact rd_var rfl); (· apply ev_bin; (· apply rd_bin; (· apply ev_bin; (· apply rd_bin; (· apply ev_bin; (· exact rd_var rfl); (· exact rd_int); (· exact fdv (by decide) (by decide)))); (· apply rd_bin; (· apply ev_bin; (· exact rd_var rfl); (· apply rd_bin; (· apply ev_bin; (· exact rd_int); (· apply rd_bin; (· apply ev_bin; (· apply rd_bin; (· apply ev_bin; (· exact rd_var rfl); (· exact rd_int); (· exact fdv (by decide) (by decide)))); (· exact rd_int); (· exact fmd (by decide)))); (· rfl))); (· exact hm))); (· rfl))); (· exact rd_int); (· exact fmd (by decide))); (· exact ec)); (· rfl); (· assumption)))
      exact exL_nil) 0 (Nat.zero_le _) ⟨rfl, o, rfl⟩
  rw [rngD_len] at e
  exact ⟨o', by simpa using e⟩
theorem join_len : ∀ cs : List Nat, (Str.join "" (cs.map fun c => (⟨#[c]⟩ : Str))).length = cs.length
  | [] => rfl
  | [c] => rfl
  | c :: d :: r => by
    have e : Str.join "" ((c :: d :: r).map fun c => (⟨#[c]⟩ : Str)) = (⟨#[c]⟩ : Str) ++ "" ++ Str.join "" ((d :: r).map fun c => (⟨#[c]⟩ : Str)) := rfl
    rw [e, Str.length_append, Str.length_append, one_len, join_len (d :: r)]
    show 1 + 0 + (r.length + 1) = r.length + 1 + 1
    omega
/-- a name of one to twelve signs -/
theorem name_ok : ∃ x : Str, 0 < x.length ∧ x.length ≤ 12 ∧ ∀ k S, (phi fx (k + 1)).call 32 [.int c] S = .ok (.str x) S := by
  have a0 : 0 ≤ c.fmod 12 := Int.fmod_nonneg_of_pos _ (by decide)
  have a1 : c.fmod 12 < 12 := Int.fmod_lt_of_pos _ (by decide)
  obtain ⟨n, hn⟩ : ∃ n : Nat, 1 + c.fmod 12 = (n : Int) := ⟨(1 + c.fmod 12).toNat, by omega⟩
  have hl : ((List.range n).map (ltr c)).length = n := by simp
  generalize hcs : (List.range n).map (ltr c) = cs at hl
  have hj : joinD "" (.lst (cs.map fun c => D.str ⟨#[c]⟩)) = some (.str (Txt.join "" (cs.map fun c => (⟨#[c]⟩ : Str)))) := by
    show (strsD _).bind _ = _
    rw [strs_one, Option.bind_some, if_pos]
    rw [sum_one, List.length_map]
    show cs.length + cs.length * 0 ≤ 16777216
    omega
  have hf : fits62 ((n : Nat) : Int) = true := fits62_of (by omega) (by omega)
  have len : (Txt.join "" (cs.map fun c => (⟨#[c]⟩ : Str))).length = cs.length := by
    rw [TL.join_eq, join_len]
  refine ⟨Txt.join "" (cs.map fun c => (⟨#[c]⟩ : Str)), by omega, by omega, fun k S => ?_⟩
  obtain ⟨o', e⟩ := letters (k := k) (S := S) (c := c) n n (by omega) none
  rw [hcs] at e
  have e0 : ev (phi fx k) (.bin .add (.int 1) (.bin .mod (.var 0) (.int 12))) [V (.int c), V (.str "abcdefghijklmnopqrstuvwxyz"), some (.ol []), none] S = .ok (.int (n : Nat)) S := by
    rw [← hn]
    (apply ev_bin; (· exact rd_int); (· apply rd_bin; (· apply ev_bin; (· exact rd_var rfl); (· exact rd_int); (· exact fmd (by decide)))); (· rfl))
  have e1 : evI (phi fx k) (.rng (.bin .add (.int 1) (.bin .mod (.var 0) (.int 12)))) [V (.int c), V (.str "abcdefghijklmnopqrstuvwxyz"), some (.ol []), none] S = .ok ⟨none, rngD 0 n⟩ S := by
    rw [evI_rng, e0, bnd_ok, rngF_ok hf, Int.toNat_natCast]
  refine call_rt (g := ⟨1, 4, b__law_name_by⟩) rfl rfl rfl ?_
  (apply stp2; (· apply ex_set; (· exact ev_str); (· rfl)))
  (apply stp2; (· apply ex_set; (· apply ev_lst; (· exact evL_nil); (· exact Nat.le_of_ble_eq_true rfl)); (· rfl)))
  (skip)
  apply stp2
  · apply ex_loop
    · exact e1
    · exact e
  (skip)
  apply exL_rt
  apply ex_ret
  rw [ev]
  show Out.bnd (.ok (D.lst (cs.map fun c => D.str ⟨#[c]⟩)) S) _ = _
  rw [bnd_ok]
  show lift (joinD "" (.lst (cs.map fun c => D.str ⟨#[c]⟩))) S = _
  rw [hj, lift_some]
end
end K04

/-! the law's own sums, what is told, what is alike -/
namespace K04
open PySem PySem.Spec PyProof.Rows L2 Pi
/-- what is due -/
inductive Du where
  | int (z : Int) | bl (b : Bool) | bn | tg
def Du.d : Du → D
  | .int z => .int z
  | .bl b => .bl b
  | .bn => .str "by nought"
  | .tg => .str "too great"
def Du.o : Du → RO
  | .int z => .v (.int z)
  | .bl b => .v (.bl b)
  | .bn => .x 7
  | .tg => .x 8
def fin (z : Int) : Du := if z < -1000000000000 ∨ 1000000000000 < z then .tg else .int z
def two (f : Int → Int → Du) : Du → Du → Du
  | .int a, .int b => f a b
  | .int a, v => v
  | u, _ => u
def sAdd : Du → Du → Du := two fun a b => fin (a + b)
def sTake : Du → Du → Du := two fun a b => fin (a - b)
def sPart : Du → Du → Du := two fun a b => if b = 0 then .bn else fin (a.fdiv b)
def sLess : Du → Du → Du := two fun a b => .bl (decide (a < b))
/-- a number, or why there is none -/
def Du.num : Du → Prop
  | .int z => -1000000000000 ≤ z ∧ z ≤ 1000000000000
  | .bl _ => False
  | _ => True
def Du.tru : Du → Prop
  | .int _ => False
  | _ => True
theorem fin_num (z : Int) : (fin z).num := by
  unfold fin
  split
  · trivial
  · rename_i h
    show _ ∧ _
    omega
theorem two_num {f : Int → Int → Du} (h : ∀ a b, (f a b).num) : ∀ {u v : Du}, u.num → v.num → (two f u v).num := by
  intro u v hu hv
  cases u <;> cases v <;> first | exact h _ _ | exact hu | exact hv
theorem two_tru {f : Int → Int → Du} (h : ∀ a b, (f a b).tru) : ∀ {u v : Du}, u.num → v.num → (two f u v).tru := by
  intro u v hu hv
  cases u <;> cases v <;> first | exact h _ _ | exact hu.elim | exact hv.elim | trivial
section
variable {k : Nat} {S : Sto} {a b : Int}
theorem sum_s1 {w : Str} {s : Str} {v : D} : (phi fx (k + 1)).call 34 [.str w, .str s, v] S = .ok (.str s) S := by
  refine call_rt (g := ⟨3, 5, b__law_sum⟩) rfl rfl rfl ?_
  (refine exL_frz rfl ?_; skip)
  apply exL_rt
  apply ex_loop
  · (apply evI_over; (· apply ev_lst; (· apply evL_cons; (· exact ev_var rfl); (· apply evL_cons; (· exact ev_var rfl); (· exact evL_nil))); (· exact Nat.le_of_ble_eq_true rfl)); (· rfl))
  · apply forS_rt
    apply fb_of
    · rfl
    · (apply exL_iftL; (· apply evT_e; (· apply rd_isi; (· apply ev_isi; (· exact rd_var rfl); (· rfl))); (· rfl)))
      (refine exL_frz rfl ?_; apply exL_rt; apply ex_ret; (· exact ev_var rfl))
theorem sum_s2 {w : Str} {s : Str} : (phi fx (k + 1)).call 34 [.str w, .int a, .str s] S = .ok (.str s) S := by
  refine call_rt (g := ⟨3, 5, b__law_sum⟩) rfl rfl rfl ?_
  (refine exL_frz rfl ?_; skip)
  apply exL_rt
  apply ex_loop
  · (apply evI_over; (· apply ev_lst; (· apply evL_cons; (· exact ev_var rfl); (· apply evL_cons; (· exact ev_var rfl); (· exact evL_nil))); (· exact Nat.le_of_ble_eq_true rfl)); (· rfl))
  · apply fs_cons
    · apply fb_of
      · rfl
      · (apply exL_iff0; (· apply evT_e; (· apply rd_isi; (· apply ev_isi; (· exact rd_var rfl); (· rfl))); (· rfl)))
        exact exL_nil
    · apply forS_rt
      apply fb_of
      · rfl
      · (apply exL_iftL; (· apply evT_e; (· apply rd_isi; (· apply ev_isi; (· exact rd_var rfl); (· rfl))); (· rfl)))
        (refine exL_frz rfl ?_; apply exL_rt; apply ex_ret; (· exact ev_var rfl))
/-- up to the words -/
theorem sum_head {w : Str} {o : SO} (h : exL (phi fx k) q__law_sum_13 [V (.str w), V (.int a), V (.int b), V (.int b), none] S = o) : exL (phi fx k) b__law_sum [V (.str w), V (.int a), V (.int b), none, none] S = o := by
  (refine exL_frz rfl ?_; skip)
  apply stp2
  · apply ex_loop
    · (apply evI_over; (· apply ev_lst; (· apply evL_cons; (· exact ev_var rfl); (· apply evL_cons; (· exact ev_var rfl); (· exact evL_nil))); (· exact Nat.le_of_ble_eq_true rfl)); (· rfl))
    · apply fs_cons
      · apply fb_of
        · rfl
        · (apply exL_iff0; (· apply evT_e; (· apply rd_isi; (· apply ev_isi; (· exact rd_var rfl); (· rfl))); (· rfl)))
          exact exL_nil
      · apply fs_cons
        · apply fb_of
          · rfl
          · (apply exL_iff0; (· apply evT_e; (· apply rd_isi; (· apply ev_isi; (· exact rd_var rfl); (· rfl))); (· rfl)))
            exact exL_nil
        · exact fs_nil
  exact h
theorem abs_op {z : Int} : biD .abs (.int z) = some (.int (z.natAbs : Nat)) := by
  show some (D.int (if z < 0 then -z else z)) = _
  congr 2
  split <;> omega
theorem sum_end {f : Int} {w' x' y' z' : Option Sl} : exL (phi fx k) q__law_sum_8 [w', x', y', z', V (.int f)] S = .rt (fin f).d S := by
  have ha := abs_op (z := f)
  unfold fin
  split
  · (apply exL_iftR; (· apply evT_e; (· apply rd_cmp; (· apply ev_cmp; (· apply rd_bi; (· apply ev_bi; (· exact rd_var rfl); (· exact ha))); (· exact rd_int); (· rfl))); (· refine congrArg some ?_; exact decide_eq_true (by omega))))
    (apply exL_rt; apply ex_ret; (· exact ev_str))
  · (apply exL_iff0; (· apply evT_e; (· apply rd_cmp; (· apply ev_cmp; (· apply rd_bi; (· apply ev_bi; (· exact rd_var rfl); (· exact ha))); (· exact rd_int); (· rfl))); (· refine congrArg some ?_; exact decide_eq_false (by omega))))
    (refine exL_frz rfl ?_; apply exL_rt; apply ex_ret; (· exact ev_var rfl))
theorem sum_add : (phi fx (k + 1)).call 34 [.str "add", .int a, .int b] S = .ok (fin (a + b)).d S := by
  refine call_rt (g := ⟨3, 5, b__law_sum⟩) rfl rfl rfl ?_
  apply sum_head
  (apply exL_iff0; (· apply evT_e; (· apply rd_cmp; (· apply ev_cmp; (· exact rd_var rfl); (· exact rd_str); (· rfl))); (· rfl)))
  (apply exL_iff0; (· apply evT_and_f; (· apply evT_e; (· apply rd_cmp; (· apply ev_cmp; (· exact rd_var rfl); (· exact rd_str); (· rfl))); (· rfl))))
  (apply stp2; (· apply ex_set; (· apply ev_bin; (· exact rd_var rfl); (· exact rd_var rfl); (· rfl)); (· rfl)))
  (apply exL_iff0; (· apply evT_e; (· apply rd_cmp; (· apply ev_cmp; (· exact rd_var rfl); (· exact rd_str); (· rfl))); (· rfl)))
  (apply exL_iff0; (· apply evT_e; (· apply rd_cmp; (· apply ev_cmp; (· exact rd_var rfl); (· exact rd_str); (· rfl))); (· rfl)))
  exact sum_end
theorem sum_take : (phi fx (k + 1)).call 34 [.str "take", .int a, .int b] S = .ok (fin (a - b)).d S := by
  refine call_rt (g := ⟨3, 5, b__law_sum⟩) rfl rfl rfl ?_
  apply sum_head
  (apply exL_iff0; (· apply evT_e; (· apply rd_cmp; (· apply ev_cmp; (· exact rd_var rfl); (· exact rd_str); (· rfl))); (· rfl)))
  (apply exL_iff0; (· apply evT_and_f; (· apply evT_e; (· apply rd_cmp; (· apply ev_cmp; (· exact rd_var rfl); (· exact rd_str); (· rfl))); (· rfl))))
  (apply stp2; (· apply ex_set; (· apply ev_bin; (· exact rd_var rfl); (· exact rd_var rfl); (· rfl)); (· rfl)))
  have e : exL (phi fx k) q__law_sum_4 [V (.str "take"), V (.int a), V (.int b), V (.int b), V (.int (a + b))] S = .nx [V (.str "take"), V (.int a), V (.int b), V (.int b), V (.int (a - b))] S := by
    (apply stp2; (· apply ex_set; (· apply ev_bin; (· exact rd_var rfl); (· exact rd_var rfl); (· rfl)); (· rfl)))
    exact exL_nil
  (skip)
  refine exL_iftN ?_ e ?_
  · (apply evT_e; (· apply rd_cmp; (· apply ev_cmp; (· exact rd_var rfl); (· exact rd_str); (· rfl))); (· rfl))
  (apply exL_iff0; (· apply evT_e; (· apply rd_cmp; (· apply ev_cmp; (· exact rd_var rfl); (· exact rd_str); (· rfl))); (· rfl)))
  exact sum_end
theorem big_ok {j : Int} (h1 : -1000000000000 ≤ j) (h2 : j ≤ 1000000000000) : j.natAbs < 2 ^ 9000 := by
  have : j.natAbs < 2 ^ 41 := by omega
  exact Nat.lt_of_lt_of_le this (Nat.pow_le_pow_right (by decide) (by decide))
theorem sum_part (h1 : -1000000000000 ≤ b) (h2 : b ≤ 1000000000000) : (phi fx (k + 1)).call 34 [.str "part", .int a, .int b] S = .ok (if b = 0 then Du.bn else fin (a.fdiv b)).d S := by
  by_cases h0 : b = 0
  · subst h0
    have e2 := eq0 (w := 0) (b := true) rfl
    rw [if_pos rfl]
    refine call_rt (g := ⟨3, 5, b__law_sum⟩) rfl rfl rfl ?_
    apply sum_head
    (apply exL_iff0; (· apply evT_e; (· apply rd_cmp; (· apply ev_cmp; (· exact rd_var rfl); (· exact rd_str); (· rfl))); (· rfl)))
    (apply exL_iftR; (· apply evT_and_t; (· apply evT_e; (· apply rd_cmp; (· apply ev_cmp; (· exact rd_var rfl); (· exact rd_str); (· exact e2))); (· rfl)); (· apply evT_e; (· apply rd_cmp; (· apply ev_cmp; (· exact rd_var rfl); (· exact rd_int); (· exact e2))); (· rfl))))
    (apply exL_rt; apply ex_ret; (· exact ev_str))
  · have e1 := part_op (z := a) h0 (big_ok h1 h2)
    have e2 := eq0 (w := b) (b := false) (decide_eq_false h0)
    rw [if_neg h0]
    refine call_rt (g := ⟨3, 5, b__law_sum⟩) rfl rfl rfl ?_
    apply sum_head
    (apply exL_iff0; (· apply evT_e; (· apply rd_cmp; (· apply ev_cmp; (· exact rd_var rfl); (· exact rd_str); (· rfl))); (· rfl)))
    (apply exL_iff0; (· apply evT_and_t; (· apply evT_e; (· apply rd_cmp; (· apply ev_cmp; (· exact rd_var rfl); (· exact rd_str); (· rfl))); (· rfl)); (· apply evT_e; (· apply rd_cmp; (· apply ev_cmp; (· exact rd_var rfl); (· exact rd_int); (· exact e2))); (· rfl))))
    (apply stp2; (· apply ex_set; (· apply ev_bin; (· exact rd_var rfl); (· exact rd_var rfl); (· rfl)); (· rfl)))
    (apply exL_iff0; (· apply evT_e; (· apply rd_cmp; (· apply ev_cmp; (· exact rd_var rfl); (· exact rd_str); (· rfl))); (· rfl)))
    have e : exL (phi fx k) q__law_sum_5 [V (.str "part"), V (.int a), V (.int b), V (.int b), V (.int (a + b))] S = .nx [V (.str "part"), V (.int a), V (.int b), V (.int b), V (.int (a.fdiv b))] S := by
      (apply stp2; (· apply ex_set; (· apply ev_bin; (· exact rd_var rfl); (· exact rd_var rfl); (· exact e1)); (· rfl)))
      exact exL_nil
    (skip)
    refine exL_iftN ?_ e ?_
    · (apply evT_e; (· apply rd_cmp; (· apply ev_cmp; (· exact rd_var rfl); (· exact rd_str); (· rfl))); (· rfl))
    exact sum_end
theorem sum_less : (phi fx (k + 1)).call 34 [.str "less", .int a, .int b] S = .ok (.bl (decide (a < b))) S := by
  refine call_rt (g := ⟨3, 5, b__law_sum⟩) rfl rfl rfl ?_
  apply sum_head
  (apply exL_iftR; (· apply evT_e; (· apply rd_cmp; (· apply ev_cmp; (· exact rd_var rfl); (· exact rd_str); (· rfl))); (· rfl)))
  (apply exL_rt; apply ex_ret; (· apply ev_cmp; (· exact rd_var rfl); (· exact rd_var rfl); (· rfl)))
theorem sAdd_ok {u v : Du} (hu : u.num) (hv : v.num) : (phi fx (k + 1)).call 34 [.str "add", u.d, v.d] S = .ok (sAdd u v).d S := by
  cases u with
  | int a =>
    cases v with
    | int b => exact sum_add
    | bl b => exact hv.elim
    | bn => exact sum_s2
    | tg => exact sum_s2
  | bl b => exact hu.elim
  | bn => exact sum_s1
  | tg => exact sum_s1
theorem sTake_ok {u v : Du} (hu : u.num) (hv : v.num) : (phi fx (k + 1)).call 34 [.str "take", u.d, v.d] S = .ok (sTake u v).d S := by
  cases u with
  | int a =>
    cases v with
    | int b => exact sum_take
    | bl b => exact hv.elim
    | bn => exact sum_s2
    | tg => exact sum_s2
  | bl b => exact hu.elim
  | bn => exact sum_s1
  | tg => exact sum_s1
theorem sPart_ok {u v : Du} (hu : u.num) (hv : v.num) : (phi fx (k + 1)).call 34 [.str "part", u.d, v.d] S = .ok (sPart u v).d S := by
  cases u with
  | int a =>
    cases v with
    | int b => exact sum_part hv.1 hv.2
    | bl b => exact hv.elim
    | bn => exact sum_s2
    | tg => exact sum_s2
  | bl b => exact hu.elim
  | bn => exact sum_s1
  | tg => exact sum_s1
theorem sLess_ok {u v : Du} (hu : u.num) (hv : v.num) : (phi fx (k + 1)).call 34 [.str "less", u.d, v.d] S = .ok (sLess u v).d S := by
  cases u with
  | int a =>
    cases v with
    | int b => exact sum_less
    | bl b => exact hv.elim
    | bn => exact sum_s2
    | tg => exact sum_s2
  | bl b => exact hu.elim
  | bn => exact sum_s1
  | tg => exact sum_s1
/-- if, of what is due -/
def sIf : Du → Du → Du → Du
  | .bl b, u, v => if b = true then u else v
  | t, _, _ => t
theorem if_num {t u v : Du} (ht : t.tru) (hu : u.num) (hv : v.num) : (sIf t u v).num := by
  cases t with
  | int => exact ht.elim
  | bl b => cases b <;> assumption
  | bn => trivial
  | tg => trivial
theorem sIf_ok {t u v : Du} (ht : t.tru) : (phi fx (k + 1)).call 35 [t.d, u.d, v.d] S = .ok (sIf t u v).d S := by
  cases t with
  | int => exact ht.elim
  | bl b =>
    cases b
    · refine call_rt (g := ⟨3, 3, b__law_if⟩) rfl rfl rfl ?_
      (apply exL_iff0; (· apply evT_e; (· apply rd_isi; (· apply ev_isi; (· exact rd_var rfl); (· rfl))); (· rfl)))
      (apply exL_iff0; (· apply evT_e; (· exact rd_var rfl); (· rfl)))
      (refine exL_frz rfl ?_; apply exL_rt; apply ex_ret; (· exact ev_var rfl))
    · refine call_rt (g := ⟨3, 3, b__law_if⟩) rfl rfl rfl ?_
      (apply exL_iff0; (· apply evT_e; (· apply rd_isi; (· apply ev_isi; (· exact rd_var rfl); (· rfl))); (· rfl)))
      (apply exL_iftR; (· apply evT_e; (· exact rd_var rfl); (· rfl)))
      (refine exL_frz rfl ?_; apply exL_rt; apply ex_ret; (· exact ev_var rfl))
  | bn =>
    refine call_rt (g := ⟨3, 3, b__law_if⟩) rfl rfl rfl ?_
    (apply exL_iftR; (· apply evT_e; (· apply rd_isi; (· apply ev_isi; (· exact rd_var rfl); (· rfl))); (· rfl)))
    (refine exL_frz rfl ?_; apply exL_rt; apply ex_ret; (· exact ev_var rfl))
  | tg =>
    refine call_rt (g := ⟨3, 3, b__law_if⟩) rfl rfl rfl ?_
    (apply exL_iftR; (· apply evT_e; (· apply rd_isi; (· apply ev_isi; (· exact rd_var rfl); (· rfl))); (· rfl)))
    (refine exL_frz rfl ?_; apply exL_rt; apply ex_ret; (· exact ev_var rfl))
theorem alike_ok {u : Du} : (phi fx (k + 1)).call 38 [u.d, u.d] S = .ok (.bl true) S := by
  cases u with
  | int z =>
    have e : cmD .eq (.int z) (.int z) = some true := by
      show (if min 0 0 ≤ 100 then some (z == z) else none) = _
      rw [if_pos (by decide), beq_self_eq_true]
    refine call_rt (g := ⟨2, 2, b__law_alike⟩) rfl rfl rfl ?_
    (apply exL_iff0; (· apply evT_or_f; (· apply evT_e; (· apply rd_isi; (· apply ev_isi; (· exact rd_var rfl); (· rfl))); (· rfl)); (· apply evT_e; (· apply rd_isi; (· apply ev_isi; (· exact rd_var rfl); (· rfl))); (· rfl))))
    (apply exL_iff0; (· apply evT_e; (· apply rd_isi; (· apply ev_isi; (· exact rd_var rfl); (· rfl))); (· rfl)))
    (apply exL_rt; apply ex_ret; (· apply ev_and_t; (· apply ev_isi; (· exact rd_var rfl); (· rfl)); (· rfl); (· apply ev_and_t; (· exact ev_bl); (· rfl); (· apply ev_cmp; (· exact rd_var rfl); (· exact rd_var rfl); (· exact e)))))
  | bl b =>
    have e : cmD .eq (.bl b) (.bl b) = some true := by
      show (if min 0 0 ≤ 100 then some (b == b) else none) = _
      rw [if_pos (by decide), beq_self_eq_true]
    refine call_rt (g := ⟨2, 2, b__law_alike⟩) rfl rfl rfl ?_
    (apply exL_iftR; (· apply evT_or_t; (· apply evT_e; (· apply rd_isi; (· apply ev_isi; (· exact rd_var rfl); (· rfl))); (· rfl))))
    (apply exL_rt; apply ex_ret; (· apply ev_and_t; (· apply ev_isi; (· exact rd_var rfl); (· rfl)); (· rfl); (· apply ev_and_t; (· apply ev_isi; (· exact rd_var rfl); (· rfl)); (· rfl); (· apply ev_and_t; (· exact ev_bl); (· rfl); (· apply ev_cmp; (· exact rd_var rfl); (· exact rd_var rfl); (· exact e))))))
  | bn =>
    refine call_rt (g := ⟨2, 2, b__law_alike⟩) rfl rfl rfl ?_
    (apply exL_iff0; (· apply evT_or_f; (· apply evT_e; (· apply rd_isi; (· apply ev_isi; (· exact rd_var rfl); (· rfl))); (· rfl)); (· apply evT_e; (· apply rd_isi; (· apply ev_isi; (· exact rd_var rfl); (· rfl))); (· rfl))))
    (apply exL_iftR; (· apply evT_e; (· apply rd_isi; (· apply ev_isi; (· exact rd_var rfl); (· rfl))); (· rfl)))
    (apply exL_rt; apply ex_ret; (· apply ev_and_t; (· apply ev_isi; (· exact rd_var rfl); (· rfl)); (· rfl); (· apply ev_and_t; (· exact ev_bl); (· rfl); (· apply ev_cmp; (· exact rd_var rfl); (· exact rd_var rfl); (· rfl)))))
  | tg =>
    refine call_rt (g := ⟨2, 2, b__law_alike⟩) rfl rfl rfl ?_
    (apply exL_iff0; (· apply evT_or_f; (· apply evT_e; (· apply rd_isi; (· apply ev_isi; (· exact rd_var rfl); (· rfl))); (· rfl)); (· apply evT_e; (· apply rd_isi; (· apply ev_isi; (· exact rd_var rfl); (· rfl))); (· rfl))))
    (apply exL_iftR; (· apply evT_e; (· apply rd_isi; (· apply ev_isi; (· exact rd_var rfl); (· rfl))); (· rfl)))
    (apply exL_rt; apply ex_ret; (· apply ev_and_t; (· apply ev_isi; (· exact rd_var rfl); (· rfl)); (· rfl); (· apply ev_and_t; (· exact ev_bl); (· rfl); (· apply ev_cmp; (· exact rd_var rfl); (· exact rd_var rfl); (· rfl)))))
variable {S0 : Sto} {nm : List (Str × D)} {t d : D} {h : Nat} {p : Int}
theorem told_v (he : Ev [] [] h nm 0 t (.v d)) (hh : h ≤ 16000000) : ∃ more, (phi fx (k + 6)).call 37 [.dic nm, t, .int p] S0 = .ok d (S0 ++ more) := by
  obtain ⟨more, e⟩ := reckoned_v (k := k) (S0 := S0) he hh
  refine ⟨more, ?_⟩
  refine call_rt (g := ⟨3, 4, b__law_told⟩) rfl rfl rfl ?_
  (skip)
  apply exL_rt
  apply ex_tri_rt
  (refine exL_frz rfl ?_; skip)
  apply exL_rt
  apply ex_ret
  apply ev_call
  · (apply evL_cons; (· apply ev_lst; (· exact evL_nil); (· exact Nat.le_of_ble_eq_true rfl)); (· apply evL_cons; (· exact ev_var rfl); (· apply evL_cons; (· exact ev_var rfl); (· exact evL_nil))))
  · exact e
theorem told_x {c : Nat} {u : Str} (he : Ev [] [] h nm 0 t (.x c)) (hh : h ≤ 16000000) (hc : (c = 7 ∧ u = "by nought") ∨ (c = 8 ∧ u = "too great")) : ∃ more, (phi fx (k + 6)).call 37 [.dic nm, t, .int p] S0 = .ok (.str u) (S0 ++ more) := by
  obtain ⟨m1, e1⟩ := reckoned_x (k := k) (S0 := S0) he hh
  obtain ⟨m2, e2⟩ := reckoned_x (k := k) (S0 := S0 ++ m1) he hh
  have x1 : exL (phi fx (k + 5)) q__law_told_0 [V (.dic nm), V t, V (.int p), none] S0 = .xc c [V (.dic nm), V t, V (.int p), none] (S0 ++ m1) := by
    (refine exL_frz rfl ?_; skip)
    apply exL_xc
    apply ex_retx
    apply ev_call
    · (apply evL_cons; (· apply ev_lst; (· exact evL_nil); (· exact Nat.le_of_ble_eq_true rfl)); (· apply evL_cons; (· exact ev_var rfl); (· apply evL_cons; (· exact ev_var rfl); (· exact evL_nil))))
    · exact e1
  have x2 : exL (phi fx (k + 5)) q__law_told_1 [V (.dic nm), V t, V (.int p), none] (S0 ++ m1) = .xc c [V (.dic nm), V t, V (.int p), none] (S0 ++ m1 ++ m2) := by
    (refine exL_frz rfl ?_; skip)
    apply exL_xc
    apply ex_exx
    apply ev_call
    · (apply evL_cons; (· apply ev_lst; (· exact evL_nil); (· exact Nat.le_of_ble_eq_true rfl)); (· apply evL_cons; (· exact ev_var rfl); (· apply evL_cons; (· exact ev_var rfl); (· exact evL_nil))))
    · exact e2
  by_cases hp : p = 0
  · refine ⟨m1, ?_⟩
    refine call_rt (g := ⟨3, 4, b__law_told⟩) rfl rfl rfl ?_
    (skip)
    apply exL_rt
    refine ex_tri_x x1 ?_
    rcases hc with ⟨rfl, rfl⟩ | ⟨rfl, rfl⟩
    · show (if p = 0 then rtO (cst (.str "by nought")) _ else _) = _
      rw [if_pos hp]; rfl
    · show (if p = 0 then rtO (cst (.str "too great")) _ else _) = _
      rw [if_pos hp]; rfl
  · refine ⟨m1 ++ m2, ?_⟩
    rw [← List.append_assoc]
    refine call_rt (g := ⟨3, 4, b__law_told⟩) rfl rfl rfl ?_
    (skip)
    apply stp2
    · refine ex_tri_x x1 (o := .nx [V (.dic nm), V t, V (.int p), none] (S0 ++ m1)) ?_
      rcases hc with ⟨rfl, rfl⟩ | ⟨rfl, rfl⟩
      · show (if p = 0 then rtO (cst (.str "by nought")) _ else _) = _
        rw [if_neg hp]; rfl
      · show (if p = 0 then rtO (cst (.str "too great")) _ else _) = _
        rw [if_neg hp]; rfl
    (skip)
    apply exL_rt
    rcases hc with ⟨rfl, rfl⟩ | ⟨rfl, rfl⟩
    · exact ex_trx_x x2 (by show 3 < 4; decide) rfl rfl
    · exact ex_trx_x x2 (by show 3 < 4; decide) rfl rfl
theorem told_ok {u : Du} (he : Ev [] [] h nm 0 t u.o) (hh : h ≤ 16000000) : ∃ more, (phi fx (k + 6)).call 37 [.dic nm, t, .int p] S0 = .ok u.d (S0 ++ more) := by
  cases u with
  | int z => exact told_v he hh
  | bl b => exact told_v he hh
  | bn => exact told_x he hh (.inl ⟨rfl, rfl⟩)
  | tg => exact told_x he hh (.inr ⟨rfl, rfl⟩)
/-! the machine's outcomes, of what is due -/
section
variable {ds : List D} {pl : List (Str × D)} {h1 h2 h3 : Nat} {A : Int} {l r : D} {u v w : Du}
theorem fin_ev {f : Int} {P : RO → Prop} (h1 : -1000000000000 ≤ f → f ≤ 1000000000000 → P (.v (.int f))) (h2 : f < -1000000000000 ∨ 1000000000000 < f → P (.x 8)) : P (fin f).o := by
  unfold fin
  split
  · rename_i h; exact h2 h
  · exact h1 (by omega) (by omega)
theorem eAdd (hu : u.num) (hv : v.num) (el : Ev ds pl h1 nm A l u.o) (er : Ev ds pl h2 nm A r v.o) (hh : h1 + 3 ≤ h) (hh2 : h2 + 3 ≤ h) : Ev ds pl h nm A (.tup [.str "add", l, r]) (sAdd u v).o := by
  cases u <;> first | exact hu.elim | exact Ev.two_l rfl rfl (fun _ _ => parts_add) el hh | skip
  cases v <;> first | exact hv.elim | exact Ev.two_r rfl rfl (fun _ _ => parts_add) el er hh hh2 | skip
  exact fin_ev (P := Ev ds pl h nm A _) (Ev.add el er hh hh2) (Ev.add_x el er hh hh2)
theorem eTake (hu : u.num) (hv : v.num) (el : Ev ds pl h1 nm A l u.o) (er : Ev ds pl h2 nm A r v.o) (hh : h1 + 3 ≤ h) (hh2 : h2 + 3 ≤ h) : Ev ds pl h nm A (.tup [.str "take", l, r]) (sTake u v).o := by
  cases u <;> first | exact hu.elim | exact Ev.two_l rfl rfl (fun _ _ => parts_take) el hh | skip
  cases v <;> first | exact hv.elim | exact Ev.two_r rfl rfl (fun _ _ => parts_take) el er hh hh2 | skip
  exact fin_ev (P := Ev ds pl h nm A _) (Ev.take el er hh hh2) (Ev.take_x el er hh hh2)
theorem ePart (hu : u.num) (hv : v.num) (el : Ev ds pl h1 nm A l u.o) (er : Ev ds pl h2 nm A r v.o) (hh : h1 + 3 ≤ h) (hh2 : h2 + 3 ≤ h) : Ev ds pl h nm A (.tup [.str "part", l, r]) (sPart u v).o := by
  cases u <;> first | exact hu.elim | exact Ev.two_l rfl rfl (fun _ _ => parts_part) el hh | skip
  cases v <;> first | exact hv.elim | exact Ev.two_r rfl rfl (fun _ _ => parts_part) el er hh hh2 | skip
  rename_i a b
  show Ev ds pl h nm A _ (if b = 0 then Du.bn else fin (a.fdiv b)).o
  by_cases h0 : b = 0
  · subst h0
    rw [if_pos rfl]
    exact Ev.part0 el er hh hh2
  · rw [if_neg h0]
    exact fin_ev (P := Ev ds pl h nm A _) (Ev.part el er hh hh2 h0 (big_ok hv.1 hv.2)) (Ev.part_x el er hh hh2 h0 (big_ok hv.1 hv.2))
theorem eLess (hu : u.num) (hv : v.num) (el : Ev ds pl h1 nm A l u.o) (er : Ev ds pl h2 nm A r v.o) (hh : h1 + 3 ≤ h) (hh2 : h2 + 3 ≤ h) : Ev ds pl h nm A (.tup [.str "less", l, r]) (sLess u v).o := by
  cases u <;> first | exact hu.elim | exact Ev.two_l rfl rfl (fun _ _ => parts_less) el hh | skip
  cases v <;> first | exact hv.elim | exact Ev.two_r rfl rfl (fun _ _ => parts_less) el er hh hh2 | skip
  exact Ev.less el er hh hh2
theorem eIf {t1 : D} (hw : w.tru) (et : Ev ds pl h3 nm A t1 w.o) (el : Ev ds pl h1 nm A l u.o) (er : Ev ds pl h2 nm A r v.o) (hh3 : h3 + 3 ≤ h) (hh : h1 + 3 ≤ h) (hh2 : h2 + 3 ≤ h) : Ev ds pl h nm A (.tup [.str "if", t1, l, r]) (sIf w u v).o := by
  cases w with
  | int => exact hw.elim
  | bl b => cases b
            · exact Ev.if_ et er hh3 hh2
            · exact Ev.if_ et el hh3 hh
  | bn => exact Ev.if_x et hh3
  | tg => exact Ev.if_x et hh3
/-- a let: its value first -/
theorem eLet {x : Str} {b : D} (el : Ev ds pl h1 nm A l u.o) (hn : nm.length < 16777216) (hh : h1 + 3 ≤ h) (hh2 : h2 + 3 ≤ h)
    (er : ∀ d, u.o = .v d → Ev ds pl h2 (dput (mrgK [] nm) x d) A b v.o) (hx : ∀ c, u.o = .x c → v.o = .x c) : Ev ds pl h nm A (.tup [.str "let", .str x, l, b]) v.o := by
  cases u with
  | int z => exact Ev.let_ el (er _ rfl) hn hh hh2
  | bl z => exact Ev.let_ el (er _ rfl) hn hh hh2
  | bn => rw [hx _ rfl]; exact Ev.let_x el hh
  | tg => rw [hx _ rfl]; exact Ev.let_x el hh
end
end
end K04

/-! PiV: dicts as lists of pairs -/
namespace Pi
open PySem
theorem dput_len (kvs : List (Str × D)) (x : Str) (d : D) : (dput kvs x d).length ≤ kvs.length + 1 := by
  unfold dput
  split
  · rw [List.length_map]; omega
  · rw [List.length_append]; simp
theorem dget_dput (kvs : List (Str × D)) (x y : Str) (d : D) : dget (dput kvs x d) y = if x = y then some d else dget kvs y := by
  unfold dput
  split
  · rename_i h
    unfold dget
    induction kvs with
    | nil => simp at h
    | cons p r ih =>
      rw [List.map_cons, List.find?_cons, List.find?_cons]
      by_cases e : p.1 = x
      · simp only [e, if_true]
        by_cases e2 : x = y
        · simp [e2]
        · simp only [e2, decide_false, if_false]
          by_cases h2 : (r.any fun p => decide (p.1 = x)) = true
          · have := ih h2
            rw [if_neg e2] at this
            exact this
          · have hm : r.map (fun p => if p.1 = x then (p.1, d) else p) = r := by
              refine (List.map_congr_left fun q hq => ?_).trans (List.map_id r)
              have : ¬ q.1 = x := fun hx => h2 (List.any_eq_true.mpr ⟨q, hq, by simpa using hx⟩)
              simp [this]
            rw [hm]
      · simp only [e, if_false]
        have h2 : (r.any fun p => decide (p.1 = x)) = true := by simpa [e] using h
        by_cases e3 : p.1 = y
        · have : ¬ x = y := fun hx => e (e3.trans hx.symm)
          simp [e3, this]
        · simp only [e3, decide_false]
          exact ih h2
  · rename_i h
    unfold dget
    rw [List.find?_append]
    by_cases e : x = y
    · subst e
      have : kvs.find? (fun p => decide (p.1 = x)) = none := by
        rw [List.find?_eq_none]
        intro q hq hx
        exact h (List.any_eq_true.mpr ⟨q, hq, hx⟩)
      simp [this]
    · simp [e]
theorem dput_new {kvs : List (Str × D)} {x : Str} {d : D} (h : x ∉ kvs.map (·.1)) : dput kvs x d = kvs ++ [(x, d)] := by
  unfold dput
  rw [if_neg]
  intro hh
  obtain ⟨p, hp, e⟩ := List.any_eq_true.mp hh
  exact h (List.mem_map.mpr ⟨p, hp, by simpa using e⟩)
theorem dput_keys {kvs : List (Str × D)} {x : Str} {d : D} (h : (kvs.any fun p => decide (p.1 = x)) = true) : (dput kvs x d).map (·.1) = kvs.map (·.1) := by
  unfold dput
  rw [if_pos h, List.map_map]
  refine List.map_congr_left fun p _ => ?_
  show (if p.1 = x then (p.1, d) else p).1 = p.1
  split <;> rfl
theorem dput_nd {kvs : List (Str × D)} {x : Str} {d : D} (h : (kvs.map (·.1)).Nodup) : ((dput kvs x d).map (·.1)).Nodup := by
  by_cases e : (kvs.any fun p => decide (p.1 = x)) = true
  · rw [dput_keys e]; exact h
  · have hx : x ∉ kvs.map (·.1) := fun hh => by
      obtain ⟨p, hp, q⟩ := List.mem_map.mp hh
      exact e (List.any_eq_true.mpr ⟨p, hp, by simpa using q⟩)
    rw [dput_new hx, List.map_append, List.nodup_append]
    refine ⟨h, by simp, ?_⟩
    intro a ha b hb
    simp at hb
    rintro rfl
    exact hx (hb ▸ ha)
theorem mrgK_app : ∀ (l acc : List (Str × D)), ((acc ++ l).map (·.1)).Nodup → mrgK acc l = acc ++ l
  | [], acc, _ => by rw [List.append_nil]; rfl
  | p :: l, acc, h => by
    have h1 : p.1 ∉ acc.map (·.1) := by
      rw [List.map_append, List.nodup_append] at h
      intro hh
      exact h.2.2 _ hh _ (by simp) rfl
    show mrgK (dput acc p.1 p.2) l = _
    rw [dput_new h1, mrgK_app l (acc ++ [(p.1, p.2)]) (by simpa using h)]
    simp
theorem mrgK_nil {kvs : List (Str × D)} (h : (kvs.map (·.1)).Nodup) : mrgK [] kvs = kvs := by
  rw [mrgK_app kvs [] (by simpa using h)]; rfl
end Pi

/-! the law's piles -/
namespace K04
open PySem PySem.Spec PyProof.Rows L2 Pi
/-- a scope in which the two names stand -/
structure Sc (f g : Str) (n1 n2 : Int) (m : Nat) (nm : List (Str × D)) : Prop where
  f : dget nm f = some (.int n1)
  g : dget nm g = some (.int n2)
  nd : (nm.map (·.1)).Nodup
  le : nm.length ≤ m
section
variable {f g x : Str} {n1 n2 : Int} {m : Nat} {nm : List (Str × D)}
theorem Sc.up {m' : Nat} (s : Sc f g n1 n2 m nm) (h : m ≤ m') : Sc f g n1 n2 m' nm := ⟨s.f, s.g, s.nd, Nat.le_trans s.le h⟩
theorem Sc.put (s : Sc f g n1 n2 m nm) (h1 : x ≠ f) (h2 : x ≠ g) (d : D) : Sc f g n1 n2 (m + 1) (dput (mrgK [] nm) x d) := by
  rw [mrgK_nil s.nd]
  exact ⟨by rw [dget_dput, if_neg h1]; exact s.f, by rw [dget_dput, if_neg h2]; exact s.g, dput_nd s.nd, Nat.le_trans (dput_len _ _ _) (Nat.succ_le_succ s.le)⟩
theorem Sc.self {d : D} (s : (nm.map (·.1)).Nodup) : dget (dput (mrgK [] nm) x d) x = some d := by rw [dget_dput, if_pos rfl]
/-- an entry of a pile -/
def GE (f g : Str) (n1 n2 : Int) (top : Nat) (P : Du → Prop) (e : D) : Prop := ∃ t u p, e = .tup [t, Du.d u, .int ((p : Nat) : Int)] ∧ 1 ≤ p ∧ p ≤ top ∧ P u ∧ ∀ nm, Sc f g n1 n2 (1000 - p) nm → Ev [] [] (3 * p) nm 0 t u.o
end
section
variable {k : Nat} {ns ts : List D} {c : Int} {x fi : Str} {t1 t2 : D} {u1 u2 : Du} {p1 p2 d : Nat} {f g : Str} {n1 n2 : Int}
theorem pop0 {o : Ob} {e : D} : popD [.ol (ns ++ [e]), o] (.obj 0) = .ok e [.ol ns, o] := by
  show (match (ns ++ [e]).getLast? with | some d => Out.ok d _ | none => .bad) = _
  rw [List.getLast?_append, List.getLast?_singleton]
  show Out.ok e [.ol (ns ++ [e]).dropLast, o] = _
  rw [List.dropLast_concat]
theorem pop1 {o : Ob} {e : D} : popD [o, .ol (ts ++ [e])] (.obj 1) = .ok e [o, .ol ts] := by
  show (match (ts ++ [e]).getLast? with | some d => Out.ok d _ | none => .bad) = _
  rw [List.getLast?_append, List.getLast?_singleton]
  show Out.ok e [o, .ol (ts ++ [e]).dropLast] = _
  rw [List.dropLast_concat]
theorem mx_op {p1 p2 : Nat} : b2D .max (.int (p1 : Int)) (.int (p2 : Int)) = some (.int ((max p1 p2 : Nat) : Int)) := by
  show some (D.int (if (p2 : Int) > (p1 : Int) then (p2 : Int) else (p1 : Int))) = _
  congr 2
  split <;> omega
abbrev en (t : D) (u : Du) (p : Nat) : D := .tup [t, u.d, .int (p : Int)]
/-- the names of joined -/
abbrev jr (c : Int) (x fi : Str) (pk : Int) (er el : D) (d : Int) : Rho := [V (.lst [.obj 0, .obj 1]), V (.int c), V (.str x), V (.str fi), V (.obj 0), V (.obj 1), V (.int pk), V er, V el, V (.int d), none, none, none, none]
theorem j_head {o : SO} (h : exL (phi fx k) q__law_joined_20 (jr c x fi (c.fmod 6) (en t2 u2 p2) (en t1 u1 p1) (1 + (max p1 p2 : Nat))) [.ol ns, .ol ts] = o) :
    exL (phi fx k) b__law_joined [V (.lst [.obj 0, .obj 1]), V (.int c), V (.str x), V (.str fi), none, none, none, none, none, none, none, none, none, none] [.ol ((ns ++ [en t1 u1 p1]) ++ [en t2 u2 p2]), .ol ts] = o := by
  have q1 := pop0 (ns := ns ++ [en t1 u1 p1]) (o := .ol ts) (e := en t2 u2 p2)
  have q2 := pop0 (ns := ns) (o := .ol ts) (e := en t1 u1 p1)
  have q3 := mx_op (p1 := p1) (p2 := p2)
  (apply stp2; (· apply ex_set; (· apply ev_sub; (· exact rd_var rfl); (· exact ev_int); (· rfl)); (· rfl)))
  (apply stp2; (· apply ex_set; (· apply ev_sub; (· exact rd_var rfl); (· exact ev_int); (· rfl)); (· rfl)))
  (apply stp2; (· apply ex_set; (· apply ev_bin; (· exact rd_var rfl); (· exact rd_int); (· exact fmd (by decide))); (· rfl)))
  (apply stp2; (· apply ex_popl; (· rfl); (· exact q1); (· rfl)))
  (apply stp2; (· apply ex_popl; (· rfl); (· exact q2); (· rfl)))
  (apply stp2; (· apply ex_set; (· apply ev_bin; (· exact rd_int); (· apply rd_nv; (· exact fun _ h => nomatch h); (· apply ev_b2; (· apply ev_sub; (· exact rd_var rfl); (· exact ev_int); (· rfl)); (· apply ev_sub; (· exact rd_var rfl); (· exact ev_int); (· rfl)); (· exact q3))); (· rfl)); (· rfl)))
  exact h
theorem j0 {d : Int} (h1 : u1.num) (h2 : u2.num) (hn : ns.length < 16777216) : exL (phi fx (k + 1)) q__law_joined_20 (jr c x fi 0 (en t2 u2 p2) (en t1 u1 p1) d) [.ol ns, .ol ts] = .nx [V (.lst [.obj 0, .obj 1]), V (.int c), V (.str x), V (.str fi), V (.obj 0), V (.obj 1), V (.int 0), V (en t2 u2 p2), V (en t1 u1 p1), V (.int d), V (.str "add"), none, none, none] [.ol (ns ++ [.tup [.tup [.str "add", t1, t2], (sAdd u1 u2).d, .int d]]), .ol ts] := by
  have q := sAdd_ok (k := k) (S := [.ol ns, .ol ts]) h1 h2
  (apply exL_iftL; (· apply evT_e; (· apply rd_cmp; (· apply ev_cmp; (· exact rd_var rfl); (· exact rd_int); (· rfl))); (· rfl)))
  (refine exL_frz rfl ?_; apply stp2; (· apply ex_set; (· apply ev_sub; (· apply rd_lst; (· apply ev_lst; (· apply evL_cons; (· exact ev_str); (· apply evL_cons; (· exact ev_str); (· apply evL_cons; (· exact ev_str); (· exact evL_nil)))); (· exact Nat.le_of_ble_eq_true rfl))); (· exact ev_var rfl); (· rfl)); (· rfl)))
  (refine exL_frz rfl ?_; apply stp2; (· apply ex_appO; (· rfl); (· rfl); (· apply ev_tup; (· apply evL_cons; (· apply ev_tup; (· apply evL_cons; (· exact ev_var rfl); (· apply evL_cons; (· apply ev_sub; (· exact rd_var rfl); (· exact ev_int); (· rfl)); (· apply evL_cons; (· apply ev_sub; (· exact rd_var rfl); (· exact ev_int); (· rfl)); (· exact evL_nil)))); (· exact Nat.le_of_ble_eq_true rfl)); (· apply evL_cons; (· apply ev_call; (· apply evL_cons; (· exact ev_var rfl); (· apply evL_cons; (· apply ev_sub; (· exact rd_var rfl); (· exact ev_int); (· rfl)); (· apply evL_cons; (· apply ev_sub; (· exact rd_var rfl); (· exact ev_int); (· rfl)); (· exact evL_nil)))); (· exact q)); (· apply evL_cons; (· exact ev_var rfl); (· exact evL_nil)))); (· exact Nat.le_of_ble_eq_true rfl)); (· rfl); (· assumption)))
  exact exL_nil
theorem j1 {d : Int} (h1 : u1.num) (h2 : u2.num) (hn : ns.length < 16777216) : exL (phi fx (k + 1)) q__law_joined_20 (jr c x fi 1 (en t2 u2 p2) (en t1 u1 p1) d) [.ol ns, .ol ts] = .nx [V (.lst [.obj 0, .obj 1]), V (.int c), V (.str x), V (.str fi), V (.obj 0), V (.obj 1), V (.int 1), V (en t2 u2 p2), V (en t1 u1 p1), V (.int d), V (.str "take"), none, none, none] [.ol (ns ++ [.tup [.tup [.str "take", t1, t2], (sTake u1 u2).d, .int d]]), .ol ts] := by
  have q := sTake_ok (k := k) (S := [.ol ns, .ol ts]) h1 h2
  (apply exL_iftL; (· apply evT_e; (· apply rd_cmp; (· apply ev_cmp; (· exact rd_var rfl); (· exact rd_int); (· rfl))); (· rfl)))
  (refine exL_frz rfl ?_; apply stp2; (· apply ex_set; (· apply ev_sub; (· apply rd_lst; (· apply ev_lst; (· apply evL_cons; (· exact ev_str); (· apply evL_cons; (· exact ev_str); (· apply evL_cons; (· exact ev_str); (· exact evL_nil)))); (· exact Nat.le_of_ble_eq_true rfl))); (· exact ev_var rfl); (· rfl)); (· rfl)))
  (refine exL_frz rfl ?_; apply stp2; (· apply ex_appO; (· rfl); (· rfl); (· apply ev_tup; (· apply evL_cons; (· apply ev_tup; (· apply evL_cons; (· exact ev_var rfl); (· apply evL_cons; (· apply ev_sub; (· exact rd_var rfl); (· exact ev_int); (· rfl)); (· apply evL_cons; (· apply ev_sub; (· exact rd_var rfl); (· exact ev_int); (· rfl)); (· exact evL_nil)))); (· exact Nat.le_of_ble_eq_true rfl)); (· apply evL_cons; (· apply ev_call; (· apply evL_cons; (· exact ev_var rfl); (· apply evL_cons; (· apply ev_sub; (· exact rd_var rfl); (· exact ev_int); (· rfl)); (· apply evL_cons; (· apply ev_sub; (· exact rd_var rfl); (· exact ev_int); (· rfl)); (· exact evL_nil)))); (· exact q)); (· apply evL_cons; (· exact ev_var rfl); (· exact evL_nil)))); (· exact Nat.le_of_ble_eq_true rfl)); (· rfl); (· assumption)))
  exact exL_nil
theorem j2 {d : Int} (h1 : u1.num) (h2 : u2.num) (hn : ns.length < 16777216) : exL (phi fx (k + 1)) q__law_joined_20 (jr c x fi 2 (en t2 u2 p2) (en t1 u1 p1) d) [.ol ns, .ol ts] = .nx [V (.lst [.obj 0, .obj 1]), V (.int c), V (.str x), V (.str fi), V (.obj 0), V (.obj 1), V (.int 2), V (en t2 u2 p2), V (en t1 u1 p1), V (.int d), V (.str "part"), none, none, none] [.ol (ns ++ [.tup [.tup [.str "part", t1, t2], (sPart u1 u2).d, .int d]]), .ol ts] := by
  have q := sPart_ok (k := k) (S := [.ol ns, .ol ts]) h1 h2
  (apply exL_iftL; (· apply evT_e; (· apply rd_cmp; (· apply ev_cmp; (· exact rd_var rfl); (· exact rd_int); (· rfl))); (· rfl)))
  (refine exL_frz rfl ?_; apply stp2; (· apply ex_set; (· apply ev_sub; (· apply rd_lst; (· apply ev_lst; (· apply evL_cons; (· exact ev_str); (· apply evL_cons; (· exact ev_str); (· apply evL_cons; (· exact ev_str); (· exact evL_nil)))); (· exact Nat.le_of_ble_eq_true rfl))); (· exact ev_var rfl); (· rfl)); (· rfl)))
  (refine exL_frz rfl ?_; apply stp2; (· apply ex_appO; (· rfl); (· rfl); (· apply ev_tup; (· apply evL_cons; (· apply ev_tup; (· apply evL_cons; (· exact ev_var rfl); (· apply evL_cons; (· apply ev_sub; (· exact rd_var rfl); (· exact ev_int); (· rfl)); (· apply evL_cons; (· apply ev_sub; (· exact rd_var rfl); (· exact ev_int); (· rfl)); (· exact evL_nil)))); (· exact Nat.le_of_ble_eq_true rfl)); (· apply evL_cons; (· apply ev_call; (· apply evL_cons; (· exact ev_var rfl); (· apply evL_cons; (· apply ev_sub; (· exact rd_var rfl); (· exact ev_int); (· rfl)); (· apply evL_cons; (· apply ev_sub; (· exact rd_var rfl); (· exact ev_int); (· rfl)); (· exact evL_nil)))); (· exact q)); (· apply evL_cons; (· exact ev_var rfl); (· exact evL_nil)))); (· exact Nat.le_of_ble_eq_true rfl)); (· rfl); (· assumption)))
  exact exL_nil
theorem j3 {d : Int} (h1 : u1.num) (h2 : u2.num) (hn : ns.length < 16777216) (ht : ts.length < 16777216) : exL (phi fx (k + 1)) q__law_joined_20 (jr c x fi 3 (en t2 u2 p2) (en t1 u1 p1) d) [.ol ns, .ol ts] = .nx [V (.lst [.obj 0, .obj 1]), V (.int c), V (.str x), V (.str fi), V (.obj 0), V (.obj 1), V (.int 3), V (en t2 u2 p2), V (en t1 u1 p1), V (.int d), none, none, none, none] [.ol (ns ++ [en t1 u1 p1]), .ol (ts ++ [.tup [.tup [.str "less", t1, t2], (sLess u1 u2).d, .int d]])] := by
  have q := sLess_ok (k := k) (S := [.ol ns, .ol ts]) h1 h2
  (apply exL_iffL; (· apply evT_e; (· apply rd_cmp; (· apply ev_cmp; (· exact rd_var rfl); (· exact rd_int); (· rfl))); (· rfl)))
  (apply exL_iftL; (· apply evT_e; (· apply rd_cmp; (· apply ev_cmp; (· exact rd_var rfl); (· exact rd_int); (· rfl))); (· rfl)))
  (refine exL_frz rfl ?_; apply stp2; (· apply ex_appO; (· rfl); (· rfl); (· apply ev_tup; (· apply evL_cons; (· apply ev_tup; (· apply evL_cons; (· exact ev_str); (· apply evL_cons; (· apply ev_sub; (· exact rd_var rfl); (· exact ev_int); (· rfl)); (· apply evL_cons; (· apply ev_sub; (· exact rd_var rfl); (· exact ev_int); (· rfl)); (· exact evL_nil)))); (· exact Nat.le_of_ble_eq_true rfl)); (· apply evL_cons; (· apply ev_call; (· apply evL_cons; (· exact ev_str); (· apply evL_cons; (· apply ev_sub; (· exact rd_var rfl); (· exact ev_int); (· rfl)); (· apply evL_cons; (· apply ev_sub; (· exact rd_var rfl); (· exact ev_int); (· rfl)); (· exact evL_nil)))); (· exact q)); (· apply evL_cons; (· exact ev_var rfl); (· exact evL_nil)))); (· exact Nat.le_of_ble_eq_true rfl)); (· rfl); (· assumption)))
  (refine exL_frz rfl ?_; apply stp2; (· apply ex_appO; (· rfl); (· rfl); (· exact ev_var rfl); (· rfl); (· assumption)))
  exact exL_nil
theorem ne_of {b : Bool} (h : ts.isEmpty = b) : cmD .ne (der [.ol ns, .ol ts] (.obj 1)) (.lst []) = some (!b) := by
  show (if min (D.lst ts).deep (D.lst []).deep ≤ 100 then eqd (.lst ts) (.lst []) else none).map (!·) = _
  rw [if_pos (Nat.le_trans (Nat.min_le_right _ _) (by decide))]
  subst h
  cases ts with
  | nil => rfl
  | cons a r => rfl
theorem j4 {dd : Nat} {t3 : D} {u3 : Du} {p3 : Nat} (h3 : u3.tru) (hn : ns.length < 16777216) : exL (phi fx (k + 1)) q__law_joined_20 (jr c x fi 4 (en t2 u2 p2) (en t1 u1 p1) ((dd : Nat) : Int)) [.ol ns, .ol (ts ++ [en t3 u3 p3])] = .nx [V (.lst [.obj 0, .obj 1]), V (.int c), V (.str x), V (.str fi), V (.obj 0), V (.obj 1), V (.int 4), V (en t2 u2 p2), V (en t1 u1 p1), V (.int (dd : Nat)), none, V (en t3 u3 p3), V (.tup [.str "if", t3, t1, t2]), none] [.ol (ns ++ [.tup [.tup [.str "if", t3, t1, t2], (sIf u3 u1 u2).d, .int ((max dd (1 + p3) : Nat) : Int)]]), .ol ts] := by
  have q := sIf_ok (k := k) (S := [.ol ns, .ol ts]) (u := u1) (v := u2) h3
  have q1 := pop1 (ts := ts) (o := .ol ns) (e := en t3 u3 p3)
  have q2 : b2D .max (.int (dd : Int)) (.int (1 + (p3 : Int))) = some (.int ((max dd (1 + p3) : Nat) : Int)) := mx_op (p1 := dd) (p2 := 1 + p3)
  have q3 := ne_of (ns := ns) (ts := ts ++ [en t3 u3 p3]) (b := false) (by cases ts <;> rfl)
  (apply exL_iffL; (· apply evT_e; (· apply rd_cmp; (· apply ev_cmp; (· exact rd_var rfl); (· exact rd_int); (· rfl))); (· rfl)))
  (apply exL_iffL; (· apply evT_e; (· apply rd_cmp; (· apply ev_cmp; (· exact rd_var rfl); (· exact rd_int); (· rfl))); (· rfl)))
  (apply exL_iftL; (· apply evT_and_t; (· apply evT_e; (· apply rd_cmp; (· apply ev_cmp; (· exact rd_var rfl); (· exact rd_int); (· rfl))); (· rfl)); (· apply evT_e; (· apply rd_cmp; (· apply ev_cmp; (· exact rd_var rfl); (· apply rd_lst; (· apply ev_lst; (· exact evL_nil); (· exact Nat.le_of_ble_eq_true rfl))); (· exact q3))); (· rfl))))
  (apply stp2; (· apply ex_popl; (· rfl); (· exact q1); (· rfl)))
  (apply stp2; (· apply ex_set; (· apply ev_tup; (· apply evL_cons; (· exact ev_str); (· apply evL_cons; (· apply ev_sub; (· exact rd_var rfl); (· exact ev_int); (· rfl)); (· apply evL_cons; (· apply ev_sub; (· exact rd_var rfl); (· exact ev_int); (· rfl)); (· apply evL_cons; (· apply ev_sub; (· exact rd_var rfl); (· exact ev_int); (· rfl)); (· exact evL_nil))))); (· exact Nat.le_of_ble_eq_true rfl)); (· rfl)))
  (refine exL_frz rfl ?_; apply stp2; (· apply ex_appO; (· rfl); (· rfl); (· apply ev_tup; (· apply evL_cons; (· exact ev_var rfl); (· apply evL_cons; (· apply ev_call; (· apply evL_cons; (· apply ev_sub; (· exact rd_var rfl); (· exact ev_int); (· rfl)); (· apply evL_cons; (· apply ev_sub; (· exact rd_var rfl); (· exact ev_int); (· rfl)); (· apply evL_cons; (· apply ev_sub; (· exact rd_var rfl); (· exact ev_int); (· rfl)); (· exact evL_nil)))); (· exact q)); (· apply evL_cons; (· apply ev_b2; (· exact ev_var rfl); (· apply ev_bin; (· exact rd_int); (· apply rd_sub; (· apply ev_sub; (· exact rd_var rfl); (· exact ev_int); (· rfl))); (· rfl)); (· exact q2)); (· exact evL_nil)))); (· exact Nat.le_of_ble_eq_true rfl)); (· rfl); (· assumption)))
  exact exL_nil
theorem j5_5 {d : Int} {o : SO} {er el : D} (h : exL (phi fx k) q__law_joined_17 (jr c x fi 5 er el d) [.ol ns, .ol ts] = o) : exL (phi fx k) q__law_joined_20 (jr c x fi 5 er el d) [.ol ns, .ol ts] = o := by
  (apply exL_iffL; (· apply evT_e; (· apply rd_cmp; (· apply ev_cmp; (· exact rd_var rfl); (· exact rd_int); (· rfl))); (· rfl)))
  (apply exL_iffL; (· apply evT_e; (· apply rd_cmp; (· apply ev_cmp; (· exact rd_var rfl); (· exact rd_int); (· rfl))); (· rfl)))
  (apply exL_iffL; (· apply evT_and_f; (· apply evT_e; (· apply rd_cmp; (· apply ev_cmp; (· exact rd_var rfl); (· exact rd_int); (· rfl))); (· rfl))))
  exact h
theorem j5_4 {d : Int} {o : SO} {er el : D} (h : exL (phi fx k) q__law_joined_17 (jr c x fi 4 er el d) [.ol ns, .ol []] = o) : exL (phi fx k) q__law_joined_20 (jr c x fi 4 er el d) [.ol ns, .ol []] = o := by
  have q3 := ne_of (ns := ns) (ts := []) (b := true) rfl
  (apply exL_iffL; (· apply evT_e; (· apply rd_cmp; (· apply ev_cmp; (· exact rd_var rfl); (· exact rd_int); (· rfl))); (· rfl)))
  (apply exL_iffL; (· apply evT_e; (· apply rd_cmp; (· apply ev_cmp; (· exact rd_var rfl); (· exact rd_int); (· rfl))); (· rfl)))
  (apply exL_iffL; (· apply evT_and_t; (· apply evT_e; (· apply rd_cmp; (· apply ev_cmp; (· exact rd_var rfl); (· exact rd_int); (· rfl))); (· rfl)); (· apply evT_e; (· apply rd_cmp; (· apply ev_cmp; (· exact rd_var rfl); (· apply rd_lst; (· apply ev_lst; (· exact evL_nil); (· exact Nat.le_of_ble_eq_true rfl))); (· exact q3))); (· rfl))))
  exact h
variable {pk : Int}
theorem eq_op {a b : Int} {q : Bool} (h : decide (a = b) = q) : cmD .eq (.int a) (.int b) = some q := by
  show (if min 0 0 ≤ 100 then some (a == b) else none) = _
  rw [if_pos (by decide), ← h]; rfl
theorem k0 {dd : Nat} (h1 : u1.num) (h2 : u2.num) (hn : ns.length < 16777216) (hc : (c.fdiv 6).fmod 3 = 0) : ∃ r, exL (phi fx (k + 1)) q__law_joined_17 (jr c x fi pk (en t2 u2 p2) (en t1 u1 p1) (dd : Nat)) [.ol ns, .ol ts] = .nx r [.ol (ns ++ [.tup [.tup [.str "let", .str x, t1, .tup [.str "take", .tup [.str "name", .str x], t2]], (sTake u1 u2).d, .int (1 + (dd : Int))]]), .ol ts] := by
  have q := sTake_ok (k := k) (S := [.ol ns, .ol ts]) h1 h2
  have e := eq_op (decide_eq_true hc)
  apply Exists.intro
  (apply exL_iftL; (· apply evT_e; (· apply rd_cmp; (· apply ev_cmp; (· apply rd_bin; (· apply ev_bin; (· apply rd_bin; (· apply ev_bin; (· exact rd_var rfl); (· exact rd_int); (· exact fdv (by decide) (by decide)))); (· exact rd_int); (· exact fmd (by decide)))); (· exact rd_int); (· exact e))); (· rfl)))
  (refine exL_frz rfl ?_; apply stp2; (· apply ex_set; (· apply ev_tup; (· apply evL_cons; (· exact ev_str); (· apply evL_cons; (· exact ev_var rfl); (· apply evL_cons; (· apply ev_sub; (· exact rd_var rfl); (· exact ev_int); (· rfl)); (· apply evL_cons; (· apply ev_tup; (· apply evL_cons; (· exact ev_str); (· apply evL_cons; (· apply ev_tup; (· apply evL_cons; (· exact ev_str); (· apply evL_cons; (· exact ev_var rfl); (· exact evL_nil))); (· exact Nat.le_of_ble_eq_true rfl)); (· apply evL_cons; (· apply ev_sub; (· exact rd_var rfl); (· exact ev_int); (· rfl)); (· exact evL_nil)))); (· exact Nat.le_of_ble_eq_true rfl)); (· exact evL_nil))))); (· exact Nat.le_of_ble_eq_true rfl)); (· rfl)))
  (refine exL_frz rfl ?_; apply stp2; (· apply ex_appO; (· rfl); (· rfl); (· apply ev_tup; (· apply evL_cons; (· exact ev_var rfl); (· apply evL_cons; (· apply ev_call; (· apply evL_cons; (· exact ev_str); (· apply evL_cons; (· apply ev_sub; (· exact rd_var rfl); (· exact ev_int); (· rfl)); (· apply evL_cons; (· apply ev_sub; (· exact rd_var rfl); (· exact ev_int); (· rfl)); (· exact evL_nil)))); (· exact q)); (· apply evL_cons; (· apply ev_bin; (· exact rd_int); (· exact rd_var rfl); (· rfl)); (· exact evL_nil)))); (· exact Nat.le_of_ble_eq_true rfl)); (· rfl); (· assumption)))
  exact exL_nil
theorem k1 {dd : Nat} (h1 : u1.num) (h2 : u2.num) (hn : ns.length < 16777216) (hc : (c.fdiv 6).fmod 3 = 1) : ∃ r, exL (phi fx (k + 1)) q__law_joined_17 (jr c x fi pk (en t2 u2 p2) (en t1 u1 p1) (dd : Nat)) [.ol ns, .ol ts] = .nx r [.ol (ns ++ [.tup [.tup [.str "take", .tup [.str "let", .str fi, t1, .tup [.str "name", .str fi]], t2], (sTake u1 u2).d, .int (1 + (dd : Int))]]), .ol ts] := by
  have q := sTake_ok (k := k) (S := [.ol ns, .ol ts]) h1 h2
  have e := eq_op (decide_eq_true hc)
  have e0 := eq_op (a := (c.fdiv 6).fmod 3) (b := 0) (decide_eq_false (by omega))
  apply Exists.intro
  (apply exL_iffL; (· apply evT_e; (· apply rd_cmp; (· apply ev_cmp; (· apply rd_bin; (· apply ev_bin; (· apply rd_bin; (· apply ev_bin; (· exact rd_var rfl); (· exact rd_int); (· exact fdv (by decide) (by decide)))); (· exact rd_int); (· exact fmd (by decide)))); (· exact rd_int); (· exact e0))); (· rfl)))
  (apply exL_iftL; (· apply evT_e; (· apply rd_cmp; (· apply ev_cmp; (· apply rd_bin; (· apply ev_bin; (· apply rd_bin; (· apply ev_bin; (· exact rd_var rfl); (· exact rd_int); (· exact fdv (by decide) (by decide)))); (· exact rd_int); (· exact fmd (by decide)))); (· exact rd_int); (· exact e))); (· rfl)))
  (refine exL_frz rfl ?_; apply stp2; (· apply ex_set; (· apply ev_tup; (· apply evL_cons; (· exact ev_str); (· apply evL_cons; (· apply ev_tup; (· apply evL_cons; (· exact ev_str); (· apply evL_cons; (· exact ev_var rfl); (· apply evL_cons; (· apply ev_sub; (· exact rd_var rfl); (· exact ev_int); (· rfl)); (· apply evL_cons; (· apply ev_tup; (· apply evL_cons; (· exact ev_str); (· apply evL_cons; (· exact ev_var rfl); (· exact evL_nil))); (· exact Nat.le_of_ble_eq_true rfl)); (· exact evL_nil))))); (· exact Nat.le_of_ble_eq_true rfl)); (· apply evL_cons; (· apply ev_sub; (· exact rd_var rfl); (· exact ev_int); (· rfl)); (· exact evL_nil)))); (· exact Nat.le_of_ble_eq_true rfl)); (· rfl)))
  (refine exL_frz rfl ?_; apply stp2; (· apply ex_appO; (· rfl); (· rfl); (· apply ev_tup; (· apply evL_cons; (· exact ev_var rfl); (· apply evL_cons; (· apply ev_call; (· apply evL_cons; (· exact ev_str); (· apply evL_cons; (· apply ev_sub; (· exact rd_var rfl); (· exact ev_int); (· rfl)); (· apply evL_cons; (· apply ev_sub; (· exact rd_var rfl); (· exact ev_int); (· rfl)); (· exact evL_nil)))); (· exact q)); (· apply evL_cons; (· apply ev_bin; (· exact rd_int); (· exact rd_var rfl); (· rfl)); (· exact evL_nil)))); (· exact Nat.le_of_ble_eq_true rfl)); (· rfl); (· assumption)))
  exact exL_nil
/-- the second one, but for the first one's trouble -/
def sThen : Du → Du → Du
  | .int _, v => v
  | .bl _, v => v
  | u, _ => u
theorem k2 {dd : Nat} (h1 : u1.num) (hn : ns.length < 16777216) (hc0 : (c.fdiv 6).fmod 3 ≠ 0) (hc1 : (c.fdiv 6).fmod 3 ≠ 1) : ∃ r, exL (phi fx (k + 1)) q__law_joined_17 (jr c x fi pk (en t2 u2 p2) (en t1 u1 p1) (dd : Nat)) [.ol ns, .ol ts] = .nx r [.ol (ns ++ [.tup [.tup [.str "let", .str x, t1, .tup [.str "let", .str x, t2, .tup [.str "name", .str x]]], (sThen u1 u2).d, .int (1 + (dd : Int))]]), .ol ts] := by
  have e := eq_op (decide_eq_false hc1)
  have e0 := eq_op (decide_eq_false hc0)
  cases u1 with
  | bl b => exact h1.elim
  | int z =>
    apply Exists.intro
    (apply exL_iffL; (· apply evT_e; (· apply rd_cmp; (· apply ev_cmp; (· apply rd_bin; (· apply ev_bin; (· apply rd_bin; (· apply ev_bin; (· exact rd_var rfl); (· exact rd_int); (· exact fdv (by decide) (by decide)))); (· exact rd_int); (· exact fmd (by decide)))); (· exact rd_int); (· exact e0))); (· rfl)))
    (apply exL_iffL; (· apply evT_e; (· apply rd_cmp; (· apply ev_cmp; (· apply rd_bin; (· apply ev_bin; (· apply rd_bin; (· apply ev_bin; (· exact rd_var rfl); (· exact rd_int); (· exact fdv (by decide) (by decide)))); (· exact rd_int); (· exact fmd (by decide)))); (· exact rd_int); (· exact e))); (· rfl)))
    (refine exL_frz rfl ?_; apply stp2; (· apply ex_set; (· apply ev_tup; (· apply evL_cons; (· exact ev_str); (· apply evL_cons; (· exact ev_var rfl); (· apply evL_cons; (· apply ev_sub; (· exact rd_var rfl); (· exact ev_int); (· rfl)); (· apply evL_cons; (· apply ev_tup; (· apply evL_cons; (· exact ev_str); (· apply evL_cons; (· exact ev_var rfl); (· apply evL_cons; (· apply ev_sub; (· exact rd_var rfl); (· exact ev_int); (· rfl)); (· apply evL_cons; (· apply ev_tup; (· apply evL_cons; (· exact ev_str); (· apply evL_cons; (· exact ev_var rfl); (· exact evL_nil))); (· exact Nat.le_of_ble_eq_true rfl)); (· exact evL_nil))))); (· exact Nat.le_of_ble_eq_true rfl)); (· exact evL_nil))))); (· exact Nat.le_of_ble_eq_true rfl)); (· rfl)))
    (apply stp2; (· apply ex_set; (· apply ev_sub; (· exact rd_var rfl); (· exact ev_int); (· rfl)); (· rfl)))
    (apply exL_iff0; (· apply evT_e; (· apply rd_isi; (· apply ev_isi; (· apply rd_sub; (· apply ev_sub; (· exact rd_var rfl); (· exact ev_int); (· rfl))); (· rfl))); (· rfl)))
    (refine exL_frz rfl ?_; apply stp2; (· apply ex_appO; (· rfl); (· rfl); (· apply ev_tup; (· apply evL_cons; (· exact ev_var rfl); (· apply evL_cons; (· exact ev_var rfl); (· apply evL_cons; (· apply ev_bin; (· exact rd_int); (· exact rd_var rfl); (· rfl)); (· exact evL_nil)))); (· exact Nat.le_of_ble_eq_true rfl)); (· rfl); (· assumption)))
    exact exL_nil
  | bn =>
    have e2 : exL (phi fx (k + 1)) q__law_joined_11 [V (.lst [.obj 0, .obj 1]), V (.int c), V (.str x), V (.str fi), V (.obj 0), V (.obj 1), V (.int pk), V (en t2 u2 p2), V (en t1 .bn p1), V (.int (dd : Nat)), none, none, V (.tup [.str "let", .str x, t1, .tup [.str "let", .str x, t2, .tup [.str "name", .str x]]]), V u2.d] [.ol ns, .ol ts] = .nx [V (.lst [.obj 0, .obj 1]), V (.int c), V (.str x), V (.str fi), V (.obj 0), V (.obj 1), V (.int pk), V (en t2 u2 p2), V (en t1 .bn p1), V (.int (dd : Nat)), none, none, V (.tup [.str "let", .str x, t1, .tup [.str "let", .str x, t2, .tup [.str "name", .str x]]]), V (.str "by nought")] [.ol ns, .ol ts] := by
      (apply stp2; (· apply ex_set; (· apply ev_sub; (· exact rd_var rfl); (· exact ev_int); (· rfl)); (· rfl)))
      exact exL_nil
    apply Exists.intro
    (apply exL_iffL; (· apply evT_e; (· apply rd_cmp; (· apply ev_cmp; (· apply rd_bin; (· apply ev_bin; (· apply rd_bin; (· apply ev_bin; (· exact rd_var rfl); (· exact rd_int); (· exact fdv (by decide) (by decide)))); (· exact rd_int); (· exact fmd (by decide)))); (· exact rd_int); (· exact e0))); (· rfl)))
    (apply exL_iffL; (· apply evT_e; (· apply rd_cmp; (· apply ev_cmp; (· apply rd_bin; (· apply ev_bin; (· apply rd_bin; (· apply ev_bin; (· exact rd_var rfl); (· exact rd_int); (· exact fdv (by decide) (by decide)))); (· exact rd_int); (· exact fmd (by decide)))); (· exact rd_int); (· exact e))); (· rfl)))
    (refine exL_frz rfl ?_; apply stp2; (· apply ex_set; (· apply ev_tup; (· apply evL_cons; (· exact ev_str); (· apply evL_cons; (· exact ev_var rfl); (· apply evL_cons; (· apply ev_sub; (· exact rd_var rfl); (· exact ev_int); (· rfl)); (· apply evL_cons; (· apply ev_tup; (· apply evL_cons; (· exact ev_str); (· apply evL_cons; (· exact ev_var rfl); (· apply evL_cons; (· apply ev_sub; (· exact rd_var rfl); (· exact ev_int); (· rfl)); (· apply evL_cons; (· apply ev_tup; (· apply evL_cons; (· exact ev_str); (· apply evL_cons; (· exact ev_var rfl); (· exact evL_nil))); (· exact Nat.le_of_ble_eq_true rfl)); (· exact evL_nil))))); (· exact Nat.le_of_ble_eq_true rfl)); (· exact evL_nil))))); (· exact Nat.le_of_ble_eq_true rfl)); (· rfl)))
    (apply stp2; (· apply ex_set; (· apply ev_sub; (· exact rd_var rfl); (· exact ev_int); (· rfl)); (· rfl)))
    (skip)
    refine exL_iftN ?_ e2 ?_
    · (apply evT_e; (· apply rd_isi; (· apply ev_isi; (· apply rd_sub; (· apply ev_sub; (· exact rd_var rfl); (· exact ev_int); (· rfl))); (· rfl))); (· rfl))
    (refine exL_frz rfl ?_; apply stp2; (· apply ex_appO; (· rfl); (· rfl); (· apply ev_tup; (· apply evL_cons; (· exact ev_var rfl); (· apply evL_cons; (· exact ev_var rfl); (· apply evL_cons; (· apply ev_bin; (· exact rd_int); (· exact rd_var rfl); (· rfl)); (· exact evL_nil)))); (· exact Nat.le_of_ble_eq_true rfl)); (· rfl); (· assumption)))
    exact exL_nil
  | tg =>
    have e2 : exL (phi fx (k + 1)) q__law_joined_11 [V (.lst [.obj 0, .obj 1]), V (.int c), V (.str x), V (.str fi), V (.obj 0), V (.obj 1), V (.int pk), V (en t2 u2 p2), V (en t1 .tg p1), V (.int (dd : Nat)), none, none, V (.tup [.str "let", .str x, t1, .tup [.str "let", .str x, t2, .tup [.str "name", .str x]]]), V u2.d] [.ol ns, .ol ts] = .nx [V (.lst [.obj 0, .obj 1]), V (.int c), V (.str x), V (.str fi), V (.obj 0), V (.obj 1), V (.int pk), V (en t2 u2 p2), V (en t1 .tg p1), V (.int (dd : Nat)), none, none, V (.tup [.str "let", .str x, t1, .tup [.str "let", .str x, t2, .tup [.str "name", .str x]]]), V (.str "too great")] [.ol ns, .ol ts] := by
      (apply stp2; (· apply ex_set; (· apply ev_sub; (· exact rd_var rfl); (· exact ev_int); (· rfl)); (· rfl)))
      exact exL_nil
    apply Exists.intro
    (apply exL_iffL; (· apply evT_e; (· apply rd_cmp; (· apply ev_cmp; (· apply rd_bin; (· apply ev_bin; (· apply rd_bin; (· apply ev_bin; (· exact rd_var rfl); (· exact rd_int); (· exact fdv (by decide) (by decide)))); (· exact rd_int); (· exact fmd (by decide)))); (· exact rd_int); (· exact e0))); (· rfl)))
    (apply exL_iffL; (· apply evT_e; (· apply rd_cmp; (· apply ev_cmp; (· apply rd_bin; (· apply ev_bin; (· apply rd_bin; (· apply ev_bin; (· exact rd_var rfl); (· exact rd_int); (· exact fdv (by decide) (by decide)))); (· exact rd_int); (· exact fmd (by decide)))); (· exact rd_int); (· exact e))); (· rfl)))
    (refine exL_frz rfl ?_; apply stp2; (· apply ex_set; (· apply ev_tup; (· apply evL_cons; (· exact ev_str); (· apply evL_cons; (· exact ev_var rfl); (· apply evL_cons; (· apply ev_sub; (· exact rd_var rfl); (· exact ev_int); (· rfl)); (· apply evL_cons; (· apply ev_tup; (· apply evL_cons; (· exact ev_str); (· apply evL_cons; (· exact ev_var rfl); (· apply evL_cons; (· apply ev_sub; (· exact rd_var rfl); (· exact ev_int); (· rfl)); (· apply evL_cons; (· apply ev_tup; (· apply evL_cons; (· exact ev_str); (· apply evL_cons; (· exact ev_var rfl); (· exact evL_nil))); (· exact Nat.le_of_ble_eq_true rfl)); (· exact evL_nil))))); (· exact Nat.le_of_ble_eq_true rfl)); (· exact evL_nil))))); (· exact Nat.le_of_ble_eq_true rfl)); (· rfl)))
    (apply stp2; (· apply ex_set; (· apply ev_sub; (· exact rd_var rfl); (· exact ev_int); (· rfl)); (· rfl)))
    (skip)
    refine exL_iftN ?_ e2 ?_
    · (apply evT_e; (· apply rd_isi; (· apply ev_isi; (· apply rd_sub; (· apply ev_sub; (· exact rd_var rfl); (· exact ev_int); (· rfl))); (· rfl))); (· rfl))
    (refine exL_frz rfl ?_; apply stp2; (· apply ex_appO; (· rfl); (· rfl); (· apply ev_tup; (· apply evL_cons; (· exact ev_var rfl); (· apply evL_cons; (· exact ev_var rfl); (· apply evL_cons; (· apply ev_bin; (· exact rd_int); (· exact rd_var rfl); (· rfl)); (· exact evL_nil)))); (· exact Nat.le_of_ble_eq_true rfl)); (· rfl); (· assumption)))
    exact exL_nil
end
end K04

/-! joined -/
namespace K04
open PySem PySem.Spec PyProof.Rows L2 Pi
section
variable {k : Nat} {ns ts : List D} {c : Int} {x : Str} {f g : Str} {n1 n2 : Int} {el er : D}
theorem sTake_x {u1 u2 : Du} (h : u1.num) : ∀ c, u1.o = .x c → (sTake u1 u2).o = .x c := by
  intro c e
  cases u1 with
  | int z => cases e
  | bl b => exact h.elim
  | bn => exact e
  | tg => exact e
theorem sThen_x {u1 u2 : Du} (h : u1.num) : ∀ c, u1.o = .x c → (sThen u1 u2).o = .x c := by
  intro c e
  cases u1 with
  | int z => cases e
  | bl b => exact h.elim
  | bn => exact e
  | tg => exact e
theorem sThen_v {u1 u2 : Du} (h : u1.num) {d : D} (e : u1.o = .v d) : sThen u1 u2 = u2 := by
  cases u1 with
  | int z => rfl
  | bl b => exact h.elim
  | bn => cases e
  | tg => cases e
theorem sThen_num {u1 u2 : Du} (h1 : u1.num) (h2 : u2.num) : (sThen u1 u2).num := by
  cases u1 <;> first | exact h2 | exact h1
theorem joined_ok (hx1 : x ≠ f) (hx2 : x ≠ g) (hl : GE f g n1 n2 26 Du.num el) (hr : GE f g n1 n2 26 Du.num er) (ht : ∀ e ∈ ts, GE f g n1 n2 27 Du.tru e) (bn : ns.length ≤ 1000) (bt : ts.length ≤ 1000) :
    ∃ e' ts', (phi fx (k + 2)).call 36 [.lst [.obj 0, .obj 1], .int c, .str x, .str f] [.ol ((ns ++ [el]) ++ [er]), .ol ts] = .ok .non [.ol (ns ++ [e']), .ol ts'] ∧ GE f g n1 n2 28 Du.num e' ∧ (∀ e ∈ ts', GE f g n1 n2 27 Du.tru e) ∧ ts'.length ≤ ts.length + 1 := by
  obtain ⟨t1, u1, p1, rfl, a1, b1, c1, e1⟩ := hl
  obtain ⟨t2, u2, p2, rfl, a2, b2, c2, e2⟩ := hr
  have ed : (1 : Int) + (max p1 p2 : Nat) = ((1 + max p1 p2 : Nat) : Int) := by omega
  have g1 : p1 < 1 + max p1 p2 := by omega
  have g2 : p2 < 1 + max p1 p2 := by omega
  have g3 : 1 + max p1 p2 ≤ 27 := by omega
  have bn' : ns.length < 16777216 := by omega
  have bt' : ts.length < 16777216 := by omega
  have f0 : 0 ≤ c.fmod 6 := Int.fmod_nonneg_of_pos _ (by decide)
  have f1 : c.fmod 6 < 6 := Int.fmod_lt_of_pos _ (by decide)
  have body : ∀ e' ts', (∃ r, exL (phi fx (k + 1)) q__law_joined_20 (jr c x f (c.fmod 6) (en t2 u2 p2) (en t1 u1 p1) ((1 + max p1 p2 : Nat) : Int)) [.ol ns, .ol ts] = .nx r [.ol (ns ++ [e']), .ol ts']) → (phi fx (k + 2)).call 36 [.lst [.obj 0, .obj 1], .int c, .str x, .str f] [.ol ((ns ++ [en t1 u1 p1]) ++ [en t2 u2 p2]), .ol ts] = .ok .non [.ol (ns ++ [e']), .ol ts'] := by
    rintro e' ts' ⟨r, e⟩
    refine call_nx (g := ⟨4, 14, b__law_joined⟩) rfl rfl rfl ⟨r, j_head ?_⟩
    rw [ed]
    exact e
  generalize 1 + max p1 p2 = dd at *
  have ev1 : ∀ nm, Sc f g n1 n2 (1000 - dd) nm → Ev [] [] (3 * p1) nm 0 t1 u1.o := fun nm s => e1 nm (s.up (by omega))
  have ev2 : ∀ nm, Sc f g n1 n2 (1000 - dd) nm → Ev [] [] (3 * p2) nm 0 t2 u2.o := fun nm s => e2 nm (s.up (by omega))
  have lets : ∃ e', (∀ pk, ∃ r, exL (phi fx (k + 1)) q__law_joined_17 (jr c x f pk (en t2 u2 p2) (en t1 u1 p1) (dd : Nat)) [.ol ns, .ol ts] = .nx r [.ol (ns ++ [e']), .ol ts]) ∧ GE f g n1 n2 28 Du.num e' := by
    by_cases h0 : (c.fdiv 6).fmod 3 = 0
    · refine ⟨_, fun pk => k0 c1 c2 bn' h0, _, sTake u1 u2, dd + 1, by rw [show ((dd + 1 : Nat) : Int) = 1 + (dd : Int) by omega], by omega, by omega, two_num (fun a b => fin_num _) c1 c2, fun nm s => ?_⟩
      refine eLet (h2 := 3 * (dd - 1) + 3 + 3 - 3) (u := u1) (v := sTake u1 u2) (e1 nm (s.up (by omega))) (Nat.lt_of_le_of_lt s.le (by omega)) (by omega) (by omega) (fun d hd => ?_) (sTake_x c1)
      have s' := s.put hx1 hx2 d
      exact eTake c1 c2 (hd ▸ Ev.name (Sc.self s.nd) (Nat.le_refl 3)) (e2 _ (s'.up (by omega))) (by omega) (by omega)
    · by_cases h1 : (c.fdiv 6).fmod 3 = 1
      · refine ⟨_, fun pk => k1 c1 c2 bn' h1, _, sTake u1 u2, dd + 1, by rw [show ((dd + 1 : Nat) : Int) = 1 + (dd : Int) by omega], by omega, by omega, two_num (fun a b => fin_num _) c1 c2, fun nm s => ?_⟩
        refine eTake c1 c2 (h1 := 3 * dd) (eLet (h2 := 3) (u := u1) (v := u1) (e1 nm (s.up (by omega))) (Nat.lt_of_le_of_lt s.le (by omega)) (by omega) (by omega) (fun d hd => ?_) (fun c h => h)) (e2 nm (s.up (by omega))) (by omega) (by omega)
        exact hd ▸ Ev.name (Sc.self s.nd) (Nat.le_refl 3)
      · refine ⟨_, fun pk => k2 c1 bn' h0 h1, _, sThen u1 u2, dd + 1, by rw [show ((dd + 1 : Nat) : Int) = 1 + (dd : Int) by omega], by omega, by omega, sThen_num c1 c2, fun nm s => ?_⟩
        refine eLet (h2 := 3 * dd) (u := u1) (v := sThen u1 u2) (e1 nm (s.up (by omega))) (Nat.lt_of_le_of_lt s.le (by omega)) (by omega) (by omega) (fun d hd => ?_) (sThen_x c1)
        rw [sThen_v c1 hd]
        have s' := s.put hx1 hx2 d
        refine eLet (h2 := 3) (u := u2) (v := u2) (e2 _ (s'.up (by omega))) (Nat.lt_of_le_of_lt s'.le (by omega)) (by omega) (by omega) (fun d' hd' => ?_) (fun c h => h)
        exact hd' ▸ Ev.name (Sc.self s'.nd) (Nat.le_refl 3)
  have h6 : c.fmod 6 = 0 ∨ c.fmod 6 = 1 ∨ c.fmod 6 = 2 ∨ c.fmod 6 = 3 ∨ c.fmod 6 = 4 ∨ c.fmod 6 = 5 := by omega
  rcases h6 with h | h | h | h | h | h <;> rw [h] at body
  · exact ⟨_, ts, body _ _ ⟨_, j0 c1 c2 bn'⟩, ⟨_, sAdd u1 u2, dd, rfl, by omega, by omega, two_num (fun a b => fin_num _) c1 c2, fun nm s => eAdd c1 c2 (ev1 nm s) (ev2 nm s) (by omega) (by omega)⟩, ht, Nat.le_succ _⟩
  · exact ⟨_, ts, body _ _ ⟨_, j1 c1 c2 bn'⟩, ⟨_, sTake u1 u2, dd, rfl, by omega, by omega, two_num (fun a b => fin_num _) c1 c2, fun nm s => eTake c1 c2 (ev1 nm s) (ev2 nm s) (by omega) (by omega)⟩, ht, Nat.le_succ _⟩
  · exact ⟨_, ts, body _ _ ⟨_, j2 c1 c2 bn'⟩, ⟨_, sPart u1 u2, dd, rfl, by omega, by omega, two_num (fun a b => by
      show (if b = 0 then Du.bn else fin _).num
      split
      · trivial
      · exact fin_num _) c1 c2, fun nm s => ePart c1 c2 (ev1 nm s) (ev2 nm s) (by omega) (by omega)⟩, ht, Nat.le_succ _⟩
  · refine ⟨_, _, body _ _ ⟨_, j3 c1 c2 bn' bt'⟩, ⟨t1, u1, p1, rfl, a1, by omega, c1, e1⟩, ?_, by rw [List.length_append]; exact Nat.le_refl _⟩
    intro e he
    rcases List.mem_append.mp he with he | he
    · exact ht e he
    · rw [List.mem_singleton] at he
      exact he ▸ ⟨_, sLess u1 u2, dd, rfl, by omega, by omega, two_tru (f := fun a b => .bl (decide (a < b))) (fun a b => trivial) c1 c2, fun nm s => eLess c1 c2 (ev1 nm s) (ev2 nm s) (by omega) (by omega)⟩
  · rcases List.eq_nil_or_concat ts with rfl | ⟨ts0, e3, rfl⟩
    · obtain ⟨e', q, ge⟩ := lets
      obtain ⟨r, q⟩ := q 4
      exact ⟨e', [], body _ _ ⟨r, j5_4 q⟩, ge, ht, Nat.le_succ _⟩
    · rw [List.concat_eq_append] at *
      obtain ⟨t3, u3, p3, rfl, a3, b3, c3, ev3⟩ := ht e3 (by simp)
      refine ⟨_, ts0, body _ _ ⟨_, j4 c3 bn'⟩, ⟨_, sIf u3 u1 u2, max dd (1 + p3), rfl, by omega, by omega, if_num c3 c1 c2, fun nm s => eIf c3 (ev3 nm (s.up (by omega))) (e1 nm (s.up (by omega))) (e2 nm (s.up (by omega))) (by omega) (by omega) (by omega)⟩, fun e he => ht e (by simp [he]), by rw [List.length_append]; omega⟩
  · obtain ⟨e', q, ge⟩ := lets
    obtain ⟨r, q⟩ := q 5
    exact ⟨e', ts, body _ _ ⟨r, j5_5 q⟩, ge, ht, Nat.le_succ _⟩
end
end K04

/-! the law's loop -/
namespace K04
open PySem PySem.Spec PyProof.Rows L2 Pi
/-- signs in the middle -/
theorem mid_inj {A B : Str} {c d : Nat} (h : A ++ (⟨#[c]⟩ : Str) ++ B = A ++ (⟨#[d]⟩ : Str) ++ B) : c = d := by
  have e := congrArg (fun x : Str => x.cps.toList) h
  simp only [Str.cps_append, Array.toList_append] at e
  rw [List.append_assoc, List.append_assoc, List.append_cancel_left_eq, List.append_cancel_right_eq] at e
  simpa using e
abbrev nm0 (f g : Str) (n1 n2 : Int) : List (Str × D) := [(f, .int n1), (g, .int n2)]
section
variable {f g : Str} {n1 n2 : Int}
theorem sc0 (h : f ≠ g) {m : Nat} (hm : 2 ≤ m) : Sc f g n1 n2 m (nm0 f g n1 n2) := by
  refine ⟨?_, ?_, ?_, hm⟩
  · unfold dget; rw [List.find?_cons]; simp
  · unfold dget; rw [List.find?_cons, decide_eq_false h, List.find?_cons]; simp
  · simpa using h
theorem ne0 (h : f ≠ g) : cmD .ne (.dic (nm0 f g n1 n2)) (.dic (nm0 f g n1 n2)) = some false := by
  have a1 := (sc0 (n1 := n1) (n2 := n2) h (Nat.le_refl 2)).f
  have a2 := (sc0 (n1 := n1) (n2 := n2) h (Nat.le_refl 2)).g
  have e : eqd (.dic (nm0 f g n1 n2)) (.dic (nm0 f g n1 n2)) = some true := by
    simp only [eqd, eqdK, a1, a2, beq_self_eq_true]
    rfl
  show (eqq _ _).map (!·) = _
  unfold eqq
  have hd : (D.dic (nm0 f g n1 n2)).deep ≤ 100 := show max 0 (max 0 0) + 1 ≤ 100 by decide
  rw [e, if_pos (Nat.le_trans (Nat.min_le_left _ _) hd)]
  rfl
end
abbrev E3 := D × Du × Nat
abbrev e3 (q : E3) : D := en q.1 q.2.1 q.2.2
theorem es_of {f g : Str} {n1 n2 : Int} {top : Nat} {P : Du → Prop} : ∀ {xs : List D}, (∀ e ∈ xs, GE f g n1 n2 top P e) → ∃ es : List E3, xs = es.map e3
  | [], _ => ⟨[], rfl⟩
  | x :: xs, h => by
    obtain ⟨es, rfl⟩ := es_of fun e he => h e (List.mem_cons_of_mem _ he)
    obtain ⟨t, u, p, rfl, _⟩ := h x List.mem_cons_self
    exact ⟨(t, u, p) :: es, rfl⟩
theorem ints_es : ∀ es : List E3, intsD (es.map fun q => D.int (q.2.2 : Int)) = some (es.map fun q => (q.2.2 : Int))
  | [] => rfl
  | q :: es => by rw [List.map_cons, List.map_cons, intsD, ints_es es]; rfl
theorem fold_max : ∀ (l : List Int) (a : Int), a ≤ l.foldl (fun a b => if b > a then b else a) a ∧ ∀ x ∈ l, x ≤ l.foldl (fun a b => if b > a then b else a) a
  | [], a => ⟨Int.le_refl _, fun _ h => nomatch h⟩
  | b :: l, a => by
    obtain ⟨h1, h2⟩ := fold_max l (if b > a then b else a)
    rw [List.foldl_cons]
    refine ⟨?_, fun x hx => ?_⟩
    · refine Int.le_trans ?_ h1
      split <;> omega
    · rcases List.mem_cons.mp hx with rfl | hx
      · refine Int.le_trans ?_ h1
        split <;> omega
      · exact h2 x hx
theorem max_es {es : List E3} (h : es ≠ []) : ∃ M : Int, biD .max (.lst (es.map fun q => D.int (q.2.2 : Int))) = some (.int M) ∧ ∀ q ∈ es, (q.2.2 : Int) ≤ M := by
  cases es with
  | nil => exact absurd rfl h
  | cons q es =>
    refine ⟨_, by
      show (intsD _).bind maxI = _
      rw [ints_es]
      rfl, fun r hr => ?_⟩
    obtain ⟨h1, h2⟩ := fold_max (es.map fun q => (q.2.2 : Int)) (q.2.2 : Int)
    rcases List.mem_cons.mp hr with rfl | hr
    · exact h1
    · exact h2 _ (List.mem_map.mpr ⟨r, hr, rfl⟩)
/-- the pile of piles -/
abbrev pls : List D := [.obj 0, .obj 1]
def P7 (s : Sl) : Prop := s = .ol pls ∨ s = .v (.lst pls)
section
variable {k : Nat} {r0 r1 r2 r3 r4 r5 r6 r8 r9 r10 r11 r12 r13 r14 : Option Sl} {s7 : Sl} {es : List E3} {ts : List D} {c M : Int}
theorem max_ev (h7 : P7 s7) (hn : es.length ≤ 1000) (hM : biD .max (.lst (es.map fun q => D.int (q.2.2 : Int))) = some (.int M)) :
    ev (phi fx k) (.bi .max (.lc (.sub (.var 9) (.int 2)) (.nm 9) (.over (.sub (.var 7) (.int 0))) .yes [9])) [r0, r1, r2, r3, r4, r5, r6, some s7, r8, r9, r10, r11, r12, r13, r14] [.ol (es.map e3), .ol ts] = .ok (.int M) [.ol (es.map e3), .ol ts] := by
  have hl : ev (phi fx k) (.lc (.sub (.var 9) (.int 2)) (.nm 9) (.over (.sub (.var 7) (.int 0))) .yes [9]) [r0, r1, r2, r3, r4, r5, r6, some s7, r8, r9, r10, r11, r12, r13, r14] [.ol (es.map e3), .ol ts] = .ok (.lst (es.map fun q => D.int (q.2.2 : Int))) [.ol (es.map e3), .ol ts] := by
    have hl : loopL (lcStep (.nm 9) [9] [r0, r1, r2, r3, r4, r5, r6, some s7, r8, r9, r10, r11, r12, r13, r14] (fun r S => evT (phi fx k) .yes r S) (fun r S => ev (phi fx k) (.sub (.var 9) (.int 2)) r S)) (es.map e3) [.lk (.ol (es.map e3)), .ol ts] = .ok (es.map fun q => D.int (q.2.2 : Int)) [.lk (.ol (es.map e3)), .ol ts] := by
      have e := loopL_map (g := lcStep (.nm 9) [9] [r0, r1, r2, r3, r4, r5, r6, some s7, r8, r9, r10, r11, r12, r13, r14] (fun r S => evT (phi fx k) .yes r S) (fun r S => ev (phi fx k) (.sub (.var 9) (.int 2)) r S)) (f := fun d => (subD d (.int 2)).getD .non) (S := [.lk (.ol (es.map e3)), .ol ts]) (xs := es.map e3) (fun x hx => by
        obtain ⟨q, _, rfl⟩ := List.mem_map.mp hx
        apply lcs_yes
        · rfl
        · (apply ev_sub; (· exact rd_var rfl); (· exact ev_int); (· rfl)))
      rw [e, List.map_map]
      rfl
    refine ev_lcw (w := some 0) (S1 := [.lk (.ol (es.map e3)), .ol ts]) ?_ hl (sz (by rw [List.length_map]; omega)) rfl
    rcases h7 with rfl | rfl
    · exact evI_over (x := .obj 0) (ev_sub (rd_var rfl) ev_int rfl) rfl
    · exact evI_over (x := .obj 0) (ev_sub (rd_var rfl) ev_int rfl) rfl
  exact ev_bi (rd_lc hl) hM
end
/-- what the loop keeps -/
abbrev lr (sc : List D) (base : Str) (at_ : Int) (f g : Str) (n1 n2 : Int) (s7 : Sl) (r8 r9 r10 r11 r12 r13 r14 : Option Sl) : Rho := [V (.lst sc), V (.str base), V (.int at_), V (.str f), V (.str g), some (.od (nm0 f g n1 n2)), some (.od (nm0 f g n1 n2)), some s7, r8, r9, r10, r11, r12, r13, r14]
section
variable {k : Nat} {sc : List D} {base : Str} {at_ : Int} {f g : Str} {n1 n2 : Int} {s7 : Sl} {r8 r9 r10 r11 r12 r13 r14 : Option Sl} {ns ts : List D} {c M : Int}
theorem GE.leaf {t : D} {u : Du} (hu : u.num) (h : ∀ nm, Sc f g n1 n2 999 nm → Ev [] [] 3 nm 0 t u.o) : GE f g n1 n2 28 Du.num (.tup [t, u.d, .int 1]) := ⟨t, u, 1, rfl, by omega, by omega, hu, h⟩
theorem nm_op (h : f ≠ g) {x : Str} {v : Int} (hx : (x = f ∧ v = n1) ∨ (x = g ∧ v = n2)) : subD (.dic (nm0 f g n1 n2)) (.str x) = some (.int v) := by
  rcases hx with ⟨rfl, rfl⟩ | ⟨rfl, rfl⟩
  · exact (sc0 h (Nat.le_refl 2)).f
  · exact (sc0 h (Nat.le_refl 2)).g
theorem fg_op {i : Int} (h0 : 0 ≤ i) (h1 : i < 2) : ∃ x v, ((x = f ∧ v = n1) ∨ (x = g ∧ v = n2)) ∧ subD (.lst [.str f, .str g]) (.int i) = some (.str x) := by
  have : i = 0 ∨ i = 1 := by omega
  rcases this with rfl | rfl
  · exact ⟨f, n1, .inl ⟨rfl, rfl⟩, rfl⟩
  · exact ⟨g, n2, .inr ⟨rfl, rfl⟩, rfl⟩
theorem leaf_num {z : Int} (h7 : P7 s7) (hn : ns.length < 16777216) (hz : (phi fx (k + 1)).call 33 [.int (c.fdiv 15)] [.ol ns, .ol ts] = .ok (.int z) [.ol ns, .ol ts]) (h : (c.fdiv 3).fmod 5 ≠ 0) :
    exL (phi fx (k + 1)) q_law_6 (lr sc base at_ f g n1 n2 s7 (V (.int c)) r9 r10 r11 r12 r13 r14) [.ol ns, .ol ts] = .nx (lr sc base at_ f g n1 n2 s7 (V (.int c)) r9 r10 r11 (V (.int z)) (V (.tup [.str "num", .int z])) r14) [.ol (ns ++ [.tup [.tup [.str "num", .int z], .int z, .int 1]]), .ol ts] := by
  have q3 := eq_op (decide_eq_false h)
  rcases h7 with rfl | rfl
  · (apply stp2; (· apply ex_set; (· apply ev_call; (· apply evL_cons; (· apply ev_bin; (· exact rd_var rfl); (· exact rd_int); (· exact fdv (by decide) (by decide))); (· exact evL_nil)); (· exact hz)); (· rfl)))
    (refine exL_frz rfl ?_; apply stp2; (· apply ex_set; (· apply ev_tup; (· apply evL_cons; (· exact ev_str); (· apply evL_cons; (· exact ev_var rfl); (· exact evL_nil))); (· exact Nat.le_of_ble_eq_true rfl)); (· rfl)))
    (apply exL_iff0; (· apply evT_e; (· apply rd_cmp; (· apply ev_cmp; (· apply rd_bin; (· apply ev_bin; (· apply rd_bin; (· apply ev_bin; (· exact rd_var rfl); (· exact rd_int); (· exact fdv (by decide) (by decide)))); (· exact rd_int); (· exact fmd (by decide)))); (· exact rd_int); (· exact q3))); (· rfl)))
    (refine exL_frz rfl ?_; apply stp2; (· apply ex_capp; (· apply ev_sub; (· exact rd_var rfl); (· exact ev_int); (· rfl)); (· rfl); (· apply ev_tup; (· apply evL_cons; (· exact ev_var rfl); (· apply evL_cons; (· exact ev_var rfl); (· apply evL_cons; (· exact ev_int); (· exact evL_nil)))); (· exact Nat.le_of_ble_eq_true rfl)); (· rfl); (· assumption)))
    exact exL_nil
  · (apply stp2; (· apply ex_set; (· apply ev_call; (· apply evL_cons; (· apply ev_bin; (· exact rd_var rfl); (· exact rd_int); (· exact fdv (by decide) (by decide))); (· exact evL_nil)); (· exact hz)); (· rfl)))
    (refine exL_frz rfl ?_; apply stp2; (· apply ex_set; (· apply ev_tup; (· apply evL_cons; (· exact ev_str); (· apply evL_cons; (· exact ev_var rfl); (· exact evL_nil))); (· exact Nat.le_of_ble_eq_true rfl)); (· rfl)))
    (apply exL_iff0; (· apply evT_e; (· apply rd_cmp; (· apply ev_cmp; (· apply rd_bin; (· apply ev_bin; (· apply rd_bin; (· apply ev_bin; (· exact rd_var rfl); (· exact rd_int); (· exact fdv (by decide) (by decide)))); (· exact rd_int); (· exact fmd (by decide)))); (· exact rd_int); (· exact q3))); (· rfl)))
    (refine exL_frz rfl ?_; apply stp2; (· apply ex_capp; (· apply ev_sub; (· exact rd_var rfl); (· exact ev_int); (· rfl)); (· rfl); (· apply ev_tup; (· apply evL_cons; (· exact ev_var rfl); (· apply evL_cons; (· exact ev_var rfl); (· apply evL_cons; (· exact ev_int); (· exact evL_nil)))); (· exact Nat.le_of_ble_eq_true rfl)); (· rfl); (· assumption)))
    exact exL_nil
theorem leaf_name {z v : Int} {x : Str} (h7 : P7 s7) (hn : ns.length < 16777216) (hz : (phi fx (k + 1)).call 33 [.int (c.fdiv 15)] [.ol ns, .ol ts] = .ok (.int z) [.ol ns, .ol ts]) (h : (c.fdiv 3).fmod 5 = 0)
    (q1 : subD (.lst [.str f, .str g]) (.int ((c.fdiv 15).fmod 2)) = some (.str x)) (q2 : subD (.dic (nm0 f g n1 n2)) (.str x) = some (.int v)) :
    exL (phi fx (k + 1)) q_law_6 (lr sc base at_ f g n1 n2 s7 (V (.int c)) r9 r10 r11 r12 r13 r14) [.ol ns, .ol ts] = .nx (lr sc base at_ f g n1 n2 s7 (V (.int c)) r9 r10 r11 (V (.int v)) (V (.tup [.str "name", .str x])) (V (.str x))) [.ol (ns ++ [.tup [.tup [.str "name", .str x], .int v, .int 1]]), .ol ts] := by
  have q3 := eq_op (decide_eq_true h)
  have e : exL (phi fx (k + 1)) q_law_2 (lr sc base at_ f g n1 n2 s7 (V (.int c)) r9 r10 r11 (V (.int z)) (V (.tup [.str "num", .int z])) r14) [.ol ns, .ol ts] = .nx (lr sc base at_ f g n1 n2 s7 (V (.int c)) r9 r10 r11 (V (.int v)) (V (.tup [.str "name", .str x])) (V (.str x))) [.ol ns, .ol ts] := by
    (refine exL_frz rfl ?_; apply stp2; (· apply ex_set; (· apply ev_sub; (· apply rd_lst; (· apply ev_lst; (· apply evL_cons; (· exact ev_var rfl); (· apply evL_cons; (· exact ev_var rfl); (· exact evL_nil))); (· exact Nat.le_of_ble_eq_true rfl))); (· apply ev_bin; (· apply rd_bin; (· apply ev_bin; (· exact rd_var rfl); (· exact rd_int); (· exact fdv (by decide) (by decide)))); (· exact rd_int); (· exact fmd (by decide))); (· exact q1)); (· rfl)))
    (refine exL_frz rfl ?_; apply stp2; (· apply ex_set; (· apply ev_tup; (· apply evL_cons; (· exact ev_str); (· apply evL_cons; (· exact ev_var rfl); (· exact evL_nil))); (· exact Nat.le_of_ble_eq_true rfl)); (· rfl)))
    (refine exL_frz rfl ?_; apply stp2; (· apply ex_set; (· apply ev_sub; (· exact rd_var rfl); (· exact ev_var rfl); (· exact q2)); (· rfl)))
    exact exL_nil
  rcases h7 with rfl | rfl
  · (apply stp2; (· apply ex_set; (· apply ev_call; (· apply evL_cons; (· apply ev_bin; (· exact rd_var rfl); (· exact rd_int); (· exact fdv (by decide) (by decide))); (· exact evL_nil)); (· exact hz)); (· rfl)))
    (refine exL_frz rfl ?_; apply stp2; (· apply ex_set; (· apply ev_tup; (· apply evL_cons; (· exact ev_str); (· apply evL_cons; (· exact ev_var rfl); (· exact evL_nil))); (· exact Nat.le_of_ble_eq_true rfl)); (· rfl)))
    (skip)
    refine exL_iftN ?_ e ?_
    · (apply evT_e; (· apply rd_cmp; (· apply ev_cmp; (· apply rd_bin; (· apply ev_bin; (· apply rd_bin; (· apply ev_bin; (· exact rd_var rfl); (· exact rd_int); (· exact fdv (by decide) (by decide)))); (· exact rd_int); (· exact fmd (by decide)))); (· exact rd_int); (· exact q3))); (· rfl))
    (refine exL_frz rfl ?_; apply stp2; (· apply ex_capp; (· apply ev_sub; (· exact rd_var rfl); (· exact ev_int); (· rfl)); (· rfl); (· apply ev_tup; (· apply evL_cons; (· exact ev_var rfl); (· apply evL_cons; (· exact ev_var rfl); (· apply evL_cons; (· exact ev_int); (· exact evL_nil)))); (· exact Nat.le_of_ble_eq_true rfl)); (· rfl); (· assumption)))
    exact exL_nil
  · (apply stp2; (· apply ex_set; (· apply ev_call; (· apply evL_cons; (· apply ev_bin; (· exact rd_var rfl); (· exact rd_int); (· exact fdv (by decide) (by decide))); (· exact evL_nil)); (· exact hz)); (· rfl)))
    (refine exL_frz rfl ?_; apply stp2; (· apply ex_set; (· apply ev_tup; (· apply evL_cons; (· exact ev_str); (· apply evL_cons; (· exact ev_var rfl); (· exact evL_nil))); (· exact Nat.le_of_ble_eq_true rfl)); (· rfl)))
    (skip)
    refine exL_iftN ?_ e ?_
    · (apply evT_e; (· apply rd_cmp; (· apply ev_cmp; (· apply rd_bin; (· apply ev_bin; (· apply rd_bin; (· apply ev_bin; (· exact rd_var rfl); (· exact rd_int); (· exact fdv (by decide) (by decide)))); (· exact rd_int); (· exact fmd (by decide)))); (· exact rd_int); (· exact q3))); (· rfl))
    (refine exL_frz rfl ?_; apply stp2; (· apply ex_capp; (· apply ev_sub; (· exact rd_var rfl); (· exact ev_int); (· rfl)); (· rfl); (· apply ev_tup; (· apply evL_cons; (· exact ev_var rfl); (· apply evL_cons; (· exact ev_var rfl); (· apply evL_cons; (· exact ev_int); (· exact evL_nil)))); (· exact Nat.le_of_ble_eq_true rfl)); (· rfl); (· assumption)))
    exact exL_nil
/-- a leaf -/
theorem leaf_ok (hfg : f ≠ g) (b1 : -1000000000000 ≤ n1 ∧ n1 ≤ 1000000000000) (b2 : -1000000000000 ≤ n2 ∧ n2 ≤ 1000000000000) (h7 : P7 s7) (hn : ns.length ≤ 1000) :
    ∃ e' s12 s13 s14, GE f g n1 n2 28 Du.num e' ∧ exL (phi fx (k + 1)) q_law_6 (lr sc base at_ f g n1 n2 s7 (V (.int c)) r9 r10 r11 r12 r13 r14) [.ol ns, .ol ts] = .nx (lr sc base at_ f g n1 n2 s7 (V (.int c)) r9 r10 r11 s12 s13 s14) [.ol (ns ++ [e']), .ol ts] := by
  obtain ⟨z, z1, z2, hz⟩ := number_ok (c := c.fdiv 15)
  have hz' := hz k [.ol ns, .ol ts]
  have hn' : ns.length < 16777216 := by omega
  have i0 : 0 ≤ (c.fdiv 15).fmod 2 := Int.fmod_nonneg_of_pos _ (by decide)
  have i1 : (c.fdiv 15).fmod 2 < 2 := Int.fmod_lt_of_pos _ (by decide)
  obtain ⟨x, v, hx, q1⟩ := fg_op (f := f) (g := g) (n1 := n1) (n2 := n2) i0 i1
  have q2 := nm_op hfg hx
  by_cases h : (c.fdiv 3).fmod 5 = 0
  · refine ⟨_, _, _, _, GE.leaf (t := .tup [.str "name", .str x]) (u := .int v) ?_ (fun nm s => Ev.name ?_ (Nat.le_refl 3)), leaf_name h7 hn' hz' h q1 q2⟩
    · rcases hx with ⟨_, rfl⟩ | ⟨_, rfl⟩
      · exact b1
      · exact b2
    · rcases hx with ⟨rfl, rfl⟩ | ⟨rfl, rfl⟩
      · exact s.f
      · exact s.g
  · exact ⟨_, _, _, _, GE.leaf (t := .tup [.str "num", .int z]) (u := .int z) ⟨z1, z2⟩ (fun nm s => Ev.num z1 z2 (Nat.le_refl 3)), leaf_num h7 hn' hz' h⟩
/-- a truth, now and then -/
theorem truth_ok (h7 : P7 s7) (ht : ∀ e ∈ ts, GE f g n1 n2 27 Du.tru e) (hn : ts.length ≤ 1000) :
    ∃ ts', (∀ e ∈ ts', GE f g n1 n2 27 Du.tru e) ∧ ts'.length ≤ ts.length + 1 ∧ exL (phi fx (k + 1)) q_law_9 (lr sc base at_ f g n1 n2 s7 (V (.int c)) r9 r10 r11 r12 r13 r14) [.ol ns, .ol ts] = .nx (lr sc base at_ f g n1 n2 s7 (V (.int c)) r9 r10 r11 r12 r13 r14) [.ol ns, .ol ts'] := by
  have hn' : ts.length < 16777216 := by omega
  have q := eq_op (a := (c.fdiv 19).fmod 2) (b := 1) rfl
  by_cases h : c.fmod 19 = 4
  · have q3 := eq_op (decide_eq_true h)
    refine ⟨ts ++ [.tup [.tup [.str "truth", .bl (decide ((c.fdiv 19).fmod 2 = 1))], .bl (decide ((c.fdiv 19).fmod 2 = 1)), .int 1]], fun e he => ?_, by rw [List.length_append]; exact Nat.le_refl _, ?_⟩
    · rcases List.mem_append.mp he with he | he
      · exact ht e he
      · rw [List.mem_singleton] at he
        exact ⟨_, .bl (decide ((c.fdiv 19).fmod 2 = 1)), 1, he, by omega, by omega, trivial, fun nm s => Ev.truth (Nat.le_refl 3)⟩
    · rcases h7 with rfl | rfl
      · (apply exL_iftL; (· apply evT_e; (· apply rd_cmp; (· apply ev_cmp; (· apply rd_bin; (· apply ev_bin; (· exact rd_var rfl); (· exact rd_int); (· exact fmd (by decide)))); (· exact rd_int); (· exact q3))); (· rfl)))
        (apply stp2; (· apply ex_capp; (· apply ev_sub; (· exact rd_var rfl); (· exact ev_int); (· rfl)); (· rfl); (· apply ev_tup; (· apply evL_cons; (· apply ev_tup; (· apply evL_cons; (· exact ev_str); (· apply evL_cons; (· apply ev_cmp; (· apply rd_bin; (· apply ev_bin; (· apply rd_bin; (· apply ev_bin; (· exact rd_var rfl); (· exact rd_int); (· exact fdv (by decide) (by decide)))); (· exact rd_int); (· exact fmd (by decide)))); (· exact rd_int); (· exact q)); (· exact evL_nil))); (· exact Nat.le_of_ble_eq_true rfl)); (· apply evL_cons; (· apply ev_cmp; (· apply rd_bin; (· apply ev_bin; (· apply rd_bin; (· apply ev_bin; (· exact rd_var rfl); (· exact rd_int); (· exact fdv (by decide) (by decide)))); (· exact rd_int); (· exact fmd (by decide)))); (· exact rd_int); (· exact q)); (· apply evL_cons; (· exact ev_int); (· exact evL_nil)))); (· exact Nat.le_of_ble_eq_true rfl)); (· rfl); (· assumption)))
        exact exL_nil
      · (apply exL_iftL; (· apply evT_e; (· apply rd_cmp; (· apply ev_cmp; (· apply rd_bin; (· apply ev_bin; (· exact rd_var rfl); (· exact rd_int); (· exact fmd (by decide)))); (· exact rd_int); (· exact q3))); (· rfl)))
        (apply stp2; (· apply ex_capp; (· apply ev_sub; (· exact rd_var rfl); (· exact ev_int); (· rfl)); (· rfl); (· apply ev_tup; (· apply evL_cons; (· apply ev_tup; (· apply evL_cons; (· exact ev_str); (· apply evL_cons; (· apply ev_cmp; (· apply rd_bin; (· apply ev_bin; (· apply rd_bin; (· apply ev_bin; (· exact rd_var rfl); (· exact rd_int); (· exact fdv (by decide) (by decide)))); (· exact rd_int); (· exact fmd (by decide)))); (· exact rd_int); (· exact q)); (· exact evL_nil))); (· exact Nat.le_of_ble_eq_true rfl)); (· apply evL_cons; (· apply ev_cmp; (· apply rd_bin; (· apply ev_bin; (· apply rd_bin; (· apply ev_bin; (· exact rd_var rfl); (· exact rd_int); (· exact fdv (by decide) (by decide)))); (· exact rd_int); (· exact fmd (by decide)))); (· exact rd_int); (· exact q)); (· apply evL_cons; (· exact ev_int); (· exact evL_nil)))); (· exact Nat.le_of_ble_eq_true rfl)); (· rfl); (· assumption)))
        exact exL_nil
  · have q3 := eq_op (decide_eq_false h)
    refine ⟨ts, ht, Nat.le_succ _, ?_⟩
    (apply exL_iff0; (· apply evT_e; (· apply rd_cmp; (· apply ev_cmp; (· apply rd_bin; (· apply ev_bin; (· exact rd_var rfl); (· exact rd_int); (· exact fmd (by decide)))); (· exact rd_int); (· exact q3))); (· rfl)))
    exact exL_nil
end
end K04

/-! the law's loop, one turn and all -/
namespace K04
open PySem PySem.Spec PyProof.Rows L2 Pi
section
variable {k : Nat} {sc : List D} {base A B f g : Str} {at_ : Int} {n1 n2 : Int} {s7 : Sl} {r8 r9 r10 r11 r12 r13 r14 : Option Sl} {ns ts : List D} {c M : Int}
/-- the name's two ends -/
structure Cut (base A B : Str) (at_ : Int) : Prop where
  a : sliceD (.str base) .non (.int at_) = some (.str A)
  b : sliceD (.str base) (.int (at_ + 1)) .non = some (.str B)
  la : A.length ≤ 12
  lb : B.length ≤ 12
theorem app_op {x y : Str} (h : x.length + y.length ≤ 100) : o2D .add (.str x) (.str y) = some (.str (x ++ y)) := if_pos (Nat.le_trans h (sz (by decide)))
theorem mid_a {x : Nat} (h : A.length ≤ 12) : o2D .add (.str A) (.str ⟨#[x]⟩) = some (.str (A ++ (⟨#[x]⟩ : Str))) := app_op (by rw [one_len]; omega)
theorem mid_b {x : Nat} (h : A.length ≤ 12) (h2 : B.length ≤ 12) : o2D .add (.str (A ++ (⟨#[x]⟩ : Str))) (.str B) = some (.str (A ++ (⟨#[x]⟩ : Str) ++ B)) := app_op (by rw [Str.length_append, one_len]; omega)
theorem uvwx {i : Int} (h0 : 0 ≤ i) (h1 : i < 4) : ∃ x : Nat, x ≠ 121 ∧ x ≠ 122 ∧ subD (.str "uvwx") (.int i) = some (.str ⟨#[x]⟩) := by
  have : i = 0 ∨ i = 1 ∨ i = 2 ∨ i = 3 := by omega
  rcases this with rfl | rfl | rfl | rfl
  · exact ⟨117, by decide, by decide, by rfl⟩
  · exact ⟨118, by decide, by decide, by rfl⟩
  · exact ⟨119, by decide, by decide, by rfl⟩
  · exact ⟨120, by decide, by decide, by rfl⟩
theorem join_turn {x : Nat} {S' : Sto} (h7 : P7 s7) (hc : Cut base A B at_) (hx : subD (.str "uvwx") (.int ((c.fdiv 54).fmod 4)) = some (.str ⟨#[x]⟩))
    (hj : (phi fx (k + 2)).call 36 [.lst pls, .int (c.fdiv 3), .str (A ++ (⟨#[x]⟩ : Str) ++ B), .str f] [.ol ns, .ol ts] = .ok .non S') :
    exL (phi fx (k + 2)) q_law_7 (lr sc base at_ f g n1 n2 s7 (V (.int c)) r9 r10 r11 r12 r13 r14) [.ol ns, .ol ts] = .nx (lr sc base at_ f g n1 n2 (.v (.lst pls)) (V (.int c)) r9 r10 r11 r12 r13 r14) S' := by
  have c1 := hc.a
  have c2 := hc.b
  have c3 := mid_a (x := x) hc.la
  have c4 := mid_b (x := x) hc.la hc.lb
  rcases h7 with rfl | rfl
  · (refine exL_frz rfl ?_; apply stp2; (· apply ex_ex; (· apply ev_call; (· apply evL_cons; (· exact ev_var rfl); (· apply evL_cons; (· apply ev_bin; (· exact rd_var rfl); (· exact rd_int); (· exact fdv (by decide) (by decide))); (· apply evL_cons; (· apply ev_bin; (· apply rd_bin; (· apply ev_bin; (· apply rd_slice; (· apply ev_slice; (· exact rd_var rfl); (· exact partO_non); (· apply partO_int; (· exact ev_var rfl)); (· exact c1))); (· apply rd_sub; (· apply ev_sub; (· exact rd_str); (· apply ev_bin; (· apply rd_bin; (· apply ev_bin; (· exact rd_var rfl); (· exact rd_int); (· exact fdv (by decide) (by decide)))); (· exact rd_int); (· exact fmd (by decide))); (· exact hx))); (· exact c3))); (· apply rd_slice; (· apply ev_slice; (· exact rd_var rfl); (· apply partO_int; (· apply ev_bin; (· exact rd_var rfl); (· exact rd_int); (· rfl))); (· exact partO_non); (· exact c2))); (· exact c4)); (· apply evL_cons; (· exact ev_var rfl); (· exact evL_nil))))); (· exact hj))))
    exact exL_nil
  · (refine exL_frz rfl ?_; apply stp2; (· apply ex_ex; (· apply ev_call; (· apply evL_cons; (· exact ev_var rfl); (· apply evL_cons; (· apply ev_bin; (· exact rd_var rfl); (· exact rd_int); (· exact fdv (by decide) (by decide))); (· apply evL_cons; (· apply ev_bin; (· apply rd_bin; (· apply ev_bin; (· apply rd_slice; (· apply ev_slice; (· exact rd_var rfl); (· exact partO_non); (· apply partO_int; (· exact ev_var rfl)); (· exact c1))); (· apply rd_sub; (· apply ev_sub; (· exact rd_str); (· apply ev_bin; (· apply rd_bin; (· apply ev_bin; (· exact rd_var rfl); (· exact rd_int); (· exact fdv (by decide) (by decide)))); (· exact rd_int); (· exact fmd (by decide))); (· exact hx))); (· exact c3))); (· apply rd_slice; (· apply ev_slice; (· exact rd_var rfl); (· apply partO_int; (· apply ev_bin; (· exact rd_var rfl); (· exact rd_int); (· rfl))); (· exact partO_non); (· exact c2))); (· exact c4)); (· apply evL_cons; (· exact ev_var rfl); (· exact evL_nil))))); (· exact hj))))
    exact exL_nil
end
end K04

/-! the law's loops -/
namespace K04
open PySem PySem.Spec PyProof.Rows L2 Pi
section
variable {k : Nat} {sc : List D} {base A B f g : Str} {at_ : Int} {n1 n2 : Int} {s7 : Sl} {r8 r9 r10 r11 r12 r13 r14 : Option Sl} {ns ts : List D} {c M : Int}
theorem GE.low {es : List E3} {e : D} (h : GE f g n1 n2 28 Du.num e) (he : e ∈ es.map e3) (hM : ∀ q ∈ es, (q.2.2 : Int) ≤ M) (h26 : M ≤ 26) : GE f g n1 n2 26 Du.num e := by
  obtain ⟨t, u, p, rfl, h1, h2, h3, h4⟩ := h
  obtain ⟨q, hq, e⟩ := List.mem_map.mp he
  have hp : (q.2.2 : Int) = (p : Int) := by
    simp only [e3, en, D.tup.injEq, List.cons.injEq, D.int.injEq] at e
    exact e.2.2.1
  have := hM q hq
  exact ⟨t, u, p, rfl, h1, by omega, h3, h4⟩
/-- what is known of the names -/
structure Nm (base A B f g : Str) (at_ n1 n2 : Int) : Prop where
  cut : Cut base A B at_
  f : f = A ++ (⟨#[121]⟩ : Str) ++ B
  g : g = A ++ (⟨#[122]⟩ : Str) ++ B
  b1 : -1000000000000 ≤ n1 ∧ n1 ≤ 1000000000000
  b2 : -1000000000000 ≤ n2 ∧ n2 ≤ 1000000000000
theorem Nm.ne (h : Nm base A B f g at_ n1 n2) : f ≠ g := by
  rw [h.f, h.g]
  intro e
  exact absurd (mid_inj e) (by decide)
/-- what stands after i turns -/
def Inv (sc : List D) (base f g : Str) (at_ n1 n2 : Int) (i : Nat) (r : Rho) (S : Sto) : Prop := ∃ s7 r8 r9 r10 r11 r12 r13 r14 ns ts, r = lr sc base at_ f g n1 n2 s7 r8 r9 r10 r11 r12 r13 r14 ∧ S = [.ol ns, .ol ts] ∧ P7 s7 ∧ ns ≠ [] ∧ (∀ e ∈ ns, GE f g n1 n2 28 Du.num e) ∧ (∀ e ∈ ts, GE f g n1 n2 27 Du.tru e) ∧ ns.length ≤ 1 + i ∧ ts.length ≤ 1 + 2 * i
theorem turn_ok (hm : Nm base A B f g at_ n1 n2) {i : Nat} (hi : i ≤ 200) {r : Rho} {S : Sto} (hI : Inv sc base f g at_ n1 n2 i r S) : ∃ r' S', forB (phi fx (k + 2)) (.nm 8) q_law_11 (.int c) r S = .nx r' S' ∧ Inv sc base f g at_ n1 n2 (i + 1) r' S' := by
  obtain ⟨s7, r8, r9, r10, r11, r12, r13, r14, ns, ts, rfl, rfl, h7, hne, hns, hts, hl, hlt⟩ := hI
  obtain ⟨es, rfl⟩ := es_of hns
  have hne' : es ≠ [] := fun e => hne (by rw [e]; rfl)
  obtain ⟨M, hM, hle⟩ := max_es hne'
  have hes : (es.map e3).length = es.length := List.length_map ..
  have qa := eq_op (a := c.fmod 3) (b := 0) rfl
  have hmax := fun (r9 r10 r11 r12 r13 r14 : Option Sl) => max_ev (k := k + 2) (r0 := V (.lst sc)) (r1 := V (.str base)) (r2 := V (.int at_)) (r3 := V (.str f)) (r4 := V (.str g)) (r5 := some (.od (nm0 f g n1 n2))) (r6 := some (.od (nm0 f g n1 n2))) (r8 := V (.int c)) (r9 := r9) (r10 := r10) (r11 := r11) (r12 := r12) (r13 := r13) (r14 := r14) (s7 := s7) (es := es) (ts := ts) h7 (by omega) hM
  have hd : ∀ s7' e' ts' r12' r13' r14', P7 s7' → (∀ e ∈ ts', GE f g n1 n2 27 Du.tru e) → ts'.length ≤ ts.length + 1 → ∃ ts'', (∀ e ∈ ts'', GE f g n1 n2 27 Du.tru e) ∧ ts''.length ≤ ts.length + 2 ∧ exL (phi fx (k + 2)) q_law_9 (lr sc base at_ f g n1 n2 s7' (V (.int c)) r9 (V (.int M)) r11 r12' r13' r14') [.ol e', .ol ts'] = .nx (lr sc base at_ f g n1 n2 s7' (V (.int c)) r9 (V (.int M)) r11 r12' r13' r14') [.ol e', .ol ts''] := by
    intro s7' e' ts' r12' r13' r14' h1 h2 h3
    obtain ⟨ts'', q1, q2, q3⟩ := truth_ok (k := k + 1) (sc := sc) (base := base) (at_ := at_) (f := f) (g := g) (n1 := n1) (n2 := n2) (r9 := r9) (r10 := V (.int M)) (r11 := r11) (r12 := r12') (r13 := r13') (r14 := r14') (ns := e') (c := c) h1 h2 (by omega)
    exact ⟨ts'', q1, by omega, q3⟩
  by_cases hc : c.fmod 3 = 0 ∨ es.length < 2 ∨ 26 < M
  · -- a leaf
    obtain ⟨e', s12, s13, s14, ge, ee⟩ := leaf_ok (k := k + 1) (sc := sc) (base := base) (at_ := at_) (f := f) (g := g) (n1 := n1) (n2 := n2) (s7 := s7) (r9 := r9) (r10 := V (.int M)) (r11 := r11) (r12 := r12) (r13 := r13) (r14 := r14) (ns := es.map e3) (ts := ts) (c := c) hm.ne hm.b1 hm.b2 h7 (by omega)
    obtain ⟨ts'', q1, q2, q3⟩ := hd s7 (es.map e3 ++ [e']) ts s12 s13 s14 h7 hts (by omega)
    refine ⟨_, _, ?_, s7, V (.int c), r9, V (.int M), r11, s12, s13, s14, es.map e3 ++ [e'], ts'', rfl, rfl, h7, by simp, ?_, q1, by rw [List.length_append]; simp; omega, by omega⟩
    · apply fb_of
      · rfl
      · (skip)
        refine stp2 (ex_set (hmax _ _ _ _ _ _) rfl) ?_
        (skip)
        refine exL_iftN ?_ ee q3
        rcases h7 with rfl | rfl
        · by_cases h1 : c.fmod 3 = 0
          · rw [decide_eq_true h1] at qa
            apply evT_or_t
            (apply evT_e; (· apply rd_cmp; (· apply ev_cmp; (· apply rd_bin; (· apply ev_bin; (· exact rd_var rfl); (· exact rd_int); (· exact fmd (by decide)))); (· exact rd_int); (· exact qa))); (· rfl))
          · rw [decide_eq_false h1] at qa
            apply evT_or_f
            · (apply evT_e; (· apply rd_cmp; (· apply ev_cmp; (· apply rd_bin; (· apply ev_bin; (· exact rd_var rfl); (· exact rd_int); (· exact fmd (by decide)))); (· exact rd_int); (· exact qa))); (· rfl))
            · by_cases h2 : es.length < 2
              · apply evT_or_t
                (apply evT_e; (· apply rd_cmp; (· apply ev_cmp; (· apply rd_bi; (· apply ev_bi; (· apply rd_sub; (· apply ev_sub; (· exact rd_var rfl); (· exact ev_int); (· rfl))); (· rfl))); (· exact rd_int); (· rfl))); (· refine congrArg some ?_; exact decide_eq_true (by omega)))
              · have h3 : 26 < M := by omega
                apply evT_or_f
                · (apply evT_e; (· apply rd_cmp; (· apply ev_cmp; (· apply rd_bi; (· apply ev_bi; (· apply rd_sub; (· apply ev_sub; (· exact rd_var rfl); (· exact ev_int); (· rfl))); (· rfl))); (· exact rd_int); (· rfl))); (· refine congrArg some ?_; exact decide_eq_false (by omega)))
                · (apply evT_e; (· apply rd_cmp; (· apply ev_cmp; (· exact rd_var rfl); (· exact rd_int); (· rfl))); (· refine congrArg some ?_; exact decide_eq_true (by omega)))
        · by_cases h1 : c.fmod 3 = 0
          · rw [decide_eq_true h1] at qa
            apply evT_or_t
            (apply evT_e; (· apply rd_cmp; (· apply ev_cmp; (· apply rd_bin; (· apply ev_bin; (· exact rd_var rfl); (· exact rd_int); (· exact fmd (by decide)))); (· exact rd_int); (· exact qa))); (· rfl))
          · rw [decide_eq_false h1] at qa
            apply evT_or_f
            · (apply evT_e; (· apply rd_cmp; (· apply ev_cmp; (· apply rd_bin; (· apply ev_bin; (· exact rd_var rfl); (· exact rd_int); (· exact fmd (by decide)))); (· exact rd_int); (· exact qa))); (· rfl))
            · by_cases h2 : es.length < 2
              · apply evT_or_t
                (apply evT_e; (· apply rd_cmp; (· apply ev_cmp; (· apply rd_bi; (· apply ev_bi; (· apply rd_sub; (· apply ev_sub; (· exact rd_var rfl); (· exact ev_int); (· rfl))); (· rfl))); (· exact rd_int); (· rfl))); (· refine congrArg some ?_; exact decide_eq_true (by omega)))
              · have h3 : 26 < M := by omega
                apply evT_or_f
                · (apply evT_e; (· apply rd_cmp; (· apply ev_cmp; (· apply rd_bi; (· apply ev_bi; (· apply rd_sub; (· apply ev_sub; (· exact rd_var rfl); (· exact ev_int); (· rfl))); (· rfl))); (· exact rd_int); (· rfl))); (· refine congrArg some ?_; exact decide_eq_false (by omega)))
                · (apply evT_e; (· apply rd_cmp; (· apply ev_cmp; (· exact rd_var rfl); (· exact rd_int); (· rfl))); (· refine congrArg some ?_; exact decide_eq_true (by omega)))
    · intro e he
      rcases List.mem_append.mp he with he | he
      · exact hns e he
      · rw [List.mem_singleton] at he
        exact he ▸ ge
  · -- two are joined
    have h1 : c.fmod 3 ≠ 0 := fun e => hc (.inl e)
    have h2 : ¬ es.length < 2 := fun e => hc (.inr (.inl e))
    have h3 : ¬ 26 < M := fun e => hc (.inr (.inr e))
    rw [decide_eq_false h1] at qa
    obtain ⟨n0, el, er, en'⟩ : ∃ n0 el er, es.map e3 = (n0 ++ [el]) ++ [er] := by
      rcases List.eq_nil_or_concat (es.map e3) with e | ⟨a, er, e⟩
      · rw [e] at hes; simp at hes; omega
      · rw [List.concat_eq_append] at e
        rcases List.eq_nil_or_concat a with e2 | ⟨n0, el, e2⟩
        · rw [e, e2] at hes; simp at hes; omega
        · rw [List.concat_eq_append] at e2
          exact ⟨n0, el, er, by rw [e, e2]⟩
    have i0 : 0 ≤ (c.fdiv 54).fmod 4 := Int.fmod_nonneg_of_pos _ (by decide)
    have i1 : (c.fdiv 54).fmod 4 < 4 := Int.fmod_lt_of_pos _ (by decide)
    obtain ⟨x, x1, x2, hx⟩ := uvwx i0 i1
    have ln : n0.length + 2 = es.length := by
      have := congrArg List.length en'
      simp at this
      omega
    have mem1 : el ∈ es.map e3 := by rw [en']; simp
    have mem2 : er ∈ es.map e3 := by rw [en']; simp
    obtain ⟨e', ts', hj, ge, gt, lt⟩ := joined_ok (k := k) (c := c.fdiv 3) (x := A ++ (⟨#[x]⟩ : Str) ++ B) (f := f) (g := g) (n1 := n1) (n2 := n2) (ns := n0) (ts := ts) (el := el) (er := er)
      (by rw [hm.f]; intro e; exact x1 (mid_inj e)) (by rw [hm.g]; intro e; exact x2 (mid_inj e)) ((hns el mem1).low mem1 hle (by omega)) ((hns er mem2).low mem2 hle (by omega)) hts (by omega) (by omega)
    rw [← en'] at hj
    have ee := join_turn (k := k) (sc := sc) (g := g) (n1 := n1) (n2 := n2) (r9 := r9) (r10 := V (.int M)) (r11 := r11) (r12 := r12) (r13 := r13) (r14 := r14) h7 hm.cut hx hj
    obtain ⟨ts'', q1, q2, q3⟩ := hd (.v (.lst pls)) (n0 ++ [e']) ts' r12 r13 r14 (.inr rfl) gt lt
    refine ⟨_, _, ?_, .v (.lst pls), V (.int c), r9, V (.int M), r11, r12, r13, r14, n0 ++ [e'], ts'', rfl, rfl, .inr rfl, by simp, ?_, q1, by rw [List.length_append]; simp; omega, by omega⟩
    · apply fb_of
      · rfl
      · (skip)
        refine stp2 (ex_set (hmax _ _ _ _ _ _) rfl) ?_
        (skip)
        refine exL_iffN ?_ ee q3
        rcases h7 with rfl | rfl
        · apply evT_or_f
          · (apply evT_e; (· apply rd_cmp; (· apply ev_cmp; (· apply rd_bin; (· apply ev_bin; (· exact rd_var rfl); (· exact rd_int); (· exact fmd (by decide)))); (· exact rd_int); (· exact qa))); (· rfl))
          · apply evT_or_f
            · (apply evT_e; (· apply rd_cmp; (· apply ev_cmp; (· apply rd_bi; (· apply ev_bi; (· apply rd_sub; (· apply ev_sub; (· exact rd_var rfl); (· exact ev_int); (· rfl))); (· rfl))); (· exact rd_int); (· rfl))); (· refine congrArg some ?_; exact decide_eq_false (by omega)))
            · (apply evT_e; (· apply rd_cmp; (· apply ev_cmp; (· exact rd_var rfl); (· exact rd_int); (· rfl))); (· refine congrArg some ?_; exact decide_eq_false (by omega)))
        · apply evT_or_f
          · (apply evT_e; (· apply rd_cmp; (· apply ev_cmp; (· apply rd_bin; (· apply ev_bin; (· exact rd_var rfl); (· exact rd_int); (· exact fmd (by decide)))); (· exact rd_int); (· exact qa))); (· rfl))
          · apply evT_or_f
            · (apply evT_e; (· apply rd_cmp; (· apply ev_cmp; (· apply rd_bi; (· apply ev_bi; (· apply rd_sub; (· apply ev_sub; (· exact rd_var rfl); (· exact ev_int); (· rfl))); (· rfl))); (· exact rd_int); (· rfl))); (· refine congrArg some ?_; exact decide_eq_false (by omega)))
            · (apply evT_e; (· apply rd_cmp; (· apply ev_cmp; (· exact rd_var rfl); (· exact rd_int); (· rfl))); (· refine congrArg some ?_; exact decide_eq_false (by omega)))
    · intro e he
      rcases List.mem_append.mp he with he | he
      · exact hns e (by rw [en']; simp [he])
      · rw [List.mem_singleton] at he
        exact he ▸ ge
/-- the loop -/
theorem loop_ok (hm : Nm base A B f g at_ n1 n2) {xs : List Int} (hx : xs.length ≤ 100) {r : Rho} {S : Sto} (hI : Inv sc base f g at_ n1 n2 0 r S) : ∃ r' S', forS (forB (phi fx (k + 2)) (.nm 8) q_law_11) (xs.map D.int) r S = .nx r' S' ∧ Inv sc base f g at_ n1 n2 xs.length r' S' := by
  obtain ⟨r', S', e, h⟩ := forS_inv (f := forB (phi fx (k + 2)) (.nm 8) q_law_11) (xs := xs.map D.int) (fun i r S => Inv sc base f g at_ n1 n2 i r S) (by
    intro i x r S hx' hI
    have hi : i < xs.length := by
      have := (List.getElem?_eq_some_iff.mp hx').1
      rwa [List.length_map] at this
    rw [List.getElem?_map, List.getElem?_eq_getElem hi, Option.map_some, Option.some.injEq] at hx'
    subst hx'
    exact turn_ok hm (by omega) hI) 0 (Nat.zero_le _) hI
  rw [List.length_map] at h
  exact ⟨r', S', by simpa using e, h⟩
end
end K04

/-! the law -/
namespace K04
open PySem PySem.Spec PyProof.Rows L2 Pi
/-- while the trees are tried -/
abbrev lt (sc : List D) (base : Str) (at_ : Int) (f g : Str) (n1 n2 : Int) (s6 s7 : Sl) (r8 r9 r10 r11 r12 r13 r14 : Option Sl) : Rho := [V (.lst sc), V (.str base), V (.int at_), V (.str f), V (.str g), some (.od (nm0 f g n1 n2)), some s6, some s7, r8, r9, r10, r11, r12, r13, r14]
section
variable {k : Nat} {cs : List Int} {base A B f g : Str} {at_ : Int} {n1 n2 : Int} {s6 s7 : Sl} {r8 r9 r10 r11 r12 r13 r14 : Option Sl} {ns ts : List D} {S : Sto}
theorem try_ok (hne : f ≠ g) (h6 : s6 = .od (nm0 f g n1 n2) ∨ s6 = .v (.dic (nm0 f g n1 n2))) {top : Nat} {P : Du → Prop} (ht : top ≤ 900) {e : D} (he : GE f g n1 n2 top P e) :
    ∃ r' more, forB (phi fx (k + 6)) (.nm 9) q_law_14 e (lt (cs.map D.int) base at_ f g n1 n2 s6 s7 r8 r9 r10 r11 r12 r13 r14) S = .nx (lt (cs.map D.int) base at_ f g n1 n2 (.v (.dic (nm0 f g n1 n2))) s7 r8 (V e) r10 r' r12 r13 r14) (S ++ more) := by
  obtain ⟨t, u, p, rfl, h1, h2, _, hev⟩ := he
  have q1 := cell_ok (k := k + 5) (S := S) cs 1
  obtain ⟨more, q2⟩ := told_ok (k := k) (S0 := S) (nm := nm0 f g n1 n2) (p := (cellAt cs 1).fmod 2) (hev _ (sc0 hne (by omega))) (by omega)
  have q3 := alike_ok (k := k + 5) (S := S ++ more) (u := u)
  have q4 := ne0 (n1 := n1) (n2 := n2) hne
  refine ⟨V u.d, more, ?_⟩
  rcases h6 with rfl | rfl
  · apply fb_of
    · rfl
    · (refine exL_frz rfl ?_; apply stp2; (· apply ex_set; (· apply ev_call; (· apply evL_cons; (· exact ev_var rfl); (· apply evL_cons; (· apply ev_sub; (· exact rd_var rfl); (· exact ev_int); (· rfl)); (· apply evL_cons; (· apply ev_bin; (· apply rd_call; (· apply ev_call; (· apply evL_cons; (· exact ev_var rfl); (· apply evL_cons; (· exact ev_int); (· exact evL_nil))); (· exact q1))); (· exact rd_int); (· exact fmd (by decide))); (· exact evL_nil)))); (· exact q2)); (· rfl)))
      (refine exL_frz rfl ?_; apply exL_iff0; (· apply evT_or_f; (· apply evT_not_f; (· apply evT_e; (· apply rd_call; (· apply ev_call; (· apply evL_cons; (· exact ev_var rfl); (· apply evL_cons; (· apply ev_sub; (· exact rd_var rfl); (· exact ev_int); (· rfl)); (· exact evL_nil))); (· exact q3))); (· rfl))); (· apply evT_e; (· apply rd_cmp; (· apply ev_cmp; (· exact rd_var rfl); (· exact rd_var rfl); (· exact q4))); (· rfl))))
      exact exL_nil
  · apply fb_of
    · rfl
    · (refine exL_frz rfl ?_; apply stp2; (· apply ex_set; (· apply ev_call; (· apply evL_cons; (· exact ev_var rfl); (· apply evL_cons; (· apply ev_sub; (· exact rd_var rfl); (· exact ev_int); (· rfl)); (· apply evL_cons; (· apply ev_bin; (· apply rd_call; (· apply ev_call; (· apply evL_cons; (· exact ev_var rfl); (· apply evL_cons; (· exact ev_int); (· exact evL_nil))); (· exact q1))); (· exact rd_int); (· exact fmd (by decide))); (· exact evL_nil)))); (· exact q2)); (· rfl)))
      (refine exL_frz rfl ?_; apply exL_iff0; (· apply evT_or_f; (· apply evT_not_f; (· apply evT_e; (· apply rd_call; (· apply ev_call; (· apply evL_cons; (· exact ev_var rfl); (· apply evL_cons; (· apply ev_sub; (· exact rd_var rfl); (· exact ev_int); (· rfl)); (· exact evL_nil))); (· exact q3))); (· rfl))); (· apply evT_e; (· apply rd_cmp; (· apply ev_cmp; (· exact rd_var rfl); (· exact rd_var rfl); (· exact q4))); (· rfl))))
      exact exL_nil
theorem tries_ok (hne : f ≠ g) (h7 : s6 = .od (nm0 f g n1 n2) ∨ s6 = .v (.dic (nm0 f g n1 n2))) {xs : List D} (hx : ∀ e ∈ xs, GE f g n1 n2 28 Du.num e ∨ GE f g n1 n2 27 Du.tru e) :
    ∃ r' S', forS (forB (phi fx (k + 6)) (.nm 9) q_law_14) xs (lt (cs.map D.int) base at_ f g n1 n2 s6 s7 r8 r9 r10 r11 r12 r13 r14) S = .nx r' S' := by
  obtain ⟨r', S', e, _⟩ := forS_inv (f := forB (phi fx (k + 6)) (.nm 9) q_law_14) (xs := xs) (fun i r S => ∃ s6 r9 r11, (s6 = .od (nm0 f g n1 n2) ∨ s6 = .v (.dic (nm0 f g n1 n2))) ∧ r = lt (cs.map D.int) base at_ f g n1 n2 s6 s7 r8 r9 r10 r11 r12 r13 r14) (by
    rintro i x r S hx' ⟨s6, r9, r11, h6, rfl⟩
    have hm := List.mem_of_getElem? hx'
    rcases hx x hm with h | h
    · obtain ⟨r', more, e⟩ := try_ok (k := k) (cs := cs) (base := base) (at_ := at_) (s7 := s7) (r8 := r8) (r9 := r9) (r10 := r10) (r11 := r11) (r12 := r12) (r13 := r13) (r14 := r14) (S := S) hne h6 (by omega) h
      exact ⟨_, _, e, _, _, _, .inr rfl, rfl⟩
    · obtain ⟨r', more, e⟩ := try_ok (k := k) (cs := cs) (base := base) (at_ := at_) (s7 := s7) (r8 := r8) (r9 := r9) (r10 := r10) (r11 := r11) (r12 := r12) (r13 := r13) (r14 := r14) (S := S) hne h6 (by omega) h
      exact ⟨_, _, e, _, _, _, .inr rfl, rfl⟩) 0 (Nat.zero_le _) ⟨s6, r9, r11, h7, rfl⟩
  exact ⟨r', S', by simpa using e⟩
theorem cut_last {xs : List D} {v : Int} (h : v < 0) : ∃ ys, (∀ e ∈ ys, e ∈ xs) ∧ ys.length ≤ xs.length ∧ sliceD (.lst xs) (.int v) .non = some (.lst ys) := by
  refine ⟨(xs.drop (v + (xs.length : Int)).toNat).take (xs.length - (v + (xs.length : Int)).toNat), fun e he => List.mem_of_mem_drop (List.mem_of_mem_take he), ?_, ?_⟩
  · rw [List.length_take, List.length_drop]; omega
  · show ((some (if v < 0 then _ else _) : Option Nat).bind fun i => (some xs.length).map fun j => D.lst ((xs.drop i).take (j - i))) = _
    rw [if_pos h]
    rfl
theorem cut_two {xs : List Int} : ∃ ys : List Int, ys.length ≤ xs.length ∧ sliceD (.lst (xs.map D.int)) (.int 2) .non = some (.lst (ys.map D.int)) := by
  refine ⟨(xs.drop (min 2 xs.length)).take (xs.length - min 2 xs.length), ?_, ?_⟩
  · rw [List.length_take, List.length_drop]; omega
  · show ((some (if (2 : Int) < 0 then _ else min (2 : Int).toNat (xs.map D.int).length) : Option Nat).bind fun i => (some (xs.map D.int).length).map fun j => D.lst (((xs.map D.int).drop i).take (j - i))) = _
    rw [if_neg (by decide), List.length_map, List.map_take, List.map_drop]
    rfl
theorem y_eq : ("y" : Str) = ⟨#[121]⟩ := by decide
theorem z_eq : ("z" : Str) = ⟨#[122]⟩ := by decide
/-- all but the beginning -/
theorem law_tail (hm : Nm base A B f g at_ n1 n2) (hl : cs.length ≤ 63) {r : Rho} {S : Sto} (hI : Inv (cs.map D.int) base f g at_ n1 n2 0 r S) : ∃ S', exL (phi fx (k + 6)) q_law_17 r S = .rt (.bl true) S' := by
  obtain ⟨xs, hx, hs⟩ := cut_two (xs := cs)
  obtain ⟨r1, S1, e1, s7, r8, r9, r10, r11, r12, r13, r14, ns, ts, rfl, rfl, h7, _, g1, g2, l1, l2⟩ := loop_ok (k := k + 4) hm (xs := xs) (by omega) hI
  obtain ⟨y1, m1, b1, c1⟩ := cut_last (xs := ns) (v := -2) (by decide)
  obtain ⟨y2, m2, b2, c2⟩ := cut_last (xs := ts) (v := -1) (by decide)
  have c3 : o2D .add (.lst y1) (.lst y2) = some (.lst (y1 ++ y2)) := if_pos (Nat.le_trans (m := 1000) (by omega) (sz (by decide)))
  obtain ⟨r2, S2, e2⟩ := tries_ok (k := k) (cs := cs) (base := base) (at_ := at_) (f := f) (g := g) (n1 := n1) (n2 := n2) (s6 := .od (nm0 f g n1 n2)) (s7 := s7) (r8 := r8) (r9 := r9) (r10 := r10) (r11 := r11) (r12 := r12) (r13 := r13) (r14 := r14) (S := [.ol ns, .ol ts]) hm.ne (.inl rfl) (xs := y1 ++ y2) (fun e he => by
    rcases List.mem_append.mp he with he | he
    · exact .inl (g1 e (m1 e he))
    · exact .inr (g2 e (m2 e he)))
  obtain ⟨q7, q8, q9, q10, q11, q12, q13, q14, qn, qt, hr, hS, _⟩ := hI
  refine ⟨S2, ?_⟩
  refine stp2 (S' := [.ol ns, .ol ts]) (r' := lr (cs.map D.int) base at_ f g n1 n2 s7 r8 r9 r10 r11 r12 r13 r14) ?_ ?_
  · refine ex_loop (xs := xs.map D.int) (S' := S) (evI_over (x := .lst (xs.map D.int)) ?_ rfl) e1
    subst hr
    (apply ev_slice; (· exact rd_var rfl); (· apply partO_int; (· exact ev_int)); (· exact partO_non); (· exact hs))
  · refine stp2 (r' := r2) (S' := S2) ?_ (stp_rt (ex_ret ev_bl))
    refine ex_loop (xs := y1 ++ y2) (S' := [.ol ns, .ol ts]) (evI_over (x := .lst (y1 ++ y2)) ?_ rfl) e2
    rcases h7 with rfl | rfl
    · (apply ev_bin; (· apply rd_slice; (· apply ev_slice; (· apply rd_sub; (· apply ev_sub; (· exact rd_var rfl); (· exact ev_int); (· rfl))); (· apply partO_int; (· apply ev_neg; (· exact ev_int))); (· exact partO_non); (· exact c1))); (· apply rd_slice; (· apply ev_slice; (· apply rd_sub; (· apply ev_sub; (· exact rd_var rfl); (· exact ev_int); (· rfl))); (· apply partO_int; (· apply ev_neg; (· exact ev_int))); (· exact partO_non); (· exact c2))); (· exact c3))
    · (apply ev_bin; (· apply rd_slice; (· apply ev_slice; (· apply rd_sub; (· apply ev_sub; (· exact rd_var rfl); (· exact ev_int); (· rfl))); (· apply partO_int; (· apply ev_neg; (· exact ev_int))); (· exact partO_non); (· exact c1))); (· apply rd_slice; (· apply ev_slice; (· apply rd_sub; (· apply ev_sub; (· exact rd_var rfl); (· exact ev_int); (· rfl))); (· apply partO_int; (· apply ev_neg; (· exact ev_int))); (· exact partO_non); (· exact c2))); (· exact c3))
end
end K04

/-! the law, from its beginning -/
namespace K04
open PySem PySem.Spec PyProof.Rows L2 Pi
theorem sl_len (x : Str) (l u : Option Int) : (Txt.slice x l u).length ≤ x.length := PyProof.Txt.length_slice_le x l u
theorem dct_two {f g : Str} {n1 n2 : Int} (h : f ≠ g) : dput (dput [] f (.int n1)) g (.int n2) = nm0 f g n1 n2 := by
  have : dput [] f (.int n1) = [(f, .int n1)] := rfl
  rw [this, dput_new (by simpa using fun e : g = f => h e.symm)]
  rfl
/-- the law's names at its beginning -/
abbrev lb0 (sc : List D) (r1 r2 r3 r4 r5 r6 r7 : Option Sl) : Rho := [V (.lst sc), r1, r2, r3, r4, r5, r6, r7, none, none, none, none, none, none, none]
theorem law_ok (cs : List Int) (hl : cs.length ≤ 63) : ∃ S, phi0.call lawNo [.lst (cs.map D.int)] [] = .ok (.bl true) S := by
  obtain ⟨base, l0, l1, hb⟩ := name_ok (c := cellAt cs 0)
  obtain ⟨n1, a1, a2, hn1⟩ := number_ok (c := cellAt cs 1)
  obtain ⟨n2, a3, a4, hn2⟩ := number_ok (c := cellAt cs 0)
  have lz : (base.length : Int) ≠ 0 := by omega
  have q1 := hb 18 []
  have q2 := hn1 18 []
  have q4 := fmd (i := cellAt cs 1) lz
  have q5 : biD .len (.str base) = some (.int (base.length : Nat)) := by
    show (if base.length ≤ sizeLine then some ((base.length : Nat) : Int) else none).map D.int = _
    rw [if_pos (Nat.le_trans l1 (sz (by decide)))]; rfl
  generalize ha : (cellAt cs 1).fmod (base.length : Int) = at_ at q4
  have hbl : base.length ≤ sizeLine := Nat.le_trans l1 (sz (by decide))
  have cut : Cut base (Txt.slice base none (some at_)) (Txt.slice base (some (at_ + 1)) none) at_ := ⟨by
    show (if base.length ≤ sizeLine then _ else none) = _
    rw [if_pos hbl], by
    show (if base.length ≤ sizeLine then _ else none) = _
    rw [if_pos hbl], Nat.le_trans (sl_len _ _ _) l1, Nat.le_trans (sl_len _ _ _) l1⟩
  generalize Txt.slice base none (some at_) = A at cut
  generalize Txt.slice base (some (at_ + 1)) none = B at cut
  have c1 := cut.a
  have c2 := cut.b
  have c3 : o2D .add (.str A) (.str "y") = some (.str (A ++ "y")) := by rw [y_eq]; exact mid_a cut.la
  have c4 : o2D .add (.str (A ++ "y")) (.str B) = some (.str (A ++ "y" ++ B)) := by rw [y_eq]; exact mid_b cut.la cut.lb
  have c5 : o2D .add (.str A) (.str "z") = some (.str (A ++ "z")) := by rw [z_eq]; exact mid_a cut.la
  have c6 : o2D .add (.str (A ++ "z")) (.str B) = some (.str (A ++ "z" ++ B)) := by rw [z_eq]; exact mid_b cut.la cut.lb
  generalize hf : A ++ "y" ++ B = f at c4
  generalize hg : A ++ "z" ++ B = g at c6
  have nm : Nm base A B f g at_ n1 n2 := ⟨cut, by rw [← hf, y_eq], by rw [← hg, z_eq], ⟨a1, a2⟩, ⟨a3, a4⟩⟩
  have inv : Inv (cs.map D.int) base f g at_ n1 n2 0 (lr (cs.map D.int) base at_ f g n1 n2 (.ol pls) none none none none none none none) [.ol [en (.tup [.str "num", .int 7]) (.int 7) 1], .ol [en (.tup [.str "truth", .bl true]) (.bl true) 1]] := by
    refine ⟨_, _, _, _, _, _, _, _, _, _, rfl, rfl, .inl rfl, by simp, ?_, ?_, Nat.le_refl _, Nat.le_refl _⟩
    · intro e he
      rw [List.mem_singleton] at he
      exact ⟨_, _, 1, he, by omega, by omega, ⟨by omega, by omega⟩, fun nm s => Ev.num (by omega) (by omega) (Nat.le_refl 3)⟩
    · intro e he
      rw [List.mem_singleton] at he
      exact ⟨_, _, 1, he, by omega, by omega, trivial, fun nm s => Ev.truth (Nat.le_refl 3)⟩
  obtain ⟨S', tail⟩ := law_tail (k := 13) nm hl inv
  refine ⟨S', ?_⟩
  refine call_rt (g := ⟨1, 15, b_law⟩) (r := lb0 (cs.map D.int) none none none none none none none) rfl rfl rfl ?_
  have k0 := cell_ok (k := 18) (S := []) cs 0
  have k1 := cell_ok (k := 18) (S := []) cs 1
  have q3 := hn2 18 []
  refine exL_frz (r' := lb0 (cs.map D.int) none none none none none none none) rfl ?_
  refine stp2 (r' := lb0 (cs.map D.int) (V (.str base)) none none none none none none) (S' := []) (ex_set (d := .str base) (S' := []) (ev_call (evL_cons (ev_call (evL_cons (ev_var rfl) (evL_cons ev_int evL_nil)) k0) evL_nil) q1) rfl) ?_
  refine exL_frz (r' := lb0 (cs.map D.int) (V (.str base)) none none none none none none) rfl ?_
  refine stp2 (r' := lb0 (cs.map D.int) (V (.str base)) (V (.int at_)) none none none none none) (S' := []) (ex_set (d := .int at_) (S' := []) (ev_bin (rd_call (ev_call (evL_cons (ev_var rfl) (evL_cons ev_int evL_nil)) k1)) (rd_bi (ev_bi (rd_var rfl) q5)) q4) rfl) ?_
  refine exL_frz (r' := lb0 (cs.map D.int) (V (.str base)) (V (.int at_)) none none none none none) rfl ?_
  refine stp2 (r' := lb0 (cs.map D.int) (V (.str base)) (V (.int at_)) (V (.str f)) none none none none) (S' := []) ?_ ?_
  · apply ex_set (d := .str f)
    · (apply ev_bin; (· apply rd_bin; (· apply ev_bin; (· apply rd_slice; (· apply ev_slice; (· exact rd_var rfl); (· exact partO_non); (· apply partO_int; (· exact ev_var rfl)); (· exact c1))); (· exact rd_str); (· exact c3))); (· apply rd_slice; (· apply ev_slice; (· exact rd_var rfl); (· apply partO_int; (· apply ev_bin; (· exact rd_var rfl); (· exact rd_int); (· rfl))); (· exact partO_non); (· exact c2))); (· exact c4))
    · rfl
  refine exL_frz (r' := lb0 (cs.map D.int) (V (.str base)) (V (.int at_)) (V (.str f)) none none none none) rfl ?_
  refine stp2 (r' := lb0 (cs.map D.int) (V (.str base)) (V (.int at_)) (V (.str f)) (V (.str g)) none none none) (S' := []) ?_ ?_
  · apply ex_set (d := .str g)
    · (apply ev_bin; (· apply rd_bin; (· apply ev_bin; (· apply rd_slice; (· apply ev_slice; (· exact rd_var rfl); (· exact partO_non); (· apply partO_int; (· exact ev_var rfl)); (· exact c1))); (· exact rd_str); (· exact c5))); (· apply rd_slice; (· apply ev_slice; (· exact rd_var rfl); (· apply partO_int; (· apply ev_bin; (· exact rd_var rfl); (· exact rd_int); (· rfl))); (· exact partO_non); (· exact c2))); (· exact c6))
    · rfl
  refine exL_frz (r' := lb0 (cs.map D.int) (V (.str base)) (V (.int at_)) (V (.str f)) (V (.str g)) none none none) rfl ?_
  refine stp2 (r' := lb0 (cs.map D.int) (V (.str base)) (V (.int at_)) (V (.str f)) (V (.str g)) (some (.od (nm0 f g n1 n2))) none none) (S' := []) ?_ ?_
  · rw [← dct_two nm.ne]
    exact ex_set (d := .dic (dput (dput [] f (.int n1)) g (.int n2))) (S' := []) (ev_dct (evD_cons (ev_var rfl) (ev_call (evL_cons (ev_call (evL_cons (ev_var rfl) (evL_cons ev_int evL_nil)) k1) evL_nil) q2) (evD_cons (ev_var rfl) (ev_call (evL_cons (ev_call (evL_cons (ev_var rfl) (evL_cons ev_int evL_nil)) k0) evL_nil) q3) evD_nil))) rfl
  refine stp2 (r' := lb0 (cs.map D.int) (V (.str base)) (V (.int at_)) (V (.str f)) (V (.str g)) (some (.od (nm0 f g n1 n2))) (some (.od (nm0 f g n1 n2))) none) (S' := []) ?_ ?_
  · apply ex_set (d := .dic (nm0 f g n1 n2))
    · (apply ev_bi; (· exact rd_var rfl); (· rfl))
    · rfl
  refine stp2 (r' := lr (cs.map D.int) base at_ f g n1 n2 (.ol pls) none none none none none none none) (S' := [.ol [en (.tup [.str "num", .int 7]) (.int 7) 1], .ol [en (.tup [.str "truth", .bl true]) (.bl true) 1]]) ?_ ?_
  · refine ex_set (d := .lst pls) (ev_lst (evL_cons (x := .obj 0) (S1 := [.ol [en (.tup [.str "num", .int 7]) (.int 7) 1]]) (ev_cell (S1 := []) (xs := [en (.tup [.str "num", .int 7]) (.int 7) 1]) ?_) (evL_cons (x := .obj 1) (ev_cell (S1 := [.ol [en (.tup [.str "num", .int 7]) (.int 7) 1]]) (xs := [en (.tup [.str "truth", .bl true]) (.bl true) 1]) ?_) evL_nil)) (sz (by decide))) rfl
    · (apply ev_lst; (· apply evL_cons; (· apply ev_tup; (· apply evL_cons; (· apply ev_tup; (· apply evL_cons; (· exact ev_str); (· apply evL_cons; (· exact ev_int); (· exact evL_nil))); (· exact Nat.le_of_ble_eq_true rfl)); (· apply evL_cons; (· exact ev_int); (· apply evL_cons; (· exact ev_int); (· exact evL_nil)))); (· exact Nat.le_of_ble_eq_true rfl)); (· exact evL_nil)); (· exact Nat.le_of_ble_eq_true rfl))
    · (apply ev_lst; (· apply evL_cons; (· apply ev_tup; (· apply evL_cons; (· apply ev_tup; (· apply evL_cons; (· exact ev_str); (· apply evL_cons; (· exact ev_bl); (· exact evL_nil))); (· exact Nat.le_of_ble_eq_true rfl)); (· apply evL_cons; (· exact ev_bl); (· apply evL_cons; (· exact ev_int); (· exact evL_nil)))); (· exact Nat.le_of_ble_eq_true rfl)); (· exact evL_nil)); (· exact Nat.le_of_ble_eq_true rfl))
  exact tail
theorem done : PySem.Challenge.rw_kindsure_k04_numbers_reckoned.Holds := holds_of fun ns hl _ => law_ok ns hl
end K04
theorem PySem.Challenge.cw_kindsure_k04_numbers_reckoned_holds : PySem.Challenge.rw_kindsure_k04_numbers_reckoned.Holds := by
  exact K04.done
