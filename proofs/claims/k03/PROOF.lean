import PyProof.Rows.All
import HandS.ForMost
import HandS.Flow
import HandS.IsInst
import HandS.DictComp
import HandS.DeepEq
import HandS.DictEq
import HandS.ListEq
import HandS.Codes
import HandS.WordsExc
import HandS.More
import HandS.ExcOwn
import HandS.TryOnly
import HandS.TryMany
import HandS.CallLocal
import HandS.Wide
import HandS.EndBits
import HandS.Text
import KE.KEqNest
import PyProof.NeKinds
import PyProof.DictUpdate
import KE.KDictList
import HandS.HeadEnd
import HandS.Head0
import HandS.Head1
import HandS.Head2
import HandS.Small
import HandS.ExcIs
import HandS.HeadHook1
import HandS.HeadHook2
import HandS.HeadHook4
import PyProof.ExcBaseAll.ValueError
import HandS.HeadHook3
import PyProof.ReprBulk
import PyProof.Rows.ReprShort
import PySem.Challenge.RW_kindsure_k03_where_two_meet
set_option Elab.async false
set_option linter.all false
set_option maxRecDepth 100000
set_option maxHeartbeats 0
set_option exponentiation.threshold 10000
/-! Pi1: data, a small tree language of reckoning upon data, and what its trees come to. -/
namespace Pi
open PySem

/-- data, by value; fn: a def of the program, obj: an instance, by its number -/
inductive D where
  | non | bl (b : Bool) | int (i : Int) | str (x : Str) | fn (i : Nat) | obj (i : Nat)
  | tup (xs : List D) | lst (xs : List D) | dic (kvs : List (Str × D))
  deriving Repr
/-- an instance: its class's number, its attributes -/
structure Ob where
  cls : Nat
  fs : List (Str × D)
abbrev Sto := List Ob
/-- what a local name holds: data, or a list or dict of the def's own that nobody else has -/
inductive Sl where
  | v (d : D) | ol (xs : List D) | od (kvs : List (Str × D))
abbrev Rho := List (Option Sl)
inductive Out (α : Type) where
  | ok (a : α) (S : Sto) | exc (c : Nat) (S : Sto) | bad
def Out.bnd {α β : Type} (o : Out α) (f : α → Sto → Out β) : Out β :=
  match o with
  | .ok a S => f a S
  | .exc c S => .exc c S
  | .bad => .bad

inductive O2 where | add | sub | mul | fdiv | mod
  deriving DecidableEq, Repr
inductive Cm where | lt | le | gt | ge | eq | ne | inn | nin
  deriving DecidableEq, Repr
inductive Bi where | len | int | list | dict | repr | abs | all | sum | max
  deriving DecidableEq, Repr
inductive B2 where | max | min
  deriving DecidableEq, Repr
inductive Ty where | int | bool | str | list | tuple | dict
  deriving DecidableEq, Repr
/-- where a value goes: a name, or names -/
inductive Tg where | nm (i : Nat) | tup (is : List Nat) | kv (i : Nat) (is : List Nat)
  deriving DecidableEq, Repr

mutual
inductive E where
  | var (i : Nat) | int (n : Int) | str (x : Str) | bl (b : Bool) | non | fn (i : Nat)
  | bin (o : O2) (a b : E) | neg (a : E)
  | cmp (o : Cm) (a b : E) | isN (a : E) | notN (a : E) | chain (o p : Cm) (a b c : E)
  | and (a b : E) | or (a b : E) | not (a : E) | ite (c : T) (a b : E)
  | tup (es : EL) | lst (es : EL) | dct (ps : KL)
  | call (f : Nat) (es : EL) | callv (i : Nat) (es : EL) | new (c : Nat) (es : EL)
  | bi (o : Bi) (a : E) | b2 (o : B2) (a b : E) | isi (a : E) (ts : List Ty)
  | sub (a i : E) | slice (a lo hi : E) | attr (a : E) (f : Str)
  | join (x : Str) (a : E) | get1 (a k : E) | get2 (a k d : E)
  | lc (e : E) (t : Tg) (it : It) (c : T) (vs : List Nat)
  | dc (k e : E) (t : Tg) (it : It) (c : T) (vs : List Nat)
  | mrg (a b : E) | lvals (a : E)
  deriving DecidableEq
inductive T where
  | e (a : E) | and (a b : T) | or (a b : T) | not (a : T) | yes
  deriving DecidableEq
inductive EL where
  | nil | cons (a : E) (r : EL)
  deriving DecidableEq
inductive KL where
  | nil | cons (k a : E) (r : KL)
  deriving DecidableEq
inductive It where
  | over (a : E) | rng (a : E) | rng2 (a b : E) | enum (a : E) | rev (a : E) | items (a : E) | vals (a : E) | zip (a b : E)
  deriving DecidableEq
end

/-- what stands in an except suite: a constant is returned, maybe behind a test -/
inductive XI where
  | ret (u : E) | ifi (i : Nat) (n : Int) (u : E) | ifx (t : List (Option Nat)) (u : E)
  deriving DecidableEq
mutual
inductive S where
  | asg (t : Tg) (e : E) | par (i j : Nat) (a b : E) | aug (i : Nat) (o : O2) (e : E)
  | setk (i : Nat) (k e : E) | app (i : Nat) (e : E) | ext (i : Nat) (e : E)
  | popl (t : Tg) (i : Nat) | popk (i : Nat) (e : E) | attr (a : E) (f : Str) (e : E)
  | ex (e : E) | ret (e : E) | pass | brk | cont
  | ite (c : T) (a b : SL) | whl (c : T) (b : SL) | for (t : Tg) (it : It) (b : SL)
  | raise (c : Nat) (es : EL) | tri (b : SL) (hs : List (Nat × List XI)) | trx (b : SL) (c j : Nat) (xs : List XI)
  | frz (is : List Nat) (s : S)
  deriving DecidableEq
inductive SL where
  | nil | cons (s : S) (r : SL)
  deriving DecidableEq
end


/-! ### the operations on data -/
def dget (kvs : List (Str × D)) (k : Str) : Option D := (kvs.find? fun p => decide (p.1 = k)).map (·.2)
def dput (kvs : List (Str × D)) (k : Str) (d : D) : List (Str × D) :=
  if (kvs.any fun p => decide (p.1 = k)) = true then kvs.map (fun p => if p.1 = k then (p.1, d) else p) else kvs ++ [(k, d)]
def fput (f : Str) (d : D) : List (Str × D) → List (Str × D)
  | [] => [(f, d)]
  | p :: r => if p.1 = f then (p.1, d) :: r else p :: fput f d r
def ddrop (kvs : List (Str × D)) (k : Str) : List (Str × D) := kvs.filter fun p => decide (p.1 ≠ k)

mutual
def D.deep : D → Nat
  | .tup xs => deepL xs + 1
  | .lst xs => deepL xs + 1
  | .dic kvs => deepK kvs + 1
  | _ => 0
def deepL : List D → Nat
  | [] => 0
  | x :: r => max x.deep (deepL r)
def deepK : List (Str × D) → Nat
  | [] => 0
  | p :: r => max p.2.deep (deepK r)
end
mutual
/-- the library's data -/
def D.py : D → PyData
  | .non => .none
  | .bl b => .bool b
  | .int i => .int i
  | .str x => .str x
  | .fn _ => .none
  | .obj _ => .none
  | .tup xs => .tuple (pyL xs)
  | .lst xs => .list (pyL xs)
  | .dic kvs => .dict (pyK kvs)
def pyL : List D → List PyData
  | [] => []
  | x :: r => x.py :: pyL r
def pyK : List (Str × D) → List (PyData × PyData)
  | [] => []
  | p :: r => (.str p.1, p.2.py) :: pyK r
end
mutual
/-- neither defs nor instances within -/
def D.plain : D → Bool
  | .fn _ => false
  | .obj _ => false
  | .tup xs => plainL xs
  | .lst xs => plainL xs
  | .dic kvs => plainK kvs
  | _ => true
def plainL : List D → Bool
  | [] => true
  | x :: r => x.plain && plainL r
def plainK : List (Str × D) → Bool
  | [] => true
  | p :: r => p.2.plain && plainK r
end
mutual
/-- ==, where it is told here -/
def eqd : D → D → Option Bool
  | .non, .non => some true
  | .bl a, .bl b => some (a == b)
  | .bl a, .int b => some ((if a then 1 else 0) == b)
  | .int a, .bl b => some (a == (if b then 1 else 0))
  | .int a, .int b => some (a == b)
  | .str a, .str b => some (a == b)
  | .tup xs, .tup ys => eqdL xs ys
  | .lst xs, .lst ys => if xs.length = ys.length then eqdL xs ys else some false
  | .dic xs, .dic ys => (eqdK xs ys).map fun b => b && xs.length == ys.length
  | .non, .int _ => some false | .non, .str _ => some false | .non, .bl _ => some false
  | .non, .tup _ => some false | .non, .lst _ => some false
  | .int _, .non => some false | .str _, .non => some false | .bl _, .non => some false
  | .tup _, .non => some false | .lst _, .non => some false
  | .int _, .str _ => some false | .str _, .int _ => some false | .bl _, .str _ => some false | .str _, .bl _ => some false
  | .str _, .tup _ => some false | .str _, .lst _ => some false
  | .tup _, .str _ => some false | .lst _, .str _ => some false
  | .int _, .tup _ => some false | .int _, .lst _ => some false
  | .tup _, .int _ => some false | .lst _, .int _ => some false
  | .bl _, .tup _ => some false | .bl _, .lst _ => some false
  | .tup _, .bl _ => some false | .lst _, .bl _ => some false
  | .tup _, .lst _ => some false | .lst _, .tup _ => some false
  | .tup _, .dic _ => some false | .dic _, .tup _ => some false
  | _, _ => none
def eqdL : List D → List D → Option Bool
  | [], [] => some true
  | [], _ :: _ => some false
  | _ :: _, [] => some false
  | x :: xs, y :: ys =>
      match eqd x y, eqdL xs ys with
      | some a, some b => some (a && b)
      | _, _ => none
/-- the pairs of the first dict, looked up in the other one -/
def eqdK : List (Str × D) → List (Str × D) → Option Bool
  | [], _ => some true
  | p :: r, ys =>
    match dget ys p.1 with
    | none => (eqdK r ys).map fun _ => false
    | some u =>
      match eqd p.2 u, eqdK r ys with
      | some a, some b => some (a && b)
      | _, _ => none
end

/-- how a list or text is cut -/
def cut (n d : Nat) : D → Option Nat
  | .non => some d
  | .int v => some (if v < 0 then (v + (n : Int)).toNat else min v.toNat n)
  | _ => none
def ixd (n : Nat) (i : Int) : Option Nat := if 0 ≤ i then (if i < n then some i.toNat else none) else if -(n : Int) ≤ i then some (i + n).toNat else none
def truD : D → Option Bool
  | .non => some false
  | .bl b => some b
  | .int i => some (i != 0)
  | .str x => if x.length ≤ sizeLine then some ((x.length : Int) != 0) else none
  | .tup xs => some !xs.isEmpty
  | .lst xs => some !xs.isEmpty
  | .dic kvs => some !kvs.isEmpty
  | _ => none
def tyD : D → Option Ty
  | .bl _ => some .bool
  | .int _ => some .int
  | .str _ => some .str
  | .tup _ => some .tuple
  | .lst _ => some .list
  | .dic _ => some .dict
  | _ => none
/-- isinstance of one of the types -/
def isiD (d : D) (ts : List Ty) : Option Bool :=
  match d with
  | .non => some false
  | .fn _ => none
  | .obj _ => none
  | .bl _ => some (ts.any fun t => t == .bool || t == .int)
  | d => some (ts.any fun t => tyD d == some t)

def lift {α : Type} (o : Option α) (S : Sto) : Out α := match o with | some a => .ok a S | none => .bad
def strsD : List D → Option (List Str)
  | [] => some []
  | .str x :: r => (strsD r).map (x :: ·)
  | _ => none
def intsD : List D → Option (List Int)
  | [] => some []
  | .int x :: r => (intsD r).map (x :: ·)
  | _ => none
def blsD : List D → Option (List Bool)
  | [] => some []
  | .bl x :: r => (blsD r).map (x :: ·)
  | _ => none
def o2D (o : O2) (a b : D) : Option D :=
  match o, a, b with
  | .add, .int i, .int j => some (.int (i + j))
  | .add, .str x, .str y => if x.length + y.length ≤ sizeLine then some (.str (x ++ y)) else none
  | .add, .lst xs, .lst ys => if xs.length + ys.length ≤ sizeLine then some (.lst (xs ++ ys)) else none
  | .sub, .int i, .int j => some (.int (i - j))
  | .mul, .int i, .int j => if (-(2 ^ 64) < i ∧ i < 2 ^ 64) ∨ (-(2 ^ 64) < j ∧ j < 2 ^ 64) then some (.int (i * j)) else none
  | .fdiv, .int i, .int j => if j ≠ 0 ∧ j.natAbs < 2 ^ 9000 then some (.int (i.fdiv j)) else none
  | .mod, .int i, .int j => if j ≠ 0 then some (.int (i.fmod j)) else none
  | _, _, _ => none
/-- a member, by == of plain scalars; a key -/
def innD (x : D) (y : D) : Option Bool :=
  match x, y with
  | .str x, .dic kvs => some (dget kvs x).isSome
  | .str x, .lst ys => (strsD ys).map fun zs => decide (x ∈ zs)
  | .str x, .tup ys => (strsD ys).map fun zs => decide (x ∈ zs)
  | .int x, .lst ys => (intsD ys).map fun zs => decide (x ∈ zs)
  | .int x, .tup ys => (intsD ys).map fun zs => decide (x ∈ zs)
  | _, _ => none
def eqq (a b : D) : Option Bool := if min a.deep b.deep ≤ 100 then eqd a b else none
def cmD (o : Cm) (a b : D) : Option Bool :=
  match o with
  | .lt => match a, b with | .int i, .int j => some (decide (i < j)) | _, _ => none
  | .le => match a, b with | .int i, .int j => some (decide (i ≤ j)) | _, _ => none
  | .gt => match a, b with | .int i, .int j => some (decide (j < i)) | _, _ => none
  | .ge => match a, b with | .int i, .int j => some (decide (j ≤ i)) | _, _ => none
  | .eq => eqq a b
  | .ne => (eqq a b).map (!·)
  | .inn => innD a b
  | .nin => (innD a b).map (!·)
def lenD : D → Option Int
  | .str x => if x.length ≤ sizeLine then some x.length else none
  | .tup xs => some xs.length
  | .lst xs => some xs.length
  | .dic kvs => some kvs.length
  | _ => none
def keysD (kvs : List (Str × D)) : List D := kvs.map fun p => .str p.1
def maxI : List Int → Option D
  | [] => none
  | n :: r => some (.int (r.foldl (fun a b => if b > a then b else a) n))
def biD (o : Bi) (a : D) : Option D :=
  match o with
  | .len => (lenD a).map .int
  | .int => match a with | .int i => some (.int i) | .bl b => some (.int (if b then 1 else 0)) | _ => none
  | .list => match a with | .lst xs => some (.lst xs) | .tup xs => some (.lst xs) | .dic kvs => some (.lst (keysD kvs)) | _ => none
  | .dict => match a with | .dic kvs => some (.dic kvs) | _ => none
  | .repr => if a.plain = true ∧ a.py.showable = true ∧ a.py.shown.length ≤ sizeLine ∧ a.deep ≤ 100 then some (.str a.py.shown) else none
  | .abs => match a with | .int i => some (.int (if i < 0 then -i else i)) | _ => none
  | .all => match a with | .lst xs => (blsD xs).map fun bs => .bl (bs.all id) | _ => none
  | .sum => match a with | .lst xs => (intsD xs).map fun ns => .int ns.sum | _ => none
  | .max => match a with | .lst xs => (intsD xs).bind maxI | _ => none
def b2D (o : B2) (a b : D) : Option D :=
  match o, a, b with
  | .max, .int i, .int j => some (.int (if j > i then j else i))
  | .min, .int i, .int j => some (.int (if j < i then j else i))
  | _, _, _ => none
def subD (a i : D) : Option D :=
  match a, i with
  | .lst xs, .int i => (ixd xs.length i).bind fun j => xs[j]?
  | .tup xs, .int i => (ixd xs.length i).bind fun j => xs[j]?
  | .str x, .int i => if x.length ≤ sizeLine then ((ixd x.cps.toList.length i).bind fun j => x.cps.toList[j]?).map fun c => .str ⟨#[c]⟩ else none
  | .dic kvs, .str k => dget kvs k
  | _, _ => none
def sliceD (a lo hi : D) : Option D :=
  match a with
  | .lst xs => (cut xs.length 0 lo).bind fun i => (cut xs.length xs.length hi).map fun j => .lst ((xs.drop i).take (j - i))
  | .str x => if x.length ≤ sizeLine then (match lo, hi with
      | .non, .non => some (.str (Txt.slice x none none))
      | .int i, .non => some (.str (Txt.slice x (some i) none))
      | .non, .int j => some (.str (Txt.slice x none (some j)))
      | .int i, .int j => some (.str (Txt.slice x (some i) (some j)))
      | _, _ => none) else none
  | _ => none
def joinD (x : Str) (a : D) : Option D :=
  match a with
  | .lst xs => (strsD xs).bind fun ys => if (ys.map (·.length)).sum + ys.length * x.length ≤ 16777216 then some (.str (Txt.join x ys)) else none
  | _ => none
/-- {**a, **b} -/
def mrgK (kvs more : List (Str × D)) : List (Str × D) := more.foldl (fun acc p => dput acc p.1 p.2) kvs
def mrgD (kx : List (Str × D)) (b : D) : Option D :=
  match b with
  | .dic ky => if kx.length + ky.length ≤ sizeLine then some (.dic (mrgK (mrgK [] kx) ky)) else none
  | _ => none
/-- binding -/
def bindV (is : List Nat) (ds : List D) (r : Rho) : Option Rho :=
  match is, ds with
  | [], [] => some r
  | i :: is, d :: ds => if i < r.length then bindV is ds (r.set i (some (.v d))) else none
  | _, _ => none
def bindT (t : Tg) (d : D) (r : Rho) : Option Rho :=
  match t with
  | .nm i => if i < r.length then some (r.set i (some (.v d))) else none
  | .tup is => match d with | .tup ds => bindV is ds r | _ => none
  | .kv i is => match d with | .tup [a, .tup ds] => if i < r.length then bindV is ds (r.set i (some (.v a))) else none | _ => none
def wipeR (r : Rho) : List Nat → Rho
  | [] => r
  | v :: vs => (wipeR r vs).set v none
/-- a name's data, even if it is the def's own list or dict -/
def look (i : Nat) (r : Rho) : Option D :=
  match r[i]? with
  | some (some (.v d)) => some d
  | some (some (.ol xs)) => some (.lst xs)
  | some (some (.od kvs)) => some (.dic kvs)
  | _ => none
/-- what is only read may be the def's own -/
def rd (e : E) (r : Rho) (S : Sto) (o : Out D) : Out D :=
  match e with
  | .var i => lift (look i r) S
  | _ => o

def intO (o : Out D) : Out D := o.bnd fun x S => match x with | .int i => .ok (.int i) S | _ => .bad
/-- a slice's part: none, or a number -/
def partO (e : E) (S : Sto) (o : Out D) : Out D :=
  match e with
  | .non => .ok .non S
  | _ => intO o

/-- what the defs are worth -/
structure Phi where
  n : Nat
  call : Nat → List D → Sto → Out D
  ini : Nat → Nat
  sub : Nat → Nat → Option Bool

def loopL (f : D → Sto → Out (Option D)) : List D → Sto → Out (List D)
  | [], S => .ok [] S
  | x :: r, S => (f x S).bnd fun y S => (loopL f r S).bnd fun ys S => .ok (match y with | some y => y :: ys | none => ys) S
def loopK (f : D → Sto → Out (Option (Str × D))) : List D → List (Str × D) → Sto → Out (List (Str × D))
  | [], acc, S => .ok acc S
  | x :: r, acc, S => (f x S).bnd fun y S => loopK f r (match y with | some p => dput acc p.1 p.2 | none => acc) S
def nox {α : Type} : Out α → Out α
  | .ok a S => .ok a S
  | _ => .bad
/-- one turn of a comprehension: no exception leaves it -/
def lcStep (t : Tg) (vs : List Nat) (r : Rho) (mt : Rho → Sto → Out Bool) (me : Rho → Sto → Out D) : D → Sto → Out (Option D) := fun x S =>
  match bindT t x (wipeR r vs) with
  | some r' => nox ((mt r' S).bnd fun k S => if k = true then (me r' S).bnd fun y S => .ok (some y) S else .ok none S)
  | none => .bad
def dcStep (t : Tg) (vs : List Nat) (r : Rho) (mt : Rho → Sto → Out Bool) (mk me : Rho → Sto → Out D) : D → Sto → Out (Option (Str × D)) := fun x S =>
  match bindT t x (wipeR r vs) with
  | some r' => nox ((mt r' S).bnd fun k S => if k = true then (mk r' S).bnd fun y S => (me r' S).bnd fun z S => (match y with | .str y => .ok (some (y, z)) S | _ => .bad) else .ok none S)
  | none => .bad
def enumD : Nat → List D → List D
  | _, [] => []
  | n, x :: r => .tup [.int n, x] :: enumD (n + 1) r
def zipD : List D → List D → List D
  | x :: xs, y :: ys => .tup [x, y] :: zipD xs ys
  | _, _ => []
/-- a range's bound -/
def fits62 (j : Int) : Bool := decide (-(2 ^ 62) ≤ j) && decide (j < 2 ^ 62)
theorem fits62_ok {j : Int} (h : fits62 j = true) : -(2 ^ 62) ≤ j ∧ j < 2 ^ 62 := by
  unfold fits62 at h
  simpa using h
theorem fits62_of {j : Int} (h0 : 0 ≤ j) (h1 : j < 4611686018427387904) : fits62 j = true := by
  unfold fits62
  simp only [Bool.and_eq_true, decide_eq_true_eq]
  omega
def rngD (i : Int) (n : Nat) : List D := (List.range n).map fun k => .int (i + (k : Nat))

mutual
def ev (Φ : Phi) : E → Rho → Sto → Out D
  | .var i, r, S => match r[i]? with | some (some (.v d)) => .ok d S | _ => .bad
  | .int n, _, S => .ok (.int n) S
  | .str x, _, S => .ok (.str x) S
  | .bl b, _, S => .ok (.bl b) S
  | .non, _, S => .ok .non S
  | .fn i, _, S => .ok (.fn i) S
  | .bin o a b, r, S => (rd a r S (ev Φ a r S)).bnd fun x S => (rd b r S (ev Φ b r S)).bnd fun y S => lift (o2D o x y) S
  | .neg a, r, S => (ev Φ a r S).bnd fun x S => match x with | .int i => .ok (.int (-i)) S | _ => .bad
  | .cmp o a b, r, S => (rd a r S (ev Φ a r S)).bnd fun x S => (rd b r S (ev Φ b r S)).bnd fun y S => (lift (cmD o x y) S).bnd fun k S => .ok (.bl k) S
  | .isN a, r, S => (rd a r S (ev Φ a r S)).bnd fun x S => .ok (.bl (match x with | .non => true | _ => false)) S
  | .notN a, r, S => (rd a r S (ev Φ a r S)).bnd fun x S => .ok (.bl (match x with | .non => false | _ => true)) S
  | .chain o p a b c, r, S => (rd a r S (ev Φ a r S)).bnd fun x S => (rd b r S (ev Φ b r S)).bnd fun y S => (lift (cmD o x y) S).bnd fun k S =>
      if k = true then (rd c r S (ev Φ c r S)).bnd fun z S => (lift (cmD p y z) S).bnd fun k S => .ok (.bl k) S else .ok (.bl false) S
  | .and a b, r, S => (ev Φ a r S).bnd fun x S => (lift (truD x) S).bnd fun k S => if k = true then ev Φ b r S else .ok x S
  | .or a b, r, S => (ev Φ a r S).bnd fun x S => (lift (truD x) S).bnd fun k S => if k = true then .ok x S else ev Φ b r S
  | .not a, r, S => (rd a r S (ev Φ a r S)).bnd fun x S => (lift (truD x) S).bnd fun k S => .ok (.bl (!k)) S
  | .ite c a b, r, S => (evT Φ c r S).bnd fun k S => if k = true then ev Φ a r S else ev Φ b r S
  | .tup es, r, S => (evL Φ es r S).bnd fun xs S => if xs.length ≤ sizeLine then .ok (.tup xs) S else .bad
  | .lst es, r, S => (evL Φ es r S).bnd fun xs S => if xs.length ≤ sizeLine then .ok (.lst xs) S else .bad
  | .dct ps, r, S => evD Φ ps r [] S
  | .call f es, r, S => (evL Φ es r S).bnd fun xs S => Φ.call f xs S
  | .callv i es, r, S => match r[i]? with
      | some (some (.v (.fn f))) => if f < Φ.n then (evL Φ es r S).bnd fun xs S => Φ.call f xs S else .bad
      | _ => .bad
  | .new c es, r, S => (evL Φ es r S).bnd fun xs S => match Φ.call (Φ.ini c) (.obj S.length :: xs) (S ++ [⟨c, []⟩]) with
      | .ok .non S' => .ok (.obj S.length) S'
      | _ => .bad
  | .bi o a, r, S => (rd a r S (ev Φ a r S)).bnd fun x S => lift (biD o x) S
  | .b2 o a b, r, S => (ev Φ a r S).bnd fun x S => (ev Φ b r S).bnd fun y S => lift (b2D o x y) S
  | .isi a ts, r, S => (rd a r S (ev Φ a r S)).bnd fun x S => (lift (isiD x ts) S).bnd fun k S => .ok (.bl k) S
  | .sub a i, r, S => (rd a r S (ev Φ a r S)).bnd fun x S => (ev Φ i r S).bnd fun y S => lift (subD x y) S
  | .slice a lo hi, r, S => (rd a r S (ev Φ a r S)).bnd fun x S => (partO lo S (ev Φ lo r S)).bnd fun i S => (partO hi S (ev Φ hi r S)).bnd fun j S => lift (sliceD x i j) S
  | .attr a f, r, S => (ev Φ a r S).bnd fun x S => match x with
      | .obj i => lift (S[i]?.bind fun o => dget o.fs f) S
      | _ => .bad
  | .join x a, r, S => (rd a r S (ev Φ a r S)).bnd fun y S => lift (joinD x y) S
  | .get1 a k, r, S => (rd a r S (ev Φ a r S)).bnd fun x S => match x with
      | .dic kvs => (ev Φ k r S).bnd fun y S => match y with | .str k => .ok ((dget kvs k).getD .non) S | _ => .bad
      | _ => .bad
  | .get2 a k d, r, S => (rd a r S (ev Φ a r S)).bnd fun x S => match x with
      | .dic kvs => (ev Φ k r S).bnd fun y S => (ev Φ d r S).bnd fun z S => match y with | .str k => .ok ((dget kvs k).getD z) S | _ => .bad
      | _ => .bad
  | .lc e t it c vs, r, S => (evI Φ it r S).bnd fun xs S => (loopL (lcStep t vs r (fun r S => evT Φ c r S) (fun r S => ev Φ e r S)) xs S).bnd fun ys S => if xs.length ≤ sizeLine then .ok (.lst ys) S else .bad
  | .dc k e t it c vs, r, S => (evI Φ it r S).bnd fun xs S => (loopK (dcStep t vs r (fun r S => evT Φ c r S) (fun r S => ev Φ k r S) (fun r S => ev Φ e r S)) xs [] S).bnd fun kvs S => if xs.length ≤ sizeLine then .ok (.dic kvs) S else .bad
  | .mrg a b, r, S => (ev Φ a r S).bnd fun x S => match x with
      | .dic kx => (ev Φ b r S).bnd fun y S => lift (mrgD kx y) S
      | _ => .bad
  | .lvals a, r, S => (ev Φ a r S).bnd fun x S => match x with
      | .dic kvs => .ok (.lst (kvs.map (·.2))) S
      | _ => .bad
def evT (Φ : Phi) : T → Rho → Sto → Out Bool
  | .e a, r, S => (rd a r S (ev Φ a r S)).bnd fun x S => lift (truD x) S
  | .and a b, r, S => (evT Φ a r S).bnd fun k S => if k = true then evT Φ b r S else .ok false S
  | .or a b, r, S => (evT Φ a r S).bnd fun k S => if k = true then .ok true S else evT Φ b r S
  | .not a, r, S => (evT Φ a r S).bnd fun k S => .ok (!k) S
  | .yes, _, S => .ok true S
def evL (Φ : Phi) : EL → Rho → Sto → Out (List D)
  | .nil, _, S => .ok [] S
  | .cons a l, r, S => (ev Φ a r S).bnd fun x S => (evL Φ l r S).bnd fun xs S => .ok (x :: xs) S
def evD (Φ : Phi) : KL → Rho → List (Str × D) → Sto → Out D
  | .nil, _, acc, S => .ok (.dic acc) S
  | .cons k e ps, r, acc, S => (ev Φ k r S).bnd fun y S => (ev Φ e r S).bnd fun z S => match y with
      | .str y => evD Φ ps r (dput acc y z) S
      | _ => .bad
def evI (Φ : Phi) : It → Rho → Sto → Out (List D)
  | .over a, r, S => (ev Φ a r S).bnd fun x S => match x with
      | .lst xs => .ok xs S
      | .tup xs => .ok xs S
      | .dic kvs => .ok (keysD kvs) S
      | _ => .bad
  | .rng a, r, S => (ev Φ a r S).bnd fun x S => match x with
      | .int j => if fits62 j = true then .ok (rngD 0 j.toNat) S else .bad
      | _ => .bad
  | .rng2 a b, r, S => (ev Φ a r S).bnd fun x S => (ev Φ b r S).bnd fun y S => match x, y with
      | .int i, .int j => if fits62 i = true ∧ fits62 j = true then .ok (rngD i (j - i).toNat) S else .bad
      | _, _ => .bad
  | .enum a, r, S => (ev Φ a r S).bnd fun x S => match x with | .lst xs => .ok (enumD 0 xs) S | _ => .bad
  | .rev a, r, S => (ev Φ a r S).bnd fun x S => match x with | .lst xs => .ok xs.reverse S | _ => .bad
  | .items a, r, S => (ev Φ a r S).bnd fun x S => match x with | .dic kvs => .ok (kvs.map fun p => .tup [.str p.1, p.2]) S | _ => .bad
  | .vals a, r, S => (ev Φ a r S).bnd fun x S => match x with | .dic kvs => .ok (kvs.map (·.2)) S | _ => .bad
  | .zip a b, r, S => (ev Φ a r S).bnd fun x S => (ev Φ b r S).bnd fun y S => match x, y with
      | .lst xs, .lst ys => .ok (zipD xs ys) S
      | _, _ => .bad
end

/-! ### statements -/
inductive SO where
  | nx (r : Rho) (S : Sto) | rt (d : D) (S : Sto) | bk (r : Rho) (S : Sto) | ct (r : Rho) (S : Sto) | xc (c : Nat) (r : Rho) (S : Sto) | bad
def Out.st {α : Type} (o : Out α) (r : Rho) (f : α → Sto → SO) : SO :=
  match o with
  | .ok a S => f a S
  | .exc c S => .xc c r S
  | .bad => .bad
def ofO (o : Option Rho) (S : Sto) : SO := match o with | some r => .nx r S | none => .bad
def Sl.frz : Sl → Sl
  | .v d => .v d
  | .ol xs => .v (.lst xs)
  | .od kvs => .v (.dic kvs)
def frzR (r : Rho) : List Nat → Rho
  | [] => r
  | i :: is => frzR (match r[i]? with | some (some s) => r.set i (some s.frz) | _ => r) is
/-- a trees' value is new: a list or dict that nobody has yet -/
def E.isNew : E → Bool
  | .lst _ => true
  | .dct _ => true
  | .lc _ _ _ _ _ => true
  | .dc _ _ _ _ _ _ => true
  | .bi .list _ => true
  | .bi .dict _ => true
  | .bin .add _ _ => true
  | .slice _ _ _ => true
  | .mrg _ _ => true
  | .lvals _ => true
  | _ => false
def D.own : D → Sl
  | .lst xs => .ol xs
  | .dic kvs => .od kvs
  | d => .v d
def D.slot (new : Bool) (d : D) : Sl := if new = true then d.own else .v d
def setR (i : Nat) (s : Sl) (r : Rho) : Option Rho := if i < r.length then some (r.set i (some s)) else none
def forS (f : D → Rho → Sto → SO) : List D → Rho → Sto → SO
  | [], r, S => .nx r S
  | x :: xs, r, S => match f x r S with
    | .nx r S => forS f xs r S
    | .ct r S => forS f xs r S
    | .bk r S => .nx r S
    | o => o
def wh (t : Rho → Sto → Out Bool) (b : Rho → Sto → SO) : Nat → Rho → Sto → SO
  | 0, _, _ => .bad
  | n + 1, r, S => (t r S).st r fun k S => if k = true then
      (match b r S with
      | .nx r S => wh t b n r S
      | .ct r S => wh t b n r S
      | .bk r S => .nx r S
      | o => o) else .nx r S
open Classical in
noncomputable def whS (t : Rho → Sto → Out Bool) (b : Rho → Sto → SO) (r : Rho) (S : Sto) : SO :=
  if h : ∃ n, wh t b n r S ≠ .bad then wh t b h.choose r S else .bad
theorem wh_mono {t : Rho → Sto → Out Bool} {b : Rho → Sto → SO} : ∀ {n : Nat} {r : Rho} {S : Sto}, wh t b n r S ≠ .bad → ∀ m, n ≤ m → wh t b m r S = wh t b n r S
  | 0, _, _, h, _, _ => (h rfl).elim
  | n + 1, r, S, h, 0, hm => absurd hm (Nat.not_succ_le_zero n)
  | n + 1, r, S, h, m + 1, hm => by
    have ih := @wh_mono t b n
    unfold wh at h ⊢
    cases ht : t r S with
    | bad => rfl
    | exc c S' => rfl
    | ok k S' =>
      rw [ht] at h
      simp only [Out.st] at h ⊢
      cases k with
      | false => rfl
      | true =>
        simp only [if_true] at h ⊢
        cases hb : b r S' with
        | nx r2 S2 => rw [hb] at h; exact ih h m (Nat.le_of_succ_le_succ hm)
        | ct r2 S2 => rw [hb] at h; exact ih h m (Nat.le_of_succ_le_succ hm)
        | bk _ _ => rfl
        | rt _ _ => rfl
        | xc _ _ _ => rfl
        | bad => rfl
theorem whS_of {t : Rho → Sto → Out Bool} {b : Rho → Sto → SO} {n : Nat} {r : Rho} {S : Sto} {o : SO} (h : wh t b n r S = o) (ho : o ≠ .bad) : whS t b r S = o := by
  have hn : wh t b n r S ≠ .bad := by rw [h]; exact ho
  have hx : ∃ n, wh t b n r S ≠ .bad := ⟨n, hn⟩
  unfold whS
  rw [dif_pos hx]
  rcases Nat.le_total n hx.choose with e | e
  · rw [wh_mono hn _ e, h]
  · rw [← wh_mono hx.choose_spec _ e, h]
theorem whS_n {t : Rho → Sto → Out Bool} {b : Rho → Sto → SO} {r : Rho} {S : Sto} (h : whS t b r S ≠ .bad) : ∃ n, wh t b n r S = whS t b r S := by
  unfold whS at h ⊢
  split
  · exact ⟨_, rfl⟩
  · rename_i hx
    rw [dif_neg hx] at h
    exact (h rfl).elim
/-- one turn -/
theorem whS_eq (t : Rho → Sto → Out Bool) (b : Rho → Sto → SO) (r : Rho) (S : Sto) : whS t b r S = (t r S).st r fun k S => if k = true then
      (match b r S with
      | .nx r S => whS t b r S
      | .ct r S => whS t b r S
      | .bk r S => .nx r S
      | o => o) else .nx r S := by
  classical
  by_cases hx : whS t b r S = .bad
  · rw [hx]
    have no : ∀ n, wh t b n r S = .bad := fun n => by
      cases h : wh t b n r S with
      | bad => rfl
      | _ => rw [whS_of h (by intro q; cases q)] at hx; cases hx
    have n1 : ∀ n, (t r S).st r (fun k S => if k = true then (match b r S with | .nx r S => wh t b n r S | .ct r S => wh t b n r S | .bk r S => .nx r S | o => o) else .nx r S) = .bad := fun n => no (n + 1)
    cases ht : t r S with
    | bad => rfl
    | exc c S' => have := n1 0; rw [ht] at this; exact this.symm
    | ok k S' =>
      rw [ht] at n1
      simp only [Out.st] at n1 ⊢
      cases k with
      | false => exact (n1 0).symm
      | true =>
        simp only [if_true] at n1 ⊢
        cases hb : b r S' with
        | nx r2 S2 =>
          rw [hb] at n1
          simp only at n1 ⊢
          by_cases hy : whS t b r2 S2 = .bad
          · exact hy.symm
          · obtain ⟨n, hn⟩ := whS_n hy
            rw [n1 n] at hn
            exact hn
        | ct r2 S2 =>
          rw [hb] at n1
          simp only at n1 ⊢
          by_cases hy : whS t b r2 S2 = .bad
          · exact hy.symm
          · obtain ⟨n, hn⟩ := whS_n hy
            rw [n1 n] at hn
            exact hn
        | bk _ _ => rw [hb] at n1; exact (n1 0).symm
        | rt _ _ => rw [hb] at n1; exact (n1 0).symm
        | xc _ _ _ => rw [hb] at n1; exact (n1 0).symm
        | bad => rfl
  · obtain ⟨n, hn⟩ := whS_n hx
    rw [← hn] at hx ⊢
    cases n with
    | zero => exact (hx rfl).elim
    | succ n =>
      unfold wh at hx ⊢
      cases ht : t r S with
      | bad => rfl
      | exc c S' => rfl
      | ok k S' =>
        rw [ht] at hx
        simp only [Out.st] at hx ⊢
        cases k with
        | false => rfl
        | true =>
          simp only [if_true] at hx ⊢
          cases hb : b r S' with
          | nx r2 S2 => rw [hb] at hx; exact (whS_of rfl hx).symm
          | ct r2 S2 => rw [hb] at hx; exact (whS_of rfl hx).symm
          | bk _ _ => rfl
          | rt _ _ => rfl
          | xc _ _ _ => rfl
          | bad => rfl

/-- a constant -/
def cst : E → Option D
  | .int n => some (.int n)
  | .str x => some (.str x)
  | .bl b => some (.bl b)
  | .non => some .non
  | _ => none
def rtO (o : Option D) (S : Sto) : SO := match o with | some d => .rt d S | none => .bad
/-- is an exception of class c an instance of all these (none: ValueError) -/
def xAll (sub : Nat → Nat → Option Bool) (c : Nat) : List (Option Nat) → Option Bool
  | [] => some true
  | none :: r => xAll sub c r
  | some k :: r => match sub c k with
    | some true => xAll sub c r
    | some false => some false
    | none => none
/-- a suite, an exception of class c at hand -/
def xiS (sub : Nat → Nat → Option Bool) (c : Nat) : List XI → Rho → Sto → SO
  | [], r, S => .nx r S
  | .ret u :: _, _, S => rtO (cst u) S
  | .ifi i n u :: l, r, S => match r[i]? with
    | some (some (.v (.int m))) => if m = n then rtO (cst u) S else xiS sub c l r S
    | _ => .bad
  | .ifx t u :: l, r, S => match xAll sub c t with
    | some true => rtO (cst u) S
    | some false => xiS sub c l r S
    | none => .bad
def exHs (sub : Nat → Nat → Option Bool) (k : Nat) : List (Nat × List XI) → Rho → Sto → SO
  | [], r, S => .xc k r S
  | (c, l) :: hs, r, S => match sub k c with
    | some true => xiS sub k l r S
    | some false => exHs sub k hs r S
    | none => .bad
mutual
noncomputable def ex (Φ : Phi) : S → Rho → Sto → SO
  | .asg t e, r, S => (ev Φ e r S).st r fun d S => match t with
      | .nm i => ofO (setR i (d.slot e.isNew) r) S
      | .tup is => ofO (bindT (.tup is) d r) S
      | .kv i is => ofO (bindT (.kv i is) d r) S
  | .par i j a b, r, S => (ev Φ a r S).st r fun x S => (ev Φ b r S).st r fun y S => ofO ((setR i (.v x) r).bind (setR j (.v y))) S
  | .aug i o e, r, S => match r[i]? with
      | some (some (.v (.int x))) => (ev Φ e r S).st r fun y S => match y with
        | .int y => (match o with
          | .add => ofO (setR i (.v (.int (x + y))) r) S
          | .sub => ofO (setR i (.v (.int (x - y))) r) S
          | _ => .bad)
        | _ => .bad
      | _ => .bad
  | .setk i k e, r, S => (ev Φ e r S).st r fun d S => match r[i]? with
      | some (some (.od kvs)) => (ev Φ k r S).st r fun k S => match k with
        | .str k => if kvs.length < sizeLine then ofO (setR i (.od (dput kvs k d)) r) S else .bad
        | _ => .bad
      | _ => .bad
  | .app i e, r, S => match r[i]? with
      | some (some (.ol xs)) => (ev Φ e r S).st r fun d S => if xs.length < sizeLine then ofO (setR i (.ol (xs ++ [d])) r) S else .bad
      | _ => .bad
  | .ext i e, r, S => match r[i]? with
      | some (some (.ol xs)) => (ev Φ e r S).st r fun d S => match d with
        | .lst ys => if xs.length + ys.length ≤ sizeLine then ofO (setR i (.ol (xs ++ ys)) r) S else .bad
        | _ => .bad
      | _ => .bad
  | .popl t i, r, S => match r[i]? with
      | some (some (.ol xs)) => (match xs.getLast? with
        | some d => ofO ((setR i (.ol xs.dropLast) r).bind fun r => bindT t d r) S
        | none => .bad)
      | _ => .bad
  | .popk i e, r, S => match r[i]? with
      | some (some (.od kvs)) => (ev Φ e r S).st r fun k S => match k with
        | .str k => if (dget kvs k).isSome = true then ofO (setR i (.od (ddrop kvs k)) r) S else .bad
        | _ => .bad
      | _ => .bad
  | .attr a f e, r, S => (ev Φ e r S).st r fun d S => (ev Φ a r S).st r fun x S => match x with
      | .obj i => (match S[i]? with
        | some o => if o.fs.length < 1000 then .nx r (S.set i ⟨o.cls, fput f d o.fs⟩) else .bad
        | none => .bad)
      | _ => .bad
  | .ex e, r, S => (ev Φ e r S).st r fun _ S => .nx r S
  | .ret e, r, S => (ev Φ e r S).st r fun d S => .rt d S
  | .pass, r, S => .nx r S
  | .brk, r, S => .bk r S
  | .cont, r, S => .ct r S
  | .ite c a b, r, S => (evT Φ c r S).st r fun k S => if k = true then exL Φ a r S else exL Φ b r S
  | .whl c b, r, S => whS (evT Φ c) (exL Φ b) r S
  | .for t it b, r, S => (evI Φ it r S).st r fun xs S => forS (fun x r S => match bindT t x r with | some r => exL Φ b r S | none => .bad) xs r S
  | .raise c es, r, S => (evL Φ es r S).st r fun xs S => if xs.length ≤ sizeLine then .xc c r S else .bad
  | .tri b hs, r, S => match exL Φ b r S with
      | .xc k r S => exHs Φ.sub k hs r S
      | o => o
  | .trx b c j xs, r, S => match exL Φ b r S with
      | .xc k r S => if j < r.length then (match Φ.sub k c with
        | some true => xiS Φ.sub k xs (r.set j none) S
        | some false => .xc k r S
        | none => .bad) else .bad
      | o => o
  | .frz is s, r, S => ex Φ s (frzR r is) S
noncomputable def exL (Φ : Phi) : SL → Rho → Sto → SO
  | .nil, r, S => .nx r S
  | .cons s l, r, S => match ex Φ s r S with
      | .nx r S => exL Φ l r S
      | o => o
end
/-- a def: its params' number, its names' number, its body -/
structure DF where
  ps : Nat
  ns : Nat
  body : SL
noncomputable def runF (Φ : Phi) (f : DF) (ds : List D) (S : Sto) : Out D :=
  if ds.length = f.ps then
    match exL Φ f.body (ds.map (fun d => some (.v d)) ++ List.replicate (f.ns - f.ps) none) S with
    | .rt d S => .ok d S
    | .nx _ S => .ok .non S
    | .xc c _ S => .exc c S
    | _ => .bad
  else .bad
noncomputable def phi (tab : List DF) (ini : Nat → Nat) (sub : Nat → Nat → Option Bool) : Nat → Phi
  | 0 => ⟨tab.length, fun _ _ _ => .bad, ini, sub⟩
  | k + 1 => ⟨tab.length, fun f ds S => match tab[f]? with | some d => runF (phi tab ini sub k) d ds S | none => .bad, ini, sub⟩
end Pi

/-! Pi2: how data lies in the abstract heap. -/
namespace Pi
open PySem L2 PySem.Spec PyProof.Rows

/-- what is fixed for a program: the written part, where the defs and classes stand, the exceptions' classes -/
structure GC where
  K : PySem.W.Frag
  fa : Nat → Addr
  ca : Nat → Addr
  xa : Nat → Value

abbrev Al := List (Addr × Addr)
/-- a list that stays as it is -/
def LsF (K : PySem.W.Frag) (H : Hp) (a : Addr) (vs : List V) : Prop :=
  (∃ o, H a = some (.frz o (.lst vs))) ∨
    ∃ (o : Obj) (its : Array Value) (n : Nat), K.lookup a = some o ∧ o.cls = .type "list" ∧ o.dict = none ∧ o.data = .seq its n ∧ its.size ≤ sizeLine ∧ Vals vs its.toList
theorem LsF.sq {K : PySem.W.Frag} {H : Hp} {a : Addr} {vs : List V} (h : LsF K H a vs) : SqL K H a vs := by
  rcases h with ⟨o, h⟩ | h
  · exact .inl (.inr ⟨o, h⟩)
  · exact .inr h

mutual
inductive Dt (g : GC) (al : Al) (H : Hp) : V → D → Prop
  | non : Dt g al H .non .non
  | bl (b : Bool) : Dt g al H (.bl b) (.bl b)
  | int (i : Int) : Dt g al H (.int i) (.int i)
  | str (x : Str) : Dt g al H (.str x) (.str x)
  | fn (i : Nat) : Dt g al H (.ref (g.fa i)) (.fn i)
  | obj {i : Nat} {x dx : Addr} : al[i]? = some (x, dx) → Dt g al H (.ref x) (.obj i)
  | tup {a : Addr} {vs : List V} {ds : List D} : SqT g.K H a vs → DtL g al H vs ds → Dt g al H (.ref a) (.tup ds)
  | lst {a : Addr} {vs : List V} {ds : List D} : LsF g.K H a vs → DtL g al H vs ds → Dt g al H (.ref a) (.lst ds)
  | dic {a : Addr} {o : Obj} {kvs : List (Key × V)} {rs : List (Str × D)} : H a = some (.frz o (.dK kvs)) → DtK g al H kvs rs → Dt g al H (.ref a) (.dic rs)
inductive DtL (g : GC) (al : Al) (H : Hp) : List V → List D → Prop
  | nil : DtL g al H [] []
  | cons {v : V} {d : D} {vs : List V} {ds : List D} : Dt g al H v d → DtL g al H vs ds → DtL g al H (v :: vs) (d :: ds)
inductive DtK (g : GC) (al : Al) (H : Hp) : List (Key × V) → List (Str × D) → Prop
  | nil : DtK g al H [] []
  | cons {k : Str} {v : V} {d : D} {kvs : List (Key × V)} {rs : List (Str × D)} : Dt g al H v d → DtK g al H kvs rs → DtK g al H ((.inr k, v) :: kvs) ((k, d) :: rs)
end

/-- all but the instances' attributes is as it was -/
structure Keep (H H' : Hp) : Prop where
  k : ∀ a o, H a = some o → (∀ C dx fs, o ≠ .ins C dx fs) → H' a = some o
  i : ∀ a C dx fs, H a = some (.ins C dx fs) → ∃ fs', H' a = some (.ins C dx fs')
theorem Keep.refl (H : Hp) : Keep H H := ⟨fun _ _ h _ => h, fun _ _ _ fs h => ⟨fs, h⟩⟩
theorem Keep.trans {H H1 H2 : Hp} (a : Keep H H1) (b : Keep H1 H2) : Keep H H2 :=
  ⟨fun x o h n => b.k x o (a.k x o h n) n, fun x C dx fs h => let ⟨fs', h'⟩ := a.i x C dx fs h; b.i x C dx fs' h'⟩
theorem Keep.of {H H' : Hp} (s : L2.Same H H') : Keep H H' := ⟨fun a o h _ => s a o h, fun a C dx fs h => ⟨fs, s a _ h⟩⟩
theorem same_new {H : Hp} {p : Addr} {o : HO} (h : H p = none) : L2.Same H (upd H p o) := fun b u e => by
  rw [upd_ne (ne_of_none e h)]
  exact e
theorem Keep.some {H H' : Hp} (k : Keep H H') {a : Addr} {o : HO} (h : H a = some o) : ∃ o', H' a = some o' := by
  cases o with
  | ins C dx fs => let ⟨fs', h'⟩ := k.i a C dx fs h; exact ⟨_, h'⟩
  | _ => exact ⟨_, k.k a _ h (fun _ _ _ z => nomatch z)⟩
theorem Keep.back {H H' : Hp} (k : Keep H H') {p : Addr} (h : H' p = none) : H p = none := by
  cases q : H p with
  | none => rfl
  | some o => let ⟨o', h'⟩ := k.some q; rw [h] at h'; cases h'
/-- an object that H did not know changes -/
theorem Keep.mut {H H' : Hp} {p : Addr} {o : HO} (k : Keep H H') (h : H p = none) : Keep H (upd H' p o) :=
  ⟨fun a u e n => by rw [upd_ne (ne_of_none e h)]; exact k.k a u e n, fun a C dx fs e => by rw [upd_ne (ne_of_none e h)]; exact k.i a C dx fs e⟩

section
variable {g : GC} {al al' : Al} {H H' : Hp}
/-- what is frozen stays, and tuples -/
structure KeepZ (H H' : Hp) : Prop where
  z : ∀ a o u, H a = some (.frz o u) → H' a = some (.frz o u)
  t : ∀ a xs, H a = some (.tup xs) → H' a = some (.tup xs)
theorem Keep.toZ (k : Keep H H') : KeepZ H H' := ⟨fun a o u h => k.k a _ h (fun _ _ _ z => nomatch z), fun a xs h => k.k a _ h (fun _ _ _ z => nomatch z)⟩
theorem KeepZ.trans {H1 H2 H3 : Hp} (k : KeepZ H1 H2) (l : KeepZ H2 H3) : KeepZ H1 H3 := ⟨fun a o u h => l.z a o u (k.z a o u h), fun a xs h => l.t a xs (k.t a xs h)⟩
theorem sqT_keepZ {K : PySem.W.Frag} {a : Addr} {xs : List V} (k : KeepZ H H') (h : SqT K H a xs) : SqT K H' a xs := by
  rcases h with (h | ⟨o, h⟩) | h
  · exact .inl (.inl (k.t _ _ h))
  · exact .inl (.inr ⟨o, k.z _ _ _ h⟩)
  · exact .inr h
theorem lsF_keepZ {K : PySem.W.Frag} {a : Addr} {xs : List V} (k : KeepZ H H') (h : LsF K H a xs) : LsF K H' a xs := by
  rcases h with ⟨o, h⟩ | h
  · exact .inl ⟨o, k.z _ _ _ h⟩
  · exact .inr h
theorem sqT_keep {K : PySem.W.Frag} {a : Addr} {xs : List V} (k : Keep H H') (h : SqT K H a xs) : SqT K H' a xs := sqT_keepZ k.toZ h
theorem lsF_keep {K : PySem.W.Frag} {a : Addr} {xs : List V} (k : Keep H H') (h : LsF K H a xs) : LsF K H' a xs := lsF_keepZ k.toZ h
theorem pre_get {l l' : Al} (p : l <+: l') {i : Nat} {x : Addr × Addr} (h : l[i]? = some x) : l'[i]? = some x := by
  obtain ⟨t, rfl⟩ := p
  rw [List.getElem?_append_left (List.getElem?_eq_some_iff.mp h).1]
  exact h
mutual
theorem Dt.monoZ (k : KeepZ H H') (p : al <+: al') : ∀ {v : V} {d : D}, Dt g al H v d → Dt g al' H' v d
  | _, _, .non => .non
  | _, _, .bl b => .bl b
  | _, _, .int i => .int i
  | _, _, .str x => .str x
  | _, _, .fn i => .fn i
  | _, _, .obj h => .obj (pre_get p h)
  | _, _, .tup h l => .tup (sqT_keepZ k h) (DtL.monoZ k p l)
  | _, _, .lst h l => .lst (lsF_keepZ k h) (DtL.monoZ k p l)
  | _, _, .dic h l => .dic (k.z _ _ _ h) (DtK.monoZ k p l)
theorem DtL.monoZ (k : KeepZ H H') (p : al <+: al') : ∀ {vs : List V} {ds : List D}, DtL g al H vs ds → DtL g al' H' vs ds
  | _, _, .nil => .nil
  | _, _, .cons h t => .cons (Dt.monoZ k p h) (DtL.monoZ k p t)
theorem DtK.monoZ (k : KeepZ H H') (p : al <+: al') : ∀ {vs : List (Key × V)} {ds : List (Str × D)}, DtK g al H vs ds → DtK g al' H' vs ds
  | _, _, .nil => .nil
  | _, _, .cons h t => .cons (Dt.monoZ k p h) (DtK.monoZ k p t)
end
theorem Dt.mono (k : Keep H H') (p : al <+: al') {v : V} {d : D} (h : Dt g al H v d) : Dt g al' H' v d := Dt.monoZ k.toZ p h
theorem DtL.mono (k : Keep H H') (p : al <+: al') {vs : List V} {ds : List D} (h : DtL g al H vs ds) : DtL g al' H' vs ds := DtL.monoZ k.toZ p h
theorem DtK.mono (k : Keep H H') (p : al <+: al') {vs : List (Key × V)} {ds : List (Str × D)} (h : DtK g al H vs ds) : DtK g al' H' vs ds := DtK.monoZ k.toZ p h
/-- what may change without touching data -/
def Loose (H : Hp) (p : Addr) : Prop := (∀ o u, H p ≠ some (.frz o u)) ∧ ∀ xs, H p ≠ some (.tup xs)
theorem sqT_loose {K : PySem.W.Frag} {p a : Addr} {o : HO} {xs : List V} (q : Loose H p) (h : SqT K H a xs) : SqT K (upd H p o) a xs := by
  rcases h with (h | ⟨ob, h⟩) | h
  · exact .inl (.inl (by rw [upd_ne (fun e => q.2 _ (e ▸ h))]; exact h))
  · exact .inl (.inr ⟨ob, by rw [upd_ne (fun e => q.1 _ _ (e ▸ h))]; exact h⟩)
  · exact .inr h
theorem lsF_loose {K : PySem.W.Frag} {p a : Addr} {o : HO} {xs : List V} (q : Loose H p) (h : LsF K H a xs) : LsF K (upd H p o) a xs := by
  rcases h with ⟨ob, h⟩ | h
  · exact .inl ⟨ob, by rw [upd_ne (fun e => q.1 _ _ (e ▸ h))]; exact h⟩
  · exact .inr h
mutual
theorem Dt.loose {p : Addr} {o : HO} (q : Loose H p) : ∀ {v : V} {d : D}, Dt g al H v d → Dt g al (upd H p o) v d
  | _, _, .non => .non
  | _, _, .bl b => .bl b
  | _, _, .int i => .int i
  | _, _, .str x => .str x
  | _, _, .fn i => .fn i
  | _, _, .obj h => .obj h
  | _, _, .tup h l => .tup (sqT_loose q h) (DtL.loose q l)
  | _, _, .lst h l => .lst (lsF_loose q h) (DtL.loose q l)
  | _, _, .dic h l => .dic (by rw [upd_ne (fun e => q.1 _ _ (e ▸ h))]; exact h) (DtK.loose q l)
theorem DtL.loose {p : Addr} {o : HO} (q : Loose H p) : ∀ {vs : List V} {ds : List D}, DtL g al H vs ds → DtL g al (upd H p o) vs ds
  | _, _, .nil => .nil
  | _, _, .cons h t => .cons (Dt.loose q h) (DtL.loose q t)
theorem DtK.loose {p : Addr} {o : HO} (q : Loose H p) : ∀ {vs : List (Key × V)} {ds : List (Str × D)}, DtK g al H vs ds → DtK g al (upd H p o) vs ds
  | _, _, .nil => .nil
  | _, _, .cons h t => .cons (Dt.loose q h) (DtK.loose q t)
end
theorem loose_lst {p : Addr} {xs : List V} (h : H p = some (.lst xs)) : Loose H p := ⟨fun _ _ e => (by rw [h] at e; cases e), fun _ e => (by rw [h] at e; cases e)⟩
theorem loose_dK {p : Addr} {xs : List (Key × V)} (h : H p = some (.dK xs)) : Loose H p := ⟨fun _ _ e => (by rw [h] at e; cases e), fun _ e => (by rw [h] at e; cases e)⟩
theorem loose_ins {p C dx : Addr} {fs : List (Str × V)} (h : H p = some (.ins C dx fs)) : Loose H p := ⟨fun _ _ e => (by rw [h] at e; cases e), fun _ e => (by rw [h] at e; cases e)⟩
theorem loose_none {p : Addr} (h : H p = none) : Loose H p := ⟨fun _ _ e => (by rw [h] at e; cases e), fun _ e => (by rw [h] at e; cases e)⟩

theorem DtL.length : ∀ {vs : List V} {ds : List D}, DtL g al H vs ds → vs.length = ds.length
  | _, _, .nil => rfl
  | _, _, .cons _ t => by rw [List.length_cons, List.length_cons, DtL.length t]
theorem DtK.length : ∀ {vs : List (Key × V)} {ds : List (Str × D)}, DtK g al H vs ds → vs.length = ds.length
  | _, _, .nil => rfl
  | _, _, .cons _ t => by rw [List.length_cons, List.length_cons, DtK.length t]
theorem DtL.get : ∀ {vs : List V} {ds : List D} {i : Nat} {d : D}, DtL g al H vs ds → ds[i]? = some d → ∃ v, vs[i]? = some v ∧ Dt g al H v d
  | _, _, _, _, .nil, e => by simp at e
  | _, _, 0, _, .cons h _, e => by simp at e; subst e; exact ⟨_, rfl, h⟩
  | _, _, i + 1, _, .cons _ t, e => by
    obtain ⟨v, h1, h2⟩ := DtL.get (i := i) t (by simpa using e)
    exact ⟨v, by simpa using h1, h2⟩
theorem DtL.getV : ∀ {vs : List V} {ds : List D} {i : Nat} {v : V}, DtL g al H vs ds → vs[i]? = some v → ∃ d, ds[i]? = some d ∧ Dt g al H v d
  | _, _, _, _, .nil, e => by simp at e
  | _, _, 0, _, .cons h _, e => by simp at e; subst e; exact ⟨_, rfl, h⟩
  | _, _, i + 1, _, .cons _ t, e => by
    obtain ⟨v, h1, h2⟩ := DtL.getV (i := i) t (by simpa using e)
    exact ⟨v, by simpa using h1, h2⟩
theorem DtL.append : ∀ {vs ws : List V} {ds es : List D}, DtL g al H vs ds → DtL g al H ws es → DtL g al H (vs ++ ws) (ds ++ es)
  | _, _, _, _, .nil, h => h
  | _, _, _, _, .cons h t, h2 => .cons h (DtL.append t h2)
theorem DtL.one {v : V} {d : D} (h : Dt g al H v d) : DtL g al H [v] [d] := .cons h .nil
theorem DtL.take : ∀ {vs : List V} {ds : List D} (n : Nat), DtL g al H vs ds → DtL g al H (vs.take n) (ds.take n)
  | _, _, 0, _ => .nil
  | _, _, _ + 1, .nil => .nil
  | _, _, n + 1, .cons h t => .cons h (DtL.take n t)
theorem DtL.drop : ∀ {vs : List V} {ds : List D} (n : Nat), DtL g al H vs ds → DtL g al H (vs.drop n) (ds.drop n)
  | _, _, 0, h => h
  | _, _, _ + 1, .nil => .nil
  | _, _, n + 1, .cons _ t => DtL.drop n t
theorem DtL.dropLast {vs : List V} {ds : List D} (h : DtL g al H vs ds) : DtL g al H vs.dropLast ds.dropLast := by
  rw [List.dropLast_eq_take, List.dropLast_eq_take, h.length]
  exact h.take _
theorem DtL.reverse : ∀ {vs : List V} {ds : List D}, DtL g al H vs ds → DtL g al H vs.reverse ds.reverse
  | _, _, .nil => .nil
  | _, _, .cons h t => by
    rw [List.reverse_cons, List.reverse_cons]
    exact (DtL.reverse t).append (.one h)
theorem DtL.set : ∀ {vs : List V} {ds : List D} {v : V} {d : D} (i : Nat), DtL g al H vs ds → Dt g al H v d → DtL g al H (vs.set i v) (ds.set i d)
  | _, _, _, _, _, .nil, _ => .nil
  | _, _, _, _, 0, .cons _ t, q => .cons q t
  | _, _, _, _, i + 1, .cons h t, q => .cons h (DtL.set i t q)
theorem DtL.ints : ∀ ns : List Int, DtL g al H (ns.map V.int) (ns.map D.int)
  | [] => .nil
  | n :: r => .cons (.int n) (DtL.ints r)
theorem strsD_of : ∀ {vs : List V} {ds : List D} {ys : List Str}, DtL g al H vs ds → strsD ds = some ys → vs = ys.map V.str
  | _, _, _, .nil, e => by simp [strsD] at e; subst e; rfl
  | _, _, _, .cons (d := .str x) (ds := ds) h t, e => by
    cases h
    cases q : strsD ds with
    | none => simp [strsD, q] at e
    | some zs =>
      simp [strsD, q] at e
      subst e
      rw [strsD_of t q]
      rfl
  | _, _, _, .cons (d := .non) _ _, e => by simp [strsD] at e
  | _, _, _, .cons (d := .bl _) _ _, e => by simp [strsD] at e
  | _, _, _, .cons (d := .int _) _ _, e => by simp [strsD] at e
  | _, _, _, .cons (d := .fn _) _ _, e => by simp [strsD] at e
  | _, _, _, .cons (d := .obj _) _ _, e => by simp [strsD] at e
  | _, _, _, .cons (d := .tup _) _ _, e => by simp [strsD] at e
  | _, _, _, .cons (d := .lst _) _ _, e => by simp [strsD] at e
  | _, _, _, .cons (d := .dic _) _ _, e => by simp [strsD] at e
theorem intsD_of : ∀ {vs : List V} {ds : List D} {ys : List Int}, DtL g al H vs ds → intsD ds = some ys → vs = ys.map V.int
  | _, _, _, .nil, e => by simp [intsD] at e; subst e; rfl
  | _, _, _, .cons (d := .int x) (ds := ds) h t, e => by
    cases h
    cases q : intsD ds with
    | none => simp [intsD, q] at e
    | some zs =>
      simp [intsD, q] at e
      subst e
      rw [intsD_of t q]
      rfl
  | _, _, _, .cons (d := .non) _ _, e => by simp [intsD] at e
  | _, _, _, .cons (d := .bl _) _ _, e => by simp [intsD] at e
  | _, _, _, .cons (d := .str _) _ _, e => by simp [intsD] at e
  | _, _, _, .cons (d := .fn _) _ _, e => by simp [intsD] at e
  | _, _, _, .cons (d := .obj _) _ _, e => by simp [intsD] at e
  | _, _, _, .cons (d := .tup _) _ _, e => by simp [intsD] at e
  | _, _, _, .cons (d := .lst _) _ _, e => by simp [intsD] at e
  | _, _, _, .cons (d := .dic _) _ _, e => by simp [intsD] at e
theorem blsD_of : ∀ {vs : List V} {ds : List D} {ys : List Bool}, DtL g al H vs ds → blsD ds = some ys → vs = ys.map V.bl
  | _, _, _, .nil, e => by simp [blsD] at e; subst e; rfl
  | _, _, _, .cons (d := .bl x) (ds := ds) h t, e => by
    cases h
    cases q : blsD ds with
    | none => simp [blsD, q] at e
    | some zs =>
      simp [blsD, q] at e
      subst e
      rw [blsD_of t q]
      rfl
  | _, _, _, .cons (d := .non) _ _, e => by simp [blsD] at e
  | _, _, _, .cons (d := .int _) _ _, e => by simp [blsD] at e
  | _, _, _, .cons (d := .str _) _ _, e => by simp [blsD] at e
  | _, _, _, .cons (d := .fn _) _ _, e => by simp [blsD] at e
  | _, _, _, .cons (d := .obj _) _ _, e => by simp [blsD] at e
  | _, _, _, .cons (d := .tup _) _ _, e => by simp [blsD] at e
  | _, _, _, .cons (d := .lst _) _ _, e => by simp [blsD] at e
  | _, _, _, .cons (d := .dic _) _ _, e => by simp [blsD] at e
theorem keysD_of : ∀ {kvs : List (Key × V)} {rs : List (Str × D)}, DtK g al H kvs rs → DtL g al H (kvs.map fun kv => kV kv.1) (keysD rs)
  | _, _, .nil => .nil
  | _, _, .cons _ t => .cons (.str _) (keysD_of t)
theorem DtK.valL : ∀ {kvs : List (Key × V)} {rs : List (Str × D)}, DtK g al H kvs rs → DtL g al H (kvs.map (·.2)) (rs.map (·.2))
  | _, _, .nil => .nil
  | _, _, .cons h t => .cons h (DtK.valL t)
theorem DtK.getI : ∀ {kvs : List (Key × V)} {rs : List (Str × D)} {i : Nat} {k : Key} {v : V}, DtK g al H kvs rs → kvs[i]? = some (k, v) → ∃ x d, k = .inr x ∧ rs[i]? = some (x, d) ∧ Dt g al H v d
  | _, _, _, _, _, .nil, e => by simp at e
  | _, _, 0, _, _, .cons h _, e => by
    simp at e
    obtain ⟨rfl, rfl⟩ := e
    exact ⟨_, _, rfl, rfl, h⟩
  | _, _, i + 1, _, _, .cons _ t, e => by
    obtain ⟨x, d, h1, h2, h3⟩ := DtK.getI (i := i) t (by simpa using e)
    exact ⟨x, d, h1, by simpa using h2, h3⟩
theorem inr_eq (a b : Str) : decide ((Sum.inr a : Key) = Sum.inr b) = decide (a = b) := key_rr a b
theorem DtK.val : ∀ {kvs : List (Key × V)} {rs : List (Str × D)} (x : Str), DtK g al H kvs rs → (dget rs x = none ∧ valV kvs (.inr x) = none) ∨ ∃ v d, dget rs x = some d ∧ valV kvs (.inr x) = some v ∧ Dt g al H v d
  | _, _, _, .nil => .inl ⟨rfl, rfl⟩
  | _, _, x, .cons (k := k) (d := d) (v := v) h t => by
    by_cases e : k = x
    · refine .inr ⟨v, d, ?_, ?_, h⟩
      · simp [dget, List.find?_cons, e]
      · exact valV_pos (p := (Sum.inr k, v)) (by rw [e])
    · have h2 : ∀ r : List (Str × D), dget ((k, d) :: r) x = dget r x := fun r => by simp [dget, List.find?_cons, e]
      rw [valV_neg (p := (Sum.inr k, v)) (fun q => e (Sum.inr.inj q)), h2]
      exact DtK.val x t
theorem DtK.any : ∀ {kvs : List (Key × V)} {rs : List (Str × D)} (x : Str), DtK g al H kvs rs → (kvs.any fun kv => decide (kv.1 = Sum.inr x)) = (rs.any fun p => decide (p.1 = x))
  | _, _, _, .nil => rfl
  | _, _, x, .cons (k := k) h t => by
    rw [List.any_cons, List.any_cons, DtK.any x t, inr_eq]
theorem DtK.snoc : ∀ {kvs : List (Key × V)} {rs : List (Str × D)} {x : Str} {v : V} {d : D}, DtK g al H kvs rs → Dt g al H v d → DtK g al H (kvs ++ [(.inr x, v)]) (rs ++ [(x, d)])
  | _, _, _, _, _, .nil, q => .cons q .nil
  | _, _, _, _, _, .cons h t, q => .cons h (DtK.snoc t q)
theorem DtK.mapPut : ∀ {kvs : List (Key × V)} {rs : List (Str × D)} {x : Str} {v : V} {d : D}, DtK g al H kvs rs → Dt g al H v d →
    DtK g al H (kvs.map fun kv => if kv.1 = Sum.inr x then (kv.1, v) else kv) (rs.map fun p => if p.1 = x then (p.1, d) else p)
  | _, _, _, _, _, .nil, _ => .nil
  | _, _, x, _, _, .cons (k := k) h t, q => by
    rw [List.map_cons, List.map_cons]
    by_cases e : k = x
    · rw [if_pos (show (Sum.inr k : Key) = Sum.inr x by rw [e]), if_pos (show k = x from e)]
      exact .cons q (DtK.mapPut t q)
    · rw [if_neg (show ¬ (Sum.inr k : Key) = Sum.inr x from fun z => e (Sum.inr.inj z)), if_neg (show ¬ k = x from e)]
      exact .cons h (DtK.mapPut t q)
theorem DtK.put {kvs : List (Key × V)} {rs : List (Str × D)} {x : Str} {v : V} {d : D} (h : DtK g al H kvs rs) (q : Dt g al H v d) : DtK g al H (putK kvs (.inr x) v) (dput rs x d) := by
  unfold putK dput
  rw [DtK.any x h]
  split
  · exact h.mapPut q
  · exact h.snoc q
theorem DtK.drop : ∀ {kvs : List (Key × V)} {rs : List (Str × D)} (x : Str), DtK g al H kvs rs → DtK g al H (dropK kvs (.inr x)) (ddrop rs x)
  | _, _, _, .nil => .nil
  | _, _, x, .cons (k := k) h t => by
    have ih := DtK.drop x t
    unfold dropK ddrop at ih ⊢
    rw [List.filter_cons, List.filter_cons]
    by_cases e : k = x
    · rw [if_neg (by simp [e]), if_neg (by simp [e])]
      exact ih
    · rw [if_pos (by simp [e]), if_pos (by simp [e])]
      exact .cons h ih

/-- what is only read: data, or a list or dict of the def's own -/
def Bt (g : GC) (al : Al) (H : Hp) (v : V) (d : D) : Prop :=
  Dt g al H v d ∨ (∃ a vs ds, v = .ref a ∧ d = .lst ds ∧ H a = some (.lst vs) ∧ DtL g al H vs ds) ∨ ∃ a kvs rs, v = .ref a ∧ d = .dic rs ∧ H a = some (.dK kvs) ∧ DtK g al H kvs rs
theorem Bt.mono (k : Keep H H') (p : al <+: al') {v : V} {d : D} (h : Bt g al H v d) : Bt g al' H' v d := by
  rcases h with h | ⟨a, vs, ds, e1, e2, h1, h2⟩ | ⟨a, vs, ds, e1, e2, h1, h2⟩
  · exact .inl (h.mono k p)
  · exact .inr (.inl ⟨a, vs, ds, e1, e2, k.k _ _ h1 (fun _ _ _ z => nomatch z), h2.mono k p⟩)
  · exact .inr (.inr ⟨a, vs, ds, e1, e2, k.k _ _ h1 (fun _ _ _ z => nomatch z), h2.mono k p⟩)
theorem Bt.lst {v : V} {ds : List D} (h : Bt g al H v (.lst ds)) : ∃ a vs, v = .ref a ∧ SqL g.K H a vs ∧ DtL g al H vs ds := by
  rcases h with h | ⟨a, vs, ds', e1, e2, h1, h2⟩ | ⟨a, vs, ds', e1, e2, h1, h2⟩
  · cases h with
    | lst h l => exact ⟨_, _, rfl, h.sq, l⟩
  · cases e2
    exact ⟨a, vs, e1, .inl (.inl h1), h2⟩
  · cases e2
theorem Bt.dic {v : V} {rs : List (Str × D)} (h : Bt g al H v (.dic rs)) : ∃ a kvs, v = .ref a ∧ Rd H a (.dK kvs) ∧ DtK g al H kvs rs := by
  rcases h with h | ⟨a, vs, ds', e1, e2, h1, h2⟩ | ⟨a, vs, ds', e1, e2, h1, h2⟩
  · cases h with
    | dic h l => exact ⟨_, _, rfl, .inr ⟨_, h⟩, l⟩
  · cases e2
  · cases e2
    exact ⟨a, vs, e1, .inl h1, h2⟩
theorem Bt.tup {v : V} {ds : List D} (h : Bt g al H v (.tup ds)) : ∃ a vs, v = .ref a ∧ SqT g.K H a vs ∧ DtL g al H vs ds := by
  rcases h with h | ⟨a, vs, ds', e1, e2, h1, h2⟩ | ⟨a, vs, ds', e1, e2, h1, h2⟩
  · cases h with
    | tup h l => exact ⟨_, _, rfl, h, l⟩
  · cases e2
  · cases e2
theorem Bt.int {v : V} {i : Int} (h : Bt g al H v (.int i)) : v = .int i := by
  rcases h with h | ⟨_, _, _, _, e, _⟩ | ⟨_, _, _, _, e, _⟩
  · cases h; rfl
  · cases e
  · cases e
theorem Bt.str {v : V} {x : Str} (h : Bt g al H v (.str x)) : v = .str x := by
  rcases h with h | ⟨_, _, _, _, e, _⟩ | ⟨_, _, _, _, e, _⟩
  · cases h; rfl
  · cases e
  · cases e
theorem Bt.bl {v : V} {b : Bool} (h : Bt g al H v (.bl b)) : v = .bl b := by
  rcases h with h | ⟨_, _, _, _, e, _⟩ | ⟨_, _, _, _, e, _⟩
  · cases h; rfl
  · cases e
  · cases e
theorem Bt.non {v : V} (h : Bt g al H v .non) : v = .non := by
  rcases h with h | ⟨_, _, _, _, e, _⟩ | ⟨_, _, _, _, e, _⟩
  · cases h; rfl
  · cases e
  · cases e
theorem Bt.obj {v : V} {i : Nat} (h : Bt g al H v (.obj i)) : ∃ x dx, v = .ref x ∧ al[i]? = some (x, dx) := by
  rcases h with h | ⟨_, _, _, _, e, _⟩ | ⟨_, _, _, _, e, _⟩
  · cases h with
    | obj h => exact ⟨_, _, rfl, h⟩
  · cases e
  · cases e
theorem Bt.nn {v : V} {d : D} (h : Bt g al H v d) : decide (v = .non) = (match d with | .non => true | _ => false) := by
  rcases h with h | ⟨_, _, _, e1, e, _⟩ | ⟨_, _, _, e1, e, _⟩
  · cases h <;> simp
  · subst e1 e; simp
  · subst e1 e; simp
end
end Pi

/-! Pi3: the state at a place of a def's body; what an expression, a statement asks, by data. -/
namespace Pi
open PySem L2 PySem.Spec PyProof.Rows

/-- an instance's attributes as they lie -/
def FsOk (g : GC) (al : Al) (H : Hp) (fs : List (Str × V)) (ds : List (Str × D)) : Prop :=
  fs.map (·.1) = ds.map (·.1) ∧ DtL g al H (fs.map (·.2)) (ds.map (·.2))
structure StoOk (g : GC) (al : Al) (S : Sto) (H : Hp) : Prop where
  len : al.length = S.length
  ins : ∀ (i : Nat) (x dx : Addr) (o : Ob), al[i]? = some (x, dx) → S[i]? = some o → ∃ fs, H x = some (.ins (g.ca o.cls) dx fs) ∧ FsOk g al H fs o.fs
  nd : ∀ (i j : Nat) (x dx dx' : Addr), al[i]? = some (x, dx) → al[j]? = some (x, dx') → i = j
section
variable {g : GC} {al al' al0 : Al} {H H' H0 : Hp} {S S' : Sto}
theorem FsOk.mono {fs : List (Str × V)} {ds : List (Str × D)} (k : Keep H H') (p : al <+: al') (h : FsOk g al H fs ds) : FsOk g al' H' fs ds := ⟨h.1, h.2.mono k p⟩
theorem FsOk.loose {fs : List (Str × V)} {ds : List (Str × D)} {p : Addr} {o : HO} (q : Loose H p) (h : FsOk g al H fs ds) : FsOk g al (upd H p o) fs ds := ⟨h.1, h.2.loose q⟩
theorem FsOk.len {fs : List (Str × V)} {ds : List (Str × D)} (h : FsOk g al H fs ds) : fs.length = ds.length := by
  have := congrArg List.length h.1
  simpa using this
theorem FsOk.get : ∀ {fs : List (Str × V)} {ds : List (Str × D)} {f : Str} {d : D}, FsOk g al H fs ds → dget ds f = some d → ∃ v, fs.lookup f = some v ∧ Dt g al H v d
  | [], [], f, d, _, e => by simp [dget] at e
  | [], _ :: _, _, _, h, _ => by have := h.len; simp at this
  | _ :: _, [], _, _, h, _ => by have := h.len; simp at this
  | (x, v) :: fs, (y, c) :: ds, f, d, h, e => by
    obtain ⟨h1, h2⟩ := h
    simp only [List.map_cons, List.cons.injEq] at h1
    obtain ⟨rfl, h1⟩ := h1
    cases h2 with
    | cons q t =>
      by_cases ef : x = f
      · subst ef
        simp [dget, List.find?_cons] at e
        subst e
        exact ⟨v, by simp, q⟩
      · have e' : dget ds f = some d := by simpa [dget, List.find?_cons, ef] using e
        obtain ⟨w, e1, dw⟩ := FsOk.get (fs := fs) ⟨h1, t⟩ e'
        have : (f == x) = false := by simpa using fun z => ef z.symm
        exact ⟨w, by rw [List.lookup_cons, this]; exact e1, dw⟩
theorem StoOk.same (s : L2.Same H H') (h : StoOk g al S H) : StoOk g al S H' :=
  ⟨h.len, fun i x dx o e1 e2 => let ⟨fs, q, f⟩ := h.ins i x dx o e1 e2; ⟨fs, s _ _ q, f.mono (.of s) (List.prefix_refl al)⟩, h.nd⟩
/-- a loose thing that is no instance changes -/
theorem StoOk.loose {p : Addr} {o : HO} (q : Loose H p) (n : ∀ C dx fs, H p ≠ some (.ins C dx fs)) (h : StoOk g al S H) : StoOk g al S (upd H p o) :=
  ⟨h.len, fun i x dx ob e1 e2 => by
    obtain ⟨fs, e, f⟩ := h.ins i x dx ob e1 e2
    exact ⟨fs, by rw [upd_ne (fun z => n _ _ _ (z ▸ e))]; exact e, f.loose q⟩, h.nd⟩

def Sl.own : Sl → Bool
  | .v _ => false
  | _ => true
/-- what a name holds -/
def SlOk (g : GC) (al : Al) (H0 H : Hp) (v : V) : Sl → Prop
  | .v d => Dt g al H v d
  | .ol ds => ∃ a vs, v = .ref a ∧ H0 a = none ∧ H a = some (.lst vs) ∧ DtL g al H vs ds
  | .od rs => ∃ a kvs, v = .ref a ∧ H0 a = none ∧ H a = some (.dK kvs) ∧ DtK g al H kvs rs
theorem SlOk.mono {v : V} {s : Sl} (k : Keep H H') (p : al <+: al') (h : SlOk g al H0 H v s) : SlOk g al' H0 H' v s := by
  cases s with
  | v d => exact Dt.mono k p h
  | ol ds =>
    obtain ⟨a, vs, e, z, q, l⟩ := h
    exact ⟨a, vs, e, z, k.k _ _ q (fun _ _ _ z => nomatch z), l.mono k p⟩
  | od rs =>
    obtain ⟨a, vs, e, z, q, l⟩ := h
    exact ⟨a, vs, e, z, k.k _ _ q (fun _ _ _ z => nomatch z), l.mono k p⟩
theorem SlOk.loose {v : V} {s : Sl} {p : Addr} {o : HO} (q : Loose H p) (hn : s.own = true → v ≠ .ref p) (h : SlOk g al H0 H v s) : SlOk g al H0 (upd H p o) v s := by
  cases s with
  | v d => exact Dt.loose q h
  | ol ds =>
    obtain ⟨a, vs, e, z, y, l⟩ := h
    exact ⟨a, vs, e, z, by rw [upd_ne (fun w => hn rfl (by rw [e, w]))]; exact y, l.loose q⟩
  | od rs =>
    obtain ⟨a, vs, e, z, y, l⟩ := h
    exact ⟨a, vs, e, z, by rw [upd_ne (fun w => hn rfl (by rw [e, w]))]; exact y, l.loose q⟩
theorem SlOk.bt {v : V} {s : Sl} {d : D} (h : SlOk g al H0 H v s) (e : s.frz = .v d) : Bt g al H v d := by
  cases s with
  | v d' => cases e; exact .inl h
  | ol ds =>
    cases e
    obtain ⟨a, vs, e, z, y, l⟩ := h
    exact .inr (.inl ⟨a, vs, ds, e, rfl, y, l⟩)
  | od rs =>
    cases e
    obtain ⟨a, vs, e, z, y, l⟩ := h
    exact .inr (.inr ⟨a, vs, rs, e, rfl, y, l⟩)

/-- the state at a place: H0, al0 at the def's entry -/
structure RS (g : GC) (H0 : Hp) (al0 : Al) (r : Rho) (S : Sto) (al : Al) (σ : L2.St) (H : Hp) : Prop where
  keep : Keep H0 H
  pre : al0 <+: al
  sto : StoOk g al S H
  len : σ.length = r.length
  sl : ∀ (i : Nat) (s : Sl), r[i]? = some (some s) → ∃ v, σ[i]? = some (some v) ∧ SlOk g al H0 H v s
  nd : ∀ (i j : Nat) (s t : Sl) (a : Addr), i ≠ j → r[i]? = some (some s) → r[j]? = some (some t) → Sl.own s = true → Sl.own t = true → σ[i]? = some (some (V.ref a)) → σ[j]? ≠ some (some (V.ref a))
variable {r : Rho} {σ : L2.St}
theorem RS.step (h : RS g H0 al0 r S al σ H) (k : Keep H H') (p : al <+: al') (s : StoOk g al' S' H') : RS g H0 al0 r S' al' σ H' :=
  ⟨h.keep.trans k, h.pre.trans p, s, h.len, fun i sl e => let ⟨v, e2, q⟩ := h.sl i sl e; ⟨v, e2, q.mono k p⟩, h.nd⟩
theorem RS.same (h : RS g H0 al0 r S al σ H) (s : L2.Same H H') : RS g H0 al0 r S al σ H' := h.step (.of s) (List.prefix_refl al) (h.sto.same s)
theorem RS.new {p : Addr} {o : HO} (h : RS g H0 al0 r S al σ H) (n : H p = none) : RS g H0 al0 r S al σ (upd H p o) := h.same (same_new n)
/-- the own things' addresses -/
def OwnAt (r : Rho) (σ : L2.St) (p : Addr) : Prop := ∃ (i : Nat) (s : Sl), r[i]? = some (some s) ∧ s.own = true ∧ σ[i]? = some (some (V.ref p))
theorem RS.own_some (h : RS g H0 al0 r S al σ H) {p : Addr} (o : OwnAt r σ p) : (∃ vs, H p = some (.lst vs)) ∨ ∃ kvs, H p = some (.dK kvs) := by
  obtain ⟨i, s, e, w, q⟩ := o
  obtain ⟨v, e2, k⟩ := h.sl i s e
  rw [q] at e2
  cases e2
  cases s with
  | v d => cases w
  | ol ds =>
    obtain ⟨a, vs, e, _, y, _⟩ := k
    cases e
    exact .inl ⟨vs, y⟩
  | od rs =>
    obtain ⟨a, vs, e, _, y, _⟩ := k
    cases e
    exact .inr ⟨vs, y⟩
/-- a thing of nobody's name changes -/
theorem RS.free {p : Addr} {o : HO} (h : RS g H0 al0 r S al σ H) (q : Loose H p) (n : ∀ C dx fs, H p ≠ some (.ins C dx fs)) (h0 : H0 p = none) (no : ¬ OwnAt r σ p) : RS g H0 al0 r S al σ (upd H p o) :=
  ⟨h.keep.mut h0, h.pre, h.sto.loose q n, h.len, fun i sl e => by
    obtain ⟨v, e2, k⟩ := h.sl i sl e
    exact ⟨v, e2, k.loose q fun w z => no ⟨i, sl, e, w, by rw [e2, z]⟩⟩, h.nd⟩

/-! ### the wishes -/
/-- how a value lies: as data, as data or own, new (Hs: the heap ahead) -/
abbrev RR (α : Type) := Hp → Al → Hp → V → α → Prop
def RV (g : GC) : RR D := fun _ al H v d => Dt g al H v d
def RB (g : GC) : RR D := fun _ al H v d => Bt g al H v d
/-- a list or dict that nobody has -/
def RF (g : GC) : RR D := fun Hs al H v d =>
  match d with
  | .lst ds => ∃ a vs, v = .ref a ∧ Hs a = none ∧ H a = some (.lst vs) ∧ DtL g al H vs ds
  | .dic rs => ∃ a kvs, v = .ref a ∧ Hs a = none ∧ H a = some (.dK kvs) ∧ DtK g al H kvs rs
  | d => Dt g al H v d
theorem RF.bt {Hs : Hp} {v : V} {d : D} (h : RF g Hs al H v d) : Bt g al H v d := by
  cases d with
  | lst ds =>
    obtain ⟨a, vs, e, _, y, l⟩ := h
    exact .inr (.inl ⟨a, vs, ds, e, rfl, y, l⟩)
  | dic rs =>
    obtain ⟨a, vs, e, _, y, l⟩ := h
    exact .inr (.inr ⟨a, vs, rs, e, rfl, y, l⟩)
  | _ => exact .inl h

/-- what is wanted behind a reckoning that comes to o -/
def Pst {α β : Type} (g : GC) (W : WX) (H0 : Hp) (al0 : Al) (r : Rho) (σ : L2.St) (al : Al) (H : Hp) (R : Al → Hp → β → α → Prop) (o : Out α) (Q : β → Hp → Prop) : Prop :=
  match o with
  | .ok d S' => ∀ H' al' v, RS g H0 al0 r S' al' σ H' → Keep H H' → al <+: al' → R al' H' v d → Q v H'
  | .exc c S' => ∀ H' al', RS g H0 al0 r S' al' σ H' → W (g.xa c) none σ H'
  | .bad => False
/-- the reading by data -/
def TR (g : GC) (W : WX) (R : RR D) (m : Rho → Sto → Out D) : TE := fun σ H Q =>
  ∃ H0 al0 al r S, RS g H0 al0 r S al σ H ∧ Pst g W H0 al0 r σ al H (R H) (m r S) Q
def TT' (g : GC) (W : WX) (m : Rho → Sto → Out Bool) : TT := fun σ H Q =>
  ∃ H0 al0 al r S, RS g H0 al0 r S al σ H ∧ Pst g W H0 al0 r σ al H (fun _ _ (b : Bool) d => b = d) (m r S) Q
def TAs (g : GC) (W : WX) (m : Rho → Sto → Out (List D)) : TA := fun σ H Q =>
  ∃ H0 al0 al r S, RS g H0 al0 r S al σ H ∧ Pst g W H0 al0 r σ al H (fun al H vs ds => DtL g al H vs ds) (m r S) Q
def PstS (g : GC) (W : WX) (H0 : Hp) (al0 : Al) (o : SO) (D : Ends) : Prop :=
  match o with
  | .nx r S => ∀ σ H al, RS g H0 al0 r S al σ H → D.nx σ H
  | .bk r S => ∀ σ H al, RS g H0 al0 r S al σ H → D.bk σ H
  | .ct r S => ∀ σ H al, RS g H0 al0 r S al σ H → D.ct σ H
  | .rt d S => ∀ v H al, Keep H0 H → al0 <+: al → StoOk g al S H → Dt g al H v d → D.rt v H
  | .xc c r S => ∀ σ H al, RS g H0 al0 r S al σ H → W (g.xa c) none σ H
  | .bad => False
def TSt (g : GC) (W : WX) (m : Rho → Sto → SO) : TS := fun D σ H =>
  ∃ H0 al0 al r S, RS g H0 al0 r S al σ H ∧ PstS g W H0 al0 (m r S) D

section
variable {α β γ δ : Type} {W : WX} {R : Al → Hp → β → α → Prop} {R1 : Al → Hp → δ → γ → Prop} {Q : β → Hp → Prop}
/-- one step, then the rest -/
theorem Pst.bnd {o : Out γ} {k : γ → Sto → Out α} (h : Pst g W H0 al0 r σ al H R (o.bnd k) Q) :
    Pst g W H0 al0 r σ al H R1 o fun (v : δ) H1 => ∃ al1 x S1, RS g H0 al0 r S1 al1 σ H1 ∧ Keep H H1 ∧ al <+: al1 ∧ R1 al1 H1 v x ∧ Pst g W H0 al0 r σ al1 H1 R (k x S1) Q := by
  cases o with
  | bad => exact h
  | exc c S' => exact h
  | ok x S' =>
    intro H1 al1 v rs kp pr q
    refine ⟨al1, x, S', rs, kp, pr, q, ?_⟩
    have h2 : Pst g W H0 al0 r σ al H R (k x S') Q := h
    revert h2
    cases k x S' with
    | bad => exact id
    | exc c S2 => exact id
    | ok d S2 => exact fun h2 H' al' v' rs' kp' pr' q' => h2 H' al' v' rs' (kp.trans kp') (pr.trans pr') q'
theorem Pst.imp {o : Out α} {Q' : β → Hp → Prop} (h : Pst g W H0 al0 r σ al H R o Q) (i : ∀ v H', Q v H' → Q' v H') : Pst g W H0 al0 r σ al H R o Q' := by
  cases o with
  | bad => exact h
  | exc c S' => exact h
  | ok x S' => exact fun H' al' v rs k p q => i _ _ (h H' al' v rs k p q)
theorem Pst.lift {x : Option α} {S : Sto} (h : Pst g W H0 al0 r σ al H R (lift x S) Q) : ∃ a, x = some a ∧ Pst g W H0 al0 r σ al H R (.ok a S) Q := by
  cases x with
  | none => exact h.elim
  | some a => exact ⟨a, rfl, h⟩
/-- the end, where the heap is the same -/
theorem Pst.here {d : α} {v : β} (rs : RS g H0 al0 r S al σ H) (h : Pst g W H0 al0 r σ al H R (.ok d S) Q) (q : R al H v d) : Q v H :=
  h H al v rs (Keep.refl H) (List.prefix_refl al) q
/-- .. where a new thing was laid -/
theorem Pst.new {d : α} {v : β} {p : Addr} {o : HO} (rs : RS g H0 al0 r S al σ H) (h : Pst g W H0 al0 r σ al H R (.ok d S) Q) (n : H p = none) (q : R al (upd H p o) v d) : Q v (upd H p o) :=
  h _ al v (rs.new n) (.of (same_new n)) (List.prefix_refl al) q
end
theorem PE.imp {X : Cx} {e : Expr} {t t' : TE} (h : PE X e t) (i : ∀ σ H Q, t' σ H Q → t σ H Q) : PE X e t' := ⟨fun pins s σ H Q I q => h.run pins s σ H Q I (i σ H Q q)⟩
theorem PT.imp {X : Cx} {e : Expr} {t t' : TT} (h : PT X e t) (i : ∀ σ H Q, t' σ H Q → t σ H Q) : PT X e t' := ⟨fun pins s σ H Q I q => h.run pins s σ H Q I (i σ H Q q)⟩
theorem PA.imp {X : Cx} {e : List Expr} {t t' : TA} (h : PA X e t) (i : ∀ σ H Q, t' σ H Q → t σ H Q) : PA X e t' := ⟨fun pos pins s σ H Q I q => h.run pos pins s σ H Q I (i σ H Q q)⟩
theorem PS.imp {X : Cx} {e : Stmt} {t t' : TS} (h : PS X e t) (i : ∀ D σ H, t' D σ H → t D σ H) : PS X e t' := ⟨fun pins s σ H D I q => h.run pins s σ H D I (i D σ H q)⟩
theorem PSs.imp {X : Cx} {e : List Stmt} {t t' : TS} (h : PSs X e t) (i : ∀ D σ H, t' D σ H → t D σ H) : PSs X e t' := ⟨fun pins s σ H D I q => h.run pins s σ H D I (i D σ H q)⟩

/-! ### freezing, without a step of the program -/
theorem Keep.frz {H H1 : Hp} {a : Addr} {o : HO} (k : Keep H H1) (n : H a = none) : Keep H (upd H1 a o) := k.mut n
/-- a new value becomes data -/
theorem PE.frz {X : Cx} {W : WX} {e : Expr} {m : Rho → Sto → Out D} (h : PE X e (TR g W (RF g) m)) : PE X e (TR g W (RV g) m) := by
  refine ⟨fun pins s σ H Q I hq => ?_⟩
  obtain ⟨H0, al0, al, r, S, rs, hq⟩ := hq
  refine thn (h.run pins s σ H (fun v H1 => ∃ al1 d S1, RS g H0 al0 r S1 al1 σ H1 ∧ Keep H H1 ∧ al <+: al1 ∧ RF g H al1 H1 v d ∧ Pst g W H0 al0 r σ al H (RV g H) (.ok d S1) Q) I ?_) ?_
  · refine ⟨H0, al0, al, r, S, rs, ?_⟩
    cases q : m r S with
    | bad => rw [q] at hq; exact hq
    | exc c S' => rw [q] at hq; exact hq
    | ok d S' => rw [q] at hq; exact fun H' al' v rs' k p q => ⟨al', d, S', rs', k, p, q, hq⟩
  · rintro u s' ⟨v, H1, I1, rv, al1, d, S1, rs1, k, p, q, fin⟩
    cases d with
    | lst ds =>
      obtain ⟨a, vs, rfl, h0, y, l⟩ := q
      obtain ⟨od, I2⟩ := I1.lock y trivial
      have lo := loose_lst y
      refine ⟨.ref a, _, I2, rv, fin _ al1 _ (rs1.free lo (fun _ _ _ z => by rw [y] at z; cases z) (rs.keep.back h0) fun o => ?_) (k.mut h0) p (.lst (.inl ⟨od, upd_same⟩) (l.loose lo))⟩
      rcases rs.own_some o with ⟨_, z⟩ | ⟨_, z⟩ <;> (rw [h0] at z; cases z)
    | dic es =>
      obtain ⟨a, vs, rfl, h0, y, l⟩ := q
      obtain ⟨od, I2⟩ := I1.lock y trivial
      have lo := loose_dK y
      refine ⟨.ref a, _, I2, rv, fin _ al1 _ (rs1.free lo (fun _ _ _ z => by rw [y] at z; cases z) (rs.keep.back h0) fun o => ?_) (k.mut h0) p (.dic upd_same (l.loose lo))⟩
      rcases rs.own_some o with ⟨_, z⟩ | ⟨_, z⟩ <;> (rw [h0] at z; cases z)
    | _ => exact ⟨v, H1, I1, rv, fin H1 al1 v rs1 k p q⟩
/-- the def's own things become data -/
theorem RS.frz1 {X : Cx} {pins : List (Addr × Obj)} {s : Shared} (rs : RS g H0 al0 r S al σ H) (I : Inv X pins σ H s) (i : Nat) :
    ∃ H', Inv X pins σ H' s ∧ RS g H0 al0 (match r[i]? with | some (some s) => r.set i (some s.frz) | _ => r) S al σ H' := by
  cases e : r[i]? with
  | none => exact ⟨H, I, rs⟩
  | some o =>
    cases o with
    | none => exact ⟨H, I, rs⟩
    | some sl =>
      obtain ⟨v, ev, k⟩ := rs.sl i sl e
      have hi : i < r.length := (List.getElem?_eq_some_iff.mp e).1
      -- the new state, from a heap where the i-th thing is data
      have fin : ∀ H' d, sl.frz = .v d → Dt g al H' v d → Keep H0 H' → StoOk g al S H' → (∀ j t w, j ≠ i → r[j]? = some (some t) → σ[j]? = some (some w) → SlOk g al H0 H w t → SlOk g al H0 H' w t) →
          RS g H0 al0 (r.set i (some sl.frz)) S al σ H' := fun H' d ed dt kp st ot => by
        refine ⟨kp, rs.pre, st, by rw [List.length_set]; exact rs.len, fun j t ej => ?_, fun j j' t t' a ne ej ej' w w' => ?_⟩
        · by_cases hj : j = i
          · subst hj
            rw [List.getElem?_set_self hi] at ej
            cases ej
            rw [ed]
            exact ⟨v, ev, dt⟩
          · rw [List.getElem?_set_ne (Ne.symm hj)] at ej
            obtain ⟨x, ex, kx⟩ := rs.sl j t ej
            exact ⟨x, ex, ot j t x hj ej ex kx⟩
        · have nown : ∀ (q : Nat) (u : Sl), (r.set i (some sl.frz))[q]? = some (some u) → u.own = true → q ≠ i := fun q u eq wu z => by
            subst z
            rw [List.getElem?_set_self hi] at eq
            cases eq
            rw [ed] at wu
            cases wu
          have n1 := nown j t ej w
          have n2 := nown j' t' ej' w'
          rw [List.getElem?_set_ne (Ne.symm n1)] at ej
          rw [List.getElem?_set_ne (Ne.symm n2)] at ej'
          exact rs.nd j j' t t' a ne ej ej' w w'
      cases sl with
      | v d => exact ⟨H, I, fin H d rfl k rs.keep rs.sto fun _ _ _ _ _ _ q => q⟩
      | ol ds =>
        obtain ⟨a, vs, rfl, h0, y, l⟩ := k
        obtain ⟨od, I2⟩ := I.lock y trivial
        have lo := loose_lst y
        refine ⟨_, I2, fin _ _ rfl (.lst (.inl ⟨od, upd_same⟩) (l.loose lo)) (rs.keep.mut h0) (rs.sto.loose lo fun _ _ _ z => by rw [y] at z; cases z) fun j t w hj ej ew q => q.loose lo fun ow z => ?_⟩
        subst z
        exact rs.nd i j _ t a (Ne.symm hj) e ej rfl ow ev ew
      | od es =>
        obtain ⟨a, vs, rfl, h0, y, l⟩ := k
        obtain ⟨od, I2⟩ := I.lock y trivial
        have lo := loose_dK y
        refine ⟨_, I2, fin _ _ rfl (.dic upd_same (l.loose lo)) (rs.keep.mut h0) (rs.sto.loose lo fun _ _ _ z => by rw [y] at z; cases z) fun j t w hj ej ew q => q.loose lo fun ow z => ?_⟩
        subst z
        exact rs.nd i j _ t a (Ne.symm hj) e ej rfl ow ev ew
theorem RS.frz {X : Cx} {pins : List (Addr × Obj)} {s : Shared} : ∀ (is : List Nat) {r : Rho} {H : Hp}, RS g H0 al0 r S al σ H → Inv X pins σ H s → ∃ H', Inv X pins σ H' s ∧ RS g H0 al0 (frzR r is) S al σ H'
  | [], _, H, rs, I => ⟨H, I, rs⟩
  | i :: is, _, _, rs, I => by
    obtain ⟨H1, I1, rs1⟩ := rs.frz1 I i
    exact RS.frz is rs1 I1
theorem PS.frz {X : Cx} {W : WX} {st : Stmt} {m : Rho → Sto → SO} (is : List Nat) (h : PS X st (TSt g W m)) : PS X st (TSt g W fun r S => m (frzR r is) S) := by
  refine ⟨fun pins s σ H D I hq => ?_⟩
  obtain ⟨H0, al0, al, r, S, rs, hq⟩ := hq
  obtain ⟨H1, I1, rs1⟩ := rs.frz is I
  exact h.run pins s σ H1 D I1 ⟨H0, al0, al, _, S, rs1, hq⟩
end
end Pi

/-! Pi4: operations by data: ==. -/
namespace PySem.SeqAt
open PySem MeetsSeq MeetsSeq2 MeetsSeq3 SeqRoads2 PyProof.Rows
theorem pi_tuple_declines_dict (l b : Addr) (items : Array Value) (n : Nat) (dd : Option Addr) (sl : Array (Option Value)) (ob : Obj) (hc : ob.cls = .type "dict") :
    Meets (Builtin.«tuple.__eq__» ⟨[.ref l, .ref b], []⟩) (fun _ R s => s.heap.get? l = some { cls := .type "tuple", dict := dd, data := .seq items n, slots := sl } ∧ s.heap.get? b = some ob ∧ R (.ok (.ret .notImplemented)) s) :=
  .of_wp fun prog w A R s h => by
    obtain ⟨hp, g, d, tk, os⟩ := s
    obtain ⟨hl, hb, h⟩ := h
    have f1 := F.sub_dict_tuple
    obtain ⟨c, di, da, ss⟩ := ob
    simp only at hc
    subst hc
    wp_walk using wpAny_loadPart' hl, wpAny_loadPart' hb
    exact ⟨_, rfl, h⟩
theorem pi_dict_declines {prog : Program} {w : World} {A : Around} {E : Value → Shared → Prop} {s : Shared} {b : Addr} {v : Value} {T : String} {Q : Value → Shared → Prop}
    (tb : s.TypeIs (.ref b) "dict") (tv : s.TypeIs v T) (sub : isSubtype (.type T) (.type "dict") = pure false) (h : Q .notImplemented s) : wpAny (model prog w) A (call (.builtin "dict.__eq__") [.ref b, v]) Q E s := by
  refine wpAny_call_entry PySem.F.slot_dict_eq tb PySem.F.entry_dict_eq ?_ (PySem.F.args_dict_eq_2 _ _)
  show wpAny _ _ (Builtin.Dict.dictSlotArgs "__eq__" ⟨[.ref b, v], []⟩ >>= _) _ _ s
  refine wpAny_bind ?_
  unfold Builtin.Dict.dictSlotArgs
  refine wpAny_bind (wpAny_notOrdered_dict tb ?_)
  show wpAny _ _ (pure (Value.ref b, v)) _ _ s
  refine wpAny_pure ?_
  refine wpAny_bind (wpAny_isInstance (T := T) tv sub ?_)
  simp only [Bool.not_false, if_true]
  refine wpAny_bind (wpAny_rule ?_)
  exact wpAny_pure ⟨_, rfl, h⟩
theorem pi_rc_tuple_dict {A : Around} {s : Shared} {l b : Addr} {items : Array Value} {ob : Obj} (hl : s.heap.IsTuple l items) (hb : s.heap.get? b = some ob) (hcb : ob.cls = .type "dict") (hne : l ≠ b) (hu : A.units < cLine) : RcAt A s (.ref l) (.ref b) false := fun prog w E Q h => by
  obtain ⟨⟨cls, dd, data, sl⟩, ho, hc, n, hd⟩ := id hl
  simp only at hc hd
  subst hc hd
  exact (rc_eq_decline_or (k := false) ⟨_, ho, rfl⟩ ⟨_, hb, hcb⟩ (by decide) F.sub_dict_tuple F.slot_tuple_eq F.slot_dict_eq_refl
    (fun _ hq => call_meets F.slot_tuple_eq ⟨_, ho, rfl⟩ F.entry_tuple_eq (F.args_tuple_eq_2 _ _) (pi_tuple_declines_dict l b items n dd sl ob hcb) ⟨ho, hb, hq⟩)
    (fun _ hq => pi_dict_declines (T := "tuple") ⟨_, hb, hcb⟩ ⟨_, ho, rfl⟩ F.sub_tuple_dict hq)
    (fun _ hq => wpAny_isSame_ref_other' hne ho hb (by rw [hcb]; simp) hq) (.inr hu) h)
theorem pi_rc_dict_tuple {A : Around} {s : Shared} {l b : Addr} {items : Array Value} {ob : Obj} (hl : s.heap.IsTuple l items) (hb : s.heap.get? b = some ob) (hcb : ob.cls = .type "dict") (hne : b ≠ l) (hu : A.units < cLine) : RcAt A s (.ref b) (.ref l) false := fun prog w E Q h => by
  obtain ⟨⟨cls, dd, data, sl⟩, ho, hc, n, hd⟩ := id hl
  simp only at hc hd
  subst hc hd
  exact (rc_eq_decline_or (k := false) ⟨_, hb, hcb⟩ ⟨_, ho, rfl⟩ (by decide) F.sub_tuple_dict F.slot_dict_eq F.slot_tuple_eq_refl
    (fun _ hq => pi_dict_declines (T := "tuple") ⟨_, hb, hcb⟩ ⟨_, ho, rfl⟩ F.sub_tuple_dict hq)
    (fun _ hq => call_meets F.slot_tuple_eq_refl ⟨_, ho, rfl⟩ F.entry_tuple_eq (F.args_tuple_eq_2 _ _) (pi_tuple_declines_dict l b items n dd sl ob hcb) ⟨ho, hb, hq⟩)
    (fun _ hq => wpAny_isSame_ref_other hne hb ho (by rw [hcb]; simp) hq) (.inr hu) h)
end PySem.SeqAt

namespace Pi
open PySem L2 PySem.Spec PyProof.Rows
section
variable {g : GC} {al : Al} {H : Hp} {X : Cx} {pins : List (Addr × Obj)} {σ : L2.St} {s : Shared}
/-- one and the same datum -/
theorem lsF_inj (hK : g.K = X.K) (I : Inv X pins σ H s) {a : Addr} {xs ys : List V} (h : SqL g.K H a xs) (h' : SqL g.K H a ys) : xs = ys := by
  rw [hK] at h h'
  exact I.list_inj h h'
theorem sqT_inj (hK : g.K = X.K) (I : Inv X pins σ H s) {a : Addr} {xs ys : List V} (h : SqT g.K H a xs) (h' : SqT g.K H a ys) : xs = ys := by
  rw [hK] at h h'
  exact I.tuple_inj h h'
theorem rd_clash_lt (hK : g.K = X.K) (I : Inv X pins σ H s) {a : Addr} {xs ys : List V} (h : SqL g.K H a xs) (h' : SqT g.K H a ys) : False := by
  rw [hK] at h h'
  obtain ⟨its, _, ⟨o, n, e, hc, _⟩, _⟩ := I.list h
  obtain ⟨its', _, ⟨o', e', hc', _⟩, _⟩ := I.tuple h'
  rw [e] at e'
  cases e'
  rw [hc] at hc'
  simp at hc'
theorem rd_dict (I : Inv X pins σ H s) {a : Addr} {kvs : List (Key × V)} (h : Rd H a (.dK kvs)) : (a == sysModules) = false ∧ ∃ vs, KV kvs vs ∧ s.heap.DictOf (mixKind X.prog X.w) a vs ∧ kvs.length ≤ sizeLine := by
  obtain ⟨z, y, vs, r, d⟩ := h.ok I.hok
  exact ⟨y, vs, r, d, z⟩
theorem dict_cls (I : Inv X pins σ H s) {a : Addr} {kvs : List (Key × V)} (h : Rd H a (.dK kvs)) : ∃ ob, s.heap.get? a = some ob ∧ ob.cls = .type "dict" := by
  obtain ⟨_, vs, _, d, _⟩ := rd_dict I h
  obtain ⟨o, e, c⟩ := d.typeIs
  exact ⟨o, e, c⟩
theorem rd_clash_lk (hK : g.K = X.K) (I : Inv X pins σ H s) {a : Addr} {xs : List V} {kvs : List (Key × V)} (h : SqL g.K H a xs) (h' : Rd H a (.dK kvs)) : False := by
  rw [hK] at h
  obtain ⟨its, _, ⟨o, n, e, hc, _⟩, _⟩ := I.list h
  obtain ⟨o', e', hc'⟩ := dict_cls I h'
  rw [e] at e'
  cases e'
  rw [hc] at hc'
  simp at hc'
theorem rd_clash_tk (hK : g.K = X.K) (I : Inv X pins σ H s) {a : Addr} {xs : List V} {kvs : List (Key × V)} (h : SqT g.K H a xs) (h' : Rd H a (.dK kvs)) : False := by
  rw [hK] at h
  obtain ⟨its, _, ⟨o, e, hc, _⟩, _⟩ := I.tuple h
  obtain ⟨o', e', hc'⟩ := dict_cls I h'
  rw [e] at e'
  cases e'
  rw [hc] at hc'
  simp at hc'
theorem rd_inj {a : Addr} {ks ls : List (Key × V)} (h : Rd H a (.dK ks)) (h' : Rd H a (.dK ls)) : ks = ls := by
  rcases h with h | ⟨o, h⟩ <;> rcases h' with h' | ⟨o', h'⟩ <;> (rw [h] at h'; cases h'; try rfl)
theorem kv_keys : ∀ {kvs : List (Key × V)} {vs : List (Key × Value)}, KV kvs vs → vs.map (·.1) = kvs.map (·.1) := by
  intro kvs vs r
  unfold KV at r
  induction r with
  | nil => rfl
  | cons h t ih => rw [List.map_cons, List.map_cons, ih, h.1]
theorem dtk_keys : ∀ {kvs : List (Key × V)} {rs : List (Str × D)}, DtK g al H kvs rs → kvs.map (·.1) = (rs.map (·.1)).map Sum.inr
  | _, _, .nil => rfl
  | _, _, .cons _ t => by rw [List.map_cons, dtk_keys t]; rfl
theorem keys_nd (I : Inv X pins σ H s) {a : Addr} {kvs : List (Key × V)} {rs : List (Str × D)} (h : Rd H a (.dK kvs)) (l : DtK g al H kvs rs) : (rs.map (·.1)).Nodup := by
  obtain ⟨_, vs, r, ⟨_, _, _, _, _, _, _, _, nd⟩, _⟩ := rd_dict I h
  rw [kv_keys r, dtk_keys l] at nd
  exact (List.pairwise_map.mp nd).imp fun h e => h (by rw [e])
theorem dget_mem {rs : List (Str × D)} (nd : (rs.map (·.1)).Nodup) {k : Str} {d : D} (h : (k, d) ∈ rs) : dget rs k = some d := by
  induction rs with
  | nil => cases h
  | cons p r ih =>
    rw [List.map_cons, List.nodup_cons] at nd
    rcases List.mem_cons.mp h with e | h
    · subst e
      simp [dget, List.find?_cons]
    · have hne : p.1 ≠ k := fun e => nd.1 (List.mem_map.mpr ⟨_, h, e.symm⟩)
      have := ih nd.2 h
      simp only [dget, List.find?_cons] at this ⊢
      rw [decide_eq_false hne]
      exact this

mutual
theorem same_true (hK : g.K = X.K) (I : Inv X pins σ H s) : ∀ (x y : D) (v : V) (b : Bool), Bt g al H v x → Bt g al H v y → eqd x y = some b → b = true
  | .non, y, v, b, hx, hy, h => by
    have e := hx.non
    subst e
    cases y with
    | non => simp [eqd] at h; exact h
    | bl _ => have := hy.bl; cases this
    | int _ => have := hy.int; cases this
    | str _ => have := hy.str; cases this
    | tup _ => obtain ⟨_, _, e, _⟩ := hy.tup; cases e
    | lst _ => obtain ⟨_, _, e, _⟩ := hy.lst; cases e
    | _ => simp [eqd] at h
  | .bl i, y, v, b, hx, hy, h => by
    have e := hx.bl
    subst e
    cases y with
    | non => have := hy.non; cases this
    | bl _ => have := hy.bl; cases this; simp [eqd] at h; exact h
    | int _ => have := hy.int; cases this
    | str _ => have := hy.str; cases this
    | tup _ => obtain ⟨_, _, e, _⟩ := hy.tup; cases e
    | lst _ => obtain ⟨_, _, e, _⟩ := hy.lst; cases e
    | _ => simp [eqd] at h
  | .int i, y, v, b, hx, hy, h => by
    have e := hx.int
    subst e
    cases y with
    | non => have := hy.non; cases this
    | bl _ => have := hy.bl; cases this
    | int _ => have := hy.int; cases this; simp [eqd] at h; exact h
    | str _ => have := hy.str; cases this
    | tup _ => obtain ⟨_, _, e, _⟩ := hy.tup; cases e
    | lst _ => obtain ⟨_, _, e, _⟩ := hy.lst; cases e
    | _ => simp [eqd] at h
  | .str i, y, v, b, hx, hy, h => by
    have e := hx.str
    subst e
    cases y with
    | non => have := hy.non; cases this
    | bl _ => have := hy.bl; cases this
    | int _ => have := hy.int; cases this
    | str _ => have := hy.str; cases this; simp [eqd] at h; exact h
    | tup _ => obtain ⟨_, _, e, _⟩ := hy.tup; cases e
    | lst _ => obtain ⟨_, _, e, _⟩ := hy.lst; cases e
    | _ => simp [eqd] at h
  | .fn _, y, v, b, hx, hy, h => by cases y <;> simp [eqd] at h
  | .obj _, y, v, b, hx, hy, h => by cases y <;> simp [eqd] at h
  | .tup xs, y, v, b, hx, hy, h => by
    obtain ⟨a, vs, rfl, q, l⟩ := hx.tup
    cases y with
    | non => have := hy.non; cases this
    | bl _ => have := hy.bl; cases this
    | int _ => have := hy.int; cases this
    | str _ => have := hy.str; cases this
    | tup ys =>
      obtain ⟨a', vs', e, q', l'⟩ := hy.tup
      cases e
      cases sqT_inj hK I q q'
      simp only [eqd] at h
      exact same_trueL hK I xs ys vs b l l' h
    | lst _ => obtain ⟨_, _, e, q', _⟩ := hy.lst; cases e; exact (rd_clash_lt hK I q' q).elim
    | dic _ => obtain ⟨_, _, e, q', _⟩ := hy.dic; cases e; exact (rd_clash_tk hK I q q').elim
    | _ => simp [eqd] at h
  | .lst xs, y, v, b, hx, hy, h => by
    obtain ⟨a, vs, rfl, q, l⟩ := hx.lst
    cases y with
    | non => have := hy.non; cases this
    | bl _ => have := hy.bl; cases this
    | int _ => have := hy.int; cases this
    | str _ => have := hy.str; cases this
    | tup ys => obtain ⟨_, _, e, q', _⟩ := hy.tup; cases e; exact (rd_clash_lt hK I q q').elim
    | lst ys =>
      obtain ⟨a', vs', e, q', l'⟩ := hy.lst
      cases e
      cases lsF_inj hK I q q'
      simp only [eqd] at h
      rw [if_pos (by rw [← l.length, ← l'.length])] at h
      exact same_trueL hK I xs ys vs b l l' h
    | _ => simp [eqd] at h
  | .dic xs, y, v, b, hx, hy, h => by
    obtain ⟨a, vs, rfl, q, l⟩ := hx.dic
    cases y with
    | tup ys => obtain ⟨_, _, e, q', _⟩ := hy.tup; cases e; exact (rd_clash_tk hK I q' q).elim
    | dic ys =>
      obtain ⟨a', vs', e, q', l'⟩ := hy.dic
      cases e
      cases rd_inj q q'
      simp only [eqd] at h
      have nd := keys_nd I q l'
      have hl : xs.length = ys.length := by rw [← l.length, ← l'.length]
      cases eb : eqdK xs ys with
      | none => rw [eb] at h; cases h
      | some c =>
      rw [eb] at h
      have hb : c = b := by simpa [hl] using h
      subst hb
      refine same_trueK hK I xs ys c (fun p hp => ?_) eb
      have get : ∀ (vs : List (Key × V)) (xs ys : List (Str × D)), DtK g al H vs xs → DtK g al H vs ys → p ∈ xs → ∃ u w, (p.1, u) ∈ ys ∧ Dt g al H w p.2 ∧ Dt g al H w u := by
        intro vs
        induction vs with
        | nil => intro xs ys l l' hp; cases l; cases hp
        | cons z r ih =>
          intro xs ys l l' hp
          cases l with
          | cons h1 t1 =>
            cases l' with
            | cons h2 t2 =>
              rcases List.mem_cons.mp hp with e | hp
              · subst e
                exact ⟨_, _, List.mem_cons_self, h1, h2⟩
              · obtain ⟨u, w, m, r1, r2⟩ := ih _ _ t1 t2 hp
                exact ⟨u, w, List.mem_cons_of_mem _ m, r1, r2⟩
      obtain ⟨u, w, m, r1, r2⟩ := get vs xs ys l l' hp
      exact ⟨u, w, dget_mem nd m, .inl r1, .inl r2⟩
    | _ => simp [eqd] at h
theorem same_trueL (hK : g.K = X.K) (I : Inv X pins σ H s) : ∀ (xs ys : List D) (vs : List V) (b : Bool), DtL g al H vs xs → DtL g al H vs ys → eqdL xs ys = some b → b = true
  | [], ys, vs, b, l, l', h => by
    cases l
    cases l'
    simp [eqdL] at h
    exact h
  | x :: xs, ys, vs, b, l, l', h => by
    cases l with
    | cons h1 t1 =>
      cases l' with
      | @cons _ y _ ys h2 t2 =>
        simp only [eqdL] at h
        cases e1 : eqd x y with
        | none => rw [e1] at h; simp at h
        | some a =>
          cases e2 : eqdL xs ys with
          | none => rw [e1, e2] at h; simp at h
          | some c =>
            rw [e1, e2] at h
            have q1 := same_true hK I x y _ a (.inl h1) (.inl h2) e1
            have q2 := same_trueL hK I xs ys _ c t1 t2 e2
            subst q1 q2
            simpa using h.symm
theorem same_trueK (hK : g.K = X.K) (I : Inv X pins σ H s) : ∀ (xs ys : List (Str × D)) (b : Bool), (∀ p ∈ xs, ∃ u w, dget ys p.1 = some u ∧ Bt g al H w p.2 ∧ Bt g al H w u) → eqdK xs ys = some b → b = true
  | [], ys, b, _, h => by simp [eqdK] at h; exact h
  | p :: xs, ys, b, hp, h => by
    obtain ⟨u, w, e0, h1, h2⟩ := hp p List.mem_cons_self
    simp only [eqdK, e0] at h
    cases e1 : eqd p.2 u with
    | none => rw [e1] at h; simp at h
    | some a =>
      cases e2 : eqdK xs ys with
      | none => rw [e1, e2] at h; simp at h
      | some c =>
        rw [e1, e2] at h
        have q1 := same_true hK I p.2 u _ a h1 h2 e1
        have q2 := same_trueK hK I xs ys c (fun q hq => hp q (List.mem_cons_of_mem _ hq)) e2
        subst q1 q2
        simpa using h.symm
end

theorem is_list (hK : g.K = X.K) (I : Inv X pins σ H s) {a : Addr} {vs : List V} (h : SqL g.K H a vs) : ∃ its : List Value, Vals vs its ∧ s.heap.IsList a its.toArray := by
  rw [hK] at h
  obtain ⟨its, r, p, _⟩ := I.list h
  exact ⟨its, r, p.isList⟩
theorem is_tuple (hK : g.K = X.K) (I : Inv X pins σ H s) {a : Addr} {vs : List V} (h : SqT g.K H a vs) : ∃ its : List Value, Vals vs its ∧ s.heap.IsTuple a its.toArray := by
  rw [hK] at h
  obtain ⟨its, r, p, _⟩ := I.tuple h
  exact ⟨its, r, p⟩
theorem isTuple_get {a : Addr} {its : Array Value} (h : s.heap.IsTuple a its) : ∃ o, s.heap.get? a = some o ∧ o.cls = .type "tuple" := let ⟨o, e, c, _⟩ := h; ⟨o, e, c⟩

/-- what the items come to -/
def eqAll (xs ys : List D) (j : Nat) : Bool :=
  match xs[j]?, ys[j]? with
  | some x, some y => (eqd x y).getD false
  | _, _ => false
theorem eqdL_all : ∀ (xs ys : List D) (b : Bool), eqdL xs ys = some b → (∀ j x y, xs[j]? = some x → ys[j]? = some y → eqd x y = some (eqAll xs ys j)) ∧ b = ((List.range (min xs.length ys.length)).all (eqAll xs ys) && xs.length == ys.length)
  | [], [], b, h => by
    simp [eqdL] at h
    exact ⟨fun j x y e => by simp at e, by simp [h]⟩
  | [], _ :: _, b, h => by
    simp [eqdL] at h
    exact ⟨fun j x y e => by simp at e, by simp [h]⟩
  | _ :: _, [], b, h => by
    simp [eqdL] at h
    exact ⟨fun j x y _ e => by simp at e, by simp [h]⟩
  | x :: xs, y :: ys, b, h => by
    simp only [eqdL] at h
    cases e1 : eqd x y with
    | none => rw [e1] at h; simp at h
    | some a =>
      cases e2 : eqdL xs ys with
      | none => rw [e1, e2] at h; simp at h
      | some c =>
        rw [e1, e2] at h
        obtain ⟨i1, i2⟩ := eqdL_all xs ys c e2
        have h' : (a && c) = b := by simpa using h
        have z0 : eqAll (x :: xs) (y :: ys) 0 = a := by simp [eqAll, e1]
        have zs : ∀ j, eqAll (x :: xs) (y :: ys) (j + 1) = eqAll xs ys j := fun j => by simp [eqAll]
        refine ⟨fun j p q ep eq => ?_, ?_⟩
        · cases j with
          | zero =>
            simp at ep eq
            subst ep eq
            rw [z0, e1]
          | succ j =>
            rw [zs]
            exact i1 j p q (by simpa using ep) (by simpa using eq)
        · rw [← h', i2, List.length_cons, List.length_cons, show min (xs.length + 1) (ys.length + 1) = min xs.length ys.length + 1 by omega, List.range_succ_eq_map, List.all_cons, z0, List.all_map]
          have e8 : eqAll (x :: xs) (y :: ys) ∘ Nat.succ = eqAll xs ys := funext zs
          have e9 : (xs.length + 1 == ys.length + 1) = (xs.length == ys.length) := by simp
          rw [e8, Bool.and_assoc, e9]
theorem List.all_congr_mem {α : Type} {p q : α → Bool} : ∀ {l : List α}, (∀ a ∈ l, p a = q a) → l.all p = l.all q
  | [], _ => rfl
  | a :: l, h => by rw [List.all_cons, List.all_cons, h a List.mem_cons_self, List.all_congr_mem fun b hb => h b (List.mem_cons_of_mem _ hb)]
theorem deepL_le {xs : List D} {j : Nat} {x : D} (h : xs[j]? = some x) : x.deep ≤ deepL xs := by
  induction xs generalizing j with
  | nil => simp at h
  | cons y r ih =>
    cases j with
    | zero => simp at h; subst h; simp only [deepL]; omega
    | succ j => have := ih (j := j) (by simpa using h); simp only [deepL]; omega
theorem deepK_le {xs : List (Str × D)} {p : Str × D} (h : p ∈ xs) : p.2.deep ≤ deepK xs := by
  induction xs with
  | nil => cases h
  | cons y r ih =>
    rcases List.mem_cons.mp h with e | h
    · subst e; simp only [deepK]; omega
    · have := ih h; simp only [deepK]; omega
def eqKey (xs ys : List (Str × D)) (k : Key) : Bool :=
  match k with
  | .inr k => match dget xs k, dget ys k with
    | some x, some y => (eqd x y).getD false
    | _, _ => false
  | _ => false
theorem eqdK_all (ys : List (Str × D)) : ∀ (xs : List (Str × D)) (b : Bool), eqdK xs ys = some b → (∀ p ∈ xs, ∀ u, dget ys p.1 = some u → (eqd p.2 u).isSome = true) ∧
    b = xs.all fun p => match dget ys p.1 with | some u => (eqd p.2 u).getD false | none => false
  | [], b, h => by
    simp [eqdK] at h
    exact ⟨fun p hp => (by cases hp), (by simp [h])⟩
  | p :: xs, b, h => by
    simp only [eqdK] at h
    cases e0 : dget ys p.1 with
    | none =>
      simp only [e0] at h
      cases e2 : eqdK xs ys with
      | none => rw [e2] at h; simp at h
      | some c =>
        rw [e2] at h
        obtain ⟨i1, i2⟩ := eqdK_all ys xs c e2
        refine ⟨fun q hq u eu => ?_, ?_⟩
        · rcases List.mem_cons.mp hq with e | hq
          · subst e; rw [e0] at eu; cases eu
          · exact i1 q hq u eu
        · rw [List.all_cons, e0]
          simpa using h.symm
    | some u =>
      simp only [e0] at h
      cases e1 : eqd p.2 u with
      | none => rw [e1] at h; simp at h
      | some a =>
        cases e2 : eqdK xs ys with
        | none => rw [e1, e2] at h; simp at h
        | some c =>
          rw [e1, e2] at h
          obtain ⟨i1, i2⟩ := eqdK_all ys xs c e2
          refine ⟨fun q hq u' eu => ?_, ?_⟩
          · rcases List.mem_cons.mp hq with e | hq
            · subst e; rw [e0] at eu; cases eu; rw [e1]; rfl
            · exact i1 q hq u' eu
          · rw [List.all_cons, e0]
            simp only [e1, Option.getD_some, ← i2]
            simpa using h.symm

/-- what a value of data is -/
def flatD : D → Bool
  | .non => true | .bl _ => true | .int _ => true | .str _ => true
  | _ => false
def toV : D → V
  | .bl b => .bl b | .int i => .int i | .str x => .str x
  | _ => .non
theorem Bt.flat {v : V} {d : D} (h : Bt g al H v d) (f : flatD d = true) : v = toV d := by
  cases d with
  | non => exact h.non
  | bl _ => exact h.bl
  | int _ => exact h.int
  | str _ => exact h.str
  | _ => cases f
theorem flat_tree {n : Nat} {x y : D} {vv uu : Value} {b : Bool} (fx : flatD x = true) (fy : flatD y = true) (rv : RelV (toV x) vv) (ru : RelV (toV y) uu) (h : eqd x y = some b) : PySem.W.EqTree X.prog X.w s n vv uu b := by
  refine .leaf fun A hu => ?_
  have q := eqAt_V (A := A) (s := s) rv ru (by cases x <;> first | rfl | cases fx) (by cases y <;> first | rfl | cases fy)
  have e : eqV (toV x) (toV y) = b := by
    cases x <;> cases y <;> first | (simp only [eqd, Option.some.injEq] at h; exact h) | (cases fx; done) | (cases fy; done)
  rw [e] at q
  exact q
theorem tup_flat {n : Nat} {a : Addr} {its : Array Value} {y : D} {uu : Value} (ht : s.heap.IsTuple a its) (fy : flatD y = true) (ru : RelV (toV y) uu) : PySem.W.EqTree X.prog X.w s n (.ref a) uu false := by
  refine .leaf fun A hu => ?_
  have hu' : A.units < cLine := by omega
  cases y with
  | non => cases ru; exact SeqAt.EqAt.tuple_none ht hu'
  | bl c => cases ru; exact SeqAt.EqAt.tuple_bool c ht hu'
  | int c => obtain ⟨t, rfl⟩ := ru; exact SeqAt.EqAt.tuple_int c t ht hu'
  | str c => obtain ⟨t, rfl⟩ := ru; exact SeqAt.EqAt.tuple_str c t ht hu'
  | _ => cases fy
theorem flat_tup {n : Nat} {a : Addr} {its : Array Value} {y : D} {uu : Value} (ht : s.heap.IsTuple a its) (fy : flatD y = true) (ru : RelV (toV y) uu) : PySem.W.EqTree X.prog X.w s n uu (.ref a) false := by
  refine .leaf fun A hu => ?_
  have hu' : A.units < cLine := by omega
  cases y with
  | non => cases ru; exact SeqAt.EqAt.none_tuple ht hu'
  | bl c => cases ru; exact SeqAt.EqAt.bool_tuple c ht hu'
  | int c => obtain ⟨t, rfl⟩ := ru; exact SeqAt.EqAt.int_tuple c t ht hu'
  | str c => obtain ⟨t, rfl⟩ := ru; exact SeqAt.EqAt.str_tuple c t ht hu'
  | _ => cases fy
theorem lst_flat {n : Nat} {a : Addr} {its : Array Value} {y : D} {uu : Value} (ht : s.heap.IsList a its) (fy : flatD y = true) (ru : RelV (toV y) uu) : PySem.W.EqTree X.prog X.w s n (.ref a) uu false := by
  refine .leaf fun A hu => ?_
  have hu' : A.units < cLine := by omega
  cases y with
  | non => cases ru; exact SeqAt.EqAt.list_none ht hu'
  | bl c => cases ru; exact SeqAt.EqAt.list_bool c ht hu'
  | int c => obtain ⟨t, rfl⟩ := ru; exact SeqAt.EqAt.list_int c t ht hu'
  | str c => obtain ⟨t, rfl⟩ := ru; exact SeqAt.EqAt.list_str c t ht hu'
  | _ => cases fy
theorem flat_lst {n : Nat} {a : Addr} {its : Array Value} {y : D} {uu : Value} (ht : s.heap.IsList a its) (fy : flatD y = true) (ru : RelV (toV y) uu) : PySem.W.EqTree X.prog X.w s n uu (.ref a) false := by
  refine .leaf fun A hu => ?_
  have hu' : A.units < cLine := by omega
  cases y with
  | non => cases ru; exact SeqAt.EqAt.none_list ht hu'
  | bl c => cases ru; exact SeqAt.EqAt.bool_list c ht hu'
  | int c => obtain ⟨t, rfl⟩ := ru; exact SeqAt.EqAt.int_list c t ht hu'
  | str c => obtain ⟨t, rfl⟩ := ru; exact SeqAt.EqAt.str_list c t ht hu'
  | _ => cases fy
/-- two sequences' items -/
theorem items_tree {n : Nat} {xs ys : List D} {vs us : List V} {its its' : List Value} (ih : ∀ (x y : D) (v u : V) (vv uu : Value) (b : Bool), Bt g al H v x → Bt g al H u y → RelV v vv → RelV u uu → eqd x y = some b → min x.deep y.deep ≤ n → PySem.W.EqTree X.prog X.w s n vv uu b)
    (l : DtL g al H vs xs) (l' : DtL g al H us ys) (r : Vals vs its) (r' : Vals us its') (hd : min (deepL xs) (deepL ys) ≤ n) (he : ∀ j x y, xs[j]? = some x → ys[j]? = some y → eqd x y = some (eqAll xs ys j)) :
    ∀ j (h1 : j < its.toArray.size) (h2 : j < its'.toArray.size), PySem.W.EqTree X.prog X.w s n its.toArray[j] its'.toArray[j] (eqAll xs ys j) := by
  intro j h1 h2
  have n1 : j < vs.length := by rw [r.length]; simpa using h1
  have n2 : j < us.length := by rw [r'.length]; simpa using h2
  obtain ⟨x, ex, dx⟩ := l.getV (List.getElem?_eq_getElem n1)
  obtain ⟨y, ey, dy⟩ := l'.getV (List.getElem?_eq_getElem n2)
  obtain ⟨w, ew, rw'⟩ := r.get (List.getElem?_eq_getElem n1)
  obtain ⟨z, ez, rz⟩ := r'.get (List.getElem?_eq_getElem n2)
  have e1 : its.toArray[j] = w := by
    have : its[j]? = some w := ew
    rw [List.getElem?_eq_some_iff] at this
    obtain ⟨_, q⟩ := this
    simpa using q
  have e2 : its'.toArray[j] = z := by
    have : its'[j]? = some z := ez
    rw [List.getElem?_eq_some_iff] at this
    obtain ⟨_, q⟩ := this
    simpa using q
  rw [e1, e2]
  refine ih x y _ _ w z _ (.inl dx) (.inl dy) rw' rz (he j x y ex ey) ?_
  have := deepL_le ex
  have := deepL_le ey
  omega
/-- two dicts' values -/
theorem dicts_tree {n : Nat} {xs ys : List (Str × D)} {vs us : List (Key × V)} {kv kv' : List (Key × Value)} {b : Bool}
    (ih : ∀ (x y : D) (v u : V) (vv uu : Value) (b : Bool), Bt g al H v x → Bt g al H u y → RelV v vv → RelV u uu → eqd x y = some b → min x.deep y.deep ≤ n → PySem.W.EqTree X.prog X.w s n vv uu b)
    (nd : (xs.map (·.1)).Nodup) (l : DtK g al H vs xs) (l' : DtK g al H us ys) (r : KV vs kv) (r' : KV us kv') (h : eqd (.dic xs) (.dic ys) = some b) (hn : min (deepK xs) (deepK ys) ≤ n) :
    (∀ k v y, (k, v) ∈ kv → valueAt kv' k = some y → PySem.W.EqTree X.prog X.w s n v y (eqKey xs ys k)) ∧ (kv.length == kv'.length && kv.all fun p => (valueAt kv' p.1).isSome && eqKey xs ys p.1) = b := by
  simp only [eqd] at h
  cases eb : eqdK xs ys with
  | none => rw [eb] at h; cases h
  | some c =>
  rw [eb] at h
  obtain ⟨he, hb⟩ := eqdK_all ys xs c eb
  refine ⟨fun k v y hm hv => ?_, ?_⟩
  · obtain ⟨i, hi, ei⟩ := List.getElem_of_mem hm
    have ei' : kv[i]? = some (k, v) := by rw [List.getElem?_eq_getElem hi, ei]
    have hi' : i < vs.length := by rw [Paired.length r]; exact hi
    obtain ⟨p, ep, e1, rw1⟩ : ∃ p, vs[i]? = some p ∧ p.1 = k ∧ RelV p.2 v := by
      obtain ⟨b, eb', h1, h2⟩ := paired_get r (List.getElem?_eq_getElem hi')
      rw [ei'] at eb'
      cases eb'
      exact ⟨_, List.getElem?_eq_getElem hi', h1, h2⟩
    obtain ⟨pk, pv⟩ := p
    obtain ⟨x, d, ek, ex, dx⟩ := l.getI ep
    subst ek
    have e1' : Sum.inr x = k := e1
    subst e1'
    have rr := r'.val (.inr x)
    rw [hv] at rr
    rcases DtK.val x l' with ⟨z1, z2⟩ | ⟨w, d', z1, z2, z3⟩
    · rw [z2] at rr
      exact rr.elim
    · rw [z2] at rr
      have hmem := List.mem_of_getElem? ex
      have hq := he (x, d) hmem d' z1
      obtain ⟨bb, eb2⟩ := Option.isSome_iff_exists.mp hq
      have ek2 : eqKey xs ys (.inr x) = bb := by simp [eqKey, dget_mem nd hmem, z1, eb2]
      rw [ek2]
      refine ih d d' pv w v y bb (.inl dx) (.inl z3) rw1 rr eb2 ?_
      have q1 : d.deep ≤ deepK xs := deepK_le hmem
      have q2 : d'.deep ≤ deepK ys := by
        unfold dget at z1
        cases ef : ys.find? (fun p => decide (p.1 = x)) with
        | none => rw [ef] at z1; cases z1
        | some p2 =>
          rw [ef] at z1
          cases z1
          exact deepK_le (List.mem_of_find?_eq_some ef)
      omega
  · have h2 : (c && xs.length == ys.length) = b := by simpa using h
    have el1 : kv.length = xs.length := by rw [← l.length]; exact (Paired.length r).symm
    have el2 : kv'.length = ys.length := by rw [← l'.length]; exact (Paired.length r').symm
    have ea : (kv.all fun p => (valueAt kv' p.1).isSome && eqKey xs ys p.1) = c := by
      have e1 : (kv.all fun p => (valueAt kv' p.1).isSome && eqKey xs ys p.1) = ((kv.map (·.1)).all fun z => (valueAt kv' z).isSome && eqKey xs ys z) := by rw [List.all_map]; rfl
      rw [e1, kv_keys r, dtk_keys l, List.all_map, List.all_map, hb]
      refine List.all_congr_mem fun p hp => ?_
      have hx := dget_mem nd (show (p.1, p.2) ∈ xs from hp)
      have rr := r'.val (.inr p.1)
      rcases DtK.val p.1 l' with ⟨z1, z2⟩ | ⟨w, d, z1, z2, _⟩
      · rw [z2] at rr
        have : valueAt kv' (Sum.inr p.1) = none := by
          cases ev : valueAt kv' (Sum.inr p.1) with
          | none => rfl
          | some _ => rw [ev] at rr; exact rr.elim
        show ((valueAt kv' (Sum.inr p.1)).isSome && eqKey xs ys (.inr p.1)) = _
        rw [this, z1]
        rfl
      · rw [z2] at rr
        obtain ⟨y, hy, _⟩ := rr.some_of
        show ((valueAt kv' (Sum.inr p.1)).isSome && eqKey xs ys (.inr p.1)) = _
        rw [hy, z1]
        simp [eqKey, hx, z1]
    rw [ea, el1, el2, Bool.and_comm, h2]
/-- == of data, both answers, as the library's tree -/
theorem eq_tree (hK : g.K = X.K) (I : Inv X pins σ H s) : ∀ (n : Nat) (x y : D) (v u : V) (vv uu : Value) (b : Bool), Bt g al H v x → Bt g al H u y → RelV v vv → RelV u uu → eqd x y = some b → min x.deep y.deep ≤ n →
    PySem.W.EqTree X.prog X.w s n vv uu b := by
  intro n
  induction n with
  | zero =>
    intro x y v u vv uu b hx hy rv ru h hn
    by_cases fx : flatD x = true
    · cases hx.flat fx
      by_cases fy : flatD y = true
      · cases hy.flat fy
        exact flat_tree fx fy rv ru h
      · cases y with
        | tup ys =>
          obtain ⟨a, vs, rfl, q, l⟩ := hy.tup
          obtain ⟨its, r, t⟩ := is_tuple hK I q
          cases ru
          have e : b = false := by cases x <;> first | (simp only [eqd, Option.some.injEq] at h; exact h.symm) | (cases fx; done)
          subst e
          exact flat_tup t fx rv
        | lst ys =>
          obtain ⟨a, vs, rfl, q, l⟩ := hy.lst
          obtain ⟨its, r, t⟩ := is_list hK I q
          cases ru
          have e : b = false := by cases x <;> first | (simp only [eqd, Option.some.injEq] at h; exact h.symm) | (cases fx; done)
          subst e
          exact flat_lst t fx rv
        | dic _ => cases x <;> first | (simp [eqd] at h; done) | (cases fx; done)
        | fn _ => cases x <;> simp [eqd] at h
        | obj _ => cases x <;> simp [eqd] at h
        | _ => exact absurd rfl fy
    · by_cases fy : flatD y = true
      · cases hy.flat fy
        cases x with
        | tup ys =>
          obtain ⟨a, vs, rfl, q, l⟩ := hx.tup
          obtain ⟨its, r, t⟩ := is_tuple hK I q
          cases rv
          have e : b = false := by cases y <;> first | (simp only [eqd, Option.some.injEq] at h; exact h.symm) | (cases fy; done)
          subst e
          exact tup_flat t fy ru
        | lst ys =>
          obtain ⟨a, vs, rfl, q, l⟩ := hx.lst
          obtain ⟨its, r, t⟩ := is_list hK I q
          cases rv
          have e : b = false := by cases y <;> first | (simp only [eqd, Option.some.injEq] at h; exact h.symm) | (cases fy; done)
          subst e
          exact lst_flat t fy ru
        | dic _ => cases y <;> first | (simp [eqd] at h; done) | (cases fy; done)
        | fn _ => cases y <;> simp [eqd] at h
        | obj _ => cases y <;> simp [eqd] at h
        | _ => exact absurd rfl fx
      · exfalso
        cases x <;> cases y <;> first | (simp [eqd] at h; done) | exact absurd rfl fx | exact absurd rfl fy | (simp only [D.deep] at hn; omega)
  | succ n ih =>
    intro x y v u vv uu b hx hy rv ru h hn
    by_cases fx : flatD x = true
    · cases hx.flat fx
      by_cases fy : flatD y = true
      · cases hy.flat fy
        exact flat_tree fx fy rv ru h
      · cases y with
        | tup ys =>
          obtain ⟨a, vs, rfl, q, l⟩ := hy.tup
          obtain ⟨its, r, t⟩ := is_tuple hK I q
          cases ru
          have e : b = false := by cases x <;> first | (simp only [eqd, Option.some.injEq] at h; exact h.symm) | (cases fx; done)
          subst e
          exact flat_tup t fx rv
        | lst ys =>
          obtain ⟨a, vs, rfl, q, l⟩ := hy.lst
          obtain ⟨its, r, t⟩ := is_list hK I q
          cases ru
          have e : b = false := by cases x <;> first | (simp only [eqd, Option.some.injEq] at h; exact h.symm) | (cases fx; done)
          subst e
          exact flat_lst t fx rv
        | dic _ => cases x <;> first | (simp [eqd] at h; done) | (cases fx; done)
        | fn _ => cases x <;> simp [eqd] at h
        | obj _ => cases x <;> simp [eqd] at h
        | _ => exact absurd rfl fy
    · by_cases fy : flatD y = true
      · cases hy.flat fy
        cases x with
        | tup ys =>
          obtain ⟨a, vs, rfl, q, l⟩ := hx.tup
          obtain ⟨its, r, t⟩ := is_tuple hK I q
          cases rv
          have e : b = false := by cases y <;> first | (simp only [eqd, Option.some.injEq] at h; exact h.symm) | (cases fy; done)
          subst e
          exact tup_flat t fy ru
        | lst ys =>
          obtain ⟨a, vs, rfl, q, l⟩ := hx.lst
          obtain ⟨its, r, t⟩ := is_list hK I q
          cases rv
          have e : b = false := by cases y <;> first | (simp only [eqd, Option.some.injEq] at h; exact h.symm) | (cases fy; done)
          subst e
          exact lst_flat t fy ru
        | dic _ => cases y <;> first | (simp [eqd] at h; done) | (cases fy; done)
        | fn _ => cases y <;> simp [eqd] at h
        | obj _ => cases y <;> simp [eqd] at h
        | _ => exact absurd rfl fx
      · cases x with
        | tup xs =>
          obtain ⟨a, vs, rfl, q, l⟩ := hx.tup
          obtain ⟨its, r, t⟩ := is_tuple hK I q
          cases rv
          cases y with
          | tup ys =>
            obtain ⟨a', vs', rfl, q', l'⟩ := hy.tup
            obtain ⟨its', r', t'⟩ := is_tuple hK I q'
            cases ru
            by_cases e : a = a'
            · subst e
              cases same_true hK I _ _ _ b hx hy h
              exact .same
            · simp only [eqd] at h
              obtain ⟨he, hb⟩ := eqdL_all xs ys b h
              have hs1 : its.toArray.size = xs.length := by simp [← r.length, l.length]
              have hs2 : its'.toArray.size = ys.length := by simp [← r'.length, l'.length]
              have k := PySem.W.EqTree.tuples (prog := X.prog) (w := X.w) (n := n) e t t' (items_tree ih l l' r r' (by simp only [D.deep] at hn; omega) he)
              rw [hs1, hs2, ← hb] at k
              exact k
          | lst ys =>
            obtain ⟨a', vs', rfl, q', l'⟩ := hy.lst
            obtain ⟨its', r', t'⟩ := is_list hK I q'
            cases ru
            simp only [eqd, Option.some.injEq] at h
            subst h
            exact .leaf fun A hu => SeqAt.EqAt.tuple_list t t' (by omega)
          | dic ys =>
            obtain ⟨a', vs', rfl, q', l'⟩ := hy.dic
            cases ru
            simp only [eqd, Option.some.injEq] at h
            subst h
            obtain ⟨ob, eo, ec⟩ := dict_cls I q'
            have hne : a ≠ a' := fun e => by subst e; exact rd_clash_tk hK I q q'
            exact .leaf fun A hu => SeqAt.EqAt.of_refs hne (SeqAt.pi_rc_tuple_dict t eo ec hne (by omega))
          | fn _ => simp [eqd] at h
          | obj _ => simp [eqd] at h
          | _ => exact absurd rfl fy
        | lst xs =>
          obtain ⟨a, vs, rfl, q, l⟩ := hx.lst
          obtain ⟨its, r, t⟩ := is_list hK I q
          cases rv
          cases y with
          | tup ys =>
            obtain ⟨a', vs', rfl, q', l'⟩ := hy.tup
            obtain ⟨its', r', t'⟩ := is_tuple hK I q'
            cases ru
            simp only [eqd, Option.some.injEq] at h
            subst h
            exact .leaf fun A hu => SeqAt.EqAt.list_tuple t t' (by omega)
          | lst ys =>
            obtain ⟨a', vs', rfl, q', l'⟩ := hy.lst
            obtain ⟨its', r', t'⟩ := is_list hK I q'
            cases ru
            by_cases e : a = a'
            · subst e
              cases same_true hK I _ _ _ b hx hy h
              exact .same
            · simp only [eqd] at h
              have hs1 : its.toArray.size = xs.length := by simp [← r.length, l.length]
              have hs2 : its'.toArray.size = ys.length := by simp [← r'.length, l'.length]
              by_cases ez : xs.length = ys.length
              · rw [if_pos ez] at h
                obtain ⟨he, hb⟩ := eqdL_all xs ys b h
                have k := PySem.W.EqTree.lists (prog := X.prog) (w := X.w) (n := n) e t t' (by rw [hs1, hs2, ez]) (items_tree ih l l' r r' (by simp only [D.deep] at hn; omega) he)
                have hb' : b = (List.range its.toArray.size).all (eqAll xs ys) := by
                  rw [hb, hs1, ← ez, Nat.min_self]
                  simp
                rw [hb']
                exact k
              · rw [if_neg ez] at h
                cases h
                exact .listsLen e t t' (by rw [hs1, hs2]; simpa using ez)
          | fn _ => simp [eqd] at h
          | obj _ => simp [eqd] at h
          | dic _ => simp [eqd] at h
          | _ => exact absurd rfl fy
        | dic xs =>
          obtain ⟨a, vs, rfl, q, l⟩ := hx.dic
          cases rv
          cases y with
          | tup ys =>
            obtain ⟨a', vs', rfl, q', l'⟩ := hy.tup
            obtain ⟨its', r', t'⟩ := is_tuple hK I q'
            cases ru
            simp only [eqd, Option.some.injEq] at h
            subst h
            obtain ⟨ob, eo, ec⟩ := dict_cls I q
            have hne : a ≠ a' := fun e => by subst e; exact rd_clash_tk hK I q' q
            exact .leaf fun A hu => SeqAt.EqAt.of_refs hne (SeqAt.pi_rc_dict_tuple t' eo ec hne (by omega))
          | dic ys =>
            obtain ⟨a', vs', rfl, q', l'⟩ := hy.dic
            cases ru
            by_cases e : a = a'
            · subst e
              cases same_true hK I _ _ _ b hx hy h
              exact .same
            · obtain ⟨y1, kv, r, d1, _⟩ := rd_dict I q
              obtain ⟨y2, kv', r', d2, _⟩ := rd_dict I q'
              obtain ⟨k1, k2⟩ := dicts_tree ih (keys_nd I q l) l l' r r' h (by simp only [D.deep] at hn; omega)
              have k := PySem.W.EqTree.dicts (prog := X.prog) (w := X.w) (n := n) (e := eqKey xs ys) e y1 y2 d1 d2 k1
              rw [k2] at k
              exact k
          | fn _ => simp [eqd] at h
          | obj _ => simp [eqd] at h
          | lst _ => simp [eqd] at h
          | _ => exact absurd rfl fy
        | fn _ => cases y <;> simp [eqd] at h
        | obj _ => cases y <;> simp [eqd] at h
        | _ => exact absurd rfl fx
end
end Pi

/-! Pi4n: != of data that nests dicts, for one program and one world: the library's own way for ==, turned. -/
namespace PySem.SeqAt
open AutoSeq1 (wpAny_loadPart')
open MeetsSeq MeetsSeq2 MeetsSeq3 SeqRoads2
section
variable {prog : Program} {w : World}
theorem pi_ne_loop (l b : Addr) (items items2 : Array Value) (n n2 : Nat) (dd dd2 : Option Addr) (sl sl2 : Array (Option Value)) (hsz : items.size = items2.size) (e : Nat → Bool) (k : Nat) :
    ∀ i : Nat, items.size - i = k → MeetsIn prog w (Builtin.«list.__eq__.loop» ⟨[.ref l, .ref b, rawInt i, rawInt 3], []⟩)
      (fun A R s => s.heap.get? l = some { cls := .type "list", dict := dd, data := .seq items n, slots := sl } ∧ s.heap.get? b = some { cls := .type "list", dict := dd2, data := .seq items2 n2, slots := sl2 } ∧
        (∀ j (h1 : j < items.size) (h2 : j < items2.size), EqIn prog w A.in1 s items[j] items2[j] (e j)) ∧
        R (.ok (.ret (.bool (!((List.range items.size).drop i).all e)))) s) := by
  induction k with
  | zero =>
    intro i hk A R s h
    obtain ⟨hp, g, d, tk, os⟩ := s; obtain ⟨hl, hb, he, h⟩ := h
    wp_walk using wpAny_loadPart' hl, wpAny_loadPart' hb
    have hi1 : items[((i : Nat) : Int).toNat]? = none := by simp; omega
    have hi2 : items2[((i : Nat) : Int).toNat]? = none := by simp; omega
    have hd : (List.range items.size).drop i = [] := by simp; omega
    rw [hd] at h
    rw [hi1, hi2]
    wp_walk using wpAny_loadPart' hl, wpAny_loadPart' hb
    show R (.ok (.ret (.bool (items.size != items2.size)))) _
    rw [hsz]
    simpa using h
  | succ k ih =>
    intro i hk A R s h
    obtain ⟨hp, g, d, tk, os⟩ := s; obtain ⟨hl, hb, he, h⟩ := h
    wp_walk using wpAny_loadPart' hl, wpAny_loadPart' hb
    have hlt : i < items.size := by omega
    have hlt2 : i < items2.size := by omega
    have hi1 : items[((i : Nat) : Int).toNat]? = some items[i] := by simp [hlt]
    have hi2 : items2[((i : Nat) : Int).toNat]? = some items2[i] := by simp [hlt2]
    have hd : (List.range items.size).drop i = i :: (List.range items.size).drop (i + 1) := by simp [List.drop_eq_getElem_cons, hlt]
    have hc : ((i : Int) + 1) = ((i + 1 : Nat) : Int) := by push_cast; rfl
    rw [hd, List.all_cons] at h
    rw [hi1, hi2]
    refine wpAny_bind (he i hlt hlt2 _ _ ?_)
    cases hb' : e i with
    | true =>
      rw [hb'] at h
      wp_walk
      rw [hc]
      exact ⟨plainId_quiet plain_eq_loop _, codeAny_builtin entry_eq_loop (by
        rw [Around.under_plainId plain_eq_loop _]
        exact ih (i + 1) (by omega) A R _ ⟨hl, hb, he, by simpa using h⟩)⟩
    | false =>
      rw [hb'] at h
      wp_walk using wpAny_loadPart' hl, wpAny_loadPart' hb
      rw [hi1, hi2]
      wp_walk
      simpa using h
theorem pi_list_ne (l b : Addr) (items items2 : Array Value) (n n2 : Nat) (dd dd2 : Option Addr) (sl sl2 : Array (Option Value)) (hsz : items.size = items2.size) (e : Nat → Bool) :
    MeetsIn prog w (Builtin.«list.__ne__» ⟨[.ref l, .ref b], []⟩)
      (fun A R s => s.heap.get? l = some { cls := .type "list", dict := dd, data := .seq items n, slots := sl } ∧ s.heap.get? b = some { cls := .type "list", dict := dd2, data := .seq items2 n2, slots := sl2 } ∧
        (∀ j (h1 : j < items.size) (h2 : j < items2.size), EqIn prog w A.in1 s items[j] items2[j] (e j)) ∧
        R (.ok (.ret (.bool (!(List.range items.size).all e)))) s) := by
  intro A R s h
  obtain ⟨hp, g, d, tk, os⟩ := s; obtain ⟨hl, hb, he, h⟩ := h
  have f3 := AutoSeq1.sub_list_list
  have hne : ¬ (items.size != items2.size) = true := by simp [hsz]
  wp_walk using wpAny_loadPart' hl, wpAny_loadPart' hb
  exact ⟨plainId_quiet plain_eq_loop _, codeAny_builtin entry_eq_loop (by
    rw [Around.under_plainId plain_eq_loop _]
    exact pi_ne_loop l b items items2 n n2 dd dd2 sl sl2 hsz e _ 0 rfl A R _ ⟨hl, hb, he, by simpa using h⟩)⟩
theorem pi_tuple_ne (l b : Addr) (items items2 : Array Value) (n n2 : Nat) (dd dd2 : Option Addr) (sl sl2 : Array (Option Value)) (e : Nat → Bool) :
    MeetsIn prog w (Builtin.«tuple.__ne__» ⟨[.ref l, .ref b], []⟩)
      (fun A R s => s.heap.get? l = some { cls := .type "tuple", dict := dd, data := .seq items n, slots := sl } ∧ s.heap.get? b = some { cls := .type "tuple", dict := dd2, data := .seq items2 n2, slots := sl2 } ∧
        (∀ j (h1 : j < items.size) (h2 : j < items2.size), EqIn prog w A.in1 s items[j] items2[j] (e j)) ∧
        R (.ok (.ret (.bool (!((List.range (min items.size items2.size)).all e && items.size == items2.size))))) s) :=
  .of_wp fun A R s h => by
    obtain ⟨hp, g, d, tk, os⟩ := s; obtain ⟨hl, hb, he, h⟩ := h
    have f2 := AutoSeq1.sub_tuple_tuple
    have hZ : (items.toList.zip items2.toList).length = min items.size items2.size := by simp
    wp_walk using wpAny_loadPart' hl, wpAny_loadPart' hb, wpAny_forIn_list _ (fun rest b s' => b.1 = none ∧ s' = ⟨hp, g, d, tk, os⟩ ∧ ∃ i, rest = (items.toList.zip items2.toList).drop i ∧
      R (.ok (.ret (.bool (!(((List.range (min items.size items2.size)).drop i).all e && items.size == items2.size))))) ⟨hp, g, d, tk, os⟩) _
    case turn =>
      rintro ⟨y, x⟩ rest b s' ⟨hb', rfl, i, hz, hR⟩
      have hlt : i < (items.toList.zip items2.toList).length := by
        rcases Nat.lt_or_ge i (items.toList.zip items2.toList).length with h' | h'
        · exact h'
        · rw [List.drop_of_length_le h'] at hz; cases hz
      have hm : i < min items.size items2.size := hZ ▸ hlt
      have h1 : i < items.size := Nat.lt_of_lt_of_le hm (Nat.min_le_left _ _)
      have h2 : i < items2.size := Nat.lt_of_lt_of_le hm (Nat.min_le_right _ _)
      rw [List.drop_eq_getElem_cons hlt] at hz
      injection hz with hyx hrest
      have hy : y = items[i] := by have := congrArg Prod.fst hyx; simpa using this
      have hx : x = items2[i] := by have := congrArg Prod.snd hyx; simpa using this
      subst hy hx
      have hd : (List.range (min items.size items2.size)).drop i = i :: (List.range (min items.size items2.size)).drop (i + 1) := by simp [List.drop_eq_getElem_cons, hm]
      rw [hd, List.all_cons] at hR
      refine wpAny_bind (he i h1 h2 _ _ ?_)
      cases hy : e i with
      | true =>
        rw [hy] at hR
        wp_walk
        exact ⟨rfl, rfl, i + 1, hrest, by simpa using hR⟩
      | false =>
        rw [hy] at hR
        wp_walk
        exact ⟨_, rfl, by simpa using hR⟩
    case fin =>
      rintro ⟨b1, b2⟩ s' ⟨hb', rfl, i, hz, hR⟩
      simp only at hb'
      subst hb'
      have hge : min items.size items2.size ≤ i := by
        rcases Nat.lt_or_ge i (items.toList.zip items2.toList).length with h' | h'
        · rw [List.drop_eq_getElem_cons h'] at hz; cases hz
        · exact hZ ▸ h'
      rw [List.drop_of_length_le (by simpa using hge)] at hR
      wp_walk
      exact ⟨_, rfl, by simpa [Builtin.Tuple.tupleCompareSizes, bne] using hR⟩
    case h =>
      exact ⟨rfl, rfl, 0, rfl, by simpa using h⟩

end
section
variable {prog : Program} {w : World} {A : Around} {s : Shared}
theorem pi_ne_lists {E : Value → Shared → Prop} {l b : Addr} {items items2 : Array Value} {e : Nat → Bool} {Q : Value → Shared → Prop} (hl : s.heap.IsList l items) (hb : s.heap.IsList b items2) (hsz : items.size = items2.size) (hu : A.units < cLine)
    (he : ∀ j (h1 : j < items.size) (h2 : j < items2.size), EqIn prog w A.in1 s items[j] items2[j] (e j)) (h : Q (.bool (!(List.range items.size).all e)) s) : wpAny (model prog w) A (compareOp .NotEq (.ref l) (.ref b)) Q E s := by
  obtain ⟨⟨cls, dd, data, sl⟩, ho, hc, n, hd⟩ := id hl
  obtain ⟨⟨cls2, dd2, data2, sl2⟩, ho2, hc2, n2, hd2⟩ := id hb
  simp only at hc hd hc2 hd2
  subst hc hd hc2 hd2
  exact wpAny_richCompare_same_room (T := "list") (op := .NotEq) ⟨_, ho, rfl⟩ ⟨_, ho2, rfl⟩ F.slot_list_ne (call_meetsIn F.slot_list_ne ⟨_, ho, rfl⟩ F.entry_list_ne (F.args_list_ne_2 _ _) (pi_list_ne l b items items2 n n2 dd dd2 sl sl2 hsz e)
    ⟨ho, ho2, he, show Value.bool (!(List.range items.size).all e) ≠ Value.notImplemented ∧ Q (.bool (!(List.range items.size).all e)) s from ⟨(fun x => nomatch x), h⟩⟩) hu
theorem pi_ne_tuples {E : Value → Shared → Prop} {l b : Addr} {items items2 : Array Value} {e : Nat → Bool} {Q : Value → Shared → Prop} (hl : s.heap.IsTuple l items) (hb : s.heap.IsTuple b items2) (hu : A.units < cLine)
    (he : ∀ j (h1 : j < items.size) (h2 : j < items2.size), EqIn prog w A.in1 s items[j] items2[j] (e j)) (h : Q (.bool (!((List.range (min items.size items2.size)).all e && items.size == items2.size))) s) :
    wpAny (model prog w) A (compareOp .NotEq (.ref l) (.ref b)) Q E s := by
  obtain ⟨⟨cls, dd, data, sl⟩, ho, hc, n, hd⟩ := id hl
  obtain ⟨⟨cls2, dd2, data2, sl2⟩, ho2, hc2, n2, hd2⟩ := id hb
  simp only at hc hd hc2 hd2
  subst hc hd hc2 hd2
  exact wpAny_richCompare_same_room (T := "tuple") (op := .NotEq) ⟨_, ho, rfl⟩ ⟨_, ho2, rfl⟩ F.slot_tuple_ne (call_meetsIn F.slot_tuple_ne ⟨_, ho, rfl⟩ F.entry_tuple_ne (F.args_tuple_ne_2 _ _) (pi_tuple_ne l b items items2 n n2 dd dd2 sl sl2 e)
    ⟨ho, ho2, he, show Value.bool (!((List.range (min items.size items2.size)).all e && items.size == items2.size)) ≠ Value.notImplemented ∧ Q (.bool (!((List.range (min items.size items2.size)).all e && items.size == items2.size))) s from ⟨(fun x => nomatch x), h⟩⟩) hu
end
theorem pi_tuple_ne_dict (l b : Addr) (items : Array Value) (n : Nat) (dd : Option Addr) (sl : Array (Option Value)) (ob : Obj) (hc : ob.cls = .type "dict") :
    Meets (Builtin.«tuple.__ne__» ⟨[.ref l, .ref b], []⟩) (fun _ R s => s.heap.get? l = some { cls := .type "tuple", dict := dd, data := .seq items n, slots := sl } ∧ s.heap.get? b = some ob ∧ R (.ok (.ret .notImplemented)) s) :=
  .of_wp fun prog w A R s h => by
    obtain ⟨hp, g, d, tk, os⟩ := s
    obtain ⟨hl, hb, h⟩ := h
    have f1 := F.sub_dict_tuple
    obtain ⟨c, di, da, ss⟩ := ob
    simp only at hc
    subst hc
    wp_walk using wpAny_loadPart' hl, wpAny_loadPart' hb
    exact ⟨_, rfl, h⟩
theorem pi_dict_ne_declines {prog : Program} {w : World} {A : Around} {E : Value → Shared → Prop} {s : Shared} {b : Addr} {v : Value} {T : String} {Q : Value → Shared → Prop}
    (tb : s.TypeIs (.ref b) "dict") (tv : s.TypeIs v T) (sub : isSubtype (.type T) (.type "dict") = pure false) (h : Q .notImplemented s) : wpAny (model prog w) A (call (.builtin "dict.__ne__") [.ref b, v]) Q E s := by
  refine wpAny_call_entry PySem.F.slot_dict_ne tb PySem.F.entry_dict_ne ?_ (PySem.F.args_dict_ne_2 _ _)
  show wpAny _ _ (Builtin.Dict.dictSlotArgs "__ne__" ⟨[.ref b, v], []⟩ >>= _) _ _ s
  refine wpAny_bind ?_
  unfold Builtin.Dict.dictSlotArgs
  refine wpAny_bind (wpAny_notOrdered_dict tb ?_)
  show wpAny _ _ (pure (Value.ref b, v)) _ _ s
  refine wpAny_pure ?_
  refine wpAny_bind (wpAny_isInstance (T := T) tv sub ?_)
  simp only [Bool.not_false, if_true]
  refine wpAny_bind (wpAny_rule ?_)
  exact wpAny_pure ⟨_, rfl, h⟩
theorem pi_rcne_tuple_dict {A : Around} {s : Shared} {l b : Addr} {items : Array Value} {ob : Obj} (hl : s.heap.IsTuple l items) (hb : s.heap.get? b = some ob) (hcb : ob.cls = .type "dict") (hne : l ≠ b) (hu : A.units < cLine) : RcNeAt A s (.ref l) (.ref b) true := fun prog w E Q h => by
  obtain ⟨⟨cls, dd, data, sl⟩, ho, hc, n, hd⟩ := id hl
  simp only at hc hd
  subst hc hd
  exact (rc_ne_decline_or (k := false) ⟨_, ho, rfl⟩ ⟨_, hb, hcb⟩ (by decide) F.sub_dict_tuple F.slot_tuple_ne F.slot_dict_ne_refl
    (fun _ hq => call_meets F.slot_tuple_ne ⟨_, ho, rfl⟩ F.entry_tuple_ne (F.args_tuple_ne_2 _ _) (pi_tuple_ne_dict l b items n dd sl ob hcb) ⟨ho, hb, hq⟩)
    (fun _ hq => pi_dict_ne_declines (T := "tuple") ⟨_, hb, hcb⟩ ⟨_, ho, rfl⟩ F.sub_tuple_dict hq)
    (fun _ hq => wpAny_isSame_ref_other' hne ho hb (by rw [hcb]; simp) hq) (.inr hu) h)
theorem pi_rcne_dict_tuple {A : Around} {s : Shared} {l b : Addr} {items : Array Value} {ob : Obj} (hl : s.heap.IsTuple l items) (hb : s.heap.get? b = some ob) (hcb : ob.cls = .type "dict") (hne : b ≠ l) (hu : A.units < cLine) : RcNeAt A s (.ref b) (.ref l) true := fun prog w E Q h => by
  obtain ⟨⟨cls, dd, data, sl⟩, ho, hc, n, hd⟩ := id hl
  simp only at hc hd
  subst hc hd
  exact (rc_ne_decline_or (k := false) ⟨_, hb, hcb⟩ ⟨_, ho, rfl⟩ (by decide) F.sub_tuple_dict F.slot_dict_ne F.slot_tuple_ne_refl
    (fun _ hq => pi_dict_ne_declines (T := "tuple") ⟨_, hb, hcb⟩ ⟨_, ho, rfl⟩ F.sub_tuple_dict hq)
    (fun _ hq => call_meets F.slot_tuple_ne_refl ⟨_, ho, rfl⟩ F.entry_tuple_ne (F.args_tuple_ne_2 _ _) (pi_tuple_ne_dict l b items n dd sl ob hcb) ⟨ho, hb, hq⟩)
    (fun _ hq => wpAny_isSame_ref_other hne hb ho (by rw [hcb]; simp) hq) (.inr hu) h)
end PySem.SeqAt
namespace PySem.W
open PySem PySem.Calls PyProof.Rows PySem.Spec
open PySem.SeqAt (EqIn EqAt)
section
variable {prog : Program} {w : World} {K : Type} [DecidableEq K] {knd : KeyKind prog w K} {A : Around} {E : Value → Shared → Prop} {s : Shared}
theorem pi_ne_dicts {a b : Addr} {ka kb : List (K × Value)} {r : Bool} {Q : Value → Shared → Prop} (ha : (a == sysModules) = false) (hb : (b == sysModules) = false)
    (da : s.heap.DictOf knd a ka) (db : s.heap.DictOf knd b kb) (hu : A.units < cLine) (hits : ka.length = kb.length → KeqHitsIn prog w A.in1 s kb ka r) (h : Q (.bool (!(ka.length == kb.length && r))) s) :
    wpAny (model prog w) A (compareOp .NotEq (.ref a) (.ref b)) Q E s := by
  refine wpAny_richCompare_same_room (op := .NotEq) da.typeIs db.typeIs PySem.F.slot_dict_ne (wpAny_call_entry PySem.F.slot_dict_ne da.typeIs PySem.F.entry_dict_ne ?_ (PySem.F.args_dict_ne_2 _ _)) hu
  show wpAny _ _ (Builtin.Dict.dictSlotArgs "__ne__" ⟨[.ref a, .ref b], []⟩ >>= _) _ _ s
  refine wpAny_bind ?_
  unfold Builtin.Dict.dictSlotArgs
  refine wpAny_bind (wpAny_notOrdered_dict da.typeIs ?_)
  show wpAny _ _ (pure (Value.ref a, Value.ref b)) _ _ s
  refine wpAny_pure ?_
  refine wpAny_bind (wpAny_isInstance (T := "dict") db.typeIs PySem.F.sub_dict_dict ?_)
  simp only [Bool.not_true, Bool.false_eq_true, if_false]
  refine wpAny_bind (wpAny_pure (wpAny_bind (wpAny_pure ?_)))
  refine wpAny_bind (keq_samePairsIn ha hb da db hits ?_)
  refine wpAny_pure ⟨_, rfl, ?_, ?_⟩
  · exact fun x => nomatch x
  · simpa using h
end
end PySem.W

/-! Pi5: operations by data: the built-in ones. -/
namespace PySem.AutoSeq1
theorem pi_list_add (l : Addr) (items : Array Value) (n : Nat) (sl : Array (Option Value)) (b : Addr) (items2 : Array Value) (n2 : Nat) (sl2 : Array (Option Value)) (hc0 : items.size + items2.size ≤ sizeLine) :
    Meets (Builtin.«list.__add__» ⟨[.ref l, .ref b], []⟩) (fun _ R s => s.heap.get? l = some { cls := .type "list", dict := none, data := .seq items n, slots := sl } ∧ s.heap.get? b = some { cls := .type "list", dict := none, data := .seq items2 n2, slots := sl2 } ∧ R (.ok (.ret (Value.ref s.heap.objs.size))) { s with heap := s.heap.push { cls := Value.type "list", data := Data.seq (items ++ items2) }, toks := s.toks }) :=
  .of_wp fun prog w A R s h => by obtain ⟨hp, g, d, tk, os⟩ := s; obtain ⟨hl, hb, h⟩ := h; have f1 := idx_int; have f2 := sub_tuple_tuple; have f3 := sub_list_list; have f4 := sub_tuple_list; have f5 := sub_list_tuple; wp_walk using wpAny_loadPart' hl, wpAny_loadPart' hb; exact ⟨_, rfl, h⟩
theorem pi_list_extend (l : Addr) (items : Array Value) (n : Nat) (b : Addr) (items2 : Array Value) (n2 : Nat) (sl2 : Array (Option Value)) (hc0 : ¬(!items.isEmpty && Builtin.List.listTooLong (items.size + items2.size)) = true) (hc1 : items.size ≤ sizeLine) (hs2 : items.size + items2.size ≤ sizeLine + 1) :
    Meets (Builtin.«list.extend» ⟨[.ref l, .ref b], []⟩) (fun _ R s => s.heap.get? l = some { cls := .type "list", dict := none, data := .seq items n, slots := #[] } ∧ s.heap.get? b = some { cls := .type "list", dict := none, data := .seq items2 n2, slots := sl2 } ∧ R (.ok (.ret Value.none)) { s with heap := s.heap.update l (Obj.mapSeq fun x => x ++ items2), toks := s.toks }) :=
  .of_wp fun prog w A R s h => by
    obtain ⟨hp, g, d, tk, os⟩ := s; obtain ⟨hl, hb, h⟩ := h; have f1 := idx_int; have f2 := sub_tuple_tuple; have f3 := sub_list_list; have f4 := sub_tuple_list; have f5 := sub_list_tuple;
    have hz' : (items ++ items2).size ≤ sizeLine + 1 := by rw [Array.size_append]; exact hs2
    wp_walk using (wpAny_updateSeq hl rfl (hz := hc1) (_hz' := hz')), wpAny_loadPart' hl, wpAny_loadPart' hb; exact ⟨_, rfl, h⟩
end PySem.AutoSeq1

namespace Pi
open PySem L2 PySem.Spec PyProof.Rows

/-- what a rule is used with -/
structure XG (g : GC) (X : Cx) : Prop where
  hK : g.K = X.K
  calm : X.calm = true
  room : X.A.units + 200 < cLine
  nd : X.N.Nodup

/-- what is wanted of an operation's datum: a list or dict is new -/
def Res (g : GC) (al : Al) (H : Hp) (d : D) (Q : VK) : Prop :=
  match d with
  | .lst ds => ∀ p vs, H p = none → DtL g al H vs ds → Q (.ref p) (upd H p (.lst vs))
  | .dic rs => ∀ p kvs, H p = none → DtK g al H kvs rs → Q (.ref p) (upd H p (.dK kvs))
  | d => ∀ v, Dt g al H v d → Q v H
section
variable {g : GC} {al al' al0 : Al} {H H' H0 Hs : Hp} {S S' : Sto} {r : Rho} {σ : L2.St} {W : WX} {X : Cx}
/-- a new thing, made at the end -/
theorem Pst.res {d : D} {Q : VK} (rs : RS g H0 al0 r S al σ H) (k : Keep Hs H) (h : Pst g W H0 al0 r σ al H (RF g Hs) (.ok d S) Q) : Res g al H d Q := by
  cases d with
  | lst ds => exact fun p vs n l => h.new rs n ⟨p, vs, rfl, k.back n, upd_same, l.mono (.of (same_new n)) (List.prefix_refl al)⟩
  | dic ds => exact fun p vs n l => h.new rs n ⟨p, vs, rfl, k.back n, upd_same, l.mono (.of (same_new n)) (List.prefix_refl al)⟩
  | non => exact fun v q => h.here rs q
  | bl _ => exact fun v q => h.here rs q
  | int _ => exact fun v q => h.here rs q
  | str _ => exact fun v q => h.here rs q
  | fn _ => exact fun v q => h.here rs q
  | obj _ => exact fun v q => h.here rs q
  | tup _ => exact fun v q => h.here rs q

/-! ### two operands, one operand -/
def rD2 (g : GC) (f : D → D → Option D) : R2 := fun x y H Q => ∃ al dx dy dz, Bt g al H x dx ∧ Bt g al H y dy ∧ f dx dy = some dz ∧ Res g al H dz Q
theorem op2_of {ma mb : Rho → Sto → Out D} {f : D → D → Option D} : ∀ σ H Q, TR g W (RF g) (fun r S => (ma r S).bnd fun x S => (mb r S).bnd fun y S => lift (f x y) S) σ H Q →
    tOp (rD2 g f) (TR g W (RB g) ma) (TR g W (RB g) mb) σ H Q := by
  rintro σ H Q ⟨H0, al0, al, r, S, rs, h⟩
  refine ⟨H0, al0, al, r, S, rs, (h.bnd (R1 := RB g H)).imp ?_⟩
  rintro vx H1 ⟨al1, x, S1, rs1, k1, p1, b1, h⟩
  refine ⟨H0, al0, al1, r, S1, rs1, (h.bnd (R1 := RB g H1)).imp ?_⟩
  rintro vy H2 ⟨al2, y, S2, rs2, k2, p2, b2, h⟩
  obtain ⟨z, ez, h⟩ := h.lift
  exact ⟨al2, x, y, z, b1.mono k2 p2, b2, ez, h.res rs2 (k1.trans k2)⟩

def opOf : O2 → Operator
  | .add => .Add | .sub => .Sub | .mul => .Mult | .fdiv => .FloorDiv | .mod => .Mod
theorem lst_obj (hK : g.K = X.K) {pins : List (Addr × Obj)} {s : Shared} (I : Inv X pins σ H s) {a : Addr} {vs : List V} (h : SqL g.K H a vs) :
    ∃ its : List Value, ∃ n sl, Vals vs its ∧ s.heap.get? a = some { cls := .type "list", dict := none, data := .seq its.toArray n, slots := sl } ∧ vs.length ≤ sizeLine := by
  rw [hK] at h
  obtain ⟨its, rv, ⟨o, n, e, h1, h2, h3⟩, z⟩ := I.list h
  obtain ⟨c, d, da, sl⟩ := o
  simp only at h1 h2 h3
  subst h1 h2 h3
  exact ⟨its, n, sl, rv, e, z⟩
theorem op_bin (G : XG g X) (o : O2) : OpR X (binaryOp (opOf o)) (rD2 g (o2D o)) := by
  intro pins s σ H x y v u Q I rx ry h
  obtain ⟨al, dx, dy, dz, bx, bY, e, q⟩ := h
  cases o with
  | add =>
    cases dx with
    | int i =>
      cases dy <;> simp only [o2D] at e <;> try (cases e; done)
      rename_i j
      cases e
      exact op_add pins s σ H x y v u Q I rx ry ⟨i, j, bx.int, bY.int, q _ (.int _)⟩
    | str i =>
      cases dy <;> simp only [o2D] at e <;> try (cases e; done)
      rename_i j
      split at e <;> cases e
      rename_i hz
      exact op_add_str pins s σ H x y v u Q I rx ry ⟨i, j, bx.str, bY.str, hz, q _ (.str _)⟩
    | lst xs =>
      cases dy <;> simp only [o2D] at e <;> try (cases e; done)
      rename_i ys
      split at e <;> cases e
      rename_i hz
      obtain ⟨a, vs, rfl, q1, l1⟩ := bx.lst
      obtain ⟨b, us, rfl, q2, l2⟩ := bY.lst
      cases rx
      cases ry
      obtain ⟨its, n, sl, r1, e1, z1⟩ := lst_obj G.hK I q1
      obtain ⟨its', n', sl', r2, e2, z2⟩ := lst_obj G.hK I q2
      have h1 : vs.length = xs.length := l1.length
      have h2 : us.length = ys.length := l2.length
      have h3 : vs.length = its.length := r1.length
      have h4 : us.length = its'.length := r2.length
      refine concat_meets ⟨_, e1, rfl⟩ ⟨_, e2, rfl⟩ noFill_list_add seq_list_add F.slot_list_add F.entry_list_add (F.args_list_add_2 _ _) (AutoSeq1.pi_list_add a its.toArray n sl b its'.toArray n' sl' (by rw [List.size_toArray, List.size_toArray]; omega)) ⟨e1, e2, ?_⟩
      have ea : its.toArray ++ its'.toArray = (its ++ its').toArray := by simp
      rw [ea]
      exact ⟨.ref _, _, I.lnew (t' := s.toks) (r1.append r2) (by rw [List.length_append]; omega), rfl, q _ _ I.fresh (l1.append l2)⟩
    | _ => cases dy <;> simp [o2D] at e
  | sub =>
    cases dx with
    | int i =>
      cases dy <;> simp only [o2D] at e <;> try (cases e; done)
      rename_i j
      cases e
      exact op_sub pins s σ H x y v u Q I rx ry ⟨i, j, bx.int, bY.int, q _ (.int _)⟩
    | _ => cases dy <;> simp [o2D] at e
  | mul =>
    cases dx with
    | int i =>
      cases dy <;> simp only [o2D] at e <;> try (cases e; done)
      rename_i j
      split at e <;> cases e
      rename_i hc
      exact op_mul pins s σ H x y v u Q I rx ry ⟨i, j, bx.int, bY.int, hc, q _ (.int _)⟩
    | _ => cases dy <;> simp [o2D] at e
  | fdiv =>
    cases dx with
    | int i =>
      cases dy <;> simp only [o2D] at e <;> try (cases e; done)
      rename_i j
      split at e <;> cases e
      rename_i hc
      obtain ⟨t, rfl⟩ := (show RelV (V.int i) v from bx.int ▸ rx)
      obtain ⟨t', rfl⟩ := (show RelV (V.int j) u from bY.int ▸ ry)
      refine floordiv_int hc.1 ?_ (.inl (PyProof.noPylong_of_log2 (PySem.Flt.log2_lt_of (by decide) hc.2)))
      exact ⟨.int (i.fdiv j), H, I.tok _, ⟨_, rfl⟩, q _ (.int _)⟩
    | _ => cases dy <;> simp [o2D] at e
  | mod =>
    cases dx with
    | int i =>
      cases dy <;> simp only [o2D] at e <;> try (cases e; done)
      rename_i j
      split at e <;> cases e
      rename_i hc
      exact op_modN pins s σ H x y v u Q I rx ry ⟨i, j, bx.int, bY.int, hc, q _ (.int _)⟩
    | _ => cases dy <;> simp [o2D] at e

/-! ### comparisons -/
def rCm (g : GC) (f : D → D → Option Bool) : R2 := fun x y H Q => ∃ al dx dy b, Bt g al H x dx ∧ Bt g al H y dy ∧ f dx dy = some b ∧ Q (.bl b) H
theorem rc_flat {x y : D} {vv uu : Value} {b : Bool} {A : Around} {s : Shared} (fx : flatD x = true) (fy : flatD y = true) (rv : RelV (toV x) vv) (ru : RelV (toV y) uu) (h : eqd x y = some b) : SeqAt.RcAt A s vv uu b ∧ SeqAt.RcNeAt A s vv uu (!b) := by
  cases x with
  | non =>
    cases rv
    cases y with
    | non => cases ru; cases h; exact ⟨SeqAt.RcAt.none_none, SeqAt.RcNeAt.none_none⟩
    | bl j => cases ru; cases h; exact ⟨SeqAt.RcAt.none_bool j, SeqAt.RcNeAt.none_bool j⟩
    | int j => obtain ⟨t, rfl⟩ := ru; cases h; exact ⟨SeqAt.RcAt.none_int j t, SeqAt.RcNeAt.none_int j t⟩
    | str j => obtain ⟨t, rfl⟩ := ru; cases h; exact ⟨SeqAt.RcAt.none_str j t, SeqAt.RcNeAt.none_str j t⟩
    | _ => cases fy
  | bl i =>
    cases rv
    cases y with
    | non => cases ru; cases h; exact ⟨SeqAt.RcAt.bool_none i, SeqAt.RcNeAt.bool_none i⟩
    | bl j => cases ru; cases h; exact ⟨SeqAt.RcAt.bool_bool i j, SeqAt.RcNeAt.bool_bool i j⟩
    | int j => obtain ⟨t, rfl⟩ := ru; cases h; exact ⟨SeqAt.RcAt.bool_int i j t, SeqAt.RcNeAt.bool_int i j t⟩
    | str j => obtain ⟨t, rfl⟩ := ru; cases h; exact ⟨SeqAt.RcAt.bool_str i j t, SeqAt.RcNeAt.bool_str i j t⟩
    | _ => cases fy
  | int i =>
    obtain ⟨t', rfl⟩ := rv
    cases y with
    | non => cases ru; cases h; exact ⟨SeqAt.RcAt.int_none i t', SeqAt.RcNeAt.int_none i t'⟩
    | bl j => cases ru; cases h; exact ⟨SeqAt.RcAt.int_bool i t' j, SeqAt.RcNeAt.int_bool i t' j⟩
    | int j => obtain ⟨t, rfl⟩ := ru; cases h; exact ⟨SeqAt.RcAt.int_int i t' j t, SeqAt.RcNeAt.int_int i t' j t⟩
    | str j => obtain ⟨t, rfl⟩ := ru; cases h; exact ⟨SeqAt.RcAt.int_str i t' j t, SeqAt.RcNeAt.int_str i t' j t⟩
    | _ => cases fy
  | str i =>
    obtain ⟨t', rfl⟩ := rv
    cases y with
    | non => cases ru; cases h; exact ⟨SeqAt.RcAt.str_none i t', SeqAt.RcNeAt.str_none i t'⟩
    | bl j => cases ru; cases h; exact ⟨SeqAt.RcAt.str_bool i t' j, SeqAt.RcNeAt.str_bool i t' j⟩
    | int j => obtain ⟨t, rfl⟩ := ru; cases h; exact ⟨SeqAt.RcAt.str_int i t' j t, SeqAt.RcNeAt.str_int i t' j t⟩
    | str j => obtain ⟨t, rfl⟩ := ru; cases h; exact ⟨SeqAt.RcAt.str_str i t' j t, SeqAt.RcNeAt.str_str i t' j t⟩
    | _ => cases fy
  | _ => cases fx
theorem rc_top (G : XG g X) {pins : List (Addr × Obj)} {s : Shared} (I : Inv X pins σ H s) {x y : D} {v u : V} {vv uu : Value} {b : Bool} (hx : Bt g al H v x) (hy : Bt g al H u y) (rv : RelV v vv) (ru : RelV u uu) (h : eqd x y = some b) (hd : min x.deep y.deep ≤ 100)
    {E Q : Value → Shared → Prop} (q0 : Q (.bool b) s) : wpAny (model X.prog X.w) X.A (compareOp .Eq vv uu) Q E s := by
  have hu := G.room
  have hu1 : X.A.units < cLine := by omega
  by_cases fx : flatD x = true
  · cases hx.flat fx
    by_cases fy : flatD y = true
    · cases hy.flat fy
      exact (rc_flat fx fy rv ru h).1 _ _ _ _ q0
    · cases y with
      | tup ys =>
        obtain ⟨a, vs, rfl, qq, l⟩ := hy.tup
        obtain ⟨its, r, t⟩ := is_tuple G.hK I qq
        cases ru
        have e : b = false := by cases x <;> first | (simp only [eqd, Option.some.injEq] at h; exact h.symm) | (cases fx; done)
        subst e
        cases x with
        | non => cases rv; exact SeqAt.RcAt.none_tuple t hu1 _ _ _ _ q0
        | bl c => cases rv; exact SeqAt.RcAt.bool_tuple c t hu1 _ _ _ _ q0
        | int c => obtain ⟨t', rfl⟩ := rv; exact SeqAt.RcAt.int_tuple c t' t hu1 _ _ _ _ q0
        | str c => obtain ⟨t', rfl⟩ := rv; exact SeqAt.RcAt.str_tuple c t' t hu1 _ _ _ _ q0
        | _ => cases fx
      | lst ys =>
        obtain ⟨a, vs, rfl, qq, l⟩ := hy.lst
        obtain ⟨its, r, t⟩ := is_list G.hK I qq
        cases ru
        have e : b = false := by cases x <;> first | (simp only [eqd, Option.some.injEq] at h; exact h.symm) | (cases fx; done)
        subst e
        cases x with
        | non => cases rv; exact SeqAt.RcAt.none_list t hu1 _ _ _ _ q0
        | bl c => cases rv; exact SeqAt.RcAt.bool_list c t hu1 _ _ _ _ q0
        | int c => obtain ⟨t', rfl⟩ := rv; exact SeqAt.RcAt.int_list c t' t hu1 _ _ _ _ q0
        | str c => obtain ⟨t', rfl⟩ := rv; exact SeqAt.RcAt.str_list c t' t hu1 _ _ _ _ q0
        | _ => cases fx
      | dic _ => cases x <;> first | (simp [eqd] at h; done) | (cases fx; done)
      | fn _ => cases x <;> simp [eqd] at h
      | obj _ => cases x <;> simp [eqd] at h
      | _ => exact absurd rfl fy
  · by_cases fy : flatD y = true
    · cases hy.flat fy
      cases x with
      | tup ys =>
        obtain ⟨a, vs, rfl, qq, l⟩ := hx.tup
        obtain ⟨its, r, t⟩ := is_tuple G.hK I qq
        cases rv
        have e : b = false := by cases y <;> first | (simp only [eqd, Option.some.injEq] at h; exact h.symm) | (cases fy; done)
        subst e
        cases y with
        | non => cases ru; exact SeqAt.RcAt.tuple_none t hu1 _ _ _ _ q0
        | bl c => cases ru; exact SeqAt.RcAt.tuple_bool c t hu1 _ _ _ _ q0
        | int c => obtain ⟨t', rfl⟩ := ru; exact SeqAt.RcAt.tuple_int c t' t hu1 _ _ _ _ q0
        | str c => obtain ⟨t', rfl⟩ := ru; exact SeqAt.RcAt.tuple_str c t' t hu1 _ _ _ _ q0
        | _ => cases fy
      | lst ys =>
        obtain ⟨a, vs, rfl, qq, l⟩ := hx.lst
        obtain ⟨its, r, t⟩ := is_list G.hK I qq
        cases rv
        have e : b = false := by cases y <;> first | (simp only [eqd, Option.some.injEq] at h; exact h.symm) | (cases fy; done)
        subst e
        cases y with
        | non => cases ru; exact SeqAt.RcAt.list_none t hu1 _ _ _ _ q0
        | bl c => cases ru; exact SeqAt.RcAt.list_bool c t hu1 _ _ _ _ q0
        | int c => obtain ⟨t', rfl⟩ := ru; exact SeqAt.RcAt.list_int c t' t hu1 _ _ _ _ q0
        | str c => obtain ⟨t', rfl⟩ := ru; exact SeqAt.RcAt.list_str c t' t hu1 _ _ _ _ q0
        | _ => cases fy
      | dic _ => cases y <;> first | (simp [eqd] at h; done) | (cases fy; done)
      | fn _ => cases y <;> simp [eqd] at h
      | obj _ => cases y <;> simp [eqd] at h
      | _ => exact absurd rfl fx
    · -- two compound ones: the tree of the items, and the top by its rule
      have tr := fun n => eq_tree (al := al) G.hK I n
      cases x with
      | tup xs =>
        obtain ⟨a, vs, rfl, qq, l⟩ := hx.tup
        obtain ⟨its, r, t⟩ := is_tuple G.hK I qq
        cases rv
        cases y with
        | tup ys =>
          obtain ⟨a', vs', rfl, q', l'⟩ := hy.tup
          obtain ⟨its', r', t'⟩ := is_tuple G.hK I q'
          cases ru
          simp only [eqd] at h
          obtain ⟨he, hb⟩ := eqdL_all xs ys b h
          have hs1 : its.toArray.size = xs.length := by simp [← r.length, l.length]
          have hs2 : its'.toArray.size = ys.length := by simp [← r'.length, l'.length]
          refine SeqAt.rcIn_tuples t t' hu1 (fun j h1 h2 => (items_tree (tr 100) l l' r r' (by simp only [D.deep] at hd; omega) he j h1 h2).at X.A.in1 (by show X.A.units + 1 + _ < cLine; omega)) ?_
          rw [hs1, hs2, ← hb]
          exact q0
        | lst ys =>
          obtain ⟨a', vs', rfl, q', l'⟩ := hy.lst
          obtain ⟨its', r', t'⟩ := is_list G.hK I q'
          cases ru
          simp only [eqd, Option.some.injEq] at h
          subst h
          exact SeqAt.RcAt.tuple_list t t' hu1 _ _ _ _ q0
        | dic ys =>
          obtain ⟨a', vs', rfl, q', l'⟩ := hy.dic
          cases ru
          simp only [eqd, Option.some.injEq] at h
          subst h
          obtain ⟨ob, eo, ec⟩ := dict_cls I q'
          have hne : a ≠ a' := fun e => by subst e; exact rd_clash_tk G.hK I qq q'
          exact SeqAt.pi_rc_tuple_dict t eo ec hne hu1 _ _ _ _ q0
        | fn _ => simp [eqd] at h
        | obj _ => simp [eqd] at h
        | _ => exact absurd rfl fy
      | lst xs =>
        obtain ⟨a, vs, rfl, qq, l⟩ := hx.lst
        obtain ⟨its, r, t⟩ := is_list G.hK I qq
        cases rv
        cases y with
        | tup ys =>
          obtain ⟨a', vs', rfl, q', l'⟩ := hy.tup
          obtain ⟨its', r', t'⟩ := is_tuple G.hK I q'
          cases ru
          simp only [eqd, Option.some.injEq] at h
          subst h
          exact SeqAt.RcAt.list_tuple t t' hu1 _ _ _ _ q0
        | lst ys =>
          obtain ⟨a', vs', rfl, q', l'⟩ := hy.lst
          obtain ⟨its', r', t'⟩ := is_list G.hK I q'
          cases ru
          simp only [eqd] at h
          have hs1 : its.toArray.size = xs.length := by simp [← r.length, l.length]
          have hs2 : its'.toArray.size = ys.length := by simp [← r'.length, l'.length]
          by_cases ez : xs.length = ys.length
          · rw [if_pos ez] at h
            obtain ⟨he, hb⟩ := eqdL_all xs ys b h
            refine SeqAt.rcIn_lists t t' (by rw [hs1, hs2, ez]) hu1 (fun j h1 h2 => (items_tree (tr 100) l l' r r' (by simp only [D.deep] at hd; omega) he j h1 h2).at X.A.in1 (by show X.A.units + 1 + _ < cLine; omega)) ?_
            have hb' : b = (List.range its.toArray.size).all (eqAll xs ys) := by
              rw [hb, hs1, ← ez, Nat.min_self]
              simp
            rw [← hb']
            exact q0
          · rw [if_neg ez] at h
            cases h
            exact SeqAt.RcAt.lists_lengths t t' (by rw [hs1, hs2]; simpa using ez) hu1 _ _ _ _ q0
        | fn _ => simp [eqd] at h
        | obj _ => simp [eqd] at h
        | dic _ => simp [eqd] at h
        | _ => exact absurd rfl fy
      | dic xs =>
        obtain ⟨a, vs, rfl, qq, l⟩ := hx.dic
        cases rv
        cases y with
        | tup ys =>
          obtain ⟨a', vs', rfl, q', l'⟩ := hy.tup
          obtain ⟨its', r', t'⟩ := is_tuple G.hK I q'
          cases ru
          simp only [eqd, Option.some.injEq] at h
          subst h
          obtain ⟨ob, eo, ec⟩ := dict_cls I qq
          have hne : a ≠ a' := fun e => by subst e; exact rd_clash_tk G.hK I q' qq
          exact SeqAt.pi_rc_dict_tuple t' eo ec hne hu1 _ _ _ _ q0
        | dic ys =>
          obtain ⟨a', vs', rfl, q', l'⟩ := hy.dic
          cases ru
          obtain ⟨y1, kv, r, d1, _⟩ := rd_dict I qq
          obtain ⟨y2, kv', r', d2, _⟩ := rd_dict I q'
          obtain ⟨k1, k2⟩ := dicts_tree (tr 100) (keys_nd I qq l) l l' r r' h (by simp only [D.deep] at hd; omega)
          refine PySem.W.keq_eqIn y1 y2 d1 d2 hu1 (fun _ => PySem.W.KeqHitsIn.of _ fun k v y hm hv => (k1 k v y hm hv).at X.A.in1 (by show X.A.units + 1 + _ < cLine; omega)) ?_
          rw [k2]
          exact q0
        | fn _ => simp [eqd] at h
        | obj _ => simp [eqd] at h
        | lst _ => simp [eqd] at h
        | _ => exact absurd rfl fy
      | fn _ => cases y <;> simp [eqd] at h
      | obj _ => cases y <;> simp [eqd] at h
      | _ => exact absurd rfl fx
theorem rcne_top (G : XG g X) {pins : List (Addr × Obj)} {s : Shared} (I : Inv X pins σ H s) {x y : D} {v u : V} {vv uu : Value} {b : Bool} (hx : Bt g al H v x) (hy : Bt g al H u y) (rv : RelV v vv) (ru : RelV u uu) (h : eqd x y = some b) (hd : min x.deep y.deep ≤ 100)
    {E Q : Value → Shared → Prop} (q0 : Q (.bool (!b)) s) : wpAny (model X.prog X.w) X.A (compareOp .NotEq vv uu) Q E s := by
  have hu := G.room
  have hu1 : X.A.units < cLine := by omega
  by_cases fx : flatD x = true
  · cases hx.flat fx
    by_cases fy : flatD y = true
    · cases hy.flat fy
      exact (rc_flat fx fy rv ru h).2 _ _ _ _ q0
    · cases y with
      | tup ys =>
        obtain ⟨a, vs, rfl, qq, l⟩ := hy.tup
        obtain ⟨its, r, t⟩ := is_tuple G.hK I qq
        cases ru
        have e : b = false := by cases x <;> first | (simp only [eqd, Option.some.injEq] at h; exact h.symm) | (cases fx; done)
        subst e
        cases x with
        | non => cases rv; exact SeqAt.RcNeAt.none_tuple t hu1 _ _ _ _ q0
        | bl c => cases rv; exact SeqAt.RcNeAt.bool_tuple c t hu1 _ _ _ _ q0
        | int c => obtain ⟨t', rfl⟩ := rv; exact SeqAt.RcNeAt.int_tuple c t' t hu1 _ _ _ _ q0
        | str c => obtain ⟨t', rfl⟩ := rv; exact SeqAt.RcNeAt.str_tuple c t' t hu1 _ _ _ _ q0
        | _ => cases fx
      | lst ys =>
        obtain ⟨a, vs, rfl, qq, l⟩ := hy.lst
        obtain ⟨its, r, t⟩ := is_list G.hK I qq
        cases ru
        have e : b = false := by cases x <;> first | (simp only [eqd, Option.some.injEq] at h; exact h.symm) | (cases fx; done)
        subst e
        cases x with
        | non => cases rv; exact SeqAt.RcNeAt.none_list t hu1 _ _ _ _ q0
        | bl c => cases rv; exact SeqAt.RcNeAt.bool_list c t hu1 _ _ _ _ q0
        | int c => obtain ⟨t', rfl⟩ := rv; exact SeqAt.RcNeAt.int_list c t' t hu1 _ _ _ _ q0
        | str c => obtain ⟨t', rfl⟩ := rv; exact SeqAt.RcNeAt.str_list c t' t hu1 _ _ _ _ q0
        | _ => cases fx
      | dic _ => cases x <;> first | (simp [eqd] at h; done) | (cases fx; done)
      | fn _ => cases x <;> simp [eqd] at h
      | obj _ => cases x <;> simp [eqd] at h
      | _ => exact absurd rfl fy
  · by_cases fy : flatD y = true
    · cases hy.flat fy
      cases x with
      | tup ys =>
        obtain ⟨a, vs, rfl, qq, l⟩ := hx.tup
        obtain ⟨its, r, t⟩ := is_tuple G.hK I qq
        cases rv
        have e : b = false := by cases y <;> first | (simp only [eqd, Option.some.injEq] at h; exact h.symm) | (cases fy; done)
        subst e
        cases y with
        | non => cases ru; exact SeqAt.RcNeAt.tuple_none t hu1 _ _ _ _ q0
        | bl c => cases ru; exact SeqAt.RcNeAt.tuple_bool c t hu1 _ _ _ _ q0
        | int c => obtain ⟨t', rfl⟩ := ru; exact SeqAt.RcNeAt.tuple_int c t' t hu1 _ _ _ _ q0
        | str c => obtain ⟨t', rfl⟩ := ru; exact SeqAt.RcNeAt.tuple_str c t' t hu1 _ _ _ _ q0
        | _ => cases fy
      | lst ys =>
        obtain ⟨a, vs, rfl, qq, l⟩ := hx.lst
        obtain ⟨its, r, t⟩ := is_list G.hK I qq
        cases rv
        have e : b = false := by cases y <;> first | (simp only [eqd, Option.some.injEq] at h; exact h.symm) | (cases fy; done)
        subst e
        cases y with
        | non => cases ru; exact SeqAt.RcNeAt.list_none t hu1 _ _ _ _ q0
        | bl c => cases ru; exact SeqAt.RcNeAt.list_bool c t hu1 _ _ _ _ q0
        | int c => obtain ⟨t', rfl⟩ := ru; exact SeqAt.RcNeAt.list_int c t' t hu1 _ _ _ _ q0
        | str c => obtain ⟨t', rfl⟩ := ru; exact SeqAt.RcNeAt.list_str c t' t hu1 _ _ _ _ q0
        | _ => cases fy
      | dic _ => cases y <;> first | (simp [eqd] at h; done) | (cases fy; done)
      | fn _ => cases y <;> simp [eqd] at h
      | obj _ => cases y <;> simp [eqd] at h
      | _ => exact absurd rfl fx
    · -- two compound ones: the tree of the items, and the top by its rule
      have tr := fun n => eq_tree (al := al) G.hK I n
      cases x with
      | tup xs =>
        obtain ⟨a, vs, rfl, qq, l⟩ := hx.tup
        obtain ⟨its, r, t⟩ := is_tuple G.hK I qq
        cases rv
        cases y with
        | tup ys =>
          obtain ⟨a', vs', rfl, q', l'⟩ := hy.tup
          obtain ⟨its', r', t'⟩ := is_tuple G.hK I q'
          cases ru
          simp only [eqd] at h
          obtain ⟨he, hb⟩ := eqdL_all xs ys b h
          have hs1 : its.toArray.size = xs.length := by simp [← r.length, l.length]
          have hs2 : its'.toArray.size = ys.length := by simp [← r'.length, l'.length]
          refine SeqAt.pi_ne_tuples t t' hu1 (fun j h1 h2 => (items_tree (tr 100) l l' r r' (by simp only [D.deep] at hd; omega) he j h1 h2).at X.A.in1 (by show X.A.units + 1 + _ < cLine; omega)) ?_
          rw [hs1, hs2, ← hb]
          exact q0
        | lst ys =>
          obtain ⟨a', vs', rfl, q', l'⟩ := hy.lst
          obtain ⟨its', r', t'⟩ := is_list G.hK I q'
          cases ru
          simp only [eqd, Option.some.injEq] at h
          subst h
          exact SeqAt.RcNeAt.tuple_list t t' hu1 _ _ _ _ q0
        | dic ys =>
          obtain ⟨a', vs', rfl, q', l'⟩ := hy.dic
          cases ru
          simp only [eqd, Option.some.injEq] at h
          subst h
          obtain ⟨ob, eo, ec⟩ := dict_cls I q'
          have hne : a ≠ a' := fun e => by subst e; exact rd_clash_tk G.hK I qq q'
          exact SeqAt.pi_rcne_tuple_dict t eo ec hne hu1 _ _ _ _ q0
        | fn _ => simp [eqd] at h
        | obj _ => simp [eqd] at h
        | _ => exact absurd rfl fy
      | lst xs =>
        obtain ⟨a, vs, rfl, qq, l⟩ := hx.lst
        obtain ⟨its, r, t⟩ := is_list G.hK I qq
        cases rv
        cases y with
        | tup ys =>
          obtain ⟨a', vs', rfl, q', l'⟩ := hy.tup
          obtain ⟨its', r', t'⟩ := is_tuple G.hK I q'
          cases ru
          simp only [eqd, Option.some.injEq] at h
          subst h
          exact SeqAt.RcNeAt.list_tuple t t' hu1 _ _ _ _ q0
        | lst ys =>
          obtain ⟨a', vs', rfl, q', l'⟩ := hy.lst
          obtain ⟨its', r', t'⟩ := is_list G.hK I q'
          cases ru
          simp only [eqd] at h
          have hs1 : its.toArray.size = xs.length := by simp [← r.length, l.length]
          have hs2 : its'.toArray.size = ys.length := by simp [← r'.length, l'.length]
          by_cases ez : xs.length = ys.length
          · rw [if_pos ez] at h
            obtain ⟨he, hb⟩ := eqdL_all xs ys b h
            refine SeqAt.pi_ne_lists t t' (by rw [hs1, hs2, ez]) hu1 (fun j h1 h2 => (items_tree (tr 100) l l' r r' (by simp only [D.deep] at hd; omega) he j h1 h2).at X.A.in1 (by show X.A.units + 1 + _ < cLine; omega)) ?_
            have hb' : b = (List.range its.toArray.size).all (eqAll xs ys) := by
              rw [hb, hs1, ← ez, Nat.min_self]
              simp
            rw [← hb']
            exact q0
          · rw [if_neg ez] at h
            cases h
            exact SeqAt.RcNeAt.lists_lengths t t' (by rw [hs1, hs2]; simpa using ez) hu1 _ _ _ _ q0
        | fn _ => simp [eqd] at h
        | obj _ => simp [eqd] at h
        | dic _ => simp [eqd] at h
        | _ => exact absurd rfl fy
      | dic xs =>
        obtain ⟨a, vs, rfl, qq, l⟩ := hx.dic
        cases rv
        cases y with
        | tup ys =>
          obtain ⟨a', vs', rfl, q', l'⟩ := hy.tup
          obtain ⟨its', r', t'⟩ := is_tuple G.hK I q'
          cases ru
          simp only [eqd, Option.some.injEq] at h
          subst h
          obtain ⟨ob, eo, ec⟩ := dict_cls I qq
          have hne : a ≠ a' := fun e => by subst e; exact rd_clash_tk G.hK I q' qq
          exact SeqAt.pi_rcne_dict_tuple t' eo ec hne hu1 _ _ _ _ q0
        | dic ys =>
          obtain ⟨a', vs', rfl, q', l'⟩ := hy.dic
          cases ru
          obtain ⟨y1, kv, r, d1, _⟩ := rd_dict I qq
          obtain ⟨y2, kv', r', d2, _⟩ := rd_dict I q'
          obtain ⟨k1, k2⟩ := dicts_tree (tr 100) (keys_nd I qq l) l l' r r' h (by simp only [D.deep] at hd; omega)
          refine PySem.W.pi_ne_dicts y1 y2 d1 d2 hu1 (fun _ => PySem.W.KeqHitsIn.of _ fun k v y hm hv => (k1 k v y hm hv).at X.A.in1 (by show X.A.units + 1 + _ < cLine; omega)) ?_
          rw [k2]
          exact q0
        | fn _ => simp [eqd] at h
        | obj _ => simp [eqd] at h
        | lst _ => simp [eqd] at h
        | _ => exact absurd rfl fy
      | fn _ => cases y <;> simp [eqd] at h
      | obj _ => cases y <;> simp [eqd] at h
      | _ => exact absurd rfl fx

theorem op_eqq (G : XG g X) : OpR X (compareOp .Eq) (rCm g eqq) := by
  intro pins s σ H x y v u Q I rx ry h
  obtain ⟨al, dx, dy, b, bx, bY, e, q⟩ := h
  unfold eqq at e
  split at e
  · rename_i hz
    exact rc_top G I bx bY rx ry e hz ⟨.bl b, H, I, rfl, q⟩
  · cases e
theorem op_neq (G : XG g X) : OpR X (compareOp .NotEq) (rCm g fun a b => (eqq a b).map (!·)) := by
  intro pins s σ H x y v u Q I rx ry h
  obtain ⟨al, dx, dy, b, bx, bY, e, q⟩ := h
  have e : (eqq dx dy).map (!·) = some b := e
  unfold eqq at e
  split at e
  · rename_i hz
    cases eb : eqd dx dy with
    | none => rw [eb] at e; cases e
    | some c =>
      rw [eb] at e
      cases e
      exact rcne_top G I bx bY rx ry eb hz ⟨.bl (!c), H, I, rfl, q⟩
  · cases e

def cmOf : Cm → CmpOp
  | .lt => .Lt | .le => .LtE | .gt => .Gt | .ge => .GtE | .eq => .Eq | .ne => .NotEq | .inn => .In | .nin => .NotIn
theorem in_strs (x : Str) : ∀ zs : List Str, inV (.str x) (zs.map V.str) = decide (x ∈ zs)
  | [] => rfl
  | z :: r => by
    have ih := in_strs x r
    unfold inV at ih ⊢
    rw [List.map_cons, List.any_cons, ih]
    by_cases e : x = z
    · subst e; simp [eqV]
    · have : (z == x) = false := by simpa using fun h => e h.symm
      simp [eqV, this, e]
theorem in_ints (x : Int) : ∀ zs : List Int, inV (.int x) (zs.map V.int) = decide (x ∈ zs)
  | [] => rfl
  | z :: r => by
    have ih := in_ints x r
    unfold inV at ih ⊢
    rw [List.map_cons, List.any_cons, ih]
    by_cases e : x = z
    · subst e; simp [eqV]
    · have : (z == x) = false := by simpa using fun h => e h.symm
      simp [eqV, this, e]
theorem flat_strs (zs : List Str) : (zs.map V.str).all flatV = true := by simp [List.all_map, flatV]
theorem flat_ints (zs : List Int) : (zs.map V.int).all flatV = true := by simp [List.all_map, flatV]
/-- what a membership asks -/
theorem inn_of (G : XG g X) {x y : V} {dx dy : D} {b : Bool} (bx : Bt g al H x dx) (bY : Bt g al H y dy) (e : innD dx dy = some b) :
    (∃ a o, y = .ref a ∧ DGet H a x o ∧ b = o.isSome) ∨ ∃ p xs, y = .ref p ∧ (SqL X.K H p xs ∨ SqT X.K H p xs) ∧ flatV x = true ∧ xs.all flatV = true ∧ b = inV x xs := by
  have hK := G.hK
  cases dx with
  | str s =>
    have ex := bx.str
    subst ex
    cases dy with
    | dic rs =>
      obtain ⟨a, kvs, rfl, q, l⟩ := bY.dic
      simp only [innD, Option.some.injEq] at e
      refine .inl ⟨a, valV kvs (.inr s), rfl, .inl ⟨kvs, .inr s, q, rfl, rfl⟩, ?_⟩
      rcases DtK.val s l with ⟨z1, z2⟩ | ⟨v, d, z1, z2, _⟩ <;> rw [← e, z1, z2] <;> rfl
    | lst ys =>
      obtain ⟨a, vs, rfl, q, l⟩ := bY.lst
      simp only [innD] at e
      cases es : strsD ys with
      | none => rw [es] at e; cases e
      | some zs =>
        rw [es] at e
        have ev := strsD_of l es
        subst ev
        refine .inr ⟨a, _, rfl, .inl (hK ▸ q), rfl, flat_strs zs, ?_⟩
        rw [in_strs]
        simpa using e.symm
    | tup ys =>
      obtain ⟨a, vs, rfl, q, l⟩ := bY.tup
      simp only [innD] at e
      cases es : strsD ys with
      | none => rw [es] at e; cases e
      | some zs =>
        rw [es] at e
        have ev := strsD_of l es
        subst ev
        refine .inr ⟨a, _, rfl, .inr (hK ▸ q), rfl, flat_strs zs, ?_⟩
        rw [in_strs]
        simpa using e.symm
    | _ => simp [innD] at e
  | int s =>
    have ex := bx.int
    subst ex
    cases dy with
    | lst ys =>
      obtain ⟨a, vs, rfl, q, l⟩ := bY.lst
      simp only [innD] at e
      cases es : intsD ys with
      | none => rw [es] at e; cases e
      | some zs =>
        rw [es] at e
        have ev := intsD_of l es
        subst ev
        refine .inr ⟨a, _, rfl, .inl (hK ▸ q), rfl, flat_ints zs, ?_⟩
        rw [in_ints]
        simpa using e.symm
    | tup ys =>
      obtain ⟨a, vs, rfl, q, l⟩ := bY.tup
      simp only [innD] at e
      cases es : intsD ys with
      | none => rw [es] at e; cases e
      | some zs =>
        rw [es] at e
        have ev := intsD_of l es
        subst ev
        refine .inr ⟨a, _, rfl, .inr (hK ▸ q), rfl, flat_ints zs, ?_⟩
        rw [in_ints]
        simpa using e.symm
    | _ => simp [innD] at e
  | _ => cases dy <;> simp [innD] at e
theorem op_cm (G : XG g X) (o : Cm) : OpR X (compareOp (cmOf o)) (rCm g (cmD o)) := by
  cases o with
  | eq => exact op_eqq G
  | ne => exact op_neq G
  | inn =>
    intro pins s σ H x y v u Q I rx ry h
    obtain ⟨al, dx, dy, b, bx, bY, e, q⟩ := h
    rcases inn_of G bx bY e with ⟨a, o, rfl, g1, rfl⟩ | ⟨p, xs, rfl, h1, h2, h3, rfl⟩
    · cases ry
      exact d_in (by have := G.room; omega) I g1 rx fun s' I' => ⟨.bl _, H, I', rfl, q⟩
    · exact op_in_seq pins s σ H x _ v u Q I rx ry ⟨p, xs, rfl, h1, h2, h3, q⟩
  | nin =>
    intro pins s σ H x y v u Q I rx ry h
    obtain ⟨al, dx, dy, b, bx, bY, e, q⟩ := h
    have e : (innD dx dy).map (!·) = some b := e
    cases ei : innD dx dy with
    | none => rw [ei] at e; cases e
    | some c =>
      rw [ei] at e
      cases e
      rcases inn_of G bx bY ei with ⟨a, o, rfl, g1, rfl⟩ | ⟨p, xs, rfl, h1, h2, h3, rfl⟩
      · cases ry
        exact d_notIn (by have := G.room; omega) I g1 rx fun s' I' => ⟨.bl _, H, I', rfl, q⟩
      · exact op_notIn_seq pins s σ H x _ v u Q I rx ry ⟨p, xs, rfl, h1, h2, h3, q⟩
  | lt =>
    intro pins s σ H x y v u Q I rx ry h
    obtain ⟨al, dx, dy, b, bx, bY, e, q⟩ := h
    cases dx <;> cases dy <;> simp only [cmD] at e <;> try (cases e; done)
    cases e
    exact op_lt pins s σ H x y v u Q I rx ry ⟨_, _, bx.int, bY.int, q⟩
  | le =>
    intro pins s σ H x y v u Q I rx ry h
    obtain ⟨al, dx, dy, b, bx, bY, e, q⟩ := h
    cases dx <;> cases dy <;> simp only [cmD] at e <;> try (cases e; done)
    cases e
    exact op_le pins s σ H x y v u Q I rx ry ⟨_, _, bx.int, bY.int, q⟩
  | gt =>
    intro pins s σ H x y v u Q I rx ry h
    obtain ⟨al, dx, dy, b, bx, bY, e, q⟩ := h
    cases dx <;> cases dy <;> simp only [cmD] at e <;> try (cases e; done)
    cases e
    exact op_gt pins s σ H x y v u Q I rx ry ⟨_, _, bx.int, bY.int, q⟩
  | ge =>
    intro pins s σ H x y v u Q I rx ry h
    obtain ⟨al, dx, dy, b, bx, bY, e, q⟩ := h
    cases dx <;> cases dy <;> simp only [cmD] at e <;> try (cases e; done)
    cases e
    exact op_ge pins s σ H x y v u Q I rx ry ⟨_, _, bx.int, bY.int, q⟩

/-! ### truth, length, kinds -/
def rTru (g : GC) : V → Hp → (Bool → Hp → Prop) → Prop := fun x H Q => ∃ al d k, Bt g al H x d ∧ truD d = some k ∧ Q k H
theorem tru_d (G : XG g X) : TruR X (rTru g) := by
  intro pins s σ H x v Q I rx h
  obtain ⟨al, d, k, bx, e, q⟩ := h
  have hK := G.hK
  cases d with
  | non => cases bx.non; cases e; exact tru_ok pins s σ H _ v Q I rx ⟨_, rfl, q⟩
  | bl _ => cases bx.bl; cases e; exact tru_ok pins s σ H _ v Q I rx ⟨_, rfl, q⟩
  | int _ => cases bx.int; cases e; exact tru_ok pins s σ H _ v Q I rx ⟨_, rfl, q⟩
  | str _ =>
    cases bx.str
    simp only [truD] at e
    split at e <;> cases e
    rename_i hz
    exact tru_ok pins s σ H _ v Q I rx ⟨_, ⟨hz, rfl⟩, q⟩
  | fn _ => cases e
  | obj _ => cases e
  | tup ds =>
    obtain ⟨a, vs, rfl, q1, l⟩ := bx.tup
    cases e
    refine tru_ok pins s σ H _ v Q I rx ⟨_, .inr (.inl ⟨vs, hK ▸ q1, rfl⟩), ?_⟩
    rw [show vs.isEmpty = ds.isEmpty by cases l <;> rfl]
    exact q
  | lst ds =>
    obtain ⟨a, vs, rfl, q1, l⟩ := bx.lst
    cases e
    refine tru_ok pins s σ H _ v Q I rx ⟨_, .inl ⟨vs, hK ▸ q1, rfl⟩, ?_⟩
    rw [show vs.isEmpty = ds.isEmpty by cases l <;> rfl]
    exact q
  | dic ds =>
    obtain ⟨a, vs, rfl, q1, l⟩ := bx.dic
    cases e
    cases rx
    refine d_truth I q1 fun s' I' => ⟨H, I', ?_⟩
    rw [show vs.isEmpty = ds.isEmpty by cases l <;> rfl]
    exact q
def r1D (g : GC) (f : D → Option D) : List V → Hp → VK → Prop := fun xs H Q => ∃ al x d dz, xs = [x] ∧ Bt g al H x d ∧ f d = some dz ∧ Res g al H dz Q
theorem call_lenQ (G : XG g X) : CallR X (.builtin "len") (r1D g (biD .len)) := by
  intro pins s σ H xs us Q I r h
  obtain ⟨al, x, d, dz, rfl, bx, e, q⟩ := h
  have hK := G.hK
  have hr := r
  obtain ⟨u, rfl, ru⟩ := vals1 r
  simp only [biD] at e
  cases d with
  | str y =>
    cases bx.str
    simp only [lenD] at e
    split at e <;> cases e
    rename_i hz
    exact call_len pins s σ H _ _ Q I hr ⟨_, _, rfl, ⟨hz, rfl⟩, q _ (.int _)⟩
  | tup ds =>
    obtain ⟨a, vs, rfl, q1, l⟩ := bx.tup
    cases e
    refine call_len pins s σ H _ _ Q I hr ⟨_, _, rfl, .inr ⟨vs, hK ▸ q1, rfl⟩, ?_⟩
    rw [l.length]
    exact q _ (.int _)
  | lst ds =>
    obtain ⟨a, vs, rfl, q1, l⟩ := bx.lst
    cases e
    refine call_len pins s σ H _ _ Q I hr ⟨_, _, rfl, .inl ⟨vs, hK ▸ q1, rfl⟩, ?_⟩
    rw [l.length]
    exact q _ (.int _)
  | dic ds =>
    obtain ⟨a, vs, rfl, q1, l⟩ := bx.dic
    cases e
    cases ru
    refine d_len I q1 fun t s' I' => ⟨.int vs.length, H, I', ⟨t, rfl⟩, ?_⟩
    rw [l.length]
    exact q _ (.int _)
  | _ => cases e
theorem call_intQ : CallR X (.type "int") (r1D g (biD .int)) := by
  intro pins s σ H xs us Q I r h
  obtain ⟨al, x, d, dz, rfl, bx, e, q⟩ := h
  cases d with
  | int i => cases bx.int; cases e; exact call_int1 pins s σ H _ _ Q I r (.inl ⟨_, rfl, q _ (.int _)⟩)
  | bl b => cases bx.bl; cases e; exact call_int1 pins s σ H _ _ Q I r (.inr ⟨_, rfl, q _ (.int _)⟩)
  | _ => cases e
theorem call_absQ : CallR X (.builtin "abs") (r1D g (biD .abs)) := by
  intro pins s σ H xs us Q I r h
  obtain ⟨al, x, d, dz, rfl, bx, e, q⟩ := h
  cases d with
  | int i => cases bx.int; cases e; exact call_abs pins s σ H _ _ Q I r ⟨_, rfl, q _ (.int _)⟩
  | _ => cases e
theorem call_listQ (G : XG g X) : CallR X (.type "list") (r1D g (biD .list)) := by
  intro pins s σ H xs us Q I r h
  obtain ⟨al, x, d, dz, rfl, bx, e, q⟩ := h
  have hK := G.hK
  cases d with
  | lst ds =>
    obtain ⟨a, vs, rfl, q1, l⟩ := bx.lst
    cases e
    exact call_list_of pins s σ H _ _ Q I r ⟨a, vs, rfl, .inl (hK ▸ q1), fun p n => q p vs n l⟩
  | tup ds =>
    obtain ⟨a, vs, rfl, q1, l⟩ := bx.tup
    cases e
    exact call_list_of pins s σ H _ _ Q I r ⟨a, vs, rfl, .inr (hK ▸ q1), fun p n => q p vs n l⟩
  | dic ds =>
    obtain ⟨a, vs, rfl, q1, l⟩ := bx.dic
    cases e
    exact call_listD G.calm pins s σ H _ _ Q I r ⟨a, vs, rfl, q1, fun p n => q p _ n (keysD_of l)⟩
  | _ => cases e
theorem call_dictQ : CallR X (.type "dict") (r1D g (biD .dict)) := by
  intro pins s σ H xs us Q I r h
  obtain ⟨al, x, d, dz, rfl, bx, e, q⟩ := h
  cases d with
  | dic ds =>
    obtain ⟨a, vs, rfl, q1, l⟩ := bx.dic
    cases e
    exact call_dictD pins s σ H _ _ Q I r ⟨a, vs, rfl, q1, fun p n => q p _ n l⟩
  | _ => cases e
theorem call_allQ (G : XG g X) : CallR X (.builtin "all") (r1D g (biD .all)) := by
  intro pins s σ H xs us Q I r h
  obtain ⟨al, x, d, dz, rfl, bx, e, q⟩ := h
  have hK := G.hK
  cases d with
  | lst ds =>
    obtain ⟨a, vs, rfl, q1, l⟩ := bx.lst
    simp only [biD] at e
    cases eb : blsD ds with
    | none => rw [eb] at e; cases e
    | some bs =>
      rw [eb] at e
      cases e
      cases blsD_of l eb
      exact cr_all G.calm pins s σ H _ _ Q I r ⟨a, bs, rfl, hK ▸ q1, q _ (.bl _)⟩
  | _ => cases e
theorem call_sumQ (G : XG g X) : CallR X (.builtin "sum") (r1D g (biD .sum)) := by
  intro pins s σ H xs us Q I r h
  obtain ⟨al, x, d, dz, rfl, bx, e, q⟩ := h
  have hK := G.hK
  cases d with
  | lst ds =>
    obtain ⟨a, vs, rfl, q1, l⟩ := bx.lst
    simp only [biD] at e
    cases eb : intsD ds with
    | none => rw [eb] at e; cases e
    | some bs =>
      rw [eb] at e
      cases e
      cases intsD_of l eb
      exact cr_sum G.calm pins s σ H _ _ Q I r ⟨a, bs, rfl, hK ▸ q1, q _ (.int _)⟩
  | _ => cases e
theorem max_fold : ∀ (r : List Int) (n m : Int), m ∈ n :: r → (∀ y, y ∈ n :: r → y ≤ m) → r.foldl (fun a b => if b > a then b else a) n = m
  | [], n, m, h, _ => by simp at h; exact h.symm
  | k :: r, n, m, h, hm => by
    rw [List.foldl_cons]
    refine max_fold r _ m ?_ fun y hy => ?_
    · rcases List.mem_cons.mp h with e | h
      · subst e
        have := hm k (by simp)
        by_cases hk : k > m
        · omega
        · rw [if_neg hk]; exact List.mem_cons_self
      · rcases List.mem_cons.mp h with e | h
        · subst e
          have := hm n (by simp)
          by_cases hk : m > n
          · rw [if_pos hk]; exact List.mem_cons_self
          · rw [if_neg hk]
            have : n = m := by omega
            rw [this]; exact List.mem_cons_self
        · exact List.mem_cons_of_mem _ h
    · rcases List.mem_cons.mp hy with e | hy
      · subst e
        split
        · exact hm k (by simp)
        · exact hm n (by simp)
      · exact hm y (by simp [hy])
theorem call_maxQ (G : XG g X) : CallR X (.builtin "max") (r1D g (biD .max)) := by
  intro pins s σ H xs us Q I r h
  obtain ⟨al, x, d, dz, rfl, bx, e, q⟩ := h
  have hK := G.hK
  cases d with
  | lst ds =>
    obtain ⟨a, vs, rfl, q1, l⟩ := bx.lst
    simp only [biD] at e
    cases eb : intsD ds with
    | none => rw [eb] at e; cases e
    | some bs =>
      rw [eb] at e
      cases bs with
      | nil => cases e
      | cons n rest =>
        cases e
        cases intsD_of l eb
        refine cr_max G.calm pins s σ H _ _ Q I r ⟨a, n :: rest, rfl, hK ▸ q1, by simp, fun m h1 h2 => ?_⟩
        rw [max_fold rest n m h1 h2] at q
        exact q _ (.int _)
  | _ => cases e
end
end Pi

/-! Pi6: operations by data: isinstance, repr, subscripts, slices. -/
namespace Pi
open PySem L2 PySem.Spec PyProof.Rows
section
variable {g : GC} {al al' al0 : Al} {H H' H0 Hs : Hp} {S S' : Sto} {r : Rho} {σ : L2.St} {W : WX} {X : Cx}
def tyN : Ty → String
  | .int => "int" | .bool => "bool" | .str => "str" | .list => "list" | .tuple => "tuple" | .dict => "dict"
/-- a datum's type by its name -/
def dN : D → Option String
  | .non => some "NoneType" | .bl _ => some "bool" | .int _ => some "int" | .str _ => some "str"
  | .tup _ => some "tuple" | .lst _ => some "list" | .dic _ => some "dict"
  | _ => none
def isi1 (n : String) (t : Ty) : Bool := (kitB n (tyN t)).getD false
theorem kitB_tab : ∀ n ∈ ["NoneType", "bool", "int", "str", "tuple", "list", "dict"], ∀ t ∈ [Ty.int, Ty.bool, Ty.str, Ty.list, Ty.tuple, Ty.dict], (kitB n (tyN t)).isSome = true := by decide +kernel
theorem mem_ty (t : Ty) : t ∈ [Ty.int, Ty.bool, Ty.str, Ty.list, Ty.tuple, Ty.dict] := by cases t <;> simp
theorem isi1_tab : ∀ t ∈ [Ty.int, Ty.bool, Ty.str, Ty.list, Ty.tuple, Ty.dict], isi1 "NoneType" t = false ∧ isi1 "bool" t = (t == .bool || t == .int) ∧ isi1 "int" t = (some Ty.int == some t) ∧ isi1 "str" t = (some Ty.str == some t) ∧
    isi1 "tuple" t = (some Ty.tuple == some t) ∧ isi1 "list" t = (some Ty.list == some t) ∧ isi1 "dict" t = (some Ty.dict == some t) := by decide +kernel
theorem kit_any {K : PySem.W.Frag} {n : String} (hn : n ∈ ["NoneType", "bool", "int", "str", "tuple", "list", "dict"]) : ∀ ts : List Ty, PySem.W.kitAny K (.type n) (ts.map fun t => .type (tyN t)) = some (ts.any (isi1 n))
  | [] => kitAny_nil
  | t :: r => by
    have h1 := kitB_tab n hn t (mem_ty t)
    obtain ⟨b, e⟩ := Option.isSome_iff_exists.mp h1
    have e2 : isi1 n t = b := by unfold isi1; rw [e]; rfl
    rw [List.map_cons, List.any_cons, e2]
    refine kitAny_cons (b := b) (kit_ty e) (fun hb => ?_) (fun hb => ?_)
    · rw [hb, Bool.false_or]; exact kit_any hn r
    · rw [hb, Bool.true_or]
theorem List.all_congr_any {α : Type} {p q : α → Bool} : ∀ {l : List α}, (∀ a ∈ l, p a = q a) → l.any p = l.any q
  | [], _ => rfl
  | a :: l, h => by rw [List.any_cons, List.any_cons, h a List.mem_cons_self, List.all_congr_any fun b hb => h b (List.mem_cons_of_mem _ hb)]
theorem isi_any {d : D} {n : String} (h : dN d = some n) (ts : List Ty) : n ∈ ["NoneType", "bool", "int", "str", "tuple", "list", "dict"] ∧ isiD d ts = some (ts.any (isi1 n)) := by
  have tab := fun t => isi1_tab t (mem_ty t)
  cases d <;> cases h <;> refine ⟨by simp, ?_⟩ <;> simp only [isiD, Option.some.injEq]
  · induction ts with
    | nil => rfl
    | cons t r ih => rw [List.any_cons, (tab t).1, Bool.false_or]; exact ih
  · exact List.all_congr_any fun t _ => (tab t).2.1.symm
  · exact List.all_congr_any fun t _ => (tab t).2.2.1.symm
  · exact List.all_congr_any fun t _ => (tab t).2.2.2.1.symm
  · exact List.all_congr_any fun t _ => (tab t).2.2.2.2.1.symm
  · exact List.all_congr_any fun t _ => (tab t).2.2.2.2.2.1.symm
  · exact List.all_congr_any fun t _ => (tab t).2.2.2.2.2.2.symm

theorem tyx_of (hK : g.K = X.K) {v : V} {d : D} {n : String} (b : Bt g al H v d) (h : dN d = some n) : TyX X.K H v (.type n) := by
  cases d with
  | non => cases b.non; cases h; exact .base .non
  | bl _ => cases b.bl; cases h; exact .base (.bl _)
  | int _ => cases b.int; cases h; exact .base (.int _)
  | str _ => cases b.str; cases h; exact .base (.str _)
  | fn _ => cases h
  | obj _ => cases h
  | tup ds =>
    cases h
    obtain ⟨a, vs, rfl, q, _⟩ := b.tup
    rcases q with (q | ⟨o, q⟩) | ⟨o, its, m, q, c, _⟩
    · exact .base (.tup q)
    · exact .fTuple q
    · exact .kTuple (hK ▸ q) c
  | lst ds =>
    cases h
    obtain ⟨a, vs, rfl, q, _⟩ := b.lst
    rcases q with (q | ⟨o, q⟩) | ⟨o, its, m, q, c, _⟩
    · exact .base (.lst q)
    · exact .base (.frz q)
    · exact .kList (hK ▸ q) c
  | dic ds =>
    cases h
    obtain ⟨a, vs, rfl, q, _⟩ := b.dic
    rcases q with q | ⟨o, q⟩
    · exact .base (.dK q)
    · exact .fDict q
theorem isiD_some {d : D} {ts : List Ty} {b : Bool} (h : isiD d ts = some b) : ∃ n, dN d = some n := by
  cases d <;> first | exact ⟨_, rfl⟩ | (cases h; done)
theorem isi_paired : ∀ ts : List Ty, Paired ClsV (ts.map fun t => V.ty (tyN t)) (ts.map fun t => Value.type (tyN t))
  | [] => .nil
  | t :: r => .cons (.ty _) (isi_paired r)
def rIs1 (g : GC) (t : Ty) : List V → Hp → VK → Prop := fun xs H Q => ∃ al x d b, xs = [x, .ty (tyN t)] ∧ Bt g al H x d ∧ isiD d [t] = some b ∧ Q (.bl b) H
def rIsN (g : GC) (ts : List Ty) : List V → Hp → VK → Prop := fun xs H Q => ∃ al x d b tp, xs = [x, .ref tp] ∧ H tp = some (.tup (ts.map fun t => V.ty (tyN t))) ∧ Bt g al H x d ∧ isiD d ts = some b ∧ Q (.bl b) H
theorem call_is1 (G : XG g X) (t : Ty) : CallR X (.builtin "isinstance") (rIs1 g t) := by
  intro pins s σ H xs us Q I r h
  obtain ⟨al, x, d, b, rfl, bx, e, q⟩ := h
  obtain ⟨n, hn⟩ := isiD_some e
  obtain ⟨hm, e2⟩ := isi_any hn [t]
  have h1 := kitB_tab n hm t (mem_ty t)
  obtain ⟨b', eb⟩ := Option.isSome_iff_exists.mp h1
  have e3 : isi1 n t = b' := by unfold isi1; rw [eb]; rfl
  rw [e2] at e
  have e4 : b' = b := by
    have : (isi1 n t || false) = b := by simpa using e
    rw [e3, Bool.or_false] at this
    exact this
  subst e4
  exact call_isi pins s σ H _ _ Q I r ⟨x, .ty (tyN t), .type n, .type (tyN t), b', rfl, .ty _, tyx_of G.hK bx hn, kit_ty eb, q⟩
theorem call_isN (G : XG g X) (ts : List Ty) : CallR X (.builtin "isinstance") (rIsN g ts) := by
  intro pins s σ H xs us Q I r h
  obtain ⟨al, x, d, b, tp, rfl, ht, bx, e, q⟩ := h
  obtain ⟨n, hn⟩ := isiD_some e
  obtain ⟨hm, e2⟩ := isi_any hn ts
  rw [e2] at e
  cases e
  exact call_isiT pins s σ H _ _ Q I r ⟨x, tp, _, .type n, _, _, rfl, ht, isi_paired ts, tyx_of G.hK bx hn, kit_any hm ts, q⟩

/-! ### repr -/
mutual
theorem py_deep : ∀ d : D, d.py.depth = d.deep
  | .non => by simp only [D.py, D.deep, PyData.depth]
  | .bl _ => by simp only [D.py, D.deep, PyData.depth]
  | .int _ => by simp only [D.py, D.deep, PyData.depth]
  | .str _ => by simp only [D.py, D.deep, PyData.depth]
  | .fn _ => by simp only [D.py, D.deep, PyData.depth]
  | .obj _ => by simp only [D.py, D.deep, PyData.depth]
  | .tup xs => by simp only [D.py, D.deep, PyData.depth, py_deepL xs]
  | .lst xs => by simp only [D.py, D.deep, PyData.depth, py_deepL xs]
  | .dic xs => by simp only [D.py, D.deep, PyData.depth, py_deepK xs]
theorem py_deepL : ∀ xs : List D, PyData.depthAll (pyL xs) = deepL xs
  | [] => by simp only [pyL, deepL, PyData.depthAll]
  | x :: r => by simp only [pyL, deepL, PyData.depthAll, py_deep x, py_deepL r]
theorem py_deepK : ∀ xs : List (Str × D), PyData.depthKv (pyK xs) = deepK xs
  | [] => by simp only [pyK, deepK, PyData.depthKv]
  | p :: r => by
    have e : (PyData.str p.1).depth = 0 := by simp only [PyData.depth]
    simp only [pyK, deepK, PyData.depthKv, py_deep p.2, py_deepK r, e]
    omega
end
section
variable {pins : List (Addr × Obj)} {s : Shared}
theorem pyK_keys : ∀ xs : List (Str × D), (pyK xs).map (·.1) = xs.map fun p => PyData.str p.1
  | [] => rfl
  | p :: r => by simp only [pyK, List.map_cons, pyK_keys r]
theorem pyK_vals : ∀ xs : List (Str × D), (pyK xs).map (·.2) = pyL (xs.map (·.2))
  | [] => rfl
  | p :: r => by simp only [pyK, List.map_cons, pyK_vals r, pyL]
theorem reads_keys {h : Heap} {P : Program} {w : World} : ∀ {es : List DictEntry} {vs : List (Key × Value)} {kvs : List (Key × V)} {rs : List (Str × D)}, Pairs (mixKind P w) es vs → KV kvs vs → DtK g al H kvs rs →
    ReadsAll h (es.map (·.key)) (rs.map fun p => PyData.str p.1) []
  | _, _, _, _, .nil, kv, l => by
    unfold KV at kv
    cases kv
    cases l
    exact .nil
  | _, _, _, _, .cons hk he t, kv, l => by
    unfold KV at kv
    cases kv with
    | cons h1 h2 =>
      cases l with
      | cons _ l =>
        have h1' := h1.1
        rw [← h1'] at hk
        obtain ⟨tk, e⟩ := Value.isStrOf_shape hk
        have q := reads_keys (h := h) t h2 l
        rw [List.map_cons, List.map_cons, e]
        exact .cons (as := []) (bs := []) (.str _ tk) q
theorem pairs_vals {P : Program} {w : World} : ∀ {es : List DictEntry} {vs : List (Key × Value)}, Pairs (mixKind P w) es vs → es.map (·.val) = vs.map (·.2)
  | _, _, .nil => rfl
  | _, _, .cons hk he t => by rw [List.map_cons, List.map_cons, he, pairs_vals t]
theorem kv_vals : ∀ {kvs : List (Key × V)} {vs : List (Key × Value)}, KV kvs vs → Vals (kvs.map (·.2)) (vs.map (·.2)) := by
  intro kvs vs r
  unfold KV at r
  induction r with
  | nil => exact .nil
  | cons h t ih => exact .cons h.2 ih
/-- where sys.modules stands there is a dict -/
def Smx (X : Cx) : Prop := ∃ o es ep, X.base.get? sysModules = some o ∧ o.data = .dict es ep
mutual
theorem reads (hK : g.K = X.K) (I : Inv X pins σ H s) (sm : Smx X) : ∀ (d : D) (v : V) (u : Value), Bt g al H v d → RelV v u → d.plain = true → ∃ as, Reads s.heap u d.py as ∧ sysModules ∉ as
  | .non, _, _, b, r, _ => by cases b.non; cases r; simp only [D.py]; exact ⟨_, .none, by simp⟩
  | .bl x, _, _, b, r, _ => by cases b.bl; cases r; simp only [D.py]; exact ⟨_, .bool x, by simp⟩
  | .int x, _, _, b, r, _ => by cases b.int; obtain ⟨t, rfl⟩ := r; simp only [D.py]; exact ⟨_, .int x t, by simp⟩
  | .str x, _, _, b, r, _ => by cases b.str; obtain ⟨t, rfl⟩ := r; simp only [D.py]; exact ⟨_, .str x t, by simp⟩
  | .fn _, _, _, _, _, p => by simp [D.plain] at p
  | .obj _, _, _, _, _, p => by simp [D.plain] at p
  | .tup xs, _, _, b, r, p => by
    obtain ⟨a, vs, rfl, q, l⟩ := b.tup
    cases r
    obtain ⟨its, rv, ⟨o, ho, hc, n, hd⟩⟩ := is_tuple hK I q
    obtain ⟨as, h1, h2⟩ := readsL hK I sm xs vs its l rv (by simpa only [D.plain] using p)
    simp only [D.py]
    exact ⟨_, .tuple ho hc hd h1, h2⟩
  | .lst xs, _, _, b, r, p => by
    obtain ⟨a, vs, rfl, q, l⟩ := b.lst
    cases r
    obtain ⟨its, n, sl, rv, ho, z⟩ := lst_obj hK I q
    obtain ⟨as, h1, h2⟩ := readsL hK I sm xs vs its l rv (by simpa only [D.plain] using p)
    simp only [D.py]
    refine ⟨_, .list ho rfl rfl h1, ?_⟩
    simp only [List.mem_cons, not_or]
    refine ⟨fun e => ?_, h2⟩
    obtain ⟨o, es, ep, eo, ed⟩ := sm
    have := I.bk _ _ eo
    rw [e, ho] at this
    cases this
    cases ed
  | .dic rs, _, _, b, r, p => by
    obtain ⟨a, kvs, rfl, q, l⟩ := b.dic
    cases r
    obtain ⟨y, vs, kv, ⟨o, es, ep, ho, hx, hd, _, hp, _⟩, _⟩ := rd_dict I q
    simp only [D.py]
    have hv := pairs_vals hp
    obtain ⟨bs, h1, h2⟩ := readsK hK I sm rs kvs _ l (kv_vals kv) (by simpa only [D.plain] using p)
    rw [← hv] at h1
    refine ⟨_, .dict ho hx.1 hd (by rw [pyK_keys]; exact reads_keys hp kv l) (by rw [pyK_vals]; exact h1), ?_⟩
    simp only [List.append_nil, List.mem_append, List.mem_cons, List.not_mem_nil, or_false, not_or]
    exact ⟨fun e => by simp [e] at y, h2⟩
theorem readsL (hK : g.K = X.K) (I : Inv X pins σ H s) (sm : Smx X) : ∀ (xs : List D) (vs : List V) (us : List Value), DtL g al H vs xs → Vals vs us → plainL xs = true → ∃ as, ReadsAll s.heap us (pyL xs) as ∧ sysModules ∉ as
  | [], _, _, l, r, _ => by cases l; cases r; simp only [pyL]; exact ⟨_, .nil, by simp⟩
  | x :: xs, _, _, l, r, p => by
    simp only [Pi.plainL, Bool.and_eq_true] at p
    cases l with
    | cons h t =>
      cases r with
      | cons r1 r2 =>
        obtain ⟨as, h1, h2⟩ := reads hK I sm x _ _ (.inl h) r1 p.1
        obtain ⟨bs, h3, h4⟩ := readsL hK I sm xs _ _ t r2 p.2
        simp only [pyL]
        exact ⟨_, .cons h1 h3, by simp [h2, h4]⟩
theorem readsK (hK : g.K = X.K) (I : Inv X pins σ H s) (sm : Smx X) : ∀ (xs : List (Str × D)) (vs : List (Key × V)) (us : List Value), DtK g al H vs xs → Vals (vs.map (·.2)) us → plainK xs = true → ∃ as, ReadsAll s.heap us (pyL (xs.map (·.2))) as ∧ sysModules ∉ as
  | [], _, _, l, r, _ => by cases l; cases r; simp only [List.map_nil, pyL]; exact ⟨_, .nil, by simp⟩
  | p :: xs, _, _, l, r, pp => by
    simp only [plainK, Bool.and_eq_true] at pp
    cases l with
    | cons h t =>
      cases r with
      | cons r1 r2 =>
        obtain ⟨as, h1, h2⟩ := reads hK I sm _ _ _ (.inl h) r1 pp.1
        obtain ⟨bs, h3, h4⟩ := readsK hK I sm xs _ _ t r2 pp.2
        simp only [List.map_cons, pyL]
        exact ⟨_, .cons h1 h3, by simp [h2, h4]⟩
end

theorem call_reprQ (G : XG g X) (hg : X.A.guards = some []) (sm : Smx X) : CallR X (.builtin "repr") (r1D g (biD .repr)) := by
  intro pins s σ H xs us Q I r h
  obtain ⟨al, x, d, dz, rfl, bx, e, q⟩ := h
  obtain ⟨u, rfl, ru⟩ := vals1 r
  simp only [biD] at e
  split at e
  · rename_i hc
    cases e
    obtain ⟨h1, h2, h3, h4⟩ := hc
    have room := G.room
    have q' := q _ (.str d.py.shown)
    obtain ⟨as, hr, hn⟩ := reads G.hK I sm d x u bx ru h1
    have fin : ∀ {y : Str} {tk : Tok} {n : Nat}, y = d.py.shown → EP X pins σ Q (.str y tk) { s with toks := n } := fun {y tk n} ey => ⟨.str d.py.shown, H, I.tok n, ⟨tk, by rw [ey]⟩, q'⟩
    cases d with
    | non => cases bx.non; cases ru; exact PySem.P.repr_of_none (fin (by simp only [D.py, PyData.shown]))
    | bl b => cases bx.bl; cases ru; exact PySem.P.repr_of_bool (fin (by simp only [D.py, PyData.shown]))
    | int i =>
      cases bx.int
      obtain ⟨t, rfl⟩ := ru
      refine PySem.P.repr_of_int ?_ (fin (by simp only [D.py, PyData.shown]))
      simpa only [D.py, PyData.showable, decide_eq_true_eq] using h2
    | str y =>
      cases bx.str
      obtain ⟨t, rfl⟩ := ru
      refine PySem.P.repr_of_str (fin (by simp only [D.py, PyData.shown])) ?_
      simpa only [D.py, PyData.shown] using h3
    | fn _ => simp [D.plain] at h1
    | obj _ => simp [D.plain] at h1
    | tup ds =>
      obtain ⟨a, vs, rfl, _, _⟩ := bx.tup
      cases ru
      exact repr_of_reads' hr h2 (fun _ => hn) hg (by rw [py_deep]; omega) (fun _ _ e => e) (fun h' u' tk hk => ⟨.str _, H, I.kept hk, ⟨u', rfl⟩, q'⟩) h3
    | lst ds =>
      obtain ⟨a, vs, rfl, _, _⟩ := bx.lst
      cases ru
      exact repr_of_reads' hr h2 (fun _ => hn) hg (by rw [py_deep]; omega) (fun _ _ e => e) (fun h' u' tk hk => ⟨.str _, H, I.kept hk, ⟨u', rfl⟩, q'⟩) h3
    | dic ds =>
      obtain ⟨a, vs, rfl, _, _⟩ := bx.dic
      cases ru
      exact repr_of_reads' hr h2 (fun _ => hn) hg (by rw [py_deep]; omega) (fun _ _ e => e) (fun h' u' tk hk => ⟨.str _, H, I.kept hk, ⟨u', rfl⟩, q'⟩) h3
  · cases e
end

/-! ### items, parts -/
theorem ixd_eq (n : Nat) (i : Int) : ixd n i = ixN n i := rfl
/-- a sequence's item -/
def rSub (g : GC) : R2 := fun x y H Q => ∃ al dx i dz, Bt g al H x dx ∧ y = .int i ∧ subD dx (.int i) = some dz ∧ ∀ v, Dt g al H v dz → Q v H
theorem atI_of {al : Al} {vs : List V} {ds : List D} {i : Int} {dz : D} (l : DtL g al H vs ds) (e : ((ixd ds.length i).bind fun j => ds[j]?) = some dz) : ∃ v, atI vs i = some v ∧ Dt g al H v dz := by
  rw [ixd_eq, ← l.length] at e
  cases ex : ixN vs.length i with
  | none => rw [ex] at e; cases e
  | some j =>
    rw [ex] at e
    obtain ⟨v, ev, dv⟩ := l.get (i := j) e
    exact ⟨v, by unfold atI; rw [ex]; exact ev, dv⟩
theorem ix_seqQ (G : XG g X) : IxR X (rSub g) := by
  intro value slice pins s σ H x y v u Q I rx ry h hs
  obtain ⟨al, dx, i, dz, bx, rfl, e, q⟩ := h
  have hK := G.hK
  cases dx with
  | lst ds =>
    obtain ⟨a, vs, rfl, q1, l⟩ := bx.lst
    obtain ⟨w, e1, dw⟩ := atI_of l (by simpa only [subD] using e)
    exact ix_list value slice pins s σ H _ _ v u Q I rx ry ⟨a, vs, i, w, rfl, rfl, hK ▸ q1, e1, q w dw⟩ hs
  | tup ds =>
    obtain ⟨a, vs, rfl, q1, l⟩ := bx.tup
    obtain ⟨w, e1, dw⟩ := atI_of l (by simpa only [subD] using e)
    exact ix_tup value slice pins s σ H _ _ v u Q I rx ry ⟨a, vs, i, w, rfl, rfl, hK ▸ q1, e1, q w dw⟩ hs
  | str z =>
    cases bx.str
    simp only [subD] at e
    split at e
    · rename_i hz
      cases ec : ((ixd z.cps.toList.length i).bind fun j => z.cps.toList[j]?) with
      | none => rw [ec] at e; cases e
      | some c =>
        rw [ec] at e
        cases e
        exact ix_str value slice pins s σ H _ _ v u Q I rx ry ⟨z, i, c, rfl, rfl, hz, ec, q _ (.str _)⟩ hs
    · cases e
  | _ => cases e
theorem cut_sIx (n d : Nat) : ∀ (x : D) (j : Nat), cut n d x = some j → ∃ o, (x = .non ∧ o = none ∨ ∃ i, x = .int i ∧ o = some i) ∧ HT.sIx n d o = j
  | .non, j, h => by cases h; exact ⟨none, .inl ⟨rfl, rfl⟩, rfl⟩
  | .int i, j, h => by cases h; exact ⟨some i, .inr ⟨i, rfl, rfl⟩, rfl⟩
  | .bl _, _, h => by cases h
  | .str _, _, h => by cases h
  | .fn _, _, h => by cases h
  | .obj _, _, h => by cases h
  | .tup _, _, h => by cases h
  | .lst _, _, h => by cases h
  | .dic _, _, h => by cases h
def optD : Option Int → D
  | none => .non
  | some i => .int i
def rSl (g : GC) : V → Option Int → Option Int → Hp → VK → Prop := fun x lo hi H Q => ∃ al dx dz, Bt g al H x dx ∧ sliceD dx (optD lo) (optD hi) = some dz ∧ Res g al H dz Q
theorem sl_Q (G : XG g X) : SlR X (rSl g) := by
  intro pins s σ H x v vl vu lo hi sl Q I rx hs pl pu h
  obtain ⟨al, dx, dz, bx, e, q⟩ := h
  have hK := G.hK
  cases dx with
  | lst ds =>
    obtain ⟨a, vs, rfl, q1, l⟩ := bx.lst
    simp only [sliceD] at e
    have c1 : ∀ n d (o : Option Int), cut n d (optD o) = some (HT.sIx n d o) := fun n d o => by cases o <;> rfl
    rw [c1, c1] at e
    cases e
    refine sl_list pins s σ H _ v vl vu lo hi sl Q I rx hs pl pu ⟨a, vs, rfl, hK ▸ q1, fun p n => q p _ n ?_⟩
    unfold cutV
    rw [l.length]
    exact (l.drop _).take _
  | str z =>
    cases bx.str
    simp only [sliceD] at e
    split at e
    · rename_i hz
      refine C8.sl_txt pins s σ H _ v vl vu lo hi sl Q I rx hs pl pu ⟨z, rfl, hz, ?_⟩
      cases lo <;> cases hi <;> (cases e; exact q _ (.str _))
    · cases e
  | _ => cases e
end
end Pi

/-! PiM: {**a, **b}. -/
namespace Pi
open PySem L2 PySem.Spec PyProof.Rows
section
variable {prog : Program} {w : World} {K : Type} [DecidableEq K] {knd : KeyKind prog w K} {A : Around} {E : Value → Shared → Prop} {s : Shared}
theorem dictPut_pairs {d : Addr} {kvs : List (K × Value)} {k : K} {key v : Value} {Q : Unit → Shared → Prop} (hkey : knd.is k key = true) (hm : s.heap.DictOf knd d kvs)
    (hQ : ∀ h', h'.DictOf knd d (stored kvs k v) → Heap.SameBut d s.heap h' → Q () { s with heap := h' })
    (hsz : kvs.length ≤ sizeLine) :
    wpAny (model prog w) A (dictPut d (knd.hash k) key v) Q E s := by
  obtain ⟨o, es, ep, ho, hc, hd, hk, hp, hn⟩ := hm
  have hes : es.size ≤ sizeLine := by have e1 := hp.length; have e2 : es.toList.length = es.size := by simp
                                      omega
  unfold dictPut
  refine wpAny_bind (wpAny_dictFind_of hkey ho hd hk ?_)
  have hidx : (es.findIdx? fun e => knd.is k e.key) = kvs.findIdx? fun kv => decide (kv.1 = k) := by
    rw [← hp.findIdx k]; obtain ⟨l⟩ := es; simp
  cases hi : es.findIdx? fun e => knd.is k e.key with
  | some i =>
    refine wpAny_updateDict ho hd (hQ _ ⟨_, _, ep, Heap.get?_update_self _ ho (Obj.isFreed_of_dict (Obj.data_mapDict hd _)),
      hc.mapDict _, Obj.data_mapDict hd _, hk.modify _ _, ?_, ?_⟩ (Heap.SameBut.update ..))
    · rw [stored, if_pos (any_of_findIdx_some (hidx ▸ hi))]
      have hl : (es.toList.findIdx? fun e => knd.is k e.key) = some i := by rw [← hi]; obtain ⟨l⟩ := es; simp
      have := hp.modify hn hl v
      obtain ⟨l⟩ := es
      simpa using this
    · rw [stored, if_pos (any_of_findIdx_some (hidx ▸ hi)), keys_map_store]; exact hn
  | none =>
    have hnot : k ∉ kvs.map (·.1) := not_mem_of_findIdx_none (hidx ▸ hi)
    have hany : ¬ (kvs.any fun kv => decide (kv.1 = k)) = true := by
      rw [List.any_eq_true]; rintro ⟨kv, hkv, he⟩
      exact hnot (List.mem_map.mpr ⟨kv, hkv, of_decide_eq_true he⟩)
    refine wpAny_updateDictKeys (hz := hes) ho hd (hQ _ ⟨_, _, ep + 1, Heap.get?_update_self _ ho (Obj.isFreed_of_dict (Obj.data_mapDictKeys hd _)),
      hc.mapDictKeys _, Obj.data_mapDictKeys hd _, hk.push hkey _, ?_, ?_⟩ (Heap.SameBut.update ..))
    · rw [stored, if_neg hany]
      have := hp.append hkey (knd.hash k) v
      obtain ⟨l⟩ := es
      simpa using this
    · rw [stored, if_neg hany, List.map_append, List.nodup_append]
      refine ⟨hn, by simp, ?_⟩
      intro a ha b hb
      simp only [List.map_cons, List.map_nil, List.mem_singleton] at hb
      subst hb
      exact fun e => hnot (e ▸ ha)
theorem mergeMapping_dict {d o : Addr} {kvs more : List (K × Value)} {Q : Unit → Shared → Prop} (hnr : ∀ k v, knd.is k v = true → ∀ a, v ≠ .ref a) (hdo : d ≠ o) (hoS : (o == sysModules) = false)
    (hd : s.heap.DictOf knd d kvs) (ho : s.heap.DictOf knd o more)
    (hQ : ∀ h', h'.DictOf knd d (merged kvs more) → h'.DictOf knd o more → Heap.SameBut d s.heap h' → Q () { s with heap := h' })
    (hsz : kvs.length + more.length ≤ sizeLine) :
    wpAny (model prog w) A (mergeMapping d (.ref o) false) Q E s := by
  obtain ⟨od, esd, epd, hod, hcd, hdd, hkd, hpd, hnd⟩ := id hd
  obtain ⟨oo, eso, epo, hoo, hco, hdo', hko, hpo, hno⟩ := id ho
  have hlen : more.length = eso.size := by rw [← hpo.length]; simp
  have fin : wpAny (model prog w) A (do
      let l ← dictEntries o
      let epoch ← dictEpoch o
      forIn (List.range l.size) PUnit.unit fun i (_ : PUnit) => (do
          let l' ← dictEntries o
          match l'[i]? with
            | some e => do
              holding [e.key, e.val] (dictPut d e.hash e.key e.val)
              let ep' ← dictEpoch o
              if (ep' != epoch) = true then do
                  (unsupported "dict.changed-during-merge" : Sem PUnit)
                  pure (ForInStep.yield PUnit.unit)
                else pure (ForInStep.yield PUnit.unit)
            | _ => do
              (unsupported "dict.changed-during-merge" : Sem PUnit)
              pure (ForInStep.yield PUnit.unit) : Sem (ForInStep PUnit))
      pure ()) Q E s := by
    refine wpAny_bind (wpAny_dictEntries hoo hdo' ?_)
    refine wpAny_bind (wpAny_dictEpoch hoo hdo' ?_)
    refine wpAny_bind ?_
    rw [List.range_eq_range']
    refine wpAny_forIn_list _
      (fun rest _ s' => ∃ h' i, s' = { s with heap := h' } ∧ rest = List.range' i (eso.size - i) ∧ i ≤ eso.size ∧ h'.DictOf knd d (merged kvs (more.take i)) ∧ h'.get? o = some oo ∧ Heap.SameBut d s.heap h')
      _ ?_ ?_ _ _ ⟨s.heap, 0, rfl, by simp, Nat.zero_le _, by simpa [merged] using hd, hoo, Heap.SameBut.refl _ _⟩
    · rintro x rest b s' ⟨h', i, rfl, hr, hi, hd', hoo', hs'⟩
      have hlt : i < eso.size := by
        rcases Nat.lt_or_ge i eso.size with h | h
        · exact h
        · rw [Nat.sub_eq_zero_of_le h] at hr; simp at hr
      obtain ⟨rfl, hrest⟩ : x = i ∧ rest = List.range' (i + 1) (eso.size - (i + 1)) := by
        have e : eso.size - i = (eso.size - (i + 1)) + 1 := by omega
        rw [e, List.range'_succ] at hr
        injection hr with h1 h2
        exact ⟨h1, h2⟩
      refine wpAny_bind (wpAny_dictEntries hoo' hdo' ?_)
      rw [Array.getElem?_eq_getElem hlt]
      obtain ⟨kv, hkv⟩ : ∃ kv, more[x]? = some kv := ⟨more[x]'(by rw [hlen]; exact hlt), List.getElem?_eq_getElem _⟩
      obtain ⟨k, v⟩ := kv
      obtain ⟨hkey, hval⟩ := hpo.get? (e := eso[x]) (by simp [hlt]) hkv
      obtain ⟨k', hkey', hhash⟩ := hko eso[x] (Array.getElem_mem hlt)
      obtain rfl : k' = k := knd.inj _ _ _ hkey' hkey
      show wpAny _ _ (holding [eso[x].key, eso[x].val] (dictPut d eso[x].hash eso[x].key eso[x].val) >>= _) _ _ _
      rw [hhash, hval]
      have hmx : (merged kvs (more.take x)).length ≤ sizeLine := by
        have e1 := merged_length_le kvs (more.take x)
        have e2 : (more.take x).length ≤ more.length := by rw [List.length_take]; omega
        omega
      refine wpAny_bind (wpAny_holding (dictPut_pairs (hsz := hmx) hkey hd' fun h'' hd'' hs'' => ?_))
      have hoo'' : h''.get? o = some oo := (hs''.2 o (Ne.symm hdo)).trans hoo'
      refine wpAny_bind (wpAny_dictEpoch hoo'' hdo' ?_)
      rw [if_neg (by simp)]
      exact wpAny_pure ⟨h'', x + 1, rfl, hrest, hlt, by rw [merged_take_succ kvs more x (k', v) hkv]; exact hd'', hoo'', hs'.trans hs''⟩
    · rintro b s' ⟨h', i, rfl, hr, hi, hd', hoo', hs'⟩
      have hin : i = eso.size := by
        rcases Nat.lt_or_ge i eso.size with h | h
        · have e : eso.size - i = (eso.size - (i + 1)) + 1 := by omega
          rw [e, List.range'_succ] at hr; exact nomatch hr
        · exact Nat.le_antisymm hi h
      refine wpAny_pure (hQ h' ?_ ⟨oo, eso, epo, hoo', hco, hdo', hko, hpo, hno⟩ hs')
      rw [hin, ← hlen, List.take_length] at hd'; exact hd'
  unfold mergeMapping
  refine wpAny_bind (wpAny_isInstance ho.typeIs isSubtype_dict_dict ?_)
  rw [if_pos rfl]
  refine wpAny_bind (wpAny_specialOf ho.typeIs F.slot_dict_iter.lookup (wpAny_bind (wpAny_pure ?_)))
  rw [beq_self_eq_true]
  show wpAny _ _ (if (o == sysModules) = true then _ else _) _ _ _
  rw [if_neg (by rw [hoS]; exact Bool.false_ne_true)]
  refine wpAny_bind (wpAny_dictEntries hod hdd ?_)
  dsimp only
  simp only [Bool.false_eq_true, if_false]
  by_cases hemp : esd.isEmpty = true
  · rw [if_pos hemp]
    refine wpAny_bind (wpAny_dictEntries hoo hdo' ?_)
    refine wpAny_bind ?_
    have hloop : (forIn eso PUnit.unit fun e (_ : PUnit) => (match e.key with
        | Value.ref a => do
          let __do_lift ← specialOf e.key "__eq__"
          if (__do_lift != some (Value.builtin "object.__eq__")) = true then
              if (Array.filter (fun x => x.hash == e.hash) eso).size > 1 then do
                (unsupported "dict.merge-into-an-empty-dict:keys-of-equal-hash" : Sem PUnit)
                pure (ForInStep.yield PUnit.unit)
              else pure (ForInStep.yield PUnit.unit)
            else pure (ForInStep.yield PUnit.unit)
        | x => pure (ForInStep.yield PUnit.unit) : Sem (ForInStep PUnit))) = pure PUnit.unit := by
      rw [← Array.forIn_toList]
      refine forIn_yield_id _ fun e he c => ?_
      obtain ⟨k, hkey, _⟩ := hko e (Array.mem_toList_iff.mp he)
      have := hnr k _ hkey
      split
      · rename_i a ea
        exact absurd ea (this a)
      · rfl
    exact wpAny_of_eq hloop fin
  · rw [if_neg hemp]
    exact fin
end
theorem wp_disp2 {M : Model} {A : Around} {E : Value → Shared → Prop} {s : Shared} {v1 v2 : Sem Value} {Q : Value → Shared → Prop}
    (h : wpAny M A v1 (fun u1 s1 => wpAny M A (mergeMapping s.heap.objs.size u1 false) (fun _ s2 => wpAny M A v2 (fun u2 s3 => wpAny M A (mergeMapping s.heap.objs.size u2 false) (fun _ s4 => Q (.ref s.heap.objs.size) s4) (fun _ _ => False) s3) E s2) (fun _ _ => False) s1) E { s with heap := s.heap.push { cls := .type "dict", data := .dict #[] } }) :
    wpAny M A (dictDisplay [(none, v1), (none, v2)]) Q E s := by
  unfold dictDisplay
  refine wpAny_bind ?_
  rw [List.forIn_cons]
  refine wpAny_bind ?_
  refine wpAny_bind (wpAny_pure ?_)
  dsimp only
  refine wpAny_bind (wpAny_alloc ?_)
  refine wpAny_bind (wpAny_holding (wpAny_mono h (fun u1 s1 h1 => ?_) (fun _ _ z => z)))
  refine wpAny_bind (wpAny_onRaise (wpAny_tryCatch (wpAny_onRaise (wpAny_holding (wpAny_mono h1 (fun _ s2 h2 => ?_) (fun _ _ z => z.elim))))))
  refine wpAny_pure ?_
  dsimp only
  rw [List.forIn_cons]
  refine wpAny_bind ?_
  refine wpAny_bind (wpAny_pure ?_)
  dsimp only
  refine wpAny_bind (wpAny_pure ?_)
  refine wpAny_bind (wpAny_holding (wpAny_mono h2 (fun u2 s3 h3 => ?_) (fun _ _ z => z)))
  refine wpAny_bind (wpAny_onRaise (wpAny_tryCatch (wpAny_onRaise (wpAny_holding (wpAny_mono h3 (fun _ s4 h4 => ?_) (fun _ _ z => z.elim))))))
  refine wpAny_pure ?_
  dsimp only
  rw [List.forIn_nil]
  refine wpAny_pure ?_
  refine wpAny_bind (wpAny_pure ?_)
  exact wpAny_pure h4
/-- {**a, **b} -/
theorem wp_Dict2 {M : Model} {A : Around} {E : Value → Shared → Prop} {s : Shared} {e1 e2 : Expr} {env : Env} {pos : Pos} {Q : Value → Shared → Prop}
    (h : wpAny M A (eval e1 env) (fun u1 s1 => wpAny M A (mergeMapping s.heap.objs.size u1 false) (fun _ s2 => wpAny M A (eval e2 env) (fun u2 s3 => wpAny M A (mergeMapping s.heap.objs.size u2 false) (fun _ s4 => Q (.ref s.heap.objs.size) s4) (fun _ _ => False) s3) E s2) (fun _ _ => False) s1) E { s with heap := s.heap.push { cls := .type "dict", data := .dict #[] } }) :
    wpAny M A (eval (.Dict [none, none] [e1, e2] pos) env) Q E s := by
  have e : eval (.Dict [none, none] [e1, e2] pos) env = (do
      standAt pos
      dictDisplay [(none, do let x ← eval e1 env; standAt pos; pure x), (none, do let x ← eval e2 env; standAt pos; pure x)]) := rfl
  rw [e]
  refine wpAny_bind (wpAny_standAt ?_)
  refine wp_disp2 (wpAny_bind (wpAny_mono h (fun u1 s1 h1 => ?_) (fun _ _ z => z)))
  refine wpAny_bind (wpAny_standAt (wpAny_pure ?_))
  refine wpAny_mono h1 (fun _ s2 h2 => ?_) (fun _ _ z => z)
  refine wpAny_bind (wpAny_mono h2 (fun u2 s3 h3 => ?_) (fun _ _ z => z))
  exact wpAny_bind (wpAny_standAt (wpAny_pure h3))

theorem key_noref (k : Key) (v : Value) (h : keyIs k v = true) : ∀ a, v ≠ .ref a := by
  rintro a rfl
  rcases keyIs_shape h with ⟨i, t, _, e⟩ | ⟨x, t, _, e⟩ <;> cases e
/-- what stands at a goes into p's dict -/
theorem merge_at {X : Cx} {pins : List (Addr × Obj)} {s : Shared} {σ : L2.St} {H : Hp} {p a : Addr} {kvs more : List (Key × V)} {A : Around} {E : Value → Shared → Prop} {Q : Unit → Shared → Prop} (I : Inv X pins σ H s) (e : H p = some (.dK kvs)) (ra : Rd H a (.dK more)) (hpa : p ≠ a) (hz : kvs.length + more.length ≤ sizeLine)
    (h : ∀ s', Inv X pins σ (upd H p (.dK (mergeK kvs more))) s' → Q () s') : wpAny (model X.prog X.w) A (mergeMapping p (.ref a) false) Q E s := by
  obtain ⟨z1, hd1, vs1, r1, dd1⟩ := dk_of I.hok e
  obtain ⟨z2, hd2, vs2, r2, dd2⟩ := dk_rd I.hok ra
  have l1 : vs1.length = kvs.length := r1.length.symm
  have l2 : vs2.length = more.length := r2.length.symm
  refine mergeMapping_dict (knd := mixKind X.prog X.w) (fun k v q => key_noref k v q) hpa hd2 dd1 dd2 (fun h' dd' _ hs => h _ ?_) (by rw [l1, l2]; exact hz)
  have he : ∃ q, h'.get? p = some q := let ⟨q, _, _, hq, _⟩ := dd'; ⟨q, hq⟩
  have hzm : (mergeK kvs more).length ≤ sizeLine := Nat.le_trans (length_mergeK more kvs) hz
  exact d_write I (by rw [e]; exact True.intro) hs he (dk_new hzm hd1 (KV.merge r2 r1) dd')
section
variable {X : Cx} {t1 t2 : TE} {e1 e2 : Expr} {pos : Pos}
/-- {**a, **b} -/
theorem pe_mrg (h1 : PE X e1 t1) (h2 : PE X e2 t2) : PE X (.Dict [none, none] [e1, e2] pos) (fun σ H Q => ∀ p, H p = none → t1 σ (upd H p (.dK [])) fun x H1 => ∃ a k1, x = .ref a ∧ H1 p = some (.dK []) ∧ Rd H1 a (.dK k1) ∧ p ≠ a ∧
    t2 σ (upd H1 p (.dK (mergeK [] k1))) fun y H2 => ∃ b k2, y = .ref b ∧ H2 p = some (.dK (mergeK [] k1)) ∧ Rd H2 b (.dK k2) ∧ p ≠ b ∧ (mergeK [] k1).length + k2.length ≤ sizeLine ∧ Q (.ref p) (upd H2 p (.dK (mergeK (mergeK [] k1) k2)))) := by
  refine ⟨fun pins s σ H Q I q => ?_⟩
  have hn := I.hok.fresh (Nat.le_refl s.heap.objs.size)
  have I1 := I.laid (a := s.heap.objs.size) (o := .dK []) (h' := s.heap.push { cls := .type "dict", data := .dict #[] }) (t' := s.toks) (fun _ _ q => Heap.get?_push_of_some _ q) (Nat.le_refl _) (dk_empty s.heap I.big)
  refine wp_Dict2 (wpAny_mono (h1.run pins _ σ _ _ I1 (q _ hn)) (fun u1 s1 hq => ?_) (fun _ _ z => z))
  obtain ⟨x, H1, I2, rx, a, k1, rfl, ep, ra, hpa, q2⟩ := hq
  cases rx
  refine merge_at I2 ep ra hpa (by have := (dk_rd I2.hok ra).1; rw [List.length_nil]; omega) fun s2 I3 => ?_
  refine wpAny_mono (h2.run pins _ σ _ _ I3 q2) (fun u2 s3 hq => ?_) (fun _ _ z => z)
  obtain ⟨y, H2, I4, ry, b, k2, rfl, ep2, rb, hpb, hz, q3⟩ := hq
  cases ry
  exact merge_at I4 ep2 rb hpb hz fun s4 I5 => ⟨.ref s.heap.objs.size, _, I5, rfl, q3⟩
end
section
variable {X : Cx} {te : TE} {e : Expr} {p apos cpos pos : Pos}
/-- list(e.values()) -/
theorem pe_listVals (hc : X.calm = true) (he : PE X e te) (hg : Gl X "list") (hm : X.mg "list" = none) (hv : bootBuiltins "list" = some (.type "list")) (hbase : attributeBase e "values" X.env (eval e X.env) = eval e X.env) (hline : (apos.endLine == cpos.line) = true)
    (hs : starEach [.Call (.Attribute e "values" apos) [] [] cpos] X.env = (false, eval (.Call (.Attribute e "values" apos) [] [] cpos) X.env) :: starEach [] X.env := by rfl) :
    PE X (.Call (.Name "list" p) [.Call (.Attribute e "values" apos) [] [] cpos] [] pos) (fun σ H Q => te σ H fun x H1 => ∃ a kvs, x = .ref a ∧ Rd H1 a (.dK kvs) ∧ ∀ q, H1 q = none → Q (.ref q) (upd H1 q (.lst (kvs.map (·.2))))) := by
  refine ⟨fun pins s σ H Q I hq => ?_⟩
  refine wpAny_Call_Name_kw (ld_blt I hg hm hv ?_)
  refine PyProof.Rows.callWith_type1 ?_ hs rfl
  rw [hs]
  show wpAny _ _ (spliced ((false, eval (.Call (.Attribute e "values" apos) [] [] cpos) X.env) :: backTo pos (starEach [] X.env))) _ _ s
  refine Calls.spliced_cons ?_
  refine wpAny_Call_method (T := "dict") (id := "dict.values") hbase rfl hline F.plainAttrs_dict F.slot_dict_values F.type_dict_values (thn (he.run pins s σ H _ I hq) fun u s1 ⟨x, H1, I1, rx, d, kvs, ex, hd, q⟩ => ?_)
  subst ex
  obtain rfl : u = Value.ref d := rx
  obtain ⟨hz, hs0, vs, kv, hdo⟩ := dk_rd I1.hok hd
  obtain ⟨ep, hat⟩ := hdo.dictAt
  have lk : kvs.length = vs.length := Paired.length kv
  have I2 : Inv X pins σ H1 { s1 with heap := s1.heap.push { cls := .type "dict_values", data := .fields #[.ref d] } } := I1.kept (t' := s1.toks) fun b ob q => Heap.get?_push_of_some _ q
  refine ⟨hdo.typeIs, hdo.mapOf.noDict, ?_⟩
  show wpAny _ _ (callWith cpos (.builtin "dict.values") [.ref d] [] []) _ X.xe s1
  refine method_meetsIn F.slot_dict_values F.entry_dict_values rfl (PySem.evalArgs_none ⟨rfl, hdo.typeIs, F.args_dict_values_1 _, _, meets_dict_values (mixKind X.prog X.w) d hs0, ⟨vs, hdo⟩, ?_⟩)
  refine Calls.spliced_nil ?_
  refine PySem.W.kdl_call (PySem.W.kdl_values (knd := mixKind X.prog X.w) (kvs := vs) (ep := ep)) (I1.ok.hd hc) ⟨⟨_, Heap.get?_push_size _ rfl, rfl, rfl⟩, hat.push _⟩ (by omega) fun h' tk acc c hk hS hacc => ?_
  have ea : acc.toList = vs.map (·.2) := PySem.W.kdl_vals_eq acc.toList (by rw [Array.length_toList]; exact hacc.1) fun j v e => hacc.2 j v (by rw [← Array.getElem?_toList]; exact e)
  have ev : Vals (kvs.map (·.2)) acc.toList := by
    rw [ea]
    clear ea hacc hS hk hat lk I2 hdo hz q hd
    induction kv with
    | nil => exact .nil
    | cons h t ih => exact .cons h.2 ih
  have J := I2.laid (a := (s1.heap.push { cls := .type "dict_values", data := .fields #[.ref d] }).objs.size) (o := .lst (kvs.map (·.2))) (h' := h') (t' := tk) hk (Nat.le_refl _) ⟨by rw [List.length_map]; exact hz, acc.toList, c, ev, by rw [Array.toArray_toList]; exact hS⟩
  exact ⟨.ref _, _, J, rfl, q _ (I2.hok.fresh (Nat.le_refl _))⟩
end
end Pi

/-! PiG: promises of defs where no guard stands around (so that repr is known to begin). -/
namespace Pi
open PySem L2 PySem.Spec PyProof.Rows
/-- a def's promise, where no guard stands -/
structure FnG (P : Program) (w : World) (K : PySem.W.Frag) (mg : Str → Option Value) (base : Heap) (CX : CXT) (k : Nat) (f : Addr) (fd : FuncData) (ps : List Str) (sp : Sp) : Prop where
  len : ∀ vs H Q E, sp vs H Q E → vs.length = ps.length
  run : ∀ (A : Around) (outer : List Env) (s : Shared) (H : Hp) (args : Args) (us : List Value) (vs : List V) (Q : VK) (E : XK), Room k A → A.guards = some [] → Env0 P w K mg base A outer s H →
    BindsTo s fd args (ps.zip us) → Vals vs us → sp vs H Q E → codeAny (model P w) A (.call (.ref f) args) (CR CX outer P w H s Q E) s
section
variable {P : Program} {w : World} {K : PySem.W.Frag} {mg : Str → Option Value} {base : Heap}
variable {X : Cx} {CX : CXT} {k : Nat} {f C : Addr} {fd : FuncData} {ps : List Str} {sp : Sp} {E : L2.St → XK} {x : Str} {p pos : Pos} {e : Expr} {es : List Expr} {t : TA}
theorem run_fnG {pins : List (Addr × Obj)} {σ : L2.St} {H : Hp} {s : Shared} {Q : VK} {us : List Value} {vs : List V} (F : FnG X.prog X.w X.K X.mg X.base CX k f fd ps sp) (gd : X.A.guards = some []) (hr : Room k X.A) (hb : Binds X.K fd ps [])
    (hx : PassesAt CX X σ (E σ)) (I : Inv X pins σ H s) (r : Vals vs us) (h : sp vs H Q (E σ)) : wpAny (model X.prog X.w) X.A (call (.ref f) us) (EP X pins σ Q) X.xe s := by
  have hlen : us.length = ps.length := r.length ▸ F.len vs H Q (E σ) h
  have bnd := hb s us I.kIn (by simpa using hlen)
  simp only [List.append_nil] at bnd
  have run := F.run X.A X.stack s H ⟨us, []⟩ us vs Q (E σ) hr gd I.env0 bnd r h
  refine wpAny_call (codeAny_mono run fun out s' post => ?_)
  match out, post with
  | .error err, post => exact hx pins H s err s' I post
  | .ok (.ret u), post => exact I.after post
  | .ok .next, post => exact post.elim
  | .ok .brk, post => exact post.elim
  | .ok .cont, post => exact post.elim
theorem pe_callG (F : FnG X.prog X.w X.K X.mg X.base CX k f fd ps sp) (gd : X.A.guards = some []) (hr : Room k X.A) (hg : Gl X x) (hm : X.mg x = some (.ref f)) (hk : PySem.W.keepIn X.K (.ref f) = true) (hb : Binds X.K fd ps [])
    (hx : ∀ σ, PassesAt CX X σ (E σ)) (ha : PA X (e :: es) t) (hdb : (x == ("__debug__" : Str)) = false) (he : starEach (e :: es) X.env = (false, eval e X.env) :: starEach es X.env)
    (hpl : (backTo pos (starEach es X.env)).any (·.1) = false) : PE X (.Call (.Name x p) (e :: es) [] pos) (tCallS sp E t) := by
  constructor
  intro pins s σ H Q I h
  have args := ha.run pos pins s σ H _ I h
  refine wpAny_Call_Name_kw (ld_glob I hg hm (PySem.W.callWith_K (h₀ := X.base) I.ok.mod.kin hk (thn args ?_) he hpl) hdb)
  rintro us s1 ⟨vs, H1, I1, r, q⟩
  exact ⟨I1.kIn, run_fnG F gd hr hb (hx σ) I1 r q⟩
/-- a new instance -/
theorem run_makeG {E0 : XK} {pins : List (Addr × Obj)} {σ : L2.St} {H : Hp} {s : Shared} {Q : VK} {us : List Value} {vs : List V} (M : Mk X.K C f) (F : FnG X.prog X.w X.K X.mg X.base CX k f fd ps sp) (gd : X.A.guards = some []) (hr : Room (k + 1) X.A)
    (hb : Binds X.K fd ps []) (hx : Passes CX X E0) (I : Inv X pins σ H s) (r : Vals vs us)
    (h : ∀ x dx, H x = none → H dx = none → dx ≠ x → sp (.ref x :: vs) (upd (upd H dx (.own x)) x (.ins C dx [])) (fun v H2 => v = .non ∧ Q (.ref x) H2) E0) :
    wpAny (model X.prog X.w) X.A (call (.ref C) us) (EP X pins σ Q) X.xe s := by
  generalize hz : s.heap.objs.size = z at h
  have hq := h (z + 1) z (hz ▸ I.hok.fresh (Nat.le_succ _)) (hz ▸ I.hok.fresh (Nat.le_refl _)) (Nat.ne_of_lt (Nat.lt_succ_self _))
  have J := Inv.made (C := C) I
  rw [hz] at J
  have rv : Vals (V.ref (z + 1) :: vs) (Value.ref (z + 1) :: us) := .cons rfl r
  have hlen : (Value.ref (z + 1) :: us).length = ps.length := by rw [← rv.length]; exact F.len _ _ _ _ hq
  have bnd := hb _ (Value.ref (z + 1) :: us) J.kIn (by simpa using hlen)
  simp only [List.append_nil] at bnd
  have gd' : (X.A.under (.builtin "type.__call__" ⟨.ref C :: us, []⟩)).guards = some [] := by
    unfold Around.under
    simp only [gd]
    rfl
  have run := F.run _ X.stack _ _ ⟨Value.ref (z + 1) :: us, []⟩ _ _ _ E0 (hr.make C us []) gd' (J.env0.make C us []) bnd rv hq
  subst hz
  refine wpAny_call (make_map (f := f) I.kIn M.makes M.init (beq_iff_eq.mp M.fn) (codeAny_mono run fun out s' post => ?_))
  match out, post with
  | .error err, post => exact hx pins σ _ _ err s' J post
  | .ok (.ret u), post =>
    obtain ⟨v, H', I3, rv, ev, q3⟩ := J.after post
    subst ev
    exact ⟨rv, V.ref _, H', I3, rfl, q3⟩
  | .ok .next, post => exact post.elim
  | .ok .brk, post => exact post.elim
  | .ok .cont, post => exact post.elim

theorem pe_makeG {E0 : XK} (M : Mk X.K C f) (F : FnG X.prog X.w X.K X.mg X.base CX k f fd ps sp) (gd : X.A.guards = some []) (hr : Room (k + 1) X.A) (hg : Gl X x) (hm : X.mg x = some (.ref C)) (hb : Binds X.K fd ps []) (hx : Passes CX X E0)
    (ha : PA X (e :: es) t) (hdb : (x == ("__debug__" : Str)) = false) (he : starEach (e :: es) X.env = (false, eval e X.env) :: starEach es X.env) (hpl : (backTo pos (starEach es X.env)).any (·.1) = false) :
    PE X (.Call (.Name x p) (e :: es) [] pos) (fun σ H Q => t σ H fun vs H1 => ∀ x dx, H1 x = none → H1 dx = none → dx ≠ x → sp (.ref x :: vs) (upd (upd H1 dx (.own x)) x (.ins C dx [])) (fun v H2 => v = .non ∧ Q (.ref x) H2) E0) := by
  constructor
  intro pins s σ H Q I h
  have args := ha.run pos pins s σ H _ I h
  refine wpAny_Call_Name_kw (ld_glob I hg hm (PySem.W.callWith_K (h₀ := X.base) I.ok.mod.kin M.kp (thn args ?_) he hpl) hdb)
  rintro us s1 ⟨vs, H1, I1, r, q⟩
  exact ⟨I1.kIn, run_makeG M F gd hr hb hx I1 r q⟩
/-- a def by its body -/
theorem fn_ofG {name qual : Str} {params : Arguments} {body : List Stmt} {scope : Scope} {dV kV doc pm cdv ct oc : Value} {an od : Option Addr} {osl : Array (Option Value)} {N : List Str} (lk : K.lookup f = some ⟨oc, od, .func (PySem.W.fnOf name qual params body scope dV kV doc pm an cdv ct), osl⟩)
    (hcd : PySem.W.codeIn K cdv qual = true) (S : FnScope N ps scope) (len : ∀ vs H Q E, sp vs H Q E → vs.length = ps.length)
    (hbody : ∀ (A : Around) (outer : List Env) (s : Shared) (H : Hp) (vs : List V) (Q : VK) (E : XK), A.guards = some [] → Room k (A.deeper (envOfC qual scope s.heap.objs.size f cdv)) → Mod K mg base → sp vs H Q E →
      ∃ t, PSs (cxOf CX P w K mg base N qual scope f cdv A outer s H E) body t ∧ t { nx := fun _ H' => Q .non H', rt := Q } (start N vs) H) :
    FnG P w K mg base CX (k + 1) f (PySem.W.fnOf name qual params body scope dV kV doc pm an cdv ct) ps sp := by
  constructor
  · exact len
  intro A outer s H args us vs Q E hr gd e0 hb r hsp
  have hl := len _ _ _ _ hsp
  have inK : K.In s.heap := e0.mod.kin.keeps fun b o q => (e0.bs b o q).1
  have nolim : s.heap.NoLimit := e0.mod.nolimit.keeps fun b o q => (e0.bs b o q).1
  have kinds : ∀ y ∈ ps.zip us, scope.names.lookup y.1 = some .local ∨ (scope.names.lookup y.1 = some .cell ∧ ((cellsFrom (s.heap.objs.size + 1) scope.names []).lookup y.1).isSome = true) := by
    rintro ⟨n, v⟩ hy
    refine (S.par n (List.of_mem_zip hy).1).imp id fun q => ⟨q, ?_⟩
    exact PySem.W.cellsFrom_some _ _ _ (.inl q)
  refine codeAny_call_function hr.depth (inK _ _ lk) rfl S.co S.gen rfl (PySem.W.codeRec_of inK hcd) (hb _ _ _ _ (wpAny_newFunctionEnv_cells S.kind kinds ?_))
  intro env he s1 x
  subst he
  refine ⟨nolim.keeps x.toInCall.keep, codeAny_func ?_⟩
  obtain ⟨t, ht, hq⟩ := hbody A outer s H vs Q E gd (hr.deeper _) e0.mod hsp
  have I0 := inv_start (CX := CX) (E := E) S hr.hd e0 hl r x
  refine wpAny_mono (ht.run [] s1 (start N vs) H _ I0 hq) (fun fl s' hs => ?_) fun _ _ z => z
  match fl, hs with
  | .ret u, ⟨v, σ', H', J, rv, q⟩ => exact ⟨v, H', J.os, J.bare, J.base, J.hok, rv, q⟩
  | .next, ⟨σ', H', J, q⟩ => exact ⟨V.non, H', J.os, J.bare, J.base, J.hok, rfl, q⟩
  | .brk, ⟨_, _, _, q⟩ => exact q.elim
  | .cont, ⟨_, _, _, q⟩ => exact q.elim
end
end Pi

/-! PiH: the law's call. -/
namespace Pi
open PySem L2 PySem.Spec PyProof.Rows
/-- the script's heap: nothing, or the script alone, frozen -/
def lone (a : Addr) (o : Obj) (xs : List V) : Hp := fun b => if b = a then some (.frz o (.lst xs)) else none
/-- the law's def, called where nothing runs -/
theorem law_callG {P : Program} {w : World} {K : PySem.W.Frag} {mg mb : Str → Option Value} {CX : CXT} {k : Nat} {fa a : Addr} {sp : Sp} {s1 : Shared} {vs : List Value} {ns : List Int} (KX : K.In s1.heap) (hns : s1.heap.Ns mainGlobals mg) (hb : s1.heap.Ns builtinsNs mb)
    (hbb : ∀ x : Str, x ≠ "__name__" → mb x = bootBuiltins x) (hlim : s1.heap.NoLimit) (hmods : ∃ mm, s1.heap.Ns sysModules mm) (hg : s1.gens = #[]) (ha : s1.heap.get? a = some { cls := .type "list", data := .seq vs.toArray }) (hi : IntsAre vs ns) (hl : ns.length ≤ sizeLine) (hr : Room k callerA)
    (F : ∀ base : Heap, K.In base → base.Ns mainGlobals mg → (∃ mm, base.Ns sysModules mm) → ∃ (fd : FuncData) (x : Str), FnG P w K mg base CX k fa fd [x] sp ∧ Binds K fd [x] [])
    (hsp : ∀ H : Hp, LsF K H a (ns.map V.int) → sp [.ref a] H (fun v _ => v = .bl true) fun _ _ _ => False) (hCX : ∀ H e s', CX [] H s1 (fun _ _ _ => False) e s' → False) :
    codeAny (model P w) callerA (.call (.ref fa) ⟨[.ref a], []⟩) (fun r s' => r = .ok (.ret (.bool true)) ∧ OldK s1.heap s'.heap ∧ s'.os = s1.os ∧ AllBare s'.gens) s1 := by
  have rv := vals_ints hi
  have lv := hi.length
  -- over an abstract heap that tracks the script, or nothing
  have main : ∀ H : Hp, (∀ b, H b ≠ none → b = a ∧ K.lookup a = none) → (∀ b, H b = none ∨ ∃ o xs, H b = some (.frz o (.lst xs))) → LsF K H a (ns.map V.int) → HOk P w H s1.heap →
      codeAny (model P w) callerA (.call (.ref fa) ⟨[.ref a], []⟩) (fun r s' => r = .ok (.ret (.bool true)) ∧ OldK s1.heap s'.heap ∧ s'.os = s1.os ∧ AllBare s'.gens) s1 := by
    intro H only kind lst hok
    have free : ∀ {b : Addr} {o : Obj}, s1.heap.get? b = some o → (∀ vs n, o.data ≠ .seq vs n) → H b = none := fun {b o} e nd => by
      cases q : H b with
      | none => rfl
      | some u =>
        obtain ⟨rfl, _⟩ := only b (by rw [q]; simp)
        rw [ha] at e
        cases e
        exact absurd rfl (nd _ _)
    have up : ∀ {b : Addr} {m : Str → Option Value}, s1.heap.Ns b m → (hidT s1.heap H).Ns b m := fun {b m} h => by
      obtain ⟨o, es, ep, e, d, r⟩ := h
      exact ⟨o, es, ep, hidT_get e (free e fun _ _ z => by rw [d] at z; cases z), d, r⟩
    have kin : K.In (hidT s1.heap H) := fun b o e => hidT_get (KX b o e) (by
      cases q : H b with
      | none => rfl
      | some u =>
        obtain ⟨rfl, nk⟩ := only b (by rw [q]; simp)
        rw [nk] at e
        cases e)
    have hM : Mod K mg (hidT s1.heap H) := by
      refine ⟨kin, up hns, ⟨mb, up hb, hbb⟩, ?_⟩
      obtain ⟨mc, h1, h2⟩ := hlim
      exact ⟨mc, up h1, h2⟩
    have e0 : Env0 P w K mg (hidT s1.heap H) callerA [] s1 H := by
      refine ⟨rfl, hM, fun b o e => of_hidT e, Nat.le_of_eq (hidT_size _ _), trivial, ?_, hok, .of_eq hg⟩
      intro b hb
      exact absurd (show b ∈ ([] : List Addr) from hb) (by simp)
    obtain ⟨mm, hmm⟩ := hmods
    obtain ⟨fd, x, FF, hbind⟩ := F _ kin (up hns) ⟨mm, up hmm⟩
    have run := FF.run callerA [] s1 H ⟨[.ref a], []⟩ [.ref a] [.ref a] _ _ hr rfl e0 (hbind s1 [.ref a] KX rfl) (.cons rfl .nil) (hsp H lst)
    refine codeAny_mono run fun out s' post => ?_
    match out, post with
    | .error e, post => exact (hCX H e s' post).elim
    | .ok .next, post => exact post.elim
    | .ok .brk, post => exact post.elim
    | .ok .cont, post => exact post.elim
    | .ok (.ret u), ⟨v, H', os, bare, un, hok', r', q⟩ =>
      have q' : v = .bl true := q
      subst q'
      obtain rfl : u = Value.bool true := r'
      refine ⟨rfl, OldK.of_keep fun b o e => ?_, os, bare⟩
      rcases kind b with n | ⟨ob, xs, z⟩
      · exact un.keep b o e n (fun z => absurd (show b ∈ ([] : List Addr) from z) (by simp)) (by simp)
      · have z2 := un.frzs b ob _ z
        have e1 := (hok b _ z).1
        have e2 := (hok' b _ z2).1
        rw [e] at e1
        cases e1
        exact e2
  cases hk : K.lookup a with
  | some o =>
    have e := KX a o hk
    rw [ha] at e
    cases e
    exact main (fun _ => none) (fun b z => absurd rfl z) (fun _ => .inl rfl) (.inr ⟨_, vs.toArray, _, hk, rfl, rfl, rfl, by rw [List.size_toArray, lv]; exact hl, by simpa using rv⟩) (fun b u z => nomatch z)
  | none =>
    refine main (lone a { cls := .type "list", data := .seq vs.toArray } (ns.map V.int)) (fun b z => ?_) (fun b => ?_) (.inl ⟨_, if_pos rfl⟩) (fun b u z => ?_)
    · unfold lone at z
      split at z
      · exact ⟨by assumption, hk⟩
      · exact absurd rfl z
    · unfold lone
      split
      · exact .inr ⟨_, _, rfl⟩
      · exact .inl rfl
    · unfold lone at z
      split at z
      · rename_i hb
        cases z
        subst hb
        exact ⟨ha, by rw [List.length_map]; exact hl, vs, _, rv, ha⟩
      · cases z
end Pi

/-! Pi7: the rules for expressions, by data. -/
namespace Pi
open PySem L2 PySem.Spec PyProof.Rows
section
variable {g : GC} {al al' al0 : Al} {H H' H0 Hs : Hp} {S S' : Sto} {r : Rho} {σ : L2.St} {W : WX} {X : Cx} {Φ : Phi}
variable {a b c : Expr} {m ma mb mc : Rho → Sto → Out D} {pos : Pos}

theorem TR.bad {R : RR D} {m : Rho → Sto → Out D} (h : ∀ r S, m r S = .bad) {σ : L2.St} {H : Hp} {Q : VK} (q : TR g W R m σ H Q) : False := by
  obtain ⟨H0, al0, al, r, S, rs, q⟩ := q
  rw [h] at q
  exact q
/-- data may be read -/
theorem PE.toB {e : Expr} (h : PE X e (TR g W (RV g) m)) : PE X e (TR g W (RB g) m) := by
  refine PE.imp h ?_
  rintro σ H Q ⟨H0, al0, al, r, S, rs, q⟩
  refine ⟨H0, al0, al, r, S, rs, ?_⟩
  cases e : m r S with
  | bad => rw [e] at q; exact q
  | exc c S' => rw [e] at q; exact q
  | ok d S' => rw [e] at q; exact fun H' al' v rs' k p x => q H' al' v rs' k p (.inl x)
theorem PE.FtoB {e : Expr} (h : PE X e (TR g W (RF g) m)) : PE X e (TR g W (RB g) m) := by
  refine PE.imp h ?_
  rintro σ H Q ⟨H0, al0, al, r, S, rs, q⟩
  refine ⟨H0, al0, al, r, S, rs, ?_⟩
  cases e : m r S with
  | bad => rw [e] at q; exact q
  | exc c S' => rw [e] at q; exact q
  | ok d S' => rw [e] at q; exact fun H' al' v rs' k p x => q H' al' v rs' k p x.bt
/-- a value that is no list and no dict -/
theorem PE.FtoV {e : Expr} (h : PE X e (TR g W (RF g) m)) : PE X e (TR g W (RV g) m) := PE.frz h

/-! ### names, constants -/
theorem s_varV {i : Nat} {x : Str} (hN : X.N[i]? = some x) (hv : Vis X.env.scope x) (hd : (x == ("__debug__" : Str)) = false) (hc : (x == ("__classdict__" : Str)) = false) : PE X (.Name x pos) (TR g W (RV g) (ev Φ (.var i))) := by
  refine PE.imp (pe_var hN hv hd hc) ?_
  rintro σ H Q ⟨H0, al0, al, r, S, rs, q⟩
  simp only [ev] at q
  split at q
  · rename_i d e
    obtain ⟨v, ev, k⟩ := rs.sl i _ e
    exact ⟨v, ev, q.here rs k⟩
  · exact q.elim
theorem s_varB {i : Nat} {x : Str} (hN : X.N[i]? = some x) (hv : Vis X.env.scope x) (hd : (x == ("__debug__" : Str)) = false) (hc : (x == ("__classdict__" : Str)) = false) (o : Rho → Sto → Out D) : PE X (.Name x pos) (TR g W (RB g) fun r S => rd (.var i) r S (o r S)) := by
  refine PE.imp (pe_var hN hv hd hc) ?_
  rintro σ H Q ⟨H0, al0, al, r, S, rs, q⟩
  simp only [rd] at q
  obtain ⟨d, ed, q⟩ := q.lift
  unfold look at ed
  split at ed
  · rename_i d' e
    cases ed
    obtain ⟨v, ev, k⟩ := rs.sl i _ e
    exact ⟨v, ev, q.here rs (k.bt rfl)⟩
  · rename_i d' e
    cases ed
    obtain ⟨v, ev, k⟩ := rs.sl i _ e
    exact ⟨v, ev, q.here rs (k.bt rfl)⟩
  · rename_i d' e
    cases ed
    obtain ⟨v, ev, k⟩ := rs.sl i _ e
    exact ⟨v, ev, q.here rs (k.bt rfl)⟩
  · cases ed
/-- a value that is always the same -/
theorem s_const {e : Expr} {v : V} {d : D} (h : PE X e (tC v)) (hd : ∀ al H, Dt g al H v d) : PE X e (TR g W (RV g) fun _ S => .ok d S) := by
  refine PE.imp h ?_
  rintro σ H Q ⟨H0, al0, al, r, S, rs, q⟩
  exact q.here rs (hd al H)

/-! ### operators -/
theorem s_bin (G : XG g X) (o : O2) (ha : PE X a (TR g W (RB g) ma)) (hb : PE X b (TR g W (RB g) mb)) :
    PE X (.BinOp a (opOf o) b pos) (TR g W (RF g) fun r S => (ma r S).bnd fun x S => (mb r S).bnd fun y S => lift (o2D o x y) S) :=
  PE.imp (pe_op (op_bin G o) ha hb) op2_of
theorem s_neg (ha : PE X a (TR g W (RV g) ma)) : PE X (.UnaryOp .USub a pos) (TR g W (RV g) fun r S => (ma r S).bnd fun x S => match x with | .int i => .ok (.int (-i)) S | _ => .bad) := by
  refine PE.imp (pe_un un_neg ha) ?_
  rintro σ H Q ⟨H0, al0, al, r, S, rs, h⟩
  refine ⟨H0, al0, al, r, S, rs, (h.bnd (R1 := RV g H)).imp ?_⟩
  rintro vx H1 ⟨al1, x, S1, rs1, k1, p1, b1, h⟩
  cases x <;> try exact h.elim
  cases b1
  exact ⟨_, rfl, h.here rs1 (.int _)⟩
theorem cm_of {ma mb : Rho → Sto → Out D} {f : D → D → Option Bool} : ∀ σ H Q, TR g W (RV g) (fun r S => (ma r S).bnd fun x S => (mb r S).bnd fun y S => (lift (f x y) S).bnd fun k S => .ok (.bl k) S) σ H Q →
    tOp (rCm g f) (TR g W (RB g) ma) (TR g W (RB g) mb) σ H Q := by
  rintro σ H Q ⟨H0, al0, al, r, S, rs, h⟩
  refine ⟨H0, al0, al, r, S, rs, (h.bnd (R1 := RB g H)).imp ?_⟩
  rintro vx H1 ⟨al1, x, S1, rs1, k1, p1, b1, h⟩
  refine ⟨H0, al0, al1, r, S1, rs1, (h.bnd (R1 := RB g H1)).imp ?_⟩
  rintro vy H2 ⟨al2, y, S2, rs2, k2, p2, b2, h⟩
  cases e : f x y with
  | none => rw [e] at h; exact h.elim
  | some k =>
    rw [e] at h
    exact ⟨al2, x, y, k, b1.mono k2 p2, b2, e, h.here rs2 (.bl k)⟩
theorem s_cmp (G : XG g X) (o : Cm) (ha : PE X a (TR g W (RB g) ma)) (hb : PE X b (TR g W (RB g) mb)) (hm : behindInMarks (cmOf o) b = false) :
    PE X (.Compare a [cmOf o] [b] pos) (TR g W (RV g) fun r S => (ma r S).bnd fun x S => (mb r S).bnd fun y S => (lift (cmD o x y) S).bnd fun k S => .ok (.bl k) S) :=
  PE.imp (pe_cmpR (op_cm G o) ha hb hm) cm_of
theorem s_isN {j pos'} (ha : PE X a (TR g W (RB g) ma)) : PE X (.Compare a [.Is] [.Constant .none j pos'] pos) (TR g W (RV g) fun r S => (ma r S).bnd fun x S => .ok (.bl (match x with | .non => true | _ => false)) S) := by
  refine PE.imp (pe_cmp (pc_isN ha) rfl) ?_
  rintro σ H Q ⟨H0, al0, al, r, S, rs, h⟩
  refine ⟨H0, al0, al, r, S, rs, (h.bnd (R1 := RB g H)).imp ?_⟩
  rintro vx H1 ⟨al1, x, S1, rs1, k1, p1, b1, h⟩
  have q := h.here (v := .bl (decide (vx = .non))) rs1 (by rw [Bt.nn b1]; cases x <;> exact .bl _)
  exact q
theorem s_notN {j pos'} (ha : PE X a (TR g W (RB g) ma)) : PE X (.Compare a [.IsNot] [.Constant .none j pos'] pos) (TR g W (RV g) fun r S => (ma r S).bnd fun x S => .ok (.bl (match x with | .non => false | _ => true)) S) := by
  refine PE.imp (pe_cmp (pc_notN ha) rfl) ?_
  rintro σ H Q ⟨H0, al0, al, r, S, rs, h⟩
  refine ⟨H0, al0, al, r, S, rs, (h.bnd (R1 := RB g H)).imp ?_⟩
  rintro vx H1 ⟨al1, x, S1, rs1, k1, p1, b1, h⟩
  have q := h.here (v := .bl (!decide (vx = .non))) rs1 (by rw [Bt.nn b1]; cases x <;> exact .bl _)
  exact q
theorem s_chain (G : XG g X) (o p : Cm) (ha : PE X a (TR g W (RB g) ma)) (hb : PE X b (TR g W (RB g) mb)) (hc : PE X c (TR g W (RB g) mc)) (hm : lastMarks [cmOf o, cmOf p] [b, c] = false) :
    PE X (.Compare a [cmOf o, cmOf p] [b, c] pos) (TR g W (RV g) fun r S => (ma r S).bnd fun x S => (mb r S).bnd fun y S => (lift (cmD o x y) S).bnd fun k S =>
      if k = true then (mc r S).bnd fun z S => (lift (cmD p y z) S).bnd fun k S => .ok (.bl k) S else .ok (.bl false) S) := by
  refine PE.imp (pe_chain (op_cm G o) (op_cm G p) ha hb hc hm) ?_
  rintro σ H Q ⟨H0, al0, al, r, S, rs, h⟩
  refine ⟨H0, al0, al, r, S, rs, (h.bnd (R1 := RB g H)).imp ?_⟩
  rintro vx H1 ⟨al1, x, S1, rs1, k1, p1, b1, h⟩
  refine ⟨H0, al0, al1, r, S1, rs1, (h.bnd (R1 := RB g H1)).imp ?_⟩
  rintro vy H2 ⟨al2, y, S2, rs2, k2, p2, b2, h⟩
  cases e : cmD o x y with
  | none => rw [e] at h; exact h.elim
  | some k =>
    rw [e] at h
    refine ⟨al2, x, y, k, b1.mono k2 p2, b2, e, k, rfl, ?_⟩
    cases k with
    | false => exact h.here rs2 (.bl false)
    | true =>
      refine ⟨H0, al0, al2, r, S2, rs2, (Pst.bnd (R1 := RB g H2) h).imp ?_⟩
      rintro vz H3 ⟨al3, z, S3, rs3, k3, p3, b3, h⟩
      cases e' : cmD p y z with
      | none => rw [e'] at h; exact h.elim
      | some k =>
        rw [e'] at h
        exact ⟨al3, y, z, k, b2.mono k3 p3, b3, e', h.here rs3 (.bl k)⟩
/-- a datum's truth, at the place -/
theorem tru_at {x : D} {v : V} {k : Bool} (b : Bt g al H v x) (hK : g.K = X.K) (e : truD x = some k) : TruV X.K v H k ∨ ∃ a rs kvs, v = .ref a ∧ x = .dic rs ∧ Rd H a (.dK kvs) ∧ k = !kvs.isEmpty := by
  cases x with
  | non => cases b.non; cases e; exact .inl rfl
  | bl _ => cases b.bl; cases e; exact .inl rfl
  | int _ => cases b.int; cases e; exact .inl rfl
  | str _ =>
    cases b.str
    simp only [truD] at e
    split at e <;> cases e
    rename_i hz
    exact .inl ⟨hz, rfl⟩
  | fn _ => cases e
  | obj _ => cases e
  | tup ds =>
    obtain ⟨a, vs, rfl, q1, l⟩ := b.tup
    cases e
    exact .inl (.inr (.inl ⟨vs, hK ▸ q1, by cases l <;> rfl⟩))
  | lst ds =>
    obtain ⟨a, vs, rfl, q1, l⟩ := b.lst
    cases e
    exact .inl (.inl ⟨vs, hK ▸ q1, by cases l <;> rfl⟩)
  | dic ds =>
    obtain ⟨a, vs, rfl, q1, l⟩ := b.dic
    cases e
    exact .inr ⟨a, ds, vs, rfl, rfl, q1, by cases l <;> rfl⟩

/-! ### and, or, not; one side or the other -/
variable {rest : List Expr}
theorem s_one {op} (h : PE X a (TR g W (RV g) m)) : PE X (.BoolOp op [a] pos) (TR g W (RV g) m) := pe_one h
theorem s_and (G : XG g X) (ha : PE X a (TR g W (RV g) ma)) (hb : PE X (.BoolOp .And (b :: rest) pos) (TR g W (RV g) mb)) :
    PE X (.BoolOp .And (a :: b :: rest) pos) (TR g W (RV g) fun r S => (ma r S).bnd fun x S => (lift (truD x) S).bnd fun k S => if k = true then mb r S else .ok x S) := by
  refine ⟨fun pins s σ H Q I h => ?_⟩
  obtain ⟨H0, al0, al, r, S, rs, h⟩ := h
  refine BoolOp_and (thn (ha.run pins s σ H _ I ⟨H0, al0, al, r, S, rs, h.bnd (R1 := RV g H)⟩) ?_)
  rintro v s1 ⟨vx, H1, I1, r1, al1, x, S1, rs1, k1, p1, b1, h⟩
  cases e : truD x with
  | none => rw [e] at h; exact h.elim
  | some k =>
    rw [e] at h
    refine thn (tru_d G pins s1 σ H1 vx v (fun c H2 => c = k ∧ H2 = H1) I1 r1 ⟨al1, x, k, .inl b1, e, rfl, rfl⟩) ?_
    rintro c s2 ⟨H2, I2, rfl, rfl⟩
    cases c with
    | true => exact hb.run pins s2 σ H2 Q I2 ⟨H0, al0, al1, r, S1, rs1, h⟩
    | false => exact ⟨vx, H2, I2, r1, h.here rs1 b1⟩
theorem s_or (G : XG g X) (ha : PE X a (TR g W (RV g) ma)) (hb : PE X (.BoolOp .Or (b :: rest) pos) (TR g W (RV g) mb)) :
    PE X (.BoolOp .Or (a :: b :: rest) pos) (TR g W (RV g) fun r S => (ma r S).bnd fun x S => (lift (truD x) S).bnd fun k S => if k = true then .ok x S else mb r S) := by
  refine ⟨fun pins s σ H Q I h => ?_⟩
  obtain ⟨H0, al0, al, r, S, rs, h⟩ := h
  refine BoolOp_or (thn (ha.run pins s σ H _ I ⟨H0, al0, al, r, S, rs, h.bnd (R1 := RV g H)⟩) ?_)
  rintro v s1 ⟨vx, H1, I1, r1, al1, x, S1, rs1, k1, p1, b1, h⟩
  cases e : truD x with
  | none => rw [e] at h; exact h.elim
  | some k =>
    rw [e] at h
    refine thn (tru_d G pins s1 σ H1 vx v (fun c H2 => c = k ∧ H2 = H1) I1 r1 ⟨al1, x, k, .inl b1, e, rfl, rfl⟩) ?_
    rintro c s2 ⟨H2, I2, rfl, rfl⟩
    cases c with
    | true => exact ⟨vx, H2, I2, r1, h.here rs1 b1⟩
    | false => exact hb.run pins s2 σ H2 Q I2 ⟨H0, al0, al1, r, S1, rs1, h⟩
theorem s_not (G : XG g X) (ha : PE X a (TR g W (RB g) ma)) :
    PE X (.UnaryOp .Not a pos) (TR g W (RV g) fun r S => (ma r S).bnd fun x S => (lift (truD x) S).bnd fun k S => .ok (.bl (!k)) S) := by
  refine ⟨fun pins s σ H Q I h => ?_⟩
  obtain ⟨H0, al0, al, r, S, rs, h⟩ := h
  refine UnaryOp_ (thn (ha.run pins s σ H _ I ⟨H0, al0, al, r, S, rs, h.bnd (R1 := RB g H)⟩) ?_)
  rintro v s1 ⟨vx, H1, I1, r1, al1, x, S1, rs1, k1, p1, b1, h⟩
  cases e : truD x with
  | none => rw [e] at h; exact h.elim
  | some k =>
    rw [e] at h
    refine not_of (thn (tru_d G pins s1 σ H1 vx v (fun c H2 => c = k ∧ H2 = H1) I1 r1 ⟨al1, x, k, b1, e, rfl, rfl⟩) ?_)
    rintro c s2 ⟨H2, I2, rfl, rfl⟩
    exact ⟨.bl (!c), H2, I2, rfl, h.here rs1 (.bl _)⟩
variable {mt mu : Rho → Sto → Out Bool}
theorem s_ite (hc : PT X c (TT' g W mt)) (ha : PE X a (TR g W (RV g) ma)) (hb : PE X b (TR g W (RV g) mb)) :
    PE X (.IfExp c a b pos) (TR g W (RV g) fun r S => (mt r S).bnd fun k S => if k = true then ma r S else mb r S) := by
  refine PE.imp (pe_ifExp hc ha hb) ?_
  rintro σ H Q ⟨H0, al0, al, r, S, rs, h⟩
  refine ⟨H0, al0, al, r, S, rs, (h.bnd (R1 := fun _ _ (b : Bool) d => b = d)).imp ?_⟩
  rintro k H1 ⟨al1, x, S1, rs1, k1, p1, rfl, h⟩
  have mv : ∀ {o : Out D}, Pst g W H0 al0 r σ al1 H1 (RV g H) o Q → Pst g W H0 al0 r σ al1 H1 (RV g H1) o Q := fun {o} h => h
  cases k with
  | true => exact ⟨H0, al0, al1, r, S1, rs1, mv h⟩
  | false => exact ⟨H0, al0, al1, r, S1, rs1, mv h⟩

/-! ### tests -/
theorem t_yes_of {e : Expr} (G : XG g X) (ha : PE X e (TR g W (RB g) ma)) (he : ∀ whole, isTrue e X.env whole = (do let v ← whole; standAt e.pos; holding [v] (truthy v))) :
    PT X e (TT' g W fun r S => (ma r S).bnd fun x S => lift (truD x) S) := by
  refine ⟨fun pins s σ H Q I h => ?_⟩
  obtain ⟨H0, al0, al, r, S, rs, h⟩ := h
  refine isTrue_plain (thn (ha.run pins s σ H _ I ⟨H0, al0, al, r, S, rs, h.bnd (R1 := RB g H)⟩) ?_) (he _)
  rintro v s1 ⟨vx, H1, I1, r1, al1, x, S1, rs1, k1, p1, b1, h⟩
  obtain ⟨k, e, h⟩ := h.lift
  exact tru_d G pins s1 σ H1 vx v Q I1 r1 ⟨al1, x, k, b1, e, h.here rs1 rfl⟩
theorem tru_bl (k : Bool) : truD (.bl k) = some k := rfl
theorem Out.bnd_assoc {α β γ : Type} (o : Out α) (f : α → Sto → Out β) (k : β → Sto → Out γ) : (o.bnd f).bnd k = o.bnd fun x S => (f x S).bnd k := by cases o <;> rfl
theorem bl_tru {α : Type} (o : Out Bool) : ((o.bnd fun k S => .ok (.bl k) S).bnd fun x S => lift (truD x) S) = o := by cases o <;> rfl
/-- a comparison as a test -/
theorem t_cmp (G : XG g X) (o : Cm) (ha : PE X a (TR g W (RB g) ma)) (hb : PE X b (TR g W (RB g) mb)) (hm : behindInMarks (cmOf o) b = false) :
    PT X (.Compare a [cmOf o] [b] pos) (TT' g W fun r S => (ma r S).bnd fun x S => (mb r S).bnd fun y S => lift (cmD o x y) S) := by
  refine PT.imp (pt_cmpR (op_cm G o) ha hb hm) ?_
  rintro σ H Q ⟨H0, al0, al, r, S, rs, h⟩
  refine ⟨H0, al0, al, r, S, rs, (h.bnd (R1 := RB g H)).imp ?_⟩
  rintro vx H1 ⟨al1, x, S1, rs1, k1, p1, b1, h⟩
  refine ⟨H0, al0, al1, r, S1, rs1, (h.bnd (R1 := RB g H1)).imp ?_⟩
  rintro vy H2 ⟨al2, y, S2, rs2, k2, p2, b2, h⟩
  obtain ⟨k, e, h⟩ := h.lift
  exact ⟨al2, x, y, k, b1.mono k2 p2, b2, e, k, rfl, h.here rs2 rfl⟩
theorem t_isN {j pos'} (ha : PE X a (TR g W (RB g) ma)) : PT X (.Compare a [.Is] [.Constant .none j pos'] pos) (TT' g W fun r S => (ma r S).bnd fun x S => .ok (match x with | .non => true | _ => false) S) := by
  refine PT.imp (pt_cmp (pc_isN ha) rfl) ?_
  rintro σ H Q ⟨H0, al0, al, r, S, rs, h⟩
  refine ⟨H0, al0, al, r, S, rs, (h.bnd (R1 := RB g H)).imp ?_⟩
  rintro vx H1 ⟨al1, x, S1, rs1, k1, p1, b1, h⟩
  exact ⟨_, rfl, h.here rs1 (by rw [Bt.nn b1]; cases x <;> rfl)⟩
theorem t_notN {j pos'} (ha : PE X a (TR g W (RB g) ma)) : PT X (.Compare a [.IsNot] [.Constant .none j pos'] pos) (TT' g W fun r S => (ma r S).bnd fun x S => .ok (match x with | .non => false | _ => true) S) := by
  refine PT.imp (pt_cmp (pc_notN ha) rfl) ?_
  rintro σ H Q ⟨H0, al0, al, r, S, rs, h⟩
  refine ⟨H0, al0, al, r, S, rs, (h.bnd (R1 := RB g H)).imp ?_⟩
  rintro vx H1 ⟨al1, x, S1, rs1, k1, p1, b1, h⟩
  exact ⟨_, rfl, h.here rs1 (by rw [Bt.nn b1]; cases x <;> rfl)⟩
theorem t_chain (G : XG g X) (o p : Cm) (ha : PE X a (TR g W (RB g) ma)) (hb : PE X b (TR g W (RB g) mb)) (hc : PE X c (TR g W (RB g) mc)) (hm : lastMarks [cmOf o, cmOf p] [b, c] = false) :
    PT X (.Compare a [cmOf o, cmOf p] [b, c] pos) (TT' g W fun r S => (ma r S).bnd fun x S => (mb r S).bnd fun y S => (lift (cmD o x y) S).bnd fun k S =>
      if k = true then (mc r S).bnd fun z S => lift (cmD p y z) S else .ok false S) := by
  refine PT.imp (pt_chain (op_cm G o) (op_cm G p) ha hb hc hm) ?_
  rintro σ H Q ⟨H0, al0, al, r, S, rs, h⟩
  refine ⟨H0, al0, al, r, S, rs, (h.bnd (R1 := RB g H)).imp ?_⟩
  rintro vx H1 ⟨al1, x, S1, rs1, k1, p1, b1, h⟩
  refine ⟨H0, al0, al1, r, S1, rs1, (h.bnd (R1 := RB g H1)).imp ?_⟩
  rintro vy H2 ⟨al2, y, S2, rs2, k2, p2, b2, h⟩
  cases e : cmD o x y with
  | none => rw [e] at h; exact h.elim
  | some k =>
    rw [e] at h
    refine ⟨al2, x, y, k, b1.mono k2 p2, b2, e, k, rfl, ?_⟩
    cases k with
    | false => exact ⟨false, rfl, h.here rs2 rfl⟩
    | true =>
      refine ⟨H0, al0, al2, r, S2, rs2, (Pst.bnd (R1 := RB g H2) h).imp ?_⟩
      rintro vz H3 ⟨al3, z, S3, rs3, k3, p3, b3, h⟩
      obtain ⟨k, e', h⟩ := h.lift
      exact ⟨al3, y, z, k, b2.mono k3 p3, b3, e', k, rfl, h.here rs3 rfl⟩
theorem t_not (ha : PT X a (TT' g W mt)) : PT X (.UnaryOp .Not a pos) (TT' g W fun r S => (mt r S).bnd fun k S => .ok (!k) S) := by
  refine PT.imp (pt_not ha) ?_
  rintro σ H Q ⟨H0, al0, al, r, S, rs, h⟩
  refine ⟨H0, al0, al, r, S, rs, (h.bnd (R1 := fun _ _ (b : Bool) d => b = d)).imp ?_⟩
  rintro k H1 ⟨al1, x, S1, rs1, k1, p1, rfl, h⟩
  exact h.here rs1 rfl
theorem PW.imp {e : Expr} {t t' : TT} (h : PW X e t) (i : ∀ σ H Q, t' σ H Q → t σ H Q) : PW X e t' := ⟨fun wh pins s σ H Q I q => h.run wh pins s σ H Q I (i σ H Q q)⟩
theorem w_and (ha : PT X a (TT' g W mt)) (hb : PW X (.BoolOp .And (b :: rest) pos) (TT' g W mu)) : PW X (.BoolOp .And (a :: b :: rest) pos) (TT' g W fun r S => (mt r S).bnd fun k S => if k = true then mu r S else .ok false S) := by
  refine PW.imp (pw_and ha hb) ?_
  rintro σ H Q ⟨H0, al0, al, r, S, rs, h⟩
  refine ⟨H0, al0, al, r, S, rs, (h.bnd (R1 := fun _ _ (b : Bool) d => b = d)).imp ?_⟩
  rintro k H1 ⟨al1, x, S1, rs1, k1, p1, rfl, h⟩
  cases k with
  | true => exact ⟨H0, al0, al1, r, S1, rs1, h⟩
  | false => exact h.here rs1 rfl
theorem w_or (ha : PT X a (TT' g W mt)) (hb : PW X (.BoolOp .Or (b :: rest) pos) (TT' g W mu)) : PW X (.BoolOp .Or (a :: b :: rest) pos) (TT' g W fun r S => (mt r S).bnd fun k S => if k = true then .ok true S else mu r S) := by
  refine PW.imp (pw_or ha hb) ?_
  rintro σ H Q ⟨H0, al0, al, r, S, rs, h⟩
  refine ⟨H0, al0, al, r, S, rs, (h.bnd (R1 := fun _ _ (b : Bool) d => b = d)).imp ?_⟩
  rintro k H1 ⟨al1, x, S1, rs1, k1, p1, rfl, h⟩
  cases k with
  | true => exact h.here rs1 rfl
  | false => exact ⟨H0, al0, al1, r, S1, rs1, h⟩

/-! ### argument lists, displays -/
def noStar : Expr → Bool
  | .Starred _ _ => false
  | _ => true
def noStars : List Expr → Bool
  | [] => true
  | e :: r => noStar e && noStars r
theorem star_ok {e : Expr} {es : List Expr} {env : Env} (h : noStar e = true) : starEach (e :: es) env = (false, eval e env) :: starEach es env := by
  cases e <;> first | rfl | (simp [noStar] at h)
theorem star_all {env : Env} : ∀ {es : List Expr}, noStars es = true → starEach es env = es.map fun e => (false, eval e env)
  | [], _ => rfl
  | e :: r, h => by
    simp only [noStars, Bool.and_eq_true] at h
    rw [star_ok h.1, star_all h.2, List.map_cons]
theorem star_plain {es : List Expr} {env : Env} {pos : Pos} (h : noStars es = true) : (backTo pos (starEach es env)).any (·.1) = false := by
  rw [star_all h]
  unfold backTo
  simp [List.any_map]
variable {es : List Expr} {ml : Rho → Sto → Out (List D)}
theorem a_nil : PA X [] (TAs g W fun _ S => .ok [] S) := by
  refine PA.imp pa_nil ?_
  rintro σ H Q ⟨H0, al0, al, r, S, rs, h⟩
  exact h.here rs .nil
theorem a_cons (ha : PE X a (TR g W (RV g) ma)) (hr : PA X es (TAs g W ml)) (hs : noStar a = true) : PA X (a :: es) (TAs g W fun r S => (ma r S).bnd fun x S => (ml r S).bnd fun xs S => .ok (x :: xs) S) := by
  refine PA.imp (pa_cons ha hr (star_ok hs)) ?_
  rintro σ H Q ⟨H0, al0, al, r, S, rs, h⟩
  refine ⟨H0, al0, al, r, S, rs, (h.bnd (R1 := RV g H)).imp ?_⟩
  rintro vx H1 ⟨al1, x, S1, rs1, k1, p1, b1, h⟩
  refine ⟨H0, al0, al1, r, S1, rs1, (h.bnd (R1 := fun al H vs ds => DtL g al H vs ds)).imp ?_⟩
  rintro vy H2 ⟨al2, y, S2, rs2, k2, p2, b2, h⟩
  exact h.here rs2 (.cons (Dt.mono k2 p2 b1) b2)
theorem s_tup {x1} (h : PA X es (TAs g W ml)) : PE X (.Tuple es x1 pos) (TR g W (RV g) fun r S => (ml r S).bnd fun xs S => if xs.length ≤ sizeLine then .ok (.tup xs) S else .bad) := by
  refine PE.imp (pe_tup h) ?_
  rintro σ H Q ⟨H0, al0, al, r, S, rs, h⟩
  refine ⟨H0, al0, al, r, S, rs, (h.bnd (R1 := fun al H vs ds => DtL g al H vs ds)).imp ?_⟩
  rintro vs H1 ⟨al1, x, S1, rs1, k1, p1, b1, h⟩
  split at h
  · rename_i hz
    exact ⟨by rw [b1.length]; exact hz, fun p n => h.new rs1 n (.tup (.inl (.inl upd_same)) (b1.mono (.of (same_new n)) (List.prefix_refl _)))⟩
  · exact h.elim
theorem s_lst (h : PA X es (TAs g W ml)) : PE X (.List es pos) (TR g W (RF g) fun r S => (ml r S).bnd fun xs S => if xs.length ≤ sizeLine then .ok (.lst xs) S else .bad) := by
  refine PE.imp (pe_lst h) ?_
  rintro σ H Q ⟨H0, al0, al, r, S, rs, h⟩
  refine ⟨H0, al0, al, r, S, rs, (h.bnd (R1 := fun al H vs ds => DtL g al H vs ds)).imp ?_⟩
  rintro vs H1 ⟨al1, x, S1, rs1, k1, p1, b1, h⟩
  split at h
  · rename_i hz
    exact ⟨by rw [b1.length]; exact hz, fun p n => h.res rs1 k1 p vs n b1⟩
  · exact h.elim
theorem s_dct0 : PE X (.Dict [] [] pos) (TR g W (RF g) fun _ S => .ok (.dic []) S) := by
  refine PE.imp pe_dnewK ?_
  rintro σ H Q ⟨H0, al0, al, r, S, rs, h⟩
  exact fun p n => h.res rs (Keep.refl H) p [] n .nil

/-! ### calls -/
/-- what a def promises, by data -/
def SPI (g : GC) (Φ : Phi) (ar i : Nat) : Sp := fun vs H Q E => vs.length = ar ∧ ∃ al ds S, StoOk g al S H ∧ DtL g al H vs ds ∧
  match Φ.call i ds S with
  | .ok d S' => ∀ H' al' v, Keep H H' → al <+: al' → StoOk g al' S' H' → Dt g al' H' v d → Q v H'
  | .exc c S' => ∀ H' al', Keep H H' → al <+: al' → StoOk g al' S' H' → E (g.xa c) none H'
  | .bad => False
/-- the i-th def keeps its promise, to depth k -/
def FnI (g : GC) (Φ : Phi) (P : Program) (w : World) (K : PySem.W.Frag) (mg : Str → Option Value) (base : Heap) (k i : Nat) : Prop :=
  ∃ (fd : FuncData) (ps : List Str), FnG P w K mg base (L2.CX P w) k (g.fa i) fd ps (SPI g Φ ps.length i) ∧ PySem.W.keepIn K (.ref (g.fa i)) = true ∧ Binds K fd ps [] ∧ ∀ ds S, Φ.call i ds S ≠ .bad → ds.length = ps.length
theorem Pst.nb {α β : Type} {R : Al → Hp → β → α → Prop} {o : Out α} {Q : β → Hp → Prop} (h : Pst g W H0 al0 r σ al H R o Q) : o ≠ .bad := fun e => by rw [e] at h; exact h
theorem spi_of {i ar : Nat} {ds : List D} {vs : List V} {Q : VK} (hl : Φ.call i ds S ≠ .bad → ds.length = ar) (rs : RS g H0 al0 r S al σ H) (k : Keep Hs H) (l : DtL g al H vs ds) (h : Pst g W H0 al0 r σ al H (RV g Hs) (Φ.call i ds S) Q) : SPI g Φ ar i vs H Q (WE W σ) := by
  refine ⟨by rw [l.length]; exact hl h.nb, al, ds, S, rs.sto, l, ?_⟩
  cases e : Φ.call i ds S with
  | bad => rw [e] at h; exact h
  | exc c S' => rw [e] at h; exact fun H' al' k p st => h H' al' (rs.step k p st)
  | ok d S' => rw [e] at h; exact fun H' al' v k p st q => h H' al' v (rs.step k p st) k p q
section
variable {k i : Nat} {x : Str} {p : Pos} {e : Expr}
/-- what a call lets out is taken -/
def Lets (X : Cx) (W : WX) : Prop := ∀ σ, PassesAt (L2.CX X.prog X.w) X σ (WE W σ)
theorem s_call (F : FnI g Φ X.prog X.w X.K X.mg X.base k i) (gd : X.A.guards = some []) (hr : Room k X.A) (hg : Gl X x) (hm : X.mg x = some (.ref (g.fa i))) (hx : Lets X W) (ha : PA X (e :: es) (TAs g W ml)) (hs : noStars (e :: es) = true) (hdb : (x == ("__debug__" : Str)) = false) :
    PE X (.Call (.Name x p) (e :: es) [] pos) (TR g W (RV g) fun r S => (ml r S).bnd fun xs S => Φ.call i xs S) := by
  obtain ⟨fd, ps, F, hk, hb, hl⟩ := F
  have hs' : noStar e = true ∧ noStars es = true := by simpa only [noStars, Bool.and_eq_true] using hs
  refine PE.imp (pe_callG F gd hr hg hm hk hb hx ha hdb (star_ok hs'.1) (star_plain hs'.2)) ?_
  rintro σ H Q ⟨H0, al0, al, r, S, rs, h⟩
  refine ⟨H0, al0, al, r, S, rs, (h.bnd (R1 := fun al H vs ds => DtL g al H vs ds)).imp ?_⟩
  rintro vs H1 ⟨al1, xs, S1, rs1, k1, p1, b1, h⟩
  exact spi_of (hl xs S1) rs1 k1 b1 h
theorem pe_call0S {CX : CXT} {f : Addr} {fd : FuncData} {ps : List Str} {sp : Sp} {E : L2.St → XK} (F : FnG X.prog X.w X.K X.mg X.base CX k f fd ps sp) (gd : X.A.guards = some []) (hr : Room k X.A) (hg : Gl X x) (hm : X.mg x = some (.ref f)) (hk : PySem.W.keepIn X.K (.ref f) = true) (hb : Binds X.K fd ps []) (hx : ∀ σ, PassesAt CX X σ (E σ))
    (hdb : (x == ("__debug__" : Str)) = false) : PE X (.Call (.Name x p) [] [] pos) (fun σ H Q => sp [] H Q (E σ)) := by
  refine ⟨fun pins s σ H Q I h => ?_⟩
  refine wpAny_Call_Name_kw (ld_glob I hg hm ?_ hdb)
  exact PySem.W.callWith_K0 I.kIn hk (run_fnG (us := []) F gd hr hb (hx σ) I .nil h)
theorem s_call0 (F : FnI g Φ X.prog X.w X.K X.mg X.base k i) (gd : X.A.guards = some []) (hr : Room k X.A) (hg : Gl X x) (hm : X.mg x = some (.ref (g.fa i))) (hx : Lets X W) (hdb : (x == ("__debug__" : Str)) = false) :
    PE X (.Call (.Name x p) [] [] pos) (TR g W (RV g) fun r S => Φ.call i [] S) := by
  obtain ⟨fd, ps, F, hk, hb, hl⟩ := F
  refine PE.imp (pe_call0S F gd hr hg hm hk hb hx hdb) ?_
  rintro σ H Q ⟨H0, al0, al, r, S, rs, h⟩
  exact spi_of (hl [] S) rs (Keep.refl H) .nil h
/-- a call of a name that holds a def -/
theorem s_callv {j : Nat} (F : ∀ i, i < Φ.n → FnI g Φ X.prog X.w X.K X.mg X.base k i) (gd : X.A.guards = some []) (hr : Room k X.A) (hN : X.N[j]? = some x) (hv : Vis X.env.scope x) (hx : Lets X W) (ha : PA X (e :: es) (TAs g W ml)) (hs : noStars (e :: es) = true)
    (hdb : (x == ("__debug__" : Str)) = false) (hcd : (x == ("__classdict__" : Str)) = false) :
    PE X (.Call (.Name x p) (e :: es) [] pos) (TR g W (RV g) fun r S => match r[j]? with
      | some (some (.v (.fn f))) => if f < Φ.n then (ml r S).bnd fun xs S => Φ.call f xs S else .bad
      | _ => .bad) := by
  have hs' : noStar e = true ∧ noStars es = true := by simpa only [noStars, Bool.and_eq_true] using hs
  refine ⟨fun pins s σ H Q I h => ?_⟩
  obtain ⟨H0, al0, al, r, S, rs, h⟩ := h
  dsimp only at h
  split at h
  · rename_i f ef
    split at h
    · rename_i hf
      obtain ⟨v, ev, kd⟩ := rs.sl j _ ef
      cases kd
      refine wpAny_Call_Name_kw (thn ((pe_var (pos := p) hN hv hdb hcd).run pins s σ H (fun v H1 => v = .ref (g.fa f) ∧ H1 = H) I ⟨_, ev, rfl, rfl⟩) ?_)
      rintro u s1 ⟨v, H1, I1, r1, rfl, rfl⟩
      cases r1
      obtain ⟨fd, ps, F', hk, hb, hl⟩ := F f hf
      refine PySem.W.callWith_K (h₀ := X.base) I1.ok.mod.kin hk (thn (ha.run pos pins s1 σ _ (fun vs H2 => SPI g Φ ps.length f vs H2 Q (WE W σ)) I1 ⟨H0, al0, al, r, S, rs, ?_⟩) fun us s2 ⟨vs, H2, I2, r2, q⟩ => ⟨I2.kIn, ?_⟩) (star_ok hs'.1) (star_plain hs'.2)
      · refine (h.bnd (R1 := fun al H vs ds => DtL g al H vs ds)).imp ?_
        rintro vs H2 ⟨al1, xs, S1, rs1, k1, p1, b1, h⟩
        exact spi_of (hl xs S1) rs1 k1 b1 h
      · exact run_fnG F' gd hr hb (hx σ) I2 r2 q
    · exact h.elim
  · exact h.elim

/-! ### a new instance -/
/-- the class with the number c -/
structure ClI (g : GC) (Φ : Phi) (X : Cx) (x : Str) (c : Nat) (k : Nat) : Prop where
  mg : X.mg x = some (.ref (g.ca c))
  mkc : Mk X.K (g.ca c) (g.fa (Φ.ini c))
  cls : Cls X.K (g.ca c)
  F : FnI g Φ X.prog X.w X.K X.mg X.base k (Φ.ini c)
/-- an instance is laid -/
theorem RS.made {c : Nat} {x dx : Addr} (rs : RS g H0 al0 r S al σ H) (hx : H x = none) (hd : H dx = none) (ne : dx ≠ x) :
    RS g H0 al0 r (S ++ [⟨c, []⟩]) (al ++ [(x, dx)]) σ (upd (upd H dx (.own x)) x (.ins (g.ca c) dx [])) ∧ L2.Same H (upd (upd H dx (.own x)) x (.ins (g.ca c) dx [])) := by
  have hx' : upd H dx (.own x) x = none := by rw [upd_ne (Ne.symm ne)]; exact hx
  have sm : L2.Same H (upd (upd H dx (.own x)) x (.ins (g.ca c) dx [])) := (same_new hd).trans (same_new hx')
  refine ⟨rs.step (.of sm) (List.prefix_append _ _) ⟨by rw [List.length_append, List.length_append, rs.sto.len]; rfl, fun i y dy o e1 e2 => ?_, fun i j y dy dy' e1 e2 => ?_⟩, sm⟩
  · by_cases hi : i < al.length
    · rw [List.getElem?_append_left hi] at e1
      rw [List.getElem?_append_left (by rw [← rs.sto.len]; exact hi)] at e2
      obtain ⟨fs, q, f⟩ := rs.sto.ins i y dy o e1 e2
      exact ⟨fs, sm _ _ q, f.mono (.of sm) (List.prefix_append _ _)⟩
    · have hi' : i = al.length := by
        have := (List.getElem?_eq_some_iff.mp e1).1
        rw [List.length_append] at this
        have : i < al.length + 1 := this
        omega
      subst hi'
      rw [List.getElem?_append_right (Nat.le_refl _), Nat.sub_self] at e1
      rw [List.getElem?_append_right (by rw [rs.sto.len]; exact Nat.le_refl _), ← rs.sto.len, Nat.sub_self] at e2
      cases e1
      cases e2
      exact ⟨[], upd_same, rfl, .nil⟩
  · have old : ∀ i y dy, (al ++ [(x, dx)])[i]? = some (y, dy) → (i < al.length ∧ al[i]? = some (y, dy) ∧ y ≠ x) ∨ (i = al.length ∧ y = x) := fun i y dy e => by
      by_cases hi : i < al.length
      · rw [List.getElem?_append_left hi] at e
        refine .inl ⟨hi, e, fun z => ?_⟩
        have hs : i < S.length := by rw [← rs.sto.len]; exact hi
        obtain ⟨fs, q, _⟩ := rs.sto.ins i y dy _ e (List.getElem?_eq_getElem hs)
        rw [z, hx] at q
        cases q
      · have hi' : i = al.length := by
          have := (List.getElem?_eq_some_iff.mp e).1
          rw [List.length_append] at this
          have : i < al.length + 1 := this
          omega
        subst hi'
        rw [List.getElem?_append_right (Nat.le_refl _), Nat.sub_self] at e
        cases e
        exact .inr ⟨rfl, rfl⟩
    rcases old i y dy e1 with ⟨h1, h2, h3⟩ | ⟨h1, h2⟩ <;> rcases old j y dy' e2 with ⟨h4, h5, h6⟩ | ⟨h4, h5⟩
    · exact rs.sto.nd i j y dy dy' h2 h5
    · exact absurd h5 h3
    · exact absurd h2 h6
    · rw [h1, h4]
theorem s_new {c : Nat} (C : ClI g Φ X x c k) (gd : X.A.guards = some []) (hr : Room (k + 1) X.A) (hg : Gl X x) (ha : PA X (e :: es) (TAs g W ml)) (hs : noStars (e :: es) = true) (hdb : (x == ("__debug__" : Str)) = false) :
    PE X (.Call (.Name x p) (e :: es) [] pos) (TR g W (RV g) fun r S => (ml r S).bnd fun xs S => match Φ.call (Φ.ini c) (.obj S.length :: xs) (S ++ [⟨c, []⟩]) with
      | .ok .non S' => .ok (.obj S.length) S'
      | _ => .bad) := by
  obtain ⟨fd, ps, F, hk, hb, hl⟩ := C.F
  have hs' : noStar e = true ∧ noStars es = true := by simpa only [noStars, Bool.and_eq_true] using hs
  refine PE.imp (pe_makeG C.mkc F gd hr hg C.mg hb passL ha hdb (star_ok hs'.1) (star_plain hs'.2)) ?_
  rintro σ H Q ⟨H0, al0, al, r, S, rs, h⟩
  refine ⟨H0, al0, al, r, S, rs, (h.bnd (R1 := fun al H vs ds => DtL g al H vs ds)).imp ?_⟩
  rintro vs H1 ⟨al1, xs, S1, rs1, k1, p1, b1, h⟩
  intro x dx nx nd ne
  obtain ⟨rs2, sm⟩ := rs1.made (c := c) nx nd ne
  have nth : (al1 ++ [(x, dx)])[S1.length]? = some (x, dx) := by
    rw [← rs1.sto.len, List.getElem?_append_right (Nat.le_refl _), Nat.sub_self]
    rfl
  split at h
  · rename_i S' e
    have pre : al1 <+: al1 ++ [(x, dx)] := List.prefix_append _ _
    refine ⟨?_, al1 ++ [(x, dx)], .obj S1.length :: xs, S1 ++ [⟨c, []⟩], rs2.sto, .cons (.obj nth) ?_, ?_⟩
    · rw [List.length_cons, b1.length, ← hl _ _ (by rw [e]; intro z; cases z)]
      rfl
    · exact b1.mono (.of sm) pre
    · rw [e]
      intro H' al' v kp pr st dt
      cases dt
      exact ⟨rfl, h H' al' _ (rs2.step kp pr st) ((Keep.of sm).trans kp) (pre.trans pr) (.obj (pre_get pr nth))⟩
  · exact h.elim

/-! ### built-in functions and types -/
section
variable {T : String} {f : D → Option D}
theorem r1_of {σ : L2.St} {H : Hp} {Q : VK} (q : TR g W (RF g) (fun r S => (ma r S).bnd fun x S => lift (f x) S) σ H Q) : tCB (r1D g f) (tCons (TR g W (RB g) ma) tNil) σ H Q := by
  obtain ⟨H0, al0, al, r, S, rs, h⟩ := q
  refine ⟨H0, al0, al, r, S, rs, (h.bnd (R1 := RB g H)).imp ?_⟩
  rintro vx H1 ⟨al1, y, S1, rs1, k1, p1, b1, h⟩
  obtain ⟨z, ez, h⟩ := h.lift
  exact ⟨al1, vx, y, z, rfl, b1, ez, h.res rs1 k1⟩
theorem s_bi1 {id : String} (hc : CallR X (.builtin id) (r1D g f)) (hg : Gl X x) (hm : X.mg x = none) (hv : bootBuiltins x = some (.builtin id)) (hn : x ≠ "__name__") (hdb : (x == ("__debug__" : Str)) = false) (ha : PE X a (TR g W (RB g) ma)) (hs : noStar a = true) :
    PE X (.Call (.Name x p) [a] [] pos) (TR g W (RF g) fun r S => (ma r S).bnd fun x S => lift (f x) S) :=
  PE.imp (pe_callB hc hg hm hv (pa_cons ha pa_nil (star_ok hs)) hn hdb (star_ok hs) rfl) fun _ _ _ q => r1_of q
theorem s_ty1 (hc : CallR X (.type T) (r1D g f)) (hg : Gl X x) (hm : X.mg x = none) (hv : bootBuiltins x = some (.type T)) (hn : x ≠ "__name__") (hdb : (x == ("__debug__" : Str)) = false) (ha : PE X a (TR g W (RB g) ma)) (hs : noStar a = true) :
    PE X (.Call (.Name x p) [a] [] pos) (TR g W (RF g) fun r S => (ma r S).bnd fun x S => lift (f x) S) :=
  PE.imp (pe_callTy hc hg hm hv (pa_cons ha pa_nil (star_ok hs)) hn hdb (star_ok hs) rfl) fun _ _ _ q => r1_of q
end
def b2N : B2 → String
  | .max => "max" | .min => "min"
theorem call_b2 (G : XG g X) (o : B2) : CallR X (.builtin (b2N o)) (fun xs H Q => ∃ i j dz, xs = [.int i, .int j] ∧ b2D o (.int i) (.int j) = some dz ∧ ∀ v, (∀ al, Dt g al H v dz) → Q v H) := by
  intro pins s σ H xs us Q I r h
  obtain ⟨i, j, dz, rfl, e, q⟩ := h
  cases o with
  | max => cases e; exact call_max2 G.calm pins s σ H _ _ Q I r ⟨i, j, rfl, q _ fun _ => .int _⟩
  | min => cases e; exact call_min2 G.calm pins s σ H _ _ Q I r ⟨i, j, rfl, q _ fun _ => .int _⟩
theorem s_b2 (G : XG g X) (o : B2) (hg : Gl X x) (hm : X.mg x = none) (hv : bootBuiltins x = some (.builtin (b2N o))) (hn : x ≠ "__name__") (hdb : (x == ("__debug__" : Str)) = false) (ha : PE X a (TR g W (RV g) ma)) (hb : PE X b (TR g W (RV g) mb)) (hs : noStar a = true) (hs' : noStar b = true) :
    PE X (.Call (.Name x p) [a, b] [] pos) (TR g W (RV g) fun r S => (ma r S).bnd fun x S => (mb r S).bnd fun y S => lift (b2D o x y) S) := by
  refine PE.imp (pe_callB (call_b2 G o) hg hm hv (pa_cons ha (pa_cons hb pa_nil (star_ok hs')) (star_ok hs)) hn hdb (star_ok hs) (star_plain (by simp [noStars, hs']))) ?_
  rintro σ H Q ⟨H0, al0, al, r, S, rs, h⟩
  refine ⟨H0, al0, al, r, S, rs, (h.bnd (R1 := RV g H)).imp ?_⟩
  rintro vx H1 ⟨al1, y, S1, rs1, k1, p1, b1, h⟩
  refine ⟨H0, al0, al1, r, S1, rs1, (h.bnd (R1 := RV g H1)).imp ?_⟩
  rintro vy H2 ⟨al2, z, S2, rs2, k2, p2, b2, h⟩
  obtain ⟨w, ew, hw⟩ := h.lift
  have e1 : ∃ i j, y = .int i ∧ z = .int j := by cases o <;> cases y <;> cases z <;> first | exact ⟨_, _, rfl, rfl⟩ | (cases ew; done)
  obtain ⟨i, j, rfl, rfl⟩ := e1
  cases b1
  cases b2
  exact ⟨i, j, w, rfl, ew, fun v hv => hw.here rs2 (hv _)⟩
/-- isinstance of one type, by its name -/
theorem s_is1 (G : XG g X) (t : Ty) {y : Str} {p2 : Pos} (hg : Gl X x) (hm : X.mg x = none) (hv : bootBuiltins x = some (.builtin "isinstance")) (hn : x ≠ "__name__") (hdb : (x == ("__debug__" : Str)) = false)
    (hg2 : Gl X y) (hm2 : X.mg y = none) (hv2 : bootBuiltins y = some (.type (tyN t))) (hn2 : y ≠ "__name__") (hd2 : (y == ("__debug__" : Str)) = false) (ha : PE X a (TR g W (RB g) ma)) (hs : noStar a = true) :
    PE X (.Call (.Name x p) [a, .Name y p2] [] pos) (TR g W (RV g) fun r S => (ma r S).bnd fun x S => (lift (isiD x [t]) S).bnd fun k S => .ok (.bl k) S) := by
  refine PE.imp (pe_callB (call_is1 G t) hg hm hv (pa_cons ha (pa_cons (pe_bltn (v := .ty (tyN t)) hg2 hm2 hv2 rfl hn2 hd2) pa_nil (star_ok rfl)) (star_ok hs)) hn hdb (star_ok hs) rfl) ?_
  rintro σ H Q ⟨H0, al0, al, r, S, rs, h⟩
  refine ⟨H0, al0, al, r, S, rs, (h.bnd (R1 := RB g H)).imp ?_⟩
  rintro vx H1 ⟨al1, y, S1, rs1, k1, p1, b1, h⟩
  cases e : isiD y [t] with
  | none => rw [e] at h; exact h.elim
  | some k =>
    rw [e] at h
    exact ⟨al1, vx, y, k, rfl, b1, e, h.here rs1 (.bl k)⟩
/-- isinstance of several types, by their names -/
structure TyArg (X : Cx) (e : Expr) (t : Ty) : Prop where
  ex : ∃ y p, e = .Name y p ∧ Gl X y ∧ X.mg y = none ∧ bootBuiltins y = some (.type (tyN t)) ∧ y ≠ "__name__" ∧ (y == ("__debug__" : Str)) = false
theorem TyArg.pe {e : Expr} {t : Ty} (h : TyArg X e t) : PE X e (tC (.ty (tyN t))) ∧ noStar e = true := by
  obtain ⟨y, p, rfl, hg, hm, hv, hn, hd⟩ := h.ex
  exact ⟨pe_bltn hg hm hv rfl hn hd, rfl⟩
theorem tys_pa : ∀ {es : List Expr} {ts : List Ty}, Paired (TyArg X) es ts → PA X es (fun σ H Q => Q (ts.map fun t => V.ty (tyN t)) H) ∧ noStars es = true
  | _, _, .nil => ⟨pa_nil, rfl⟩
  | _, _, .cons h t => by
    obtain ⟨h1, h2⟩ := h.pe
    obtain ⟨h3, h4⟩ := tys_pa t
    exact ⟨pa_cons h1 h3 (star_ok h2), by simp [noStars, h2, h4]⟩
theorem s_isTs (G : XG g X) {ts : List Ty} {es : List Expr} {x1 : Nat} {p2 : Pos} (hg : Gl X x) (hm : X.mg x = none) (hv : bootBuiltins x = some (.builtin "isinstance")) (hn : x ≠ "__name__") (hdb : (x == ("__debug__" : Str)) = false)
    (ht : Paired (TyArg X) es ts) (hl : ts.length ≤ sizeLine) (ha : PE X a (TR g W (RB g) ma)) (hs : noStar a = true) :
    PE X (.Call (.Name x p) [a, .Tuple es x1 p2] [] pos) (TR g W (RV g) fun r S => (ma r S).bnd fun x S => (lift (isiD x ts) S).bnd fun k S => .ok (.bl k) S) := by
  obtain ⟨h1, h2⟩ := tys_pa ht
  refine PE.imp (pe_callB (call_isN G ts) hg hm hv (pa_cons ha (pa_cons (pe_tup h1) pa_nil (star_ok rfl)) (star_ok hs)) hn hdb (star_ok hs) rfl) ?_
  rintro σ H Q ⟨H0, al0, al, r, S, rs, h⟩
  refine ⟨H0, al0, al, r, S, rs, (h.bnd (R1 := RB g H)).imp ?_⟩
  rintro vx H1 ⟨al1, y, S1, rs1, k1, p1, b1, h⟩
  cases e : isiD y ts with
  | none => rw [e] at h; exact h.elim
  | some k =>
    rw [e] at h
    refine ⟨by rw [List.length_map]; exact hl, fun q nq => ?_⟩
    exact ⟨al1, vx, y, k, q, rfl, upd_same, b1.mono (.of (same_new nq)) (List.prefix_refl _), e, h.new rs1 nq (.bl k)⟩
end

/-! ### items, parts, attributes, methods -/
def plainIx : Expr → Bool
  | .Slice _ _ _ _ => false
  | .Tuple _ _ _ => false
  | .Constant _ _ _ => true
  | .Name _ _ => true
  | .BinOp _ _ _ _ => true
  | .UnaryOp _ _ _ => true
  | .Call _ _ _ _ => true
  | .Subscript _ _ _ => true
  | .Attribute _ _ _ => true
  | .IfExp _ _ _ _ => true
  | _ => false
theorem plainIx_ok {e : Expr} (h : plainIx e = true) : ∀ o i, subscripted e false o i = operate [o, i] (getItem o i) := by
  cases e <;> first | (simp [plainIx] at h; done) | (intro o i; rfl)
end
end Pi

/-! Pi7b: items, parts, attributes, methods, displays of pairs, by data. -/
namespace Pi
open PySem L2 PySem.Spec PyProof.Rows
section
variable {g : GC} {al al' al0 : Al} {H H' H0 Hs : Hp} {S S' : Sto} {r : Rho} {σ : L2.St} {W : WX} {X : Cx} {Φ : Phi}
variable {a b c : Expr} {m ma mb mc : Rho → Sto → Out D} {pos p2 apos cpos : Pos}

/-- what is wanted behind two values in turn -/
theorem tr2 {R1 R2 R : RR D} {f : D → D → Sto → Out D} {Q : VK} (h : TR g W R (fun r S => (ma r S).bnd fun x S => (mb r S).bnd fun y S => f x y S) σ H Q) (stay : ∀ {al al' H H' v d}, Keep H H' → al <+: al' → R1 H0 al H v d → R1 H0 al' H' v d)
    (hR : ∀ H al' H' v d, R1 H al' H' v d ↔ R1 H0 al' H' v d) :
    TR g W R1 ma σ H fun vx H1 => TR g W R2 mb σ H1 fun vy H2 => ∃ H0 al0 al2 r x y S2, RS g H0 al0 r S2 al2 σ H2 ∧ R1 H al2 H2 vx x ∧ R2 H1 al2 H2 vy y ∧ Pst g W H0 al0 r σ al2 H2 (R H) (f x y S2) Q := by
  obtain ⟨K0, al0, al, r, S, rs, h⟩ := h
  refine ⟨K0, al0, al, r, S, rs, (h.bnd (R1 := R1 H)).imp ?_⟩
  rintro vx H1 ⟨al1, x, S1, rs1, k1, p1, b1, h⟩
  refine ⟨K0, al0, al1, r, S1, rs1, (h.bnd (R1 := R2 H1)).imp ?_⟩
  rintro vy H2 ⟨al2, y, S2, rs2, k2, p2, b2, h⟩
  exact ⟨K0, al0, al2, r, x, y, S2, rs2, (hR ..).mpr (stay k2 p2 ((hR ..).mp b1)), b2, h⟩
theorem tr2B {R2 R : RR D} {f : D → D → Sto → Out D} {Q : VK} (h : TR g W R (fun r S => (ma r S).bnd fun x S => (mb r S).bnd fun y S => f x y S) σ H Q) :
    TR g W (RB g) ma σ H fun vx H1 => TR g W R2 mb σ H1 fun vy H2 => ∃ H0 al0 al2 r x y S2, RS g H0 al0 r S2 al2 σ H2 ∧ Bt g al2 H2 vx x ∧ R2 H1 al2 H2 vy y ∧ Pst g W H0 al0 r σ al2 H2 (R H) (f x y S2) Q :=
  tr2 (R1 := RB g) (H0 := H) h (fun k p q => Bt.mono k p q) fun _ _ _ _ _ => Iff.rfl

/-! ### items -/
def rDic (g : GC) : R2 := fun x y H Q => ∃ al kvs k dz, Bt g al H x (.dic kvs) ∧ y = .str k ∧ dget kvs k = some dz ∧ ∀ v, Dt g al H v dz → Q v H
theorem dget_of {kvs : List (Str × D)} {x : V} (b : Bt g al H x (.dic kvs)) (k : Str) : ∃ p, x = .ref p ∧ IsD H p ∧ ((dget kvs k = none ∧ DGet H p (.str k) none) ∨ ∃ v d, dget kvs k = some d ∧ DGet H p (.str k) (some v) ∧ Dt g al H v d) := by
  obtain ⟨p, vs, rfl, q1, l⟩ := b.dic
  refine ⟨p, rfl, .inl ⟨vs, q1⟩, ?_⟩
  rcases l.val k with ⟨e1, e2⟩ | ⟨v, d, e1, e2, dv⟩
  · exact .inl ⟨e1, .inl ⟨vs, .inr k, q1, rfl, e2.symm⟩⟩
  · exact .inr ⟨v, d, e1, .inl ⟨vs, .inr k, q1, rfl, e2.symm⟩, dv⟩
theorem ix_dictQ (G : XG g X) : IxR X (rDic g) := by
  intro value slice pins s σ H x y v u Q I rx ry h hs
  obtain ⟨al, kvs, k, dz, bx, rfl, e, q⟩ := h
  obtain ⟨p, rfl, hd, h⟩ := dget_of bx k
  rcases h with ⟨e2, _⟩ | ⟨w, d, e2, dg, dw⟩
  · rw [e2] at e; cases e
  · rw [e2] at e; cases e
    obtain rfl : v = Value.ref p := rx
    exact tail_any (dict_typeIs I dg) slot_dict_getitem.lookup (d_getItem (by have := G.room; omega) I dg ry fun w' s3 I3 rw' => ⟨w, H, I3, rw', q w dw⟩) hs
theorem s_sub (G : XG g X) (ha : PE X a (TR g W (RB g) ma)) (hb : PE X b (TR g W (RV g) mb)) (hs : plainIx b = true) :
    PE X (.Subscript a b pos) (TR g W (RV g) fun r S => (ma r S).bnd fun x S => (mb r S).bnd fun y S => lift (subD x y) S) := by
  refine PE.imp (pe_ix (IxR.or (ix_seqQ G) (ix_dictQ G)) ha hb (plainIx_ok hs)) ?_
  rintro σ H Q h
  obtain ⟨K0, al0, al, r, S, rs, h⟩ := tr2B (R2 := RV g) h
  refine ⟨K0, al0, al, r, S, rs, h.imp ?_⟩
  rintro vx H1 ⟨K0, al0, al, r, S, rs, h⟩
  refine ⟨K0, al0, al, r, S, rs, h.imp ?_⟩
  rintro vy H2 ⟨K0, al0, al2, r, x, y, S2, rs2, b1, b2, h⟩
  obtain ⟨dz, e, h⟩ := h.lift
  have fin : ∀ v, Dt g al2 H2 v dz → Q v H2 := fun v dv => h.here rs2 dv
  cases y with
  | int i =>
    cases b2
    exact .inl ⟨al2, x, i, dz, b1, rfl, e, fin⟩
  | str k =>
    cases b2
    cases x with
    | dic kvs => exact .inr ⟨al2, kvs, k, dz, b1, rfl, e, fin⟩
    | _ => cases e
  | _ => cases x <;> cases e

/-! ### parts -/
def TOp (g : GC) (W : WX) (m : Rho → Sto → Out D) : TO := fun σ H Q =>
  ∃ H0 al0 al r S, RS g H0 al0 r S al σ H ∧ Pst g W H0 al0 r σ al H (fun _ _ (o : Option Int) d => d = optD o) (m r S) Q
theorem PO.imp {e : Option Expr} {t t' : TO} (h : PO X e t) (i : ∀ σ H Q, t' σ H Q → t σ H Q) : PO X e t' := ⟨fun pins s σ H Q I q => h.run pins s σ H Q I (i σ H Q q)⟩
theorem o_none : PO X none (TOp g W fun _ S => .ok .non S) := by
  refine PO.imp po_none ?_
  rintro σ H Q ⟨H0, al0, al, r, S, rs, h⟩
  exact h.here rs rfl
theorem o_some (ha : PE X a (TR g W (RV g) ma)) : PO X (some a) (TOp g W fun r S => intO (ma r S)) := by
  refine PO.imp (po_some ha) ?_
  rintro σ H Q ⟨H0, al0, al, r, S, rs, h⟩
  refine ⟨H0, al0, al, r, S, rs, (h.bnd (R1 := RV g H)).imp ?_⟩
  rintro vx H1 ⟨al1, x, S1, rs1, k1, p1, b1, h⟩
  cases x <;> try exact h.elim
  cases b1
  exact ⟨_, rfl, h.here rs1 rfl⟩
variable {lo hi : Option Expr}
theorem s_slice (G : XG g X) (ha : PE X a (TR g W (RB g) ma)) (hb : PO X lo (TOp g W mb)) (hc : PO X hi (TOp g W mc)) :
    PE X (.Subscript a (.Slice lo hi none p2) pos) (TR g W (RF g) fun r S => (ma r S).bnd fun x S => (mb r S).bnd fun i S => (mc r S).bnd fun j S => lift (sliceD x i j) S) := by
  refine PE.imp (pe_slice (sl_Q G) ha hb hc) ?_
  rintro σ H Q ⟨H0, al0, al, r, S, rs, h⟩
  refine ⟨H0, al0, al, r, S, rs, (h.bnd (R1 := RB g H)).imp ?_⟩
  rintro vx H1 ⟨al1, x, S1, rs1, k1, p1, b1, h⟩
  refine ⟨H0, al0, al1, r, S1, rs1, (h.bnd (R1 := fun _ _ (o : Option Int) d => d = optD o)).imp ?_⟩
  rintro o1 H2 ⟨al2, i, S2, rs2, k2, p2, rfl, h⟩
  refine ⟨H0, al0, al2, r, S2, rs2, (h.bnd (R1 := fun _ _ (o : Option Int) d => d = optD o)).imp ?_⟩
  rintro o2 H3 ⟨al3, j, S3, rs3, k3, p3, rfl, h⟩
  obtain ⟨dz, e, h⟩ := h.lift
  exact ⟨al3, x, dz, (Bt.mono k2 p2 b1).mono k3 p3, e, h.res rs3 ((k1.trans k2).trans k3)⟩

/-! ### attributes -/
def AtI (g : GC) (f : Str) : Prop := ∀ c, Cls g.K (g.ca c) ∧ NoAttr g.K (g.ca c) f
theorem s_attr {f : Str} (G : XG g X) (A : AtI g f) (ha : PE X a (TR g W (RV g) ma)) (hb : attributeBase a f X.env (eval a X.env) = eval a X.env) :
    PE X (.Attribute a f pos) (TR g W (RV g) fun r S => (ma r S).bnd fun x S => match x with
      | .obj i => lift (S[i]?.bind fun o => dget o.fs f) S
      | _ => .bad) := by
  refine PE.imp (pe_fld ha hb) ?_
  rintro σ H Q ⟨H0, al0, al, r, S, rs, h⟩
  refine ⟨H0, al0, al, r, S, rs, (h.bnd (R1 := RV g H)).imp ?_⟩
  rintro vx H1 ⟨al1, x, S1, rs1, k1, p1, b1, h⟩
  cases x <;> try exact h.elim
  rename_i i
  obtain ⟨d, e, h⟩ := h.lift
  cases b1 with
  | @obj _ y dy ea =>
    cases es : S1[i]? with
    | none => rw [es] at e; cases e
    | some o =>
      rw [es] at e
      obtain ⟨fs, q, fo⟩ := rs1.sto.ins i y dy o ea es
      obtain ⟨v, ev, dv⟩ := fo.get e
      obtain ⟨A1, A2⟩ := A o.cls
      have hK := G.hK
      exact ⟨y, g.ca o.cls, dy, fs, v, rfl, q, hK ▸ A1, hK ▸ A2, ev, h.here rs1 dv⟩

/-! ### methods -/
theorem s_get1 (G : XG g X) (ha : PE X a (TR g W (RB g) ma)) (hb : PE X b (TR g W (RV g) mb)) (m : M1 X a "get" apos b cpos) :
    PE X (.Call (.Attribute a "get" apos) [b] [] cpos) (TR g W (RV g) fun r S => (ma r S).bnd fun x S => match x with
      | .dic kvs => (mb r S).bnd fun y S => match y with | .str k => .ok ((dget kvs k).getD .non) S | _ => .bad
      | _ => .bad) := by
  refine PE.imp (pe_dget1 (by have := G.room; omega) ha hb m) ?_
  rintro σ H Q ⟨H0, al0, al, r, S, rs, h⟩
  refine ⟨H0, al0, al, r, S, rs, (h.bnd (R1 := RB g H)).imp ?_⟩
  rintro vx H1 ⟨al1, x, S1, rs1, k1, p1, b1, h⟩
  cases x <;> try exact h.elim
  rename_i kvs
  obtain ⟨p, rfl, hd, _⟩ := dget_of b1 "x"
  refine ⟨p, rfl, hd, H0, al0, al1, r, S1, rs1, (Pst.bnd (R1 := RV g H1) h).imp ?_⟩
  rintro vy H2 ⟨al2, y, S2, rs2, k2, p2, b2, h⟩
  cases y <;> try exact h.elim
  rename_i k
  cases b2
  obtain ⟨p', e', hd', hg⟩ := dget_of (Bt.mono k2 p2 b1) k
  cases e'
  rcases hg with ⟨e, q⟩ | ⟨v, d, e, q, dv⟩
  · exact ⟨none, q, h.here rs2 (by rw [e]; exact .non)⟩
  · exact ⟨some v, q, h.here rs2 (by rw [e]; exact dv)⟩
theorem s_get2 (G : XG g X) (ha : PE X a (TR g W (RB g) ma)) (hb : PE X b (TR g W (RV g) mb)) (hc : PE X c (TR g W (RV g) mc)) (m : M2 X a "get" apos b c cpos) :
    PE X (.Call (.Attribute a "get" apos) [b, c] [] cpos) (TR g W (RV g) fun r S => (ma r S).bnd fun x S => match x with
      | .dic kvs => (mb r S).bnd fun y S => (mc r S).bnd fun z S => match y with | .str k => .ok ((dget kvs k).getD z) S | _ => .bad
      | _ => .bad) := by
  refine PE.imp (pe_dget2 (by have := G.room; omega) ha hb hc m) ?_
  rintro σ H Q ⟨H0, al0, al, r, S, rs, h⟩
  refine ⟨H0, al0, al, r, S, rs, (h.bnd (R1 := RB g H)).imp ?_⟩
  rintro vx H1 ⟨al1, x, S1, rs1, k1, p1, b1, h⟩
  cases x <;> try exact h.elim
  rename_i kvs
  obtain ⟨p, rfl, hd, _⟩ := dget_of b1 "x"
  refine ⟨p, rfl, hd, H0, al0, al1, r, S1, rs1, (Pst.bnd (R1 := RV g H1) h).imp ?_⟩
  rintro vy H2 ⟨al2, y, S2, rs2, k2, p2, b2, h⟩
  have hy : mc r S2 ≠ .bad := fun e => by rw [e] at h; exact h
  refine ⟨H0, al0, al2, r, S2, rs2, (Pst.bnd (R1 := RV g H2) h).imp ?_⟩
  rintro vz H3 ⟨al3, z, S3, rs3, k3, p3, b3, h⟩
  cases y <;> try exact h.elim
  rename_i k h'
  cases b2
  obtain ⟨p', e', hd', hg⟩ := dget_of ((Bt.mono k2 p2 b1).mono k3 p3) k
  cases e'
  rcases hg with ⟨e, q⟩ | ⟨v, d, e, q, dv⟩
  · exact ⟨none, q, h.here rs3 (by rw [e]; exact b3)⟩
  · exact ⟨some v, q, h.here rs3 (by rw [e]; exact dv)⟩
/-- joined texts -/
theorem strs_of {H : Hp} {al : Al} : ∀ {vs : List V} {ds : List D} {ys : List Str}, DtL g al H vs ds → strsD ds = some ys → vs = ys.map V.str
  | _, _, _, .nil, e => by cases e; rfl
  | _, _, _, .cons (d := d) h t, e => by
    cases d <;> try (cases e; done)
    rename_i x
    cases h
    simp only [strsD, Option.map_eq_some_iff] at e
    obtain ⟨zs, e, rfl⟩ := e
    rw [strs_of t e]
    rfl
theorem s_join {x : Str} {j p3} (G : XG g X) (ha : PE X a (TR g W (RB g) ma)) (hs : noStar a = true) (hbase : attributeBase (.Constant (.str x) j p3) "join" X.env (eval (.Constant (.str x) j p3) X.env) = eval (.Constant (.str x) j p3) X.env)
    (hfew : ((backTo cpos (starEach [a] X.env)).all (fun x => !x.1) && (backToKw cpos (keywordEach [] X.env)).all (fun x => x.1.isSome)
      && decide (([a] : List Expr).length + ([] : List Keyword).length + (if ([] : List Keyword).isEmpty then 0 else 1) < 30)) = true)
    (hline : (apos.endLine == cpos.line) = true) :
    PE X (.Call (.Attribute (.Constant (.str x) j p3) "join" apos) [a] [] cpos) (TR g W (RV g) fun r S => (ma r S).bnd fun y S => lift (joinD x y) S) := by
  refine PE.imp (pe_bm PySem.F.plainAttrs_str PySem.F.slot_str_join PySem.F.type_str_join mt_join pe_str (pa_cons ha pa_nil (star_ok hs)) hbase hfew hline (star_ok hs) rfl) ?_
  rintro σ H Q ⟨H0, al0, al, r, S, rs, h⟩
  refine ⟨rfl, H0, al0, al, r, S, rs, (h.bnd (R1 := RB g H)).imp ?_⟩
  rintro vx H1 ⟨al1, y, S1, rs1, k1, p1, b1, h⟩
  obtain ⟨dz, e, h⟩ := h.lift
  cases y <;> try (cases e; done)
  rename_i ds
  simp only [joinD, Option.bind_eq_some_iff] at e
  obtain ⟨ys, e1, e2⟩ := e
  split at e2
  · rename_i hz
    cases e2
    obtain ⟨p, vs, rfl, q1, l⟩ := b1.lst
    have hK := G.hK
    refine ⟨x, p, ys, rfl, rfl, .inl ?_, hz, h.here rs1 (.str _)⟩
    rw [← strs_of l e1, ← hK]
    exact q1
  · cases e2

/-! ### displays of pairs -/
/-- one step, then the rest, seen from an earlier place -/
theorem Pst.bndAt {α γ β δ : Type} {R : Al → Hp → β → α → Prop} {R1 : Al → Hp → δ → γ → Prop} {Q : β → Hp → Prop} {o : Out γ} {k : γ → Sto → Out α} {als : Al} (h : Pst g W H0 al0 r σ als Hs R (o.bnd k) Q) :
    Pst g W H0 al0 r σ al H R1 o fun (v : δ) H1 => ∃ al1 x S1, RS g H0 al0 r S1 al1 σ H1 ∧ Keep H H1 ∧ al <+: al1 ∧ R1 al1 H1 v x ∧ Pst g W H0 al0 r σ als Hs R (k x S1) Q := by
  cases o with
  | bad => exact h
  | exc c S' => exact fun H' al' rs => h H' al' rs
  | ok x S' => exact fun H1 al1 v rs kp pr q => ⟨al1, x, S', rs, kp, pr, q, h⟩
def dmD : List ((Rho → Sto → Out D) × (Rho → Sto → Out D)) → Rho → List (Str × D) → Sto → Out D
  | [], _, acc, S => .ok (.dic acc) S
  | m :: ms, r, acc, S => (m.1 r S).bnd fun y S => (m.2 r S).bnd fun z S => match y with
      | .str y => dmD ms r (dput acc y z) S
      | _ => .bad
theorem dct_of {Hs : Hp} {p : Addr} {als : Al} {Q : VK} (n : Hs p = none) (h0 : H0 p = none) (no : ¬ OwnAt r σ p) : ∀ (ms : List ((Rho → Sto → Out D) × (Rho → Sto → Out D))) {al : Al} {H : Hp} {S : Sto} {acc : List (Str × D)} {accV : List (Key × V)} {P : List (V × V) → Hp → Prop}, DtK g al H accV acc → RS g H0 al0 r S al σ H → Keep Hs H →
    als <+: al → H p = some (.dK []) → Pst g W H0 al0 r σ als Hs (RF g Hs) (dmD ms r acc S) Q →
    (∀ H2 (kvs : List (Key × V)), H2 p = some (.dK []) → kvs.length = ms.length → Q (.ref p) (upd H2 p (.dK (mergeK accV kvs))) → P (kvs.map (fun kv => (kV kv.1, kv.2))) H2) →
    tPairs (ms.map fun m => (TR g W (RV g) m.1, TR g W (RV g) m.2)) σ H P
  | [], al, H, S, acc, accV, P, l, rs, kp, pr, hp, h, fin => by
    have lo := loose_dK hp
    exact fin H [] hp rfl (h (upd H p (.dK accV)) al (.ref p) (rs.free lo (fun _ _ _ z => by rw [hp] at z; cases z) h0 no) (kp.mut n) pr ⟨p, accV, rfl, n, upd_same, l.loose lo⟩)
  | m :: ms, al, H, S, acc, accV, P, l, rs, kp, pr, hp, h, fin => by
    refine ⟨H0, al0, al, r, S, rs, (Pst.bndAt (R1 := RV g H) h).imp ?_⟩
    rintro x H1 ⟨al1, y, S1, rs1, k1, p1, b1, h⟩
    refine ⟨H0, al0, al1, r, S1, rs1, (Pst.bndAt (R1 := RV g H1) h).imp ?_⟩
    rintro v H2 ⟨al2, z, S2, rs2, k2, p2, b2, h⟩
    cases y <;> try exact h.elim
    rename_i y h'
    cases b1
    have hp2 : H2 p = some (.dK []) := k2.k _ _ (k1.k _ _ hp (fun _ _ _ z => nomatch z)) (fun _ _ _ z => nomatch z)
    have l2 : DtK g al2 H2 (putK accV (.inr y) v) (dput acc y z) := ((l.mono k1 p1).mono k2 p2).put b2
    refine dct_of n h0 no ms l2 rs2 ((kp.trans k1).trans k2) ((pr.trans p1).trans p2) hp2 h ?_
    intro H3 kvs e1 e2 q
    exact fin H3 ((.inr y, v) :: kvs) e1 (by rw [List.length_cons, List.length_cons, e2]) q
theorem RS.not_own (rs : RS g H0 al0 r S al σ H) {p : Addr} (n : H p = none) : ¬ OwnAt r σ p := fun o => by
  rcases rs.own_some o with ⟨_, z⟩ | ⟨_, z⟩ <;> (rw [n] at z; cases z)
theorem s_dct {keys : List (Option Expr)} {values : List Expr} {ms : List ((Rho → Sto → Out D) × (Rho → Sto → Out D))} (h : PPs X pos keys values (ms.map fun m => (TR g W (RV g) m.1, TR g W (RV g) m.2))) (hall : keys.all (·.isSome) = true) (hl : keys.length = values.length) (hlm : ms.length = keys.length)
    (h0 : keys ≠ []) (h15 : keys.length ≤ 15) : PE X (.Dict keys values pos) (TR g W (RF g) fun r S => dmD ms r [] S) := by
  refine PE.imp (pe_disp h hall hl h0 h15) ?_
  rintro σ H Q ⟨H0, al0, al, r, S, rs, h⟩
  intro p n
  refine dct_of (als := al) n (rs.keep.back n) (rs.not_own n) ms .nil (rs.new n) (.of (same_new n)) (List.prefix_refl _) upd_same h ?_
  intro H2 kvs e1 e2 q
  exact ⟨e1, kvs, rfl, by rw [e2, hlm]; exact h15, q⟩
end
end Pi

/-! Pi7c: targets, what is walked, comprehensions, by data. -/
namespace Pi
open PySem L2 PySem.Spec PyProof.Rows
section
variable {g : GC} {al al' al0 als : Al} {H H' H0 Hs : Hp} {S S' : Sto} {r r' : Rho} {σ σ' : L2.St} {W : WX} {X : Cx} {Φ : Phi}
variable {a b c : Expr} {m ma mb mc : Rho → Sto → Out D} {pos p2 apos cpos : Pos}

/-! ### a name's place -/
/-- a name gets a datum -/
theorem RS.setV {i : Nat} {v : V} {d : D} (rs : RS g H0 al0 r S al σ H) (h : Dt g al H v d) : RS g H0 al0 (r.set i (some (.v d))) S al (σ.set i (some v)) H := by
  refine ⟨rs.keep, rs.pre, rs.sto, by rw [List.length_set, List.length_set, rs.len], fun j s e => ?_, fun j j' s t x ne e e' w w' q => ?_⟩
  · by_cases hj : j = i
    · subst hj
      have hl : j < r.length := by
        have := (List.getElem?_eq_some_iff.mp e).1
        rwa [List.length_set] at this
      rw [List.getElem?_set_self hl] at e
      cases e
      exact ⟨v, List.getElem?_set_self (by rw [rs.len]; exact hl), h⟩
    · rw [List.getElem?_set_ne (Ne.symm hj)] at e
      obtain ⟨x, ex, k⟩ := rs.sl j s e
      exact ⟨x, by rw [List.getElem?_set_ne (Ne.symm hj)]; exact ex, k⟩
  · have no : ∀ (j : Nat) (s : Sl), (r.set i (some (.v d)))[j]? = some (some s) → s.own = true → j ≠ i := fun j s e w z => by
      subst z
      have hl : j < r.length := by
        have := (List.getElem?_eq_some_iff.mp e).1
        rwa [List.length_set] at this
      rw [List.getElem?_set_self hl] at e
      cases e
      cases w
    have n1 := no j s e w
    have n2 := no j' t e' w'
    rw [List.getElem?_set_ne (Ne.symm n1)] at e q
    rw [List.getElem?_set_ne (Ne.symm n2)] at e' ⊢
    exact rs.nd j j' s t x ne e e' w w' q
/-- a name is forgotten -/
theorem RS.setN {i : Nat} (rs : RS g H0 al0 r S al σ H) : RS g H0 al0 (r.set i none) S al (σ.set i none) H := by
  have no : ∀ (j : Nat) (s : Sl), (r.set i none)[j]? = some (some s) → j ≠ i := fun j s e z => by
    subst z
    have hl : j < r.length := by
      have := (List.getElem?_eq_some_iff.mp e).1
      rwa [List.length_set] at this
    rw [List.getElem?_set_self hl] at e
    cases e
  refine ⟨rs.keep, rs.pre, rs.sto, by rw [List.length_set, List.length_set, rs.len], fun j s e => ?_, fun j j' s t x ne e e' w w' q => ?_⟩
  · have hj := no j s e
    rw [List.getElem?_set_ne (Ne.symm hj)] at e
    obtain ⟨x, ex, k⟩ := rs.sl j s e
    exact ⟨x, by rw [List.getElem?_set_ne (Ne.symm hj)]; exact ex, k⟩
  · have n1 := no j s e
    have n2 := no j' t e'
    rw [List.getElem?_set_ne (Ne.symm n1)] at e q
    rw [List.getElem?_set_ne (Ne.symm n2)] at e' ⊢
    exact rs.nd j j' s t x ne e e' w w' q
theorem RS.wipe (rs : RS g H0 al0 r S al σ H) : ∀ vs : List Nat, RS g H0 al0 (wipeR r vs) S al (wipe σ vs) H
  | [] => rs
  | v :: vs => by
    unfold wipeR L2.wipe
    exact (RS.wipe rs vs).setN

/-! ### targets -/
def Tg.ids : Tg → List Nat
  | .nm i => [i]
  | .tup is => is
  | .kv i is => i :: is
/-- the places without is stand -/
def Off (is : List Nat) (σ σ' : L2.St) : Prop := σ'.length = σ.length ∧ ∀ j, j ∉ is → σ'[j]? = σ[j]?
def TGd (g : GC) (t : Tg) : TG := fun v σ H Q => ∃ H0 al0 al r S d r', RS g H0 al0 r S al σ H ∧ Dt g al H v d ∧ bindT t d r = some r' ∧ ∀ σ', RS g H0 al0 r' S al σ' H → Off t.ids σ σ' → Q σ' H
theorem PG.imp {e : Expr} {t t' : TG} (h : PG X e t) (i : ∀ v σ H Q, t' v σ H Q → t v σ H Q) : PG X e t' := ⟨fun pins s σ H v u Q I rv q => h.run pins s σ H v u Q I rv (i v σ H Q q)⟩
theorem PGs.imp {e : List Expr} {t t' : TGs} (h : PGs X e t) (i : ∀ v σ H Q, t' v σ H Q → t v σ H Q) : PGs X e t' := ⟨fun pins s σ H v u Q I rv q => h.run pins s σ H v u Q I rv (i v σ H Q q)⟩
theorem off_set {i : Nat} {o : Option V} : Off [i] σ (σ.set i o) := ⟨List.length_set .., fun j h => List.getElem?_set_ne (by intro z; subst z; simp at h)⟩
theorem Off.trans {is js : List Nat} {σ1 σ2 σ3 : L2.St} (h : Off is σ1 σ2) (k : Off js σ2 σ3) : Off (is ++ js) σ1 σ3 := ⟨k.1.trans h.1, fun j hj => by
  rw [List.mem_append] at hj
  rw [k.2 j fun z => hj (.inr z), h.2 j fun z => hj (.inl z)]⟩
theorem g_nm (G : XG g X) {i : Nat} {x : Str} (hi : X.N[i]? = some x) (hx : Loc X.env.scope x) (hf : X.fn x = true ∨ X.env.scope.names.lookup x = some .local) : PG X (.Name x pos) (TGd g (.nm i)) := by
  refine PG.imp (pg_name G.nd hi hx hf) ?_
  rintro v σ H Q ⟨H0, al0, al, r, S, d, r', rs, dt, e, q⟩
  simp only [bindT] at e
  split at e
  · cases e
    exact q _ (rs.setV dt) off_set
  · cases e
/-- names that are bound -/
structure NmOk (X : Cx) (e : Expr) (i : Nat) : Prop where
  ex : ∃ x p, e = .Name x p ∧ X.N[i]? = some x ∧ Loc X.env.scope x ∧ (X.fn x = true ∨ X.env.scope.names.lookup x = some .local)
def TGsd (g : GC) (is : List Nat) : TGs := fun vs σ H Q => ∃ H0 al0 al r S ds r', RS g H0 al0 r S al σ H ∧ DtL g al H vs ds ∧ bindV is ds r = some r' ∧ ∀ σ', RS g H0 al0 r' S al σ' H → Off is σ σ' → Q σ' H
theorem gs_nms (G : XG g X) : ∀ {es : List Expr} {is : List Nat}, Paired (NmOk X) es is → PGs X es (TGsd g is) ∧ (assignEach es X.env).length = is.length ∧ (assignEach es X.env).findIdx? (·.1) = none
  | _, _, .nil => by
    refine ⟨PGs.imp pgs_nil ?_, rfl, rfl⟩
    rintro v σ H Q ⟨H0, al0, al, r, S, ds, r', rs, dt, e, q⟩
    cases ds with
    | nil =>
      cases dt
      cases e
      exact ⟨rfl, q σ rs ⟨rfl, fun _ _ => rfl⟩⟩
    | cons => cases e
  | _ :: es, i :: is, .cons h t => by
    obtain ⟨h1, h2, h3⟩ := gs_nms G t
    obtain ⟨x, p, rfl, hi, hx, hf⟩ := h.ex
    refine ⟨PGs.imp (pgs_cons (g_nm G hi hx hf) h1 rfl) ?_, by simpa [assignEach] using h2, by simpa [assignEach, List.findIdx?_cons] using h3⟩
    rintro v σ H Q ⟨H0, al0, al, r, S, ds, r', rs, dt, e, q⟩
    cases ds with
    | nil => cases e
    | cons d ds =>
      cases dt with
      | cons dv dt =>
        simp only [bindV] at e
        split at e
        · rename_i hl
          refine ⟨_, _, rfl, H0, al0, al, r, S, d, _, rs, dv, by simp only [bindT]; rw [if_pos hl], fun σ1 rs1 o1 => ⟨H0, al0, al, _, S, ds, r', rs1, dt, e, fun σ2 rs2 o2 => q σ2 rs2 (o1.trans o2)⟩⟩
        · cases e
theorem g_tup (G : XG g X) {es : List Expr} {is : List Nat} {k : Nat} (h : Paired (NmOk X) es is) : PG X (.Tuple es k pos) (TGd g (.tup is)) := by
  obtain ⟨h1, h2, h3⟩ := gs_nms G h
  refine PG.imp (pg_tup G.calm h1 h2 h3) ?_
  rintro v σ H Q ⟨H0, al0, al, r, S, d, r', rs, dt, e, q⟩
  cases d <;> try (cases e; done)
  rename_i ds
  cases dt with
  | @tup p vs _ sq l =>
    have hK := G.hK
    have hlen : ∀ (is : List Nat) (ds : List D) (r : Rho) (r' : Rho), bindV is ds r = some r' → is.length = ds.length := by
      intro is
      induction is with
      | nil => intro ds r r' e; cases ds <;> first | rfl | cases e
      | cons i is ih =>
        intro ds r r' e
        cases ds with
        | nil => cases e
        | cons d ds =>
          simp only [bindV] at e
          split at e
          · rw [List.length_cons, List.length_cons, ih _ _ _ e]
          · cases e
    exact ⟨p, vs, rfl, hK ▸ sq, by rw [l.length]; exact (hlen is ds r r' e).symm, H0, al0, al, r, S, ds, r', rs, l, e, q⟩

/-- a name, and names within -/
theorem g_kv (G : XG g X) {i : Nat} {x : Str} {px p2 : Pos} {es : List Expr} {is : List Nat} {k k2 : Nat} (hi : X.N[i]? = some x) (hx : Loc X.env.scope x) (hf : X.fn x = true ∨ X.env.scope.names.lookup x = some .local) (h : Paired (NmOk X) es is) : PG X (.Tuple [.Name x px, .Tuple es k2 p2] k pos) (TGd g (.kv i is)) := by
  refine PG.imp (pg_tup G.calm (pgs_cons (g_nm G hi hx hf) (pgs_cons (g_tup G h) pgs_nil rfl) rfl) rfl rfl) ?_
  rintro v σ H Q ⟨H0, al0, al, r, S, d, r', rs, dt, e, q⟩
  unfold bindT at e
  split at e
  · rename_i h1; cases h1
  · rename_i h1; cases h1
  · rename_i h1
    cases h1
    split at e
    · rename_i a ds
      split at e
      · rename_i hl
        cases dt with
        | @tup p vs _ sq l =>
          cases l with
          | cons da l =>
            cases l with
            | cons db l =>
              cases l
              have hK := G.hK
              refine ⟨p, _, rfl, hK ▸ sq, rfl, _, _, rfl, H0, al0, al, r, S, a, _, rs, da, by simp only [bindT]; rw [if_pos hl], fun σ1 rs1 o1 => ⟨_, _, rfl, H0, al0, al, _, S, .tup ds, r', rs1, db, by simp only [bindT]; exact e, fun σ2 rs2 o2 => ⟨rfl, q σ2 rs2 (o1.trans o2)⟩⟩⟩
      · cases e
    · cases e
/-! ### what is walked -/
/-- J yields ds, whatever is reckoned meanwhile -/
def Yl (g : GC) (als : Al) (Hs : Hp) (J : L2.It) (ds : List D) : Prop :=
  ∀ i H al, KeepZ Hs H → als <+: al → (∀ d, ds[i]? = some d → J.go i H ∧ ∀ x H', J.yld i H x H' → L2.Same H H' ∧ Dt g al H' x d) ∧ (ds.length ≤ i → J.stop i H)
def TIt (g : GC) (W : WX) (mi : Rho → Sto → Out (List D)) : TI := fun σ H R =>
  ∃ H0 al0 al r S, RS g H0 al0 r S al σ H ∧ Pst g W H0 al0 r σ al H (fun al H (J : L2.It) ds => Yl g al H J ds) (mi r S) R
theorem PI.imp {tg e : Expr} {t t' : TI} (h : PI X tg e t) (i : ∀ σ H Q, t' σ H Q → t σ H Q) : PI X tg e t' := ⟨fun pins s σ H Q I q => h.run pins s σ H Q I (i σ H Q q)⟩
theorem yl_lst {K : PySem.W.Frag} {p : Addr} {vs : List V} {ds : List D} (hK : g.K = K) (q : LsF g.K H p vs) (l : DtL g al H vs ds) : Yl g al H (Itl K p) ds := by
  subst hK
  intro i H1 al1 k pr
  have q1 : SqL g.K H1 p vs := (lsF_keepZ k q).sq
  have l1 := l.monoZ k pr
  refine ⟨fun d e => ?_, fun hl => ⟨vs, q1, by rw [l.length]; exact hl⟩⟩
  obtain ⟨v, ev, dv⟩ := l1.get e
  refine ⟨⟨vs, v, q1, ev⟩, ?_⟩
  rintro x H' ⟨rfl, hx⟩
  have := hx vs q1
  rw [ev] at this
  cases this
  exact ⟨fun _ _ z => z, dv⟩
theorem yl_tup {K : PySem.W.Frag} {p : Addr} {vs : List V} {ds : List D} (hK : g.K = K) (q : SqT g.K H p vs) (l : DtL g al H vs ds) : Yl g al H (Itt K p) ds := by
  subst hK
  intro i H1 al1 k pr
  have q1 : SqT g.K H1 p vs := sqT_keepZ k q
  have l1 := l.monoZ k pr
  refine ⟨fun d e => ?_, fun hl => ⟨vs, q1, by rw [l.length]; exact hl⟩⟩
  obtain ⟨v, ev, dv⟩ := l1.get e
  refine ⟨⟨vs, v, q1, ev⟩, ?_⟩
  rintro x H' ⟨rfl, hx⟩
  have := hx vs q1
  rw [ev] at this
  cases this
  exact ⟨fun _ _ z => z, dv⟩

theorem yl_keys {p : Addr} {o : Obj} {kvs : List (Key × V)} {rs : List (Str × D)} (q : H p = some (.frz o (.dK kvs))) (l : DtK g al H kvs rs) : Yl g al H (Itk p o kvs) (keysD rs) := by
  intro i H1 al1 k pr
  have q1 : H1 p = some (.frz o (.dK kvs)) := k.z _ _ _ q
  have l1 := l.monoZ k pr
  have hlen : (keysD rs).length = kvs.length := by rw [keysD, List.length_map, l.length]
  refine ⟨fun d e => ?_, fun hl => ⟨q1, by rw [← hlen]; exact hl⟩⟩
  have hi : i < kvs.length := by rw [← hlen]; exact (List.getElem?_eq_some_iff.mp e).1
  refine ⟨⟨q1, hi⟩, ?_⟩
  rintro x H' ⟨rfl, k, v, e1, rfl⟩
  obtain ⟨y, dv, rfl, e2, _⟩ := l1.getI e1
  simp only [keysD, List.getElem?_map, e2, Option.map_some, Option.some.injEq] at e
  subst e
  exact ⟨fun _ _ z => z, .str _⟩
theorem yl_vals {p : Addr} {o : Obj} {kvs : List (Key × V)} {rs : List (Str × D)} (q : H p = some (.frz o (.dK kvs))) (l : DtK g al H kvs rs) : Yl g al H (Itd p o kvs) (rs.map (·.2)) := by
  intro i H1 al1 k pr
  have q1 : H1 p = some (.frz o (.dK kvs)) := k.z _ _ _ q
  have l1 := l.monoZ k pr
  have hlen : (rs.map (·.2)).length = kvs.length := by rw [List.length_map, l.length]
  refine ⟨fun d e => ?_, fun hl => ⟨q1, by rw [← hlen]; exact hl⟩⟩
  have hi : i < kvs.length := by rw [← hlen]; exact (List.getElem?_eq_some_iff.mp e).1
  refine ⟨⟨q1, hi⟩, ?_⟩
  rintro x H' ⟨rfl, k, e1⟩
  obtain ⟨y, dv, rfl, e2, dd⟩ := l1.getI e1
  simp only [List.getElem?_map, e2, Option.map_some, Option.some.injEq] at e
  subst e
  exact ⟨fun _ _ z => z, dd⟩
theorem yl_items {p : Addr} {o : Obj} {kvs : List (Key × V)} {rs : List (Str × D)} (q : H p = some (.frz o (.dK kvs))) (l : DtK g al H kvs rs) : Yl g al H (Iti p o kvs) (rs.map fun p => .tup [.str p.1, p.2]) := by
  intro i H1 al1 k pr
  have q1 : H1 p = some (.frz o (.dK kvs)) := k.z _ _ _ q
  have l1 := l.monoZ k pr
  have hlen : (rs.map fun p => D.tup [.str p.1, p.2]).length = kvs.length := by rw [List.length_map, l.length]
  refine ⟨fun d e => ?_, fun hl => ⟨q1, by rw [← hlen]; exact hl⟩⟩
  have hi : i < kvs.length := by rw [← hlen]; exact (List.getElem?_eq_some_iff.mp e).1
  refine ⟨⟨q1, hi⟩, ?_⟩
  rintro x H' ⟨T, k, v, e1, rfl, nT, rfl⟩
  obtain ⟨y, dv, rfl, e2, dd⟩ := l1.getI e1
  simp only [List.getElem?_map, e2, Option.map_some, Option.some.injEq] at e
  subst e
  have sm := same_new (o := HO.tup [kV (.inr y), v]) nT
  exact ⟨sm, .tup (.inl (.inl upd_same)) (.cons (.str _) (.cons (dd.mono (.of sm) (List.prefix_refl _)) .nil))⟩
theorem enumD_get : ∀ {ds : List D} {n i : Nat} {d : D}, (enumD n ds)[i]? = some d → ∃ x, ds[i]? = some x ∧ d = .tup [.int ((n + i : Nat) : Int), x]
  | [], _, _, _, e => by simp [enumD] at e
  | x :: ds, n, 0, d, e => by
    simp [enumD] at e
    exact ⟨x, rfl, e.symm⟩
  | x :: ds, n, i + 1, d, e => by
    simp only [enumD, List.getElem?_cons_succ] at e
    obtain ⟨y, e1, e2⟩ := enumD_get e
    exact ⟨y, by simpa using e1, by rw [e2]; congr 3; congr 1; omega⟩
theorem enumD_length : ∀ (ds : List D) (n : Nat), (enumD n ds).length = ds.length
  | [], _ => rfl
  | _ :: ds, n => by rw [enumD, List.length_cons, List.length_cons, enumD_length ds]
theorem yl_enum {K : PySem.W.Frag} {p : Addr} {vs : List V} {ds : List D} (hK : g.K = K) (q : LsF g.K H p vs) (l : DtL g al H vs ds) : Yl g al H (Ite K p) (enumD 0 ds) := by
  subst hK
  intro i H1 al1 k pr
  have q1 : SqL g.K H1 p vs := (lsF_keepZ k q).sq
  have l1 := l.monoZ k pr
  refine ⟨fun d e => ?_, fun hl => ⟨vs, q1, by rw [l.length]; rw [enumD_length] at hl; exact hl⟩⟩
  obtain ⟨y, e1, rfl⟩ := enumD_get e
  obtain ⟨v, ev, dv⟩ := l1.get e1
  refine ⟨⟨vs, v, q1, ev⟩, ?_⟩
  rintro x H' ⟨T, w, rfl, nT, rfl, hx⟩
  have := hx vs q1
  rw [ev] at this
  cases this
  have sm := same_new (o := HO.tup [.int (i : Nat), v]) nT
  rw [Nat.zero_add]
  exact ⟨sm, .tup (.inl (.inl upd_same)) (.cons (.int _) (.cons (dv.mono (.of sm) (List.prefix_refl _)) .nil))⟩
theorem yl_rev {K : PySem.W.Frag} {p : Addr} {vs : List V} {ds : List D} (hK : g.K = K) (q : LsF g.K H p vs) (l : DtL g al H vs ds) : Yl g al H (Itv K p vs.length) ds.reverse := by
  subst hK
  intro i H1 al1 k pr
  have q1 : SqL g.K H1 p vs := (lsF_keepZ k q).sq
  have l1 := l.monoZ k pr
  refine ⟨fun d e => ?_, fun hl => by rw [List.length_reverse] at hl; rw [← l.length] at hl; exact hl⟩
  have hi : i < ds.length := by
    have := (List.getElem?_eq_some_iff.mp e).1
    rwa [List.length_reverse] at this
  rw [List.getElem?_reverse hi, ← l.length] at e
  obtain ⟨v, ev, dv⟩ := l1.get e
  refine ⟨⟨by rw [l.length]; exact hi, vs, v, q1, ev⟩, ?_⟩
  rintro x H' ⟨rfl, hx⟩
  have := hx vs q1
  rw [ev] at this
  cases this
  exact ⟨fun _ _ z => z, dv⟩
theorem zipD_get : ∀ {xs ys : List D} {i : Nat} {d : D}, (zipD xs ys)[i]? = some d → ∃ x y, xs[i]? = some x ∧ ys[i]? = some y ∧ d = .tup [x, y]
  | [], _, _, _, e => by simp [zipD] at e
  | _ :: _, [], _, _, e => by simp [zipD] at e
  | x :: xs, y :: ys, 0, d, e => by
    simp [zipD] at e
    exact ⟨x, y, rfl, rfl, e.symm⟩
  | x :: xs, y :: ys, i + 1, d, e => by
    simp only [zipD, List.getElem?_cons_succ] at e
    obtain ⟨u, v, e1, e2, e3⟩ := zipD_get e
    exact ⟨u, v, by simpa using e1, by simpa using e2, e3⟩
theorem zipD_length : ∀ (xs ys : List D) (i : Nat), (zipD xs ys).length ≤ i → xs.length ≤ i ∨ ys.length ≤ i
  | [], _, i, _ => .inl (Nat.zero_le i)
  | _ :: _, [], i, _ => .inr (Nat.zero_le i)
  | x :: xs, y :: ys, 0, h => by simp [zipD] at h
  | x :: xs, y :: ys, i + 1, h => by
    simp only [zipD, List.length_cons] at h ⊢
    rcases zipD_length xs ys i (by omega) with h | h
    · exact .inl (by omega)
    · exact .inr (by omega)
theorem yl_zip {K : PySem.W.Frag} {p p' : Addr} {vs vs' : List V} {ds ds' : List D} (hK : g.K = K) (q : LsF g.K H p vs) (l : DtL g al H vs ds) (q' : LsF g.K H p' vs') (l' : DtL g al H vs' ds') : Yl g al H (Itz K p p') (zipD ds ds') := by
  subst hK
  intro i H1 al1 k pr
  have q1 : SqL g.K H1 p vs := (lsF_keepZ k q).sq
  have q2 : SqL g.K H1 p' vs' := (lsF_keepZ k q').sq
  have l1 := l.monoZ k pr
  have l2 := l'.monoZ k pr
  refine ⟨fun d e => ?_, fun hl => ⟨vs, vs', q1, q2, by rw [l.length, l'.length]; exact zipD_length _ _ _ hl⟩⟩
  obtain ⟨x, y, e1, e2, rfl⟩ := zipD_get e
  obtain ⟨v, ev, dv⟩ := l1.get e1
  obtain ⟨w, ew, dw⟩ := l2.get e2
  refine ⟨⟨vs, vs', v, w, q1, q2, ev, ew⟩, ?_⟩
  rintro x H' ⟨T, v', w', rfl, nT, rfl, hx, hy⟩
  have h1 := hx vs q1
  rw [ev] at h1
  cases h1
  have h2 := hy vs' q2
  rw [ew] at h2
  cases h2
  have sm := same_new (o := HO.tup [v, w]) nT
  exact ⟨sm, .tup (.inl (.inl upd_same)) (.cons (dv.mono (.of sm) (List.prefix_refl _)) (.cons (dw.mono (.of sm) (List.prefix_refl _)) .nil))⟩
theorem yl_rng (lo : Int) (n : Nat) : Yl g al H (Itr lo n) (rngD lo n) := by
  intro i H1 al1 k pr
  have hl : (rngD lo n).length = n := by simp [rngD]
  refine ⟨fun d e => ?_, fun h => by rw [hl] at h; exact h⟩
  have hi : i < n := by
    have := (List.getElem?_eq_some_iff.mp e).1
    rwa [hl] at this
  refine ⟨hi, ?_⟩
  rintro x H' ⟨rfl, rfl⟩
  simp only [rngD, List.getElem?_map, List.getElem?_range hi, Option.map_some, Option.some.injEq] at e
  subst e
  exact ⟨fun _ _ z => z, .int _⟩
end
end Pi

/-! Pi7d: iterables and comprehensions, by data. -/
namespace Pi
open PySem L2 PySem.Spec PyProof.Rows
section
variable {g : GC} {al al' al0 als : Al} {H H' H0 Hs : Hp} {S S' : Sto} {r r' : Rho} {σ σ' : L2.St} {W : WX} {X : Cx} {Φ : Phi}
variable {a b c tg : Expr} {m ma mb mc : Rho → Sto → Out D} {pos p p2 apos cpos tpos : Pos} {elts : List Expr} {kk : Nat}

/-- a frozen list's makings -/
theorem Dt.lstI {v : V} {ds : List D} (h : Dt g al H v (.lst ds)) : ∃ p vs, v = .ref p ∧ LsF g.K H p vs ∧ DtL g al H vs ds := by cases h with | lst q l => exact ⟨_, _, rfl, q, l⟩
theorem Dt.tupI {v : V} {ds : List D} (h : Dt g al H v (.tup ds)) : ∃ p vs, v = .ref p ∧ SqT g.K H p vs ∧ DtL g al H vs ds := by cases h with | tup q l => exact ⟨_, _, rfl, q, l⟩
theorem Dt.dicI {v : V} {ds : List (Str × D)} (h : Dt g al H v (.dic ds)) : ∃ p o vs, v = .ref p ∧ H p = some (.frz o (.dK vs)) ∧ DtK g al H vs ds := by cases h with | dic q l => exact ⟨_, _, _, rfl, q, l⟩
theorem i_over (G : XG g X) (ha : PE X a (TR g W (RV g) ma)) : PI X tg a (TIt g W fun r S => (ma r S).bnd fun x S => match x with
      | .lst xs => .ok xs S
      | .tup xs => .ok xs S
      | .dic kvs => .ok (keysD kvs) S
      | _ => .bad) := by
  refine ⟨fun pins s σ H R I h => ?_⟩
  obtain ⟨H0, al0, al, r, S, rs, h⟩ := h
  have hK := G.hK
  dsimp only at h
  cases em : ma r S with
  | bad => rw [em] at h; exact h.elim
  | exc c S' =>
    rw [em] at h
    exact (pi_list ha).run pins s σ H R I ⟨H0, al0, al, r, S, rs, by rw [em]; exact h⟩
  | ok x S1 =>
    rw [em] at h
    cases x <;> try exact h.elim
    · rename_i xs
      refine (pi_tup ha).run pins s σ H R I ⟨H0, al0, al, r, S, rs, ?_⟩
      rw [em]
      intro H1 al1 v rs1 k1 p1 b1
      obtain ⟨q, vs, rfl, sq, l⟩ := Dt.tupI b1
      exact ⟨q, rfl, ⟨vs, hK ▸ sq⟩, h H1 al1 _ rs1 k1 p1 (yl_tup hK sq l)⟩
    · rename_i xs
      refine (pi_list ha).run pins s σ H R I ⟨H0, al0, al, r, S, rs, ?_⟩
      rw [em]
      intro H1 al1 v rs1 k1 p1 b1
      obtain ⟨q, vs, rfl, sq, l⟩ := Dt.lstI b1
      exact ⟨q, rfl, ⟨vs, hK ▸ sq.sq⟩, h H1 al1 _ rs1 k1 p1 (yl_lst hK sq l)⟩
    · rename_i kvs
      refine (pi_keys ha).run pins s σ H R I ⟨H0, al0, al, r, S, rs, ?_⟩
      rw [em]
      intro H1 al1 v rs1 k1 p1 b1
      obtain ⟨q, o, vs, rfl, sq, l⟩ := Dt.dicI b1
      exact ⟨q, o, rfl, .inl ⟨vs, sq, h H1 al1 _ rs1 k1 p1 (yl_keys sq l)⟩⟩
theorem i_items (ha : PE X a (TR g W (RV g) ma)) (hbase : attributeBase a "items" X.env (eval a X.env) = eval a X.env) (hline : (apos.endLine == cpos.line) = true) :
    PI X (.Tuple elts kk tpos) (.Call (.Attribute a "items" apos) [] [] cpos) (TIt g W fun r S => (ma r S).bnd fun x S => match x with | .dic kvs => .ok (kvs.map fun p => .tup [.str p.1, p.2]) S | _ => .bad) := by
  refine PI.imp (pi_items ha hbase hline) ?_
  rintro σ H Q ⟨H0, al0, al, r, S, rs, h⟩
  refine ⟨H0, al0, al, r, S, rs, (Pst.bndAt (R1 := RV g H) h).imp ?_⟩
  rintro vx H1 ⟨al1, x, S1, rs1, k1, p1, b1, h⟩
  cases x <;> try exact h.elim
  obtain ⟨q, o, vs, rfl, sq, l⟩ := Dt.dicI b1
  exact ⟨q, o, vs, rfl, sq, h H1 al1 _ rs1 k1 p1 (yl_items sq l)⟩
theorem i_vals (ha : PE X a (TR g W (RV g) ma)) (hbase : attributeBase a "values" X.env (eval a X.env) = eval a X.env) (hline : (apos.endLine == cpos.line) = true) :
    PI X tg (.Call (.Attribute a "values" apos) [] [] cpos) (TIt g W fun r S => (ma r S).bnd fun x S => match x with | .dic kvs => .ok (kvs.map (·.2)) S | _ => .bad) := by
  refine PI.imp (pi_values ha hbase hline) ?_
  rintro σ H Q ⟨H0, al0, al, r, S, rs, h⟩
  refine ⟨H0, al0, al, r, S, rs, (Pst.bndAt (R1 := RV g H) h).imp ?_⟩
  rintro vx H1 ⟨al1, x, S1, rs1, k1, p1, b1, h⟩
  cases x <;> try exact h.elim
  obtain ⟨q, o, vs, rfl, sq, l⟩ := Dt.dicI b1
  exact ⟨q, o, vs, rfl, sq, h H1 al1 _ rs1 k1 p1 (yl_vals sq l)⟩
/-- one argument, two arguments -/
theorem as1 (ha : PE X a (TR g W (RV g) ma)) (hs : noStar a = true) : PA X [a] (TAs g W fun r S => (ma r S).bnd fun x S => .ok [x] S) := by
  refine PA.imp (pa_cons ha pa_nil (star_ok hs)) ?_
  rintro σ H Q ⟨H0, al0, al, r, S, rs, h⟩
  refine ⟨H0, al0, al, r, S, rs, (Pst.bndAt (R1 := RV g H) h).imp ?_⟩
  rintro vx H1 ⟨al1, x, S1, rs1, k1, p1, b1, h⟩
  exact h H1 al1 _ rs1 k1 p1 (.cons b1 .nil)
theorem as2 (ha : PE X a (TR g W (RV g) ma)) (hb : PE X b (TR g W (RV g) mb)) (hs : noStar a = true) (hs' : noStar b = true) : PA X [a, b] (TAs g W fun r S => (ma r S).bnd fun x S => (mb r S).bnd fun y S => .ok [x, y] S) := by
  refine PA.imp (pa_cons ha (pa_cons hb pa_nil (star_ok hs')) (star_ok hs)) ?_
  rintro σ H Q ⟨H0, al0, al, r, S, rs, h⟩
  refine ⟨H0, al0, al, r, S, rs, (Pst.bndAt (R1 := RV g H) h).imp ?_⟩
  rintro vx H1 ⟨al1, x, S1, rs1, k1, p1, b1, h⟩
  refine ⟨H0, al0, al1, r, S1, rs1, (Pst.bndAt (R1 := RV g H1) h).imp ?_⟩
  rintro vy H2 ⟨al2, y, S2, rs2, k2, p2, b2, h⟩
  exact h H2 al2 _ rs2 (k1.trans k2) (p1.trans p2) (.cons (Dt.mono k2 p2 b1) (.cons b2 .nil))
theorem pst1 {α : Type} {R : Al → Hp → L2.It → α → Prop} {Q : L2.It → Hp → Prop} {o : Out D} {k : D → Sto → Out α} (h : Pst g W H0 al0 r σ al H R (o.bnd k) Q) :
    Pst g W H0 al0 r σ al H (fun al H vs ds => DtL g al H vs ds) (o.bnd fun x S => .ok [x] S) fun vs H1 => ∃ v x al1 S1, vs = [v] ∧ RS g H0 al0 r S1 al1 σ H1 ∧ Keep H H1 ∧ al <+: al1 ∧ Dt g al1 H1 v x ∧ Pst g W H0 al0 r σ al H R (k x S1) Q := by
  cases o with
  | bad => exact h
  | exc c S' => exact h
  | ok x S1 =>
    intro H1 al1 vs rs1 k1 p1 b1
    cases b1 with
    | cons b1 bn =>
      cases bn
      exact ⟨_, x, al1, S1, rfl, rs1, k1, p1, b1, h⟩
theorem i_rng (hg : Gl X "range") (hm : X.mg "range" = none) (ha : PE X a (TR g W (RV g) ma)) (hs : noStar a = true) :
    PI X tg (.Call (.Name "range" p) [a] [] pos) (TIt g W fun r S => (ma r S).bnd fun x S => match x with
      | .int j => if fits62 j = true then .ok (rngD 0 j.toNat) S else .bad
      | _ => .bad) := by
  refine PI.imp (pi_range1 hg hm (as1 ha hs) (star_ok hs)) ?_
  rintro σ H Q ⟨H0, al0, al, r, S, rs, h⟩
  refine ⟨H0, al0, al, r, S, rs, (pst1 h).imp ?_⟩
  rintro vs H1 ⟨v, x, al1, S1, rfl, rs1, k1, p1, b1, h⟩
  cases x <;> try exact h.elim
  rename_i j
  cases b1
  dsimp only at h
  split at h
  · rename_i hb
    exact ⟨j, rfl, (fits62_ok hb).1, (fits62_ok hb).2, h H1 al1 _ rs1 k1 p1 (yl_rng _ _)⟩
  · exact h.elim
theorem i_enum (G : XG g X) (hg : Gl X "enumerate") (hm : X.mg "enumerate" = none) (ha : PE X a (TR g W (RV g) ma)) (hs : noStar a = true) :
    PI X (.Tuple elts kk tpos) (.Call (.Name "enumerate" p) [a] [] pos) (TIt g W fun r S => (ma r S).bnd fun x S => match x with | .lst xs => .ok (enumD 0 xs) S | _ => .bad) := by
  refine PI.imp (pi_enum hg hm (as1 ha hs) (star_ok hs)) ?_
  rintro σ H Q ⟨H0, al0, al, r, S, rs, h⟩
  refine ⟨H0, al0, al, r, S, rs, (pst1 h).imp ?_⟩
  rintro vs H1 ⟨v, x, al1, S1, rfl, rs1, k1, p1, b1, h⟩
  cases x <;> try exact h.elim
  obtain ⟨q, vs, rfl, sq, l⟩ := Dt.lstI b1
  have hK := G.hK
  exact ⟨q, vs, rfl, hK ▸ sq.sq, h H1 al1 _ rs1 k1 p1 (yl_enum hK sq l)⟩
theorem i_rev (G : XG g X) (hg : Gl X "reversed") (hm : X.mg "reversed" = none) (ha : PE X a (TR g W (RV g) ma)) (hs : noStar a = true) :
    PI X tg (.Call (.Name "reversed" p) [a] [] pos) (TIt g W fun r S => (ma r S).bnd fun x S => match x with | .lst xs => .ok xs.reverse S | _ => .bad) := by
  refine PI.imp (pi_reversed hg hm (as1 ha hs) (star_ok hs)) ?_
  rintro σ H Q ⟨H0, al0, al, r, S, rs, h⟩
  refine ⟨H0, al0, al, r, S, rs, (pst1 h).imp ?_⟩
  rintro vs H1 ⟨v, x, al1, S1, rfl, rs1, k1, p1, b1, h⟩
  cases x <;> try exact h.elim
  obtain ⟨q, vs, rfl, sq, l⟩ := Dt.lstI b1
  have hK := G.hK
  exact ⟨q, vs, rfl, hK ▸ sq.sq, h H1 al1 _ rs1 k1 p1 (yl_rev hK sq l)⟩
theorem pst2 {α : Type} {R : Al → Hp → L2.It → α → Prop} {Q : L2.It → Hp → Prop} {o : Out D} {o2 : Sto → Out D} {k : D → D → Sto → Out α} (h : Pst g W H0 al0 r σ al H R (o.bnd fun x S => (o2 S).bnd fun y S => k x y S) Q) :
    Pst g W H0 al0 r σ al H (fun al H vs ds => DtL g al H vs ds) (o.bnd fun x S => (o2 S).bnd fun y S => .ok [x, y] S) fun vs H1 => ∃ v u x y al1 S1, vs = [v, u] ∧ RS g H0 al0 r S1 al1 σ H1 ∧ Keep H H1 ∧ al <+: al1 ∧ Dt g al1 H1 v x ∧ Dt g al1 H1 u y ∧ Pst g W H0 al0 r σ al H R (k x y S1) Q := by
  cases o with
  | bad => exact h
  | exc c S' => exact h
  | ok x S1 =>
    have h1 : Pst g W H0 al0 r σ al H R ((o2 S1).bnd fun y S => k x y S) Q := h
    show Pst g W H0 al0 r σ al H _ ((o2 S1).bnd fun y S => .ok [x, y] S) _
    cases e : o2 S1 with
    | bad => rw [e] at h1; exact h1
    | exc c S' => rw [e] at h1; exact h1
    | ok y S2 =>
      rw [e] at h1
      intro H1 al1 vs rs1 k1 p1 b1
      cases b1 with
      | cons b1 bn =>
        cases bn with
        | cons b2 bn =>
          cases bn
          exact ⟨_, _, x, y, al1, S2, rfl, rs1, k1, p1, b1, b2, h1⟩
theorem i_rng2 (hg : Gl X "range") (hm : X.mg "range" = none) (ha : PE X a (TR g W (RV g) ma)) (hb : PE X b (TR g W (RV g) mb)) (hs : noStar a = true) (hs' : noStar b = true) :
    PI X tg (.Call (.Name "range" p) [a, b] [] pos) (TIt g W fun r S => (ma r S).bnd fun x S => (mb r S).bnd fun y S => match x, y with
      | .int i, .int j => if fits62 i = true ∧ fits62 j = true then .ok (rngD i (j - i).toNat) S else .bad
      | _, _ => .bad) := by
  have e2 : starEach [b] X.env = [(false, eval b X.env)] := star_ok hs'
  refine PI.imp (pi_range2 hg hm (as2 ha hb hs hs') (by rw [star_ok hs, e2]) e2) ?_
  rintro σ H Q ⟨H0, al0, al, r, S, rs, h⟩
  refine ⟨H0, al0, al, r, S, rs, (pst2 h).imp ?_⟩
  rintro vs H1 ⟨v, u, x, y, al1, S1, rfl, rs1, k1, p1, b1, b2, h⟩
  cases x <;> try exact h.elim
  rename_i i
  cases y <;> try exact h.elim
  rename_i j
  cases b1
  cases b2
  dsimp only at h
  split at h
  · rename_i hb
    exact ⟨i, j, rfl, ⟨(fits62_ok hb.1).1, (fits62_ok hb.1).2, (fits62_ok hb.2).1, (fits62_ok hb.2).2⟩, h H1 al1 _ rs1 k1 p1 (yl_rng _ _)⟩
  · exact h.elim
theorem i_zip (G : XG g X) (hg : Gl X "zip") (hm : X.mg "zip" = none) (ha : PE X a (TR g W (RV g) ma)) (hb : PE X b (TR g W (RV g) mb)) (hs : noStar a = true) (hs' : noStar b = true) :
    PI X (.Tuple elts kk tpos) (.Call (.Name "zip" p) [a, b] [] pos) (TIt g W fun r S => (ma r S).bnd fun x S => (mb r S).bnd fun y S => match x, y with
      | .lst xs, .lst ys => .ok (zipD xs ys) S
      | _, _ => .bad) := by
  refine PI.imp (pi_zip hg hm (as2 ha hb hs hs') (star_ok hs) (star_plain (by simp [noStars, hs']))) ?_
  rintro σ H Q ⟨H0, al0, al, r, S, rs, h⟩
  refine ⟨H0, al0, al, r, S, rs, (pst2 h).imp ?_⟩
  rintro vs H1 ⟨v, u, x, y, al1, S1, rfl, rs1, k1, p1, b1, b2, h⟩
  cases x <;> try exact h.elim
  cases y <;> try exact h.elim
  obtain ⟨q, vs, rfl, sq, l⟩ := Dt.lstI b1
  obtain ⟨q', vs', rfl, sq', l'⟩ := Dt.lstI b2
  have hK := G.hK
  exact ⟨q, q', vs, vs', rfl, hK ▸ sq.sq, hK ▸ sq'.sq, h H1 al1 _ rs1 k1 p1 (yl_zip hK sq l sq' l')⟩

/-! ### comprehensions -/
def WF : WX := fun _ _ _ _ => False
/-- a block's places -/
theorem wipe_at {vs : List Nat} {j : Nat} (h : j ∈ vs) : (wipe σ vs)[j]? = if j < σ.length then some none else none := by
  induction vs with
  | nil => cases h
  | cons v vs ih =>
    unfold L2.wipe
    by_cases e : v = j
    · subst e
      by_cases hl : v < σ.length
      · rw [List.getElem?_set_self (by rw [wipe_length]; exact hl), if_pos hl]
      · rw [if_neg hl, List.getElem?_eq_none]
        rw [List.length_set, wipe_length]
        omega
    · rw [List.getElem?_set_ne e]
      exact ih (by rcases List.mem_cons.mp h with z | z; exact absurd z.symm e; exact z)
theorem wipe_off {vs is : List Nat} {σ2 : L2.St} (h : ∀ i ∈ is, i ∈ vs) (o : Off is (wipe σ vs) σ2) : wipe σ2 vs = wipe σ vs := by
  apply List.ext_getElem?
  intro j
  have hl : σ2.length = σ.length := by rw [o.1, wipe_length]
  by_cases hj : j ∈ vs
  · rw [wipe_at hj, wipe_at hj, hl]
  · rw [wipe_out hj, o.2 j fun z => hj (h j z)]
theorem noxb {α β : Type} {o : Out α} {k : α → Sto → Out β} (h : (nox o).bnd k ≠ .bad) : ∃ a S, o = .ok a S ∧ (nox o).bnd k = k a S := by
  cases o with
  | ok a S => exact ⟨a, S, rfl, rfl⟩
  | exc c S => exact (h rfl).elim
  | bad => exact (h rfl).elim
/-- a value that comes, as it is wanted in a block -/
theorem Pst.okv {α β : Type} {R : Al → Hp → β → α → Prop} {Q : β → Hp → Prop} {o : Out α} {a : α} {S : Sto} (e : o = .ok a S) (h : ∀ H' al' v, RS g H0 al0 r S al' σ H' → Keep H H' → al <+: al' → R al' H' v a → Q v H') : Pst g W H0 al0 r σ al H R o Q := by
  rw [e]
  exact h
variable {t : Tg} {vs : List Nat} {mt : Rho → Sto → Out Bool} {me mk : Rho → Sto → Out D} {mi : Rho → Sto → Out (List D)}
theorem lc_of {Q : VK} (ht : ∀ i ∈ t.ids, i ∈ vs) (h : TR g W (RF g) (fun r S => (mi r S).bnd fun xs S => (loopL (lcStep t vs r mt me) xs S).bnd fun ys S => if xs.length ≤ sizeLine then .ok (.lst ys) S else .bad) σ H Q) :
    tLc (TIt g W mi) (TGd g t) (TT' g WF mt) (TR g WF (RV g) me) vs σ H Q := by
  obtain ⟨H0, al0, al, r, S, rs, h⟩ := h
  refine ⟨H0, al0, al, r, S, rs, (Pst.bndAt (R1 := fun al H (J : L2.It) ds => Yl g al H J ds) h).imp ?_⟩
  rintro J H1 ⟨al1, ds, S1, rs1, k1, p1, yl, h⟩
  intro A nA
  have hsz : ds.length ≤ sizeLine := by
    cases e : loopL (lcStep t vs r mt me) ds S1 with
    | ok ys S' =>
      rw [e] at h
      by_cases hs : ds.length ≤ sizeLine
      · exact hs
      · simp only [Out.bnd, if_neg hs] at h
        exact h.elim
    | bad => rw [e] at h; exact h.elim
    | exc c S' =>
      exfalso
      have no : ∀ (xs : List D) (S : Sto) (c : Nat) (S' : Sto), loopL (lcStep t vs r mt me) xs S ≠ .exc c S' := by
        intro xs
        induction xs with
        | nil => intro S c S' e; cases e
        | cons x xs ih =>
          intro S c S' e
          simp only [loopL] at e
          cases e1 : lcStep t vs r mt me x S with
          | exc c2 S2 =>
            unfold lcStep at e1
            split at e1
            · rename_i r' _
              cases e2 : ((mt r' S).bnd fun k S => if k = true then (me r' S).bnd fun y S => .ok (some y) S else .ok none S) <;> (rw [e2] at e1; cases e1)
            · cases e1
          | bad => rw [e1] at e; cases e
          | ok y S2 =>
            rw [e1] at e
            cases e3 : loopL (lcStep t vs r mt me) xs S2 with
            | ok ys S3 => simp only [Out.bnd, e3] at e; cases e
            | bad => simp only [Out.bnd, e3] at e; cases e
            | exc c3 S3 => exact ih _ _ _ e3
      exact no _ _ _ _ e
  have e : (fun (ys : List D) (S : Sto) => if ds.length ≤ sizeLine then Out.ok (D.lst ys) S else .bad) = fun ys S => Out.ok (D.lst ys) S := by funext ys S; rw [if_pos hsz]
  rw [e] at h
  refine ⟨fun i n H' => n = ds.length - i ∧ i ≤ ds.length ∧ ∃ al' S accV acc, RS g H0 al0 r S al' σ H' ∧ Keep H1 H' ∧ al1 <+: al' ∧ H' A = some (.lst accV) ∧ DtL g al' H' accV acc ∧ acc.length ≤ i ∧
    Pst g W H0 al0 r σ al H (RF g H) ((loopL (lcStep t vs r mt me) (ds.drop i) S).bnd fun ys S => .ok (D.lst (acc ++ ys)) S) Q, ?_, ?_⟩
  · exact ⟨_, rfl, Nat.zero_le _, al1, S1, [], [], rs1.new nA, .of (same_new nA), List.prefix_refl _, upd_same, .nil, Nat.le_refl _, h⟩
  · rintro i n H2 ⟨rfl, hi, al2, S2, accV, acc, rs2, k2, p2, hA, la, lacc, h⟩
    by_cases he : i = ds.length
    · subst he
      refine .inl ⟨(yl _ H2 al2 k2.toZ p2).2 (Nat.le_refl _), ?_⟩
      rw [List.drop_length] at h
      have h' : Pst g W H0 al0 r σ al H (RF g H) (.ok (D.lst (acc ++ [])) S2) Q := h
      rw [List.append_nil] at h'
      exact h' H2 al2 _ rs2 (k1.trans k2) (p1.trans p2) ⟨A, accV, rfl, k1.back nA, hA, la⟩
    · have hlt : i < ds.length := by omega
      have eg : ds[i]? = some ds[i] := List.getElem?_eq_getElem hlt
      obtain ⟨go, yl2⟩ := (yl i H2 al2 k2.toZ p2).1 _ eg
      refine .inr ⟨go, fun H' => ∃ m', m' < ds.length - i ∧ m' = ds.length - (i + 1) ∧ i + 1 ≤ ds.length ∧ ∃ al' S accV acc, RS g H0 al0 r S al' σ H' ∧ Keep H1 H' ∧ al1 <+: al' ∧ H' A = some (.lst accV) ∧ DtL g al' H' accV acc ∧ acc.length ≤ i + 1 ∧
        Pst g W H0 al0 r σ al H (RF g H) ((loopL (lcStep t vs r mt me) (ds.drop (i + 1)) S).bnd fun ys S => .ok (D.lst (acc ++ ys)) S) Q, fun H' h => h, ?_⟩
      intro x H3 hy
      obtain ⟨sm, dx⟩ := yl2 x H3 hy
      rw [List.drop_eq_getElem_cons hlt] at h
      simp only [loopL, lcStep] at h
      have rs3 := (rs2.same sm).wipe vs
      have hA3 := sm _ _ hA
      split at h
      · rename_i r' eb
        refine ⟨H0, al0, al2, _, S2, ds[i], r', rs3, dx, eb, fun σ2 rs4 of => ⟨wipe_off ht of, ?_⟩⟩
        -- what the turn comes to
        cases e1 : mt r' S2 with
        | bad => rw [e1] at h; exact h.elim
        | exc c S3 => rw [e1] at h; exact h.elim
        | ok k S3 =>
          rw [e1] at h
          refine ⟨H0, al0, al2, r', S2, rs4, Pst.okv e1 ?_⟩
          rintro H5 al5 b5 rs5 k5 p5 rfl
          have back : RS g H0 al0 r S3 al5 σ H5 := (rs2.same sm).step k5 p5 rs5.sto
          have hA5 := k5.k _ _ hA3 (fun _ _ _ z => nomatch z)
          have la5 := (la.mono (.of sm) (List.prefix_refl _)).mono k5 p5
          cases b5 with
          | false =>
            rw [if_neg Bool.false_ne_true]
            refine ⟨_, by omega, rfl, by omega, al5, S3, accV, acc, back, (k2.trans (.of sm)).trans k5, p2.trans p5, hA5, la5, by omega, ?_⟩
            have h2 : Pst g W H0 al0 r σ al H (RF g H) (((loopL (lcStep t vs r mt me) (ds.drop (i + 1)) S3).bnd fun ys S => .ok ys S).bnd fun ys S => .ok (D.lst (acc ++ ys)) S) Q := h
            cases e4 : loopL (lcStep t vs r mt me) (ds.drop (i + 1)) S3 with
            | bad => rw [e4] at h2; exact h2
            | exc c S5 => rw [e4] at h2; exact h2
            | ok ys S5 => rw [e4] at h2; exact h2
          | true =>
            rw [if_pos rfl]
            cases e2 : me r' S3 with
            | bad => simp only [Out.bnd, if_true, e2] at h; exact h.elim
            | exc c S4 => simp only [Out.bnd, if_true, e2] at h; exact h.elim
            | ok y S4 =>
              simp only [Out.bnd, if_true, e2, nox] at h
              refine ⟨H0, al0, al5, r', S3, rs5, Pst.okv e2 ?_⟩
              intro H6 al6 v rs6 k6 p6 dv
              have back6 : RS g H0 al0 r S4 al6 σ H6 := back.step k6 p6 rs6.sto
              have hA6 := k6.k _ _ hA5 (fun _ _ _ z => nomatch z)
              have la6 := la5.mono k6 p6
              have lo := loose_lst hA6
              have h0A : H0 A = none := rs1.keep.back nA
              have noA : ¬ OwnAt r σ A := rs1.not_own nA
              refine ⟨accV, hA6, by rw [la.length]; omega, _, by omega, rfl, by omega, al6, S4, accV ++ [v], acc ++ [y], back6.free lo (fun _ _ _ z => by rw [hA6] at z; cases z) h0A noA, (((k2.trans (.of sm)).trans k5).trans k6).mut nA, (p2.trans p5).trans p6, upd_same, ?_, by rw [List.length_append]; exact Nat.succ_le_succ lacc, ?_⟩
              · exact (la6.append (.cons dv .nil)).loose lo
              · cases e4 : loopL (lcStep t vs r mt me) (ds.drop (i + 1)) S4 with
                | bad =>
                  have h2 : Pst g W H0 al0 r σ al H (RF g H) (((loopL (lcStep t vs r mt me) (ds.drop (i + 1)) S4).bnd fun ys S => .ok (y :: ys) S).bnd fun ys S => .ok (D.lst (acc ++ ys)) S) Q := h
                  rw [e4] at h2
                  exact h2
                | exc c S5 =>
                  have h2 : Pst g W H0 al0 r σ al H (RF g H) (((loopL (lcStep t vs r mt me) (ds.drop (i + 1)) S4).bnd fun ys S => .ok (y :: ys) S).bnd fun ys S => .ok (D.lst (acc ++ ys)) S) Q := h
                  rw [e4] at h2
                  exact h2
                | ok ys S5 =>
                  have h2 : Pst g W H0 al0 r σ al H (RF g H) (((loopL (lcStep t vs r mt me) (ds.drop (i + 1)) S4).bnd fun ys S => .ok (y :: ys) S).bnd fun ys S => .ok (D.lst (acc ++ ys)) S) Q := h
                  rw [e4] at h2
                  show Pst g W H0 al0 r σ al H (RF g H) (.ok (D.lst (acc ++ [y] ++ ys)) S5) Q
                  rw [List.append_assoc]
                  exact h2
      · exact h.elim

/-- a block's context serves -/
theorem XG.blk {s : Shared} {H : Hp} {scope : Scope} {cenv : Env} {fp : List Addr} (G : XG g X) : XG g (X.blk s H scope cenv fp) := ⟨G.hK, G.calm, G.room, G.nd⟩
variable {elt iter : Expr} {ifs : List Expr} {scope : Scope} {own : List (Str × Nat)}
def TsT (g : GC) (W : WX) (m : Rho → Sto → Out Bool) : TT := TT' g W m
theorem ts_nil : PTs X [] (TT' g W fun _ S => .ok true S) := ⟨fun pins s σ H Q I h => by
  obtain ⟨H0, al0, al, r, S, rs, h⟩ := h
  exact pts_nil.run pins s σ H Q I (h.here rs rfl)⟩
theorem s_lc (G : XG g X) (hi : PI X tg iter (TIt g W mi)) (ok : blkC X.N X.env.scope scope own = true) (ht : ∀ i ∈ t.ids, i ∈ own.map (·.2))
    (hg : ∀ (s : Shared) (H : Hp) (C : Addr) (cl : List (Str × Addr)) (fp : List Addr), PG (X.blk s H scope (compEnvC scope cl C X.env) fp) tg (TGd g t))
    (hc : ∀ (s : Shared) (H : Hp) (C : Addr) (cl : List (Str × Addr)) (fp : List Addr), PTs (X.blk s H scope (compEnvC scope cl C X.env) fp) ifs (TT' g WF mt))
    (he : ∀ (s : Shared) (H : Hp) (C : Addr) (cl : List (Str × Addr)) (fp : List Addr), PE (X.blk s H scope (compEnvC scope cl C X.env) fp) elt (TR g WF (RV g) me)) (hs : ∀ x, foldedSetIterable iter X.env x = pure x) :
    PE X (.ListComp elt [⟨tg, iter, ifs, 0⟩] scope pos) (TR g W (RF g) fun r S => (mi r S).bnd fun xs S => (loopL (lcStep t (own.map (·.2)) r mt me) xs S).bnd fun ys S => if xs.length ≤ sizeLine then .ok (.lst ys) S else .bad) :=
  PE.imp (pe_lc G.calm G.nd hi (blkOk_by ok) hg hc he hs) fun σ H Q h => lc_of ht h

theorem dc_of {Q : VK} (ht : ∀ i ∈ t.ids, i ∈ vs) (h : TR g W (RF g) (fun r S => (mi r S).bnd fun xs S => (loopK (dcStep t vs r mt mk me) xs [] S).bnd fun kvs S => if xs.length ≤ sizeLine then .ok (.dic kvs) S else .bad) σ H Q) :
    tDc (TIt g W mi) (TGd g t) (TT' g WF mt) (TR g WF (RV g) mk) (TR g WF (RV g) me) vs σ H Q := by
  obtain ⟨H0, al0, al, r, S, rs, h⟩ := h
  refine ⟨H0, al0, al, r, S, rs, (Pst.bndAt (R1 := fun al H (J : L2.It) ds => Yl g al H J ds) h).imp ?_⟩
  rintro J H1 ⟨al1, ds, S1, rs1, k1, p1, yl, h⟩
  intro A nA
  have hsz : ds.length ≤ sizeLine := by
    cases e : loopK (dcStep t vs r mt mk me) ds [] S1 with
    | ok ys S' =>
      rw [e] at h
      by_cases hs : ds.length ≤ sizeLine
      · exact hs
      · simp only [Out.bnd, if_neg hs] at h
        exact h.elim
    | bad => rw [e] at h; exact h.elim
    | exc c S' =>
      exfalso
      have no : ∀ (xs : List D) (acc : List (Str × D)) (S : Sto) (c : Nat) (S' : Sto), loopK (dcStep t vs r mt mk me) xs acc S ≠ .exc c S' := by
        intro xs
        induction xs with
        | nil => intro acc S c S' e; cases e
        | cons x xs ih =>
          intro acc S c S' e
          simp only [loopK] at e
          cases e1 : dcStep t vs r mt mk me x S with
          | exc c2 S2 =>
            unfold dcStep at e1
            split at e1
            · rename_i r' _
              revert e1
              generalize ((mt r' S).bnd _) = o
              intro e1
              cases o <;> cases e1
            · cases e1
          | bad => rw [e1] at e; cases e
          | ok y S2 =>
            rw [e1] at e
            exact ih _ _ _ _ e
      exact no _ _ _ _ _ e
  have e : (fun (kvs : List (Str × D)) (S : Sto) => if ds.length ≤ sizeLine then Out.ok (D.dic kvs) S else .bad) = fun ys S => Out.ok (D.dic ys) S := by funext ys S; rw [if_pos hsz]
  rw [e] at h
  refine ⟨fun i n H' => n = ds.length - i ∧ i ≤ ds.length ∧ ∃ al' S accV acc, RS g H0 al0 r S al' σ H' ∧ Keep H1 H' ∧ al1 <+: al' ∧ H' A = some (.dK accV) ∧ DtK g al' H' accV acc ∧ acc.length ≤ i ∧
    Pst g W H0 al0 r σ al H (RF g H) ((loopK (dcStep t vs r mt mk me) (ds.drop i) acc S).bnd fun ys S => .ok (D.dic ys) S) Q, ?_, ?_⟩
  · exact ⟨_, rfl, Nat.zero_le _, al1, S1, [], [], rs1.new nA, .of (same_new nA), List.prefix_refl _, upd_same, .nil, Nat.le_refl _, h⟩
  · rintro i n H2 ⟨rfl, hi, al2, S2, accV, acc, rs2, k2, p2, hA, la, lacc, h⟩
    by_cases he : i = ds.length
    · subst he
      refine .inl ⟨(yl _ H2 al2 k2.toZ p2).2 (Nat.le_refl _), ?_⟩
      rw [List.drop_length] at h
      have h' : Pst g W H0 al0 r σ al H (RF g H) (.ok (D.dic acc) S2) Q := h
      exact h' H2 al2 _ rs2 (k1.trans k2) (p1.trans p2) ⟨A, accV, rfl, k1.back nA, hA, la⟩
    · have hlt : i < ds.length := by omega
      have eg : ds[i]? = some ds[i] := List.getElem?_eq_getElem hlt
      obtain ⟨go, yl2⟩ := (yl i H2 al2 k2.toZ p2).1 _ eg
      refine .inr ⟨go, fun H' => ∃ m', m' < ds.length - i ∧ m' = ds.length - (i + 1) ∧ i + 1 ≤ ds.length ∧ ∃ al' S accV acc, RS g H0 al0 r S al' σ H' ∧ Keep H1 H' ∧ al1 <+: al' ∧ H' A = some (.dK accV) ∧ DtK g al' H' accV acc ∧ acc.length ≤ i + 1 ∧
        Pst g W H0 al0 r σ al H (RF g H) ((loopK (dcStep t vs r mt mk me) (ds.drop (i + 1)) acc S).bnd fun ys S => .ok (D.dic ys) S) Q, fun H' h => h, ?_⟩
      intro x H3 hy
      obtain ⟨sm, dx⟩ := yl2 x H3 hy
      rw [List.drop_eq_getElem_cons hlt] at h
      simp only [loopK, dcStep] at h
      have rs3 := (rs2.same sm).wipe vs
      have hA3 := sm _ _ hA
      split at h
      · rename_i r' eb
        refine ⟨H0, al0, al2, _, S2, ds[i], r', rs3, dx, eb, fun σ2 rs4 of => ⟨wipe_off ht of, ?_⟩⟩
        cases e1 : mt r' S2 with
        | bad => rw [e1] at h; exact h.elim
        | exc c S3 => rw [e1] at h; exact h.elim
        | ok k S3 =>
          rw [e1] at h
          refine ⟨H0, al0, al2, r', S2, rs4, Pst.okv e1 ?_⟩
          rintro H5 al5 b5 rs5 k5 p5 rfl
          have back : RS g H0 al0 r S3 al5 σ H5 := (rs2.same sm).step k5 p5 rs5.sto
          have hA5 := k5.k _ _ hA3 (fun _ _ _ z => nomatch z)
          have la5 := (la.mono (.of sm) (List.prefix_refl _)).mono k5 p5
          cases b5 with
          | false =>
            rw [if_neg Bool.false_ne_true]
            exact ⟨_, by omega, rfl, by omega, al5, S3, accV, acc, back, (k2.trans (.of sm)).trans k5, p2.trans p5, hA5, la5, by omega, h⟩
          | true =>
            rw [if_pos rfl]
            cases e2 : mk r' S3 with
            | bad => simp only [Out.bnd, if_true, e2] at h; exact h.elim
            | exc c S4 => simp only [Out.bnd, if_true, e2] at h; exact h.elim
            | ok y S4 =>
              refine ⟨H0, al0, al5, r', S3, rs5, Pst.okv e2 ?_⟩
              intro H6 al6 v rs6 k6 p6 dv
              have back6 : RS g H0 al0 r S4 al6 σ H6 := back.step k6 p6 rs6.sto
              have hA6 := k6.k _ _ hA5 (fun _ _ _ z => nomatch z)
              have la6 := la5.mono k6 p6
              cases e3 : me r' S4 with
              | bad => simp only [Out.bnd, if_true, e2, e3] at h; exact h.elim
              | exc c S5 => simp only [Out.bnd, if_true, e2, e3] at h; exact h.elim
              | ok z S5 =>
                simp only [Out.bnd, if_true, e2, e3, nox] at h
                refine ⟨H0, al0, al6, r', S4, rs6, Pst.okv e3 ?_⟩
                intro H7 al7 u rs7 k7 p7 du
                have back7 : RS g H0 al0 r S5 al7 σ H7 := back6.step k7 p7 rs7.sto
                have hA7 := k7.k _ _ hA6 (fun _ _ _ z => nomatch z)
                have la7 := la6.mono k7 p7
                cases y <;> try exact h.elim
                rename_i y
                cases dv
                have lo := loose_dK hA7
                have h0A : H0 A = none := rs1.keep.back nA
                have noA : ¬ OwnAt r σ A := rs1.not_own nA
                have hl1 := length_putK accV (Sum.inr y : Key) u
                have hl2 := la7.length
                have l8 := la7.put (x := y) du
                have hl3 := l8.length
                refine ⟨accV, .inr y, rfl, hA7, by omega, _, by omega, rfl, by omega, al7, S5, _, dput acc y z, back7.free lo (fun _ _ _ z => by rw [hA7] at z; cases z) h0A noA, ((((k2.trans (.of sm)).trans k5).trans k6).trans k7).mut nA, ((p2.trans p5).trans p6).trans p7, upd_same, l8.loose lo, by omega, h⟩
      · exact h.elim
theorem s_dc (G : XG g X) (hi : PI X tg iter (TIt g W mi)) (ok : blkC X.N X.env.scope scope own = true) (ht : ∀ i ∈ t.ids, i ∈ own.map (·.2))
    (hg : ∀ (s : Shared) (H : Hp) (C : Addr) (cl : List (Str × Addr)) (fp : List Addr), PG (X.blk s H scope (compEnvC scope cl C X.env) fp) tg (TGd g t))
    (hc : ∀ (s : Shared) (H : Hp) (C : Addr) (cl : List (Str × Addr)) (fp : List Addr), PTs (X.blk s H scope (compEnvC scope cl C X.env) fp) ifs (TT' g WF mt))
    (hk : ∀ (s : Shared) (H : Hp) (C : Addr) (cl : List (Str × Addr)) (fp : List Addr), PE (X.blk s H scope (compEnvC scope cl C X.env) fp) a (TR g WF (RV g) mk))
    (he : ∀ (s : Shared) (H : Hp) (C : Addr) (cl : List (Str × Addr)) (fp : List Addr), PE (X.blk s H scope (compEnvC scope cl C X.env) fp) b (TR g WF (RV g) me)) (hs : ∀ x, foldedSetIterable iter X.env x = pure x) :
    PE X (.DictComp a b [⟨tg, iter, ifs, 0⟩] scope pos) (TR g W (RF g) fun r S => (mi r S).bnd fun xs S => (loopK (dcStep t (own.map (·.2)) r mt mk me) xs [] S).bnd fun kvs S => if xs.length ≤ sizeLine then .ok (.dic kvs) S else .bad) :=
  PE.imp (pe_dc G.calm G.nd hi (blkOk_by ok) hg hc hk he hs) fun σ H Q h => dc_of ht h
end
end Pi

/-! Pi7m: {**a, **b}, list(d.values()), by data. -/
namespace Pi
open PySem L2 PySem.Spec PyProof.Rows
section
variable {g : GC} {al al' al0 : Al} {H H' H0 Hs : Hp} {S S' : Sto} {r : Rho} {σ : L2.St} {W : WX} {X : Cx}
theorem DtK.merge : ∀ {more : List (Key × V)} {ms : List (Str × D)} {kvs : List (Key × V)} {rs : List (Str × D)}, DtK g al H more ms → DtK g al H kvs rs → DtK g al H (mergeK kvs more) (mrgK rs ms)
  | _, _, kvs, rs, .nil, h => h
  | _, _, kvs, rs, .cons (k := k) (v := v) (d := d) q t, h => by
    show DtK g al H (mergeK (putK kvs (.inr k) v) _) (mrgK (dput rs k d) _)
    exact DtK.merge t (h.put q)
theorem mrgK_len : ∀ (more rs : List (Str × D)), (mrgK rs more).length ≤ rs.length + more.length
  | [], rs => by show rs.length ≤ rs.length + 0; omega
  | p :: r, rs => by
    have h1 := mrgK_len r (dput rs p.1 p.2)
    have h2 : (dput rs p.1 p.2).length ≤ rs.length + 1 := by
      unfold dput
      split
      · rw [List.length_map]; omega
      · rw [List.length_append]; simp
    show (mrgK (dput rs p.1 p.2) r).length ≤ _
    rw [List.length_cons]; omega
/-- one step, the rest against the heap of the beginning -/
theorem Pst.bnd1 {α β γ δ : Type} {R : Al → Hp → β → α → Prop} {R1 : Al → Hp → δ → γ → Prop} {Q : β → Hp → Prop} {alb : Al} {Hb : Hp} {o : Out γ} {k : γ → Sto → Out α} (h : Pst g W H0 al0 r σ al H R (o.bnd k) Q) :
    Pst g W H0 al0 r σ alb Hb R1 o fun (v : δ) H1 => ∃ al1 x S1, RS g H0 al0 r S1 al1 σ H1 ∧ Keep Hb H1 ∧ alb <+: al1 ∧ R1 al1 H1 v x ∧ Pst g W H0 al0 r σ al H R (k x S1) Q := by
  cases o with
  | bad => exact h
  | exc c S' => exact h
  | ok x S' => exact fun H1 al1 v rs kp pr q => ⟨al1, x, S', rs, kp, pr, q, h⟩
variable {a b : Expr} {pos : Pos} {ma mb : Rho → Sto → Out D}
theorem s_mrg (ha : PE X a (TR g W (RV g) ma)) (hb : PE X b (TR g W (RV g) mb)) : PE X (.Dict [none, none] [a, b] pos) (TR g W (RF g) fun r S => (ma r S).bnd fun x S => match x with
      | .dic kx => (mb r S).bnd fun y S => lift (mrgD kx y) S
      | _ => .bad) := by
  refine PE.imp (pe_mrg ha hb) ?_
  rintro σ H Q ⟨H0, al0, al, r, S, rs, h⟩ p hp
  have n0 : H0 p = none := rs.keep.back hp
  have noOwn : ¬ OwnAt r σ p := fun o => by
    rcases rs.own_some o with ⟨_, z⟩ | ⟨_, z⟩ <;> (rw [hp] at z; cases z)
  refine ⟨H0, al0, al, r, S, rs.new hp, (Pst.bnd1 (R1 := RV g H) (alb := al) (Hb := upd H p (.dK [])) h).imp ?_⟩
  rintro vx H1 ⟨al1, x, S1, rs1, k1, p1, b1, h⟩
  cases x <;> try exact h.elim
  rename_i kx
  have e1 : H1 p = some (.dK []) := k1.k p _ upd_same (fun _ _ _ z => nomatch z)
  cases b1 with
  | @dic a1 o1 kvs1 _ q1 l1 =>
  have hpa : p ≠ a1 := fun z => by rw [← z, e1] at q1; cases q1
  refine ⟨a1, kvs1, rfl, e1, .inr ⟨o1, q1⟩, hpa, ?_⟩
  have lo := loose_dK e1
  have rsm : RS g H0 al0 r S1 al1 σ (upd H1 p (.dK (mergeK [] kvs1))) := rs1.free lo (fun _ _ _ z => by rw [e1] at z; cases z) n0 noOwn
  refine ⟨H0, al0, al1, r, S1, rsm, (Pst.bnd1 (R1 := RV g H) (alb := al1) (Hb := upd H1 p (.dK (mergeK [] kvs1))) h).imp ?_⟩
  rintro vy H2 ⟨al2, y, S2, rs2, k2, p2, b2, h⟩
  obtain ⟨d, ed, h⟩ := h.lift
  cases y <;> try (cases ed; done)
  rename_i ky
  unfold mrgD at ed
  simp only at ed
  split at ed
  · rename_i hz
    cases ed
    have e2 : H2 p = some (.dK (mergeK [] kvs1)) := k2.k p _ upd_same (fun _ _ _ z => nomatch z)
    cases b2 with
    | @dic a2 o2 kvs2 _ q2 l2 =>
    have hpb : p ≠ a2 := fun z => by rw [← z, e2] at q2; cases q2
    have c1 := l1.length
    have c2 := l2.length
    have c3 := length_mergeK kvs1 []
    rw [List.length_nil] at c3
    refine ⟨a2, kvs2, rfl, e2, .inr ⟨o2, q2⟩, hpb, by omega, ?_⟩
    have lo2 := loose_dK e2
    have l1' : DtK g al2 H2 kvs1 kx := (l1.loose (o := .dK (mergeK [] kvs1)) lo).mono k2 p2
    have fin : DtK g al2 H2 (mergeK (mergeK [] kvs1) kvs2) (mrgK (mrgK [] kx) ky) := l2.merge (l1'.merge .nil)
    refine h _ al2 _ (rs2.free lo2 (fun _ _ _ z => by rw [e2] at z; cases z) n0 noOwn) ?_ (p1.trans p2) ⟨p, _, rfl, hp, upd_same, fin.loose lo2⟩
    have ka : Keep H H1 := (Keep.of (same_new hp)).trans k1
    have kb : Keep H (upd H1 p (.dK (mergeK [] kvs1))) := ka.mut hp
    exact (kb.trans k2).mut hp
  · cases ed
theorem s_lvals {p apos cpos : Pos} (G : XG g X) (ha : PE X a (TR g W (RV g) ma)) (hg : Gl X "list") (hm : X.mg "list" = none) (hbase : attributeBase a "values" X.env (eval a X.env) = eval a X.env) (hline : (apos.endLine == cpos.line) = true) :
    PE X (.Call (.Name "list" p) [.Call (.Attribute a "values" apos) [] [] cpos] [] pos) (TR g W (RF g) fun r S => (ma r S).bnd fun x S => match x with
      | .dic kvs => .ok (.lst (kvs.map (·.2))) S
      | _ => .bad) := by
  refine PE.imp (pe_listVals G.calm ha hg hm rfl hbase hline) ?_
  rintro σ H Q ⟨H0, al0, al, r, S, rs, h⟩
  refine ⟨H0, al0, al, r, S, rs, (h.bnd (R1 := RV g H)).imp ?_⟩
  rintro vx H1 ⟨al1, x, S1, rs1, k1, p1, b1, h⟩
  cases x <;> try exact h.elim
  rename_i kx
  cases b1 with
  | @dic a1 o1 kvs1 _ q1 l1 =>
  refine ⟨a1, kvs1, rfl, .inr ⟨o1, q1⟩, fun q hq => ?_⟩
  have lv : ∀ {kvs : List (Key × V)} {rs : List (Str × D)}, DtK g al1 H1 kvs rs → DtL g al1 H1 (kvs.map (·.2)) (rs.map (·.2)) := by
    intro kvs rs l
    induction kvs generalizing rs with
    | nil => cases l; exact .nil
    | cons p kvs ih =>
      cases l with
      | cons q t => exact .cons q (ih t)
  refine Pst.new rs1 h hq ⟨q, _, rfl, ?_, upd_same, (lv l1).loose (loose_none hq)⟩
  exact k1.back hq
end
end Pi

/-! Pi8: statements, by data. -/
namespace Pi
open PySem L2 PySem.Spec PyProof.Rows
section
variable {g : GC} {al al' al0 als : Al} {H H' H0 Hs : Hp} {S S' : Sto} {r r' : Rho} {σ σ' : L2.St} {W : WX} {X : Cx} {Φ : Phi}
variable {a b c tg e : Expr} {m ma mb mc : Rho → Sto → Out D} {pos p p2 apos cpos tpos spos : Pos}

/-! ### the state's steps -/
/-- a name gets a thing, own or data -/
theorem RS.setS {i : Nat} {v : V} {s : Sl} (rs : RS g H0 al0 r S al σ H) (hn : s.own = true → ∀ q, v = .ref q → ¬ OwnAt r σ q) (h : SlOk g al H0 H v s) : RS g H0 al0 (r.set i (some s)) S al (σ.set i (some v)) H := by
  have self : ∀ (t : Sl), (r.set i (some s))[i]? = some (some t) → t = s ∧ (σ.set i (some v))[i]? = some (some v) := fun t e => by
    have hl : i < r.length := by
      have := (List.getElem?_eq_some_iff.mp e).1
      rwa [List.length_set] at this
    rw [List.getElem?_set_self hl] at e
    cases e
    exact ⟨rfl, List.getElem?_set_self (by rw [rs.len]; exact hl)⟩
  refine ⟨rs.keep, rs.pre, rs.sto, by rw [List.length_set, List.length_set, rs.len], fun j t e => ?_, fun j j' t u x ne e e' w w' q => ?_⟩
  · by_cases hj : j = i
    · subst hj
      obtain ⟨rfl, e2⟩ := self t e
      exact ⟨v, e2, h⟩
    · rw [List.getElem?_set_ne (Ne.symm hj)] at e
      obtain ⟨y, ey, k⟩ := rs.sl j t e
      exact ⟨y, by rw [List.getElem?_set_ne (Ne.symm hj)]; exact ey, k⟩
  · by_cases hj : j = i
    · subst hj
      obtain ⟨rfl, e2⟩ := self t e
      rw [e2] at q
      cases q
      rw [List.getElem?_set_ne ne] at e' ⊢
      exact fun z => hn w x rfl ⟨j', u, e', w', z⟩
    · rw [List.getElem?_set_ne (Ne.symm hj)] at e q
      by_cases hj' : j' = i
      · subst hj'
        obtain ⟨rfl, e2⟩ := self u e'
        rw [e2]
        intro z
        cases z
        exact hn w' x rfl ⟨j, t, e, w, q⟩
      · rw [List.getElem?_set_ne (Ne.symm hj')] at e' ⊢
        exact rs.nd j j' t u x ne e e' w w' q
/-- a def's own thing changes -/
theorem RS.mut {i : Nat} {q : Addr} {s s' : Sl} {o : HO} (rs : RS g H0 al0 r S al σ H) (e : r[i]? = some (some s)) (w : s.own = true) (ev : σ[i]? = some (some (.ref q))) (h0 : H0 q = none) (lo : Loose H q) (ni : ∀ C dx fs, H q ≠ some (.ins C dx fs))
    (h : SlOk g al H0 (upd H q o) (.ref q) s') : RS g H0 al0 (r.set i (some s')) S al σ (upd H q o) := by
  have hl : i < r.length := (List.getElem?_eq_some_iff.mp e).1
  refine ⟨rs.keep.mut h0, rs.pre, rs.sto.loose lo ni, by rw [List.length_set, rs.len], fun j t ej => ?_, fun j j' t u x ne e1 e2 w1 w2 q1 => ?_⟩
  · by_cases hj : j = i
    · subst hj
      rw [List.getElem?_set_self hl] at ej
      cases ej
      exact ⟨_, ev, h⟩
    · rw [List.getElem?_set_ne (Ne.symm hj)] at ej
      obtain ⟨y, ey, k⟩ := rs.sl j t ej
      refine ⟨y, ey, k.loose lo fun ow z => ?_⟩
      subst z
      exact rs.nd i j s t q (Ne.symm hj) e ej w ow ev ey
  · by_cases hj : j = i
    · subst hj
      rw [ev] at q1
      cases q1
      rw [List.getElem?_set_ne ne] at e2
      exact rs.nd j j' s u q ne e e2 w w2 ev
    · rw [List.getElem?_set_ne (Ne.symm hj)] at e1
      by_cases hj' : j' = i
      · subst hj'
        rw [ev]
        intro z
        cases z
        exact rs.nd j j' t s q ne e1 e w1 w q1 ev
      · rw [List.getElem?_set_ne (Ne.symm hj')] at e2
        exact rs.nd j j' t u x ne e1 e2 w1 w2 q1

/-! ### what is wanted of statements -/
def noComp : Expr → Bool
  | .ListComp _ _ _ _ => false
  | .SetComp _ _ _ _ => false
  | .DictComp _ _ _ _ _ => false
  | _ => true
theorem swaps_no {t : Option Expr} {l : Nat} {env : Env} (h : noComp e = true) : swapsWith e t l env = pure false := by
  cases e <;> first | rfl | (simp [noComp] at h; done)
def noTup : Expr → Bool
  | .Tuple _ _ _ => false
  | _ => true
def noSet : Expr → Bool
  | .Set _ _ _ => false
  | _ => true
theorem folded_no {env : Env} (h : noSet e = true) : ∀ x, foldedSetIterable e env x = pure x := by
  cases e <;> first | (intro _; rfl) | (simp [noSet] at h; done)

/-- one step, then the rest of a statement -/
theorem PstS.st {α δ : Type} {R1 : Al → Hp → δ → α → Prop} {o : Out α} {k : α → Sto → SO} {Dn : Ends} (rs0 : RS g H0 al0 r S al σ H) (h : PstS g W H0 al0 (o.st r k) Dn) :
    Pst g W H0 al0 r σ al H R1 o fun (v : δ) H1 => ∃ al1 x S1, RS g H0 al0 r S1 al1 σ H1 ∧ Keep H H1 ∧ al <+: al1 ∧ R1 al1 H1 v x ∧ PstS g W H0 al0 (k x S1) Dn := by
  cases o with
  | bad => exact h
  | exc c S' => exact fun H' al' rs => h σ H' al' rs
  | ok x S' => exact fun H1 al1 v rs kp pr q => ⟨al1, x, S', rs, kp, pr, q, h⟩
theorem PstS.ofO {o : Option Rho} {S : Sto} {Dn : Ends} (h : PstS g W H0 al0 (Pi.ofO o S) Dn) : ∃ r, o = some r ∧ PstS g W H0 al0 (.nx r S) Dn := by
  cases o with
  | none => exact h.elim
  | some r => exact ⟨r, rfl, h⟩
theorem ts_pass : PS X (.Pass pos) (TSt g W fun r S => .nx r S) := by
  refine PS.imp ps_pass ?_
  rintro Dn σ H ⟨H0, al0, al, r, S, rs, h⟩
  exact h σ H al rs
theorem ts_break : PS X (.Break pos) (TSt g W fun r S => .bk r S) := by
  refine PS.imp ps_break ?_
  rintro Dn σ H ⟨H0, al0, al, r, S, rs, h⟩
  exact h σ H al rs
theorem ts_continue : PS X (.Continue pos) (TSt g W fun r S => .ct r S) := by
  refine PS.imp ps_continue ?_
  rintro Dn σ H ⟨H0, al0, al, r, S, rs, h⟩
  exact h σ H al rs
theorem ts_doc {x j} : PS X (.Expr (.Constant (.str x) j p) pos) (TSt g W fun r S => .nx r S) := by
  refine PS.imp ps_doc ?_
  rintro Dn σ H ⟨H0, al0, al, r, S, rs, h⟩
  exact h σ H al rs
theorem ts_ex {R : RR D} (ha : PE X a (TR g W R ma)) (hs : noComp a = true) : PS X (.Expr a pos) (TSt g W fun r S => (ma r S).st r fun _ S => .nx r S) := by
  refine PS.imp (ps_expr ha (swaps_no hs)) ?_
  rintro Dn σ H ⟨H0, al0, al, r, S, rs, h⟩
  refine ⟨H0, al0, al, r, S, rs, (PstS.st (R1 := R H) rs h).imp ?_⟩
  rintro v H1 ⟨al1, x, S1, rs1, k1, p1, b1, h⟩
  exact h σ H1 al1 rs1
theorem ts_ret (ha : PE X a (TR g W (RV g) ma)) : PS X (.Return (some a) pos) (TSt g W fun r S => (ma r S).st r fun d S => .rt d S) := by
  refine PS.imp (ps_ret ha) ?_
  rintro Dn σ H ⟨H0, al0, al, r, S, rs, h⟩
  refine ⟨H0, al0, al, r, S, rs, (PstS.st (R1 := RV g H) rs h).imp ?_⟩
  rintro v H1 ⟨al1, x, S1, rs1, k1, p1, b1, h⟩
  exact h v H1 al1 rs1.keep rs1.pre rs1.sto b1
theorem ts_retN : PS X (.Return none pos) (TSt g W fun r S => .rt .non S) := by
  refine PS.imp ps_retN ?_
  rintro Dn σ H ⟨H0, al0, al, r, S, rs, h⟩
  exact h .non H al rs.keep rs.pre rs.sto .non
variable {mt : Rho → Sto → Out Bool} {m1 m2 : Rho → Sto → SO} {st : Stmt} {sa sb rest : List Stmt}
theorem ts_if (hc : PT X c (TT' g W mt)) (ha : PSs X sa (TSt g W m1)) (hb : PSs X sb (TSt g W m2)) : PS X (.If c sa sb pos) (TSt g W fun r S => (mt r S).st r fun k S => if k = true then m1 r S else m2 r S) := by
  refine PS.imp (ps_if hc ha hb) ?_
  rintro Dn σ H ⟨H0, al0, al, r, S, rs, h⟩
  refine ⟨H0, al0, al, r, S, rs, (PstS.st (R1 := fun _ _ (b : Bool) d => b = d) rs h).imp ?_⟩
  rintro k H1 ⟨al1, x, S1, rs1, k1, p1, rfl, h⟩
  cases k with
  | true => exact ⟨H0, al0, al1, r, S1, rs1, h⟩
  | false => exact ⟨H0, al0, al1, r, S1, rs1, h⟩
theorem tss_nil : PSs X [] (TSt g W fun r S => .nx r S) := by
  refine PSs.imp pss_nil ?_
  rintro Dn σ H ⟨H0, al0, al, r, S, rs, h⟩
  exact h σ H al rs
theorem tss_cons (h1 : PS X st (TSt g W m1)) (h2 : PSs X rest (TSt g W m2)) : PSs X (st :: rest) (TSt g W fun r S => match m1 r S with | .nx r S => m2 r S | o => o) := by
  refine PSs.imp (pss_cons h1 h2) ?_
  rintro Dn σ H ⟨H0, al0, al, r, S, rs, h⟩
  refine ⟨H0, al0, al, r, S, rs, ?_⟩
  dsimp only at h
  cases e : m1 r S with
  | nx r1 S1 =>
    rw [e] at h
    exact fun σ1 H1 al1 rs1 => ⟨H0, al0, al1, r1, S1, rs1, h⟩
  | bk r1 S1 => rw [e] at h; exact h
  | ct r1 S1 => rw [e] at h; exact h
  | rt d S1 => rw [e] at h; exact h
  | xc c r1 S1 => rw [e] at h; exact h
  | bad => rw [e] at h; exact h

/-! ### another entry -/
theorem SlOk.up {v : V} {s : Sl} {K0 : Hp} (k : Keep H0 K0) (h : SlOk g al K0 H v s) : SlOk g al H0 H v s := by
  cases s with
  | v d => exact h
  | ol ds => obtain ⟨q, vs, e1, e2, e3, e4⟩ := h; exact ⟨q, vs, e1, k.back e2, e3, e4⟩
  | od ds => obtain ⟨q, vs, e1, e2, e3, e4⟩ := h; exact ⟨q, vs, e1, k.back e2, e3, e4⟩
theorem RS.up {K0 : Hp} {bl : Al} (k : Keep H0 K0) (q : al0 <+: bl) (rs : RS g K0 bl r S al σ H) : RS g H0 al0 r S al σ H :=
  ⟨k.trans rs.keep, q.trans rs.pre, rs.sto, rs.len, fun i s e => let ⟨v, ev, h⟩ := rs.sl i s e; ⟨v, ev, h.up k⟩, rs.nd⟩
theorem PstS.up {K0 : Hp} {bl : Al} {o : SO} {Dn : Ends} (k : Keep H0 K0) (q : al0 <+: bl) (h : PstS g W H0 al0 o Dn) : PstS g W K0 bl o Dn := by
  cases o with
  | nx r S => exact fun σ H al rs => h σ H al (rs.up k q)
  | bk r S => exact fun σ H al rs => h σ H al (rs.up k q)
  | ct r S => exact fun σ H al rs => h σ H al (rs.up k q)
  | xc c r S => exact fun σ H al rs => h σ H al (rs.up k q)
  | rt d S => exact fun v H al kp pr => h v H al (k.trans kp) (q.trans pr)
  | bad => exact h
open Classical in
/-- all but the own things, as an entry -/
theorem RS.rebase (rs : RS g H0 al0 r S al σ H) : ∃ K0, Keep H0 K0 ∧ KeepZ H K0 ∧ RS g K0 al r S al σ H := by
  refine ⟨fun q => if OwnAt r σ q then none else H q, ?_, ?_, ⟨⟨fun q o h _ => ?_, fun q C dx fs h => ?_⟩, List.prefix_refl _, rs.sto, rs.len, fun i s e => ?_, rs.nd⟩⟩
  · have n0 : ∀ q o, H0 q = some o → ¬ OwnAt r σ q := fun q o h ⟨i, s, e, w, ev⟩ => by
      obtain ⟨v, e2, k⟩ := rs.sl i s e
      rw [ev] at e2
      cases e2
      cases s with
      | v d => cases w
      | ol ds => obtain ⟨q', vs, e1, z, _⟩ := k; cases e1; rw [h] at z; cases z
      | od ds => obtain ⟨q', vs, e1, z, _⟩ := k; cases e1; rw [h] at z; cases z
    exact ⟨fun q o h n => by
      show (if OwnAt r σ q then none else H q) = some o
      rw [if_neg (n0 q o h)]; exact rs.keep.k q o h n, fun q C dx fs h => by
      obtain ⟨fs', h'⟩ := rs.keep.i q C dx fs h
      exact ⟨fs', by
        show (if OwnAt r σ q then none else H q) = _
        rw [if_neg (n0 q _ h)]; exact h'⟩⟩
  · have n1 : ∀ q o, H q = some o → (∀ vs, o ≠ .lst vs) → (∀ kvs, o ≠ .dK kvs) → ¬ OwnAt r σ q := fun q o h h1 h2 w => by
      rcases rs.own_some w with ⟨_, z⟩ | ⟨_, z⟩
      · rw [h] at z; cases z; exact h1 _ rfl
      · rw [h] at z; cases z; exact h2 _ rfl
    exact ⟨fun q o u h => by
      show (if OwnAt r σ q then none else H q) = _
      rw [if_neg (n1 q _ h (fun _ z => nomatch z) (fun _ z => nomatch z))]; exact h, fun q xs h => by
      show (if OwnAt r σ q then none else H q) = _
      rw [if_neg (n1 q _ h (fun _ z => nomatch z) (fun _ z => nomatch z))]; exact h⟩
  · replace h : (if OwnAt r σ q then none else H q) = some o := h
    split at h
    · cases h
    · exact h
  · replace h : (if OwnAt r σ q then none else H q) = some (.ins C dx fs) := h
    split at h
    · cases h
    · exact ⟨fs, h⟩
  · obtain ⟨v, ev, k⟩ := rs.sl i s e
    refine ⟨v, ev, ?_⟩
    cases s with
    | v d => exact k
    | ol ds =>
      obtain ⟨q, vs, rfl, z, y, l⟩ := k
      exact ⟨q, vs, rfl, if_pos ⟨i, _, e, rfl, ev⟩, y, l⟩
    | od ds =>
      obtain ⟨q, vs, rfl, z, y, l⟩ := k
      exact ⟨q, vs, rfl, if_pos ⟨i, _, e, rfl, ev⟩, y, l⟩

/-! ### loops -/
theorem ts_while (hp : PassesOwn (model X.prog X.w) X.A X.env X.xe) (hc : PT X c (TT' g W mt)) (hb : PSs X sa (TSt g W m1)) : PS X (.While c sa [] pos) (TSt g W (whS mt m1)) := by
  refine PS.imp (ps_while hp hc hb) ?_
  rintro Dn σ H ⟨H0, al0, al, r, S, rs, h⟩
  have nb : whS mt m1 r S ≠ .bad := fun e => by rw [e] at h; exact h
  obtain ⟨n, en⟩ := whS_n nb
  rw [← en] at h
  refine ⟨fun k σ H => ∃ al r S, RS g H0 al0 r S al σ H ∧ PstS g W H0 al0 (wh mt m1 k r S) Dn, ⟨n, al, r, S, rs, h⟩, ?_⟩
  clear h rs en nb
  rintro k σ H ⟨al, r, S, rs, h⟩
  cases k with
  | zero => exact h.elim
  | succ k =>
    unfold wh at h
    refine ⟨H0, al0, al, r, S, rs, (PstS.st (R1 := fun _ _ (b : Bool) d => b = d) rs h).imp ?_⟩
    rintro b H1 ⟨al1, x, S1, rs1, k1, p1, rfl, h⟩
    cases b with
    | false =>
      rw [if_neg Bool.false_ne_true] at h ⊢
      exact h σ H1 al1 rs1
    | true =>
      rw [if_pos rfl] at h ⊢
      refine ⟨fun σ H => ∃ m', m' < k + 1 ∧ m' = k ∧ ∃ al r S, RS g H0 al0 r S al σ H ∧ PstS g W H0 al0 (wh mt m1 m' r S) Dn, fun σ' H' h => let ⟨m', h1, _, h2⟩ := h; ⟨m', h1, h2⟩, H0, al0, al1, r, S1, rs1, ?_⟩
      cases eb : m1 r S1 with
      | nx r2 S2 => rw [eb] at h; exact fun σ2 H2 al2 rs2 => ⟨k, Nat.lt_succ_self k, rfl, al2, r2, S2, rs2, h⟩
      | ct r2 S2 => rw [eb] at h; exact fun σ2 H2 al2 rs2 => ⟨k, Nat.lt_succ_self k, rfl, al2, r2, S2, rs2, h⟩
      | bk r2 S2 => rw [eb] at h; exact h
      | rt d S2 => rw [eb] at h; exact h
      | xc c r2 S2 => rw [eb] at h; exact h
      | bad => rw [eb] at h; exact h
variable {mi : Rho → Sto → Out (List D)} {iter : Expr} {t : Tg}
theorem ts_for (G : XG g X) (hp : PassesOwn (model X.prog X.w) X.A X.env X.xe) (hi : PI X tg iter (TIt g W mi)) (hg : PG X tg (TGd g t)) (hb : PSs X sa (TSt g W m1)) (hs : noSet iter = true) :
    PS X (.For tg iter sa [] pos) (TSt g W fun r S => (mi r S).st r fun xs S => forS (fun x r S => match bindT t x r with | some r => m1 r S | none => .bad) xs r S) := by
  refine PS.imp (ps_for hp G.calm hi hg hb (folded_no hs)) ?_
  rintro Dn σ H ⟨H0, al0, al, r, S, rs, h⟩
  refine ⟨H0, al0, al, r, S, rs, (PstS.st (R1 := fun al H (J : L2.It) ds => Yl g al H J ds) rs h).imp ?_⟩
  rintro J H1 ⟨al1, ds, S1, rs1, k1, p1, yl, h⟩
  obtain ⟨K0, q1, q2, rs1'⟩ := rs1.rebase
  replace h := h.up (q1) rs1.pre
  refine ⟨fun i n σ H' => n = ds.length - i ∧ i ≤ ds.length ∧ ∃ al' r S, RS g K0 al1 r S al' σ H' ∧
    PstS g W K0 al1 (forS (fun x r S => match bindT t x r with | some r => m1 r S | none => .bad) (ds.drop i) r S) Dn, ⟨_, rfl, Nat.zero_le _, al1, r, S1, rs1', h⟩, ?_⟩
  clear h rs1 rs1' rs
  rintro i n σ H2 ⟨rfl, hi, al2, r, S, rs2, h⟩
  have kz : KeepZ H1 H2 := q2.trans rs2.keep.toZ
  by_cases he : i = ds.length
  · subst he
    rw [List.drop_length] at h
    exact .inl ⟨(yl _ H2 al2 kz rs2.pre).2 (Nat.le_refl _), h σ H2 al2 rs2⟩
  · have hlt : i < ds.length := by omega
    have eg : ds[i]? = some ds[i] := List.getElem?_eq_getElem hlt
    obtain ⟨go, yl2⟩ := (yl i H2 al2 kz rs2.pre).1 _ eg
    rw [List.drop_eq_getElem_cons hlt] at h
    unfold forS at h
    refine .inr ⟨go, fun σ H' => ∃ m', m' < ds.length - i ∧ m' = ds.length - (i + 1) ∧ i + 1 ≤ ds.length ∧ ∃ al' r S, RS g K0 al1 r S al' σ H' ∧
      PstS g W K0 al1 (forS (fun x r S => match bindT t x r with | some r => m1 r S | none => .bad) (ds.drop (i + 1)) r S) Dn, fun σ' H' h => h, ?_⟩
    intro x H3 hy
    obtain ⟨sm, dx⟩ := yl2 x H3 hy
    have rs3 := rs2.same sm
    cases eb : bindT t ds[i] r with
    | none => rw [eb] at h; exact h.elim
    | some r1 =>
      rw [eb] at h
      refine ⟨K0, al1, al2, r, S, ds[i], r1, rs3, dx, eb, fun σ2 rs4 of => ⟨K0, al1, al2, r1, S, rs4, ?_⟩⟩
      dsimp only at h
      cases e1 : m1 r1 S with
      | nx r2 S2 => rw [e1] at h; exact fun σ3 H4 al3 rs5 => ⟨_, by omega, rfl, by omega, al3, r2, S2, rs5, h⟩
      | ct r2 S2 => rw [e1] at h; exact fun σ3 H4 al3 rs5 => ⟨_, by omega, rfl, by omega, al3, r2, S2, rs5, h⟩
      | bk r2 S2 => rw [e1] at h; exact h
      | rt d S2 => rw [e1] at h; exact h
      | xc c r2 S2 => rw [e1] at h; exact h
      | bad => rw [e1] at h; exact h
end
end Pi

/-! Pi8b: statements that store, by data. -/
namespace Pi
open PySem L2 PySem.Spec PyProof.Rows
section
variable {g : GC} {al al' al0 als : Al} {H H' H0 Hs : Hp} {S S' : Sto} {r r' : Rho} {σ σ' : L2.St} {W : WX} {X : Cx} {Φ : Phi}
variable {a b c tg e : Expr} {m ma mb mc : Rho → Sto → Out D} {pos p p2 p3 apos cpos tpos spos : Pos} {i j : Nat} {x y : Str}

theorem sole_no {t : Expr} {l : Nat} {env : Env} (h : noComp e = true) : swapsWithSole [t] e l env = pure false := by
  unfold swapsWithSole
  exact swaps_no h
theorem setR_some {s : Sl} (h : setR i s r = some r') : i < r.length ∧ r' = r.set i (some s) := by
  unfold setR at h
  split at h
  · cases h; exact ⟨by assumption, rfl⟩
  · cases h
/-- what a new value is, in a name -/
theorem RF.sl {v : V} {d : D} (k0 : H0 = H0) (hs : ∀ q, Hs q = none → H0 q = none) (h : RF g Hs al H v d) : SlOk g al H0 H v d.own := by
  cases d with
  | lst ds => obtain ⟨q, vs, e, n, y, l⟩ := h; exact ⟨q, vs, e, hs q n, y, l⟩
  | dic ds => obtain ⟨q, vs, e, n, y, l⟩ := h; exact ⟨q, vs, e, hs q n, y, l⟩
  | _ => exact h
theorem RF.fresh {v : V} {d : D} (rs : RS g H0 al0 r S al σ Hs) (h : RF g Hs al' H v d) : d.own.own = true → ∀ q, v = .ref q → ¬ OwnAt r σ q := by
  cases d with
  | lst ds => obtain ⟨q, vs, rfl, n, _⟩ := h; intro _ q' e; cases e; exact rs.not_own n
  | dic ds => obtain ⟨q, vs, rfl, n, _⟩ := h; intro _ q' e; cases e; exact rs.not_own n
  | _ => intro z; cases z
/-- a name gets a new value -/
theorem asgO_of {Dn : Ends} (h : TSt g W (fun r S => (m r S).st r fun d S => ofO (setR i d.own r) S) Dn σ H) : tAsg (TR g W (RF g) m) (gName i) Dn σ H := by
  obtain ⟨H0, al0, al, r, S, rs, h⟩ := h
  refine ⟨H0, al0, al, r, S, rs, (PstS.st (R1 := RF g H) rs h).imp ?_⟩
  rintro v H1 ⟨al1, d, S1, rs1, k1, p1, b1, h⟩
  obtain ⟨r', e, h⟩ := h.ofO
  obtain ⟨_, rfl⟩ := setR_some e
  exact h _ H1 al1 (rs1.setS (b1.fresh rs) (b1.sl rfl fun q n => rs.keep.back n))
theorem asgV_of {Dn : Ends} (h : TSt g W (fun r S => (m r S).st r fun d S => ofO (setR i (.v d) r) S) Dn σ H) : tAsg (TR g W (RV g) m) (gName i) Dn σ H := by
  obtain ⟨H0, al0, al, r, S, rs, h⟩ := h
  refine ⟨H0, al0, al, r, S, rs, (PstS.st (R1 := RV g H) rs h).imp ?_⟩
  rintro v H1 ⟨al1, d, S1, rs1, k1, p1, b1, h⟩
  obtain ⟨r', e, h⟩ := h.ofO
  obtain ⟨_, rfl⟩ := setR_some e
  exact h _ H1 al1 (rs1.setV b1)
/-- a place of a name -/
structure Nm (X : Cx) (i : Nat) (x : Str) : Prop where
  at_ : X.N[i]? = some x
  loc : Loc X.env.scope x
  fn : X.fn x = true ∨ X.env.scope.names.lookup x = some .local
theorem ts_setV (G : XG g X) (n : Nm X i x) (he : PE X e (TR g W (RV g) m)) (hs : noComp e = true) : PS X (.Assign [.Name x p] e pos) (TSt g W fun r S => (m r S).st r fun d S => ofO (setR i (.v d) r) S) :=
  PS.imp (ps_set G.nd n.at_ n.loc he (swaps_no hs) n.fn) fun _ _ _ h => asgV_of h
theorem ts_setO (G : XG g X) (n : Nm X i x) (he : PE X e (TR g W (RF g) m)) (hs : noComp e = true) : PS X (.Assign [.Name x p] e pos) (TSt g W fun r S => (m r S).st r fun d S => ofO (setR i d.own r) S) :=
  PS.imp (ps_set G.nd n.at_ n.loc he (swaps_no hs) n.fn) fun _ _ _ h => asgO_of h
/-- several names -/
theorem ts_setT (G : XG g X) {t : Tg} {es : List Expr} {k : Nat} (hg : PG X (.Tuple es k p) (TGd g t)) (he : PE X e (TR g W (RV g) m)) (hs : noComp e = true) (ht : noTup e = true) :
    PS X (.Assign [.Tuple es k p] e pos) (TSt g W fun r S => (m r S).st r fun d S => ofO (bindT t d r) S) := by
  refine PS.imp (ps_asg he hg (sole_no hs) ?_ rfl) ?_
  · cases e <;> first | rfl | (simp [noTup] at ht; done)
  · rintro Dn σ H ⟨H0, al0, al, r, S, rs, h⟩
    refine ⟨H0, al0, al, r, S, rs, (PstS.st (R1 := RV g H) rs h).imp ?_⟩
    rintro v H1 ⟨al1, d, S1, rs1, k1, p1, b1, h⟩
    obtain ⟨r', e, h⟩ := h.ofO
    exact ⟨H0, al0, al1, r, S1, d, r', rs1, b1, e, fun σ' rs' _ => h σ' H1 al1 rs'⟩
/-- a, b = x, y -/
theorem swapped_two {env : Env} {kt k2 : Nat} {px py pt pt2 : Pos} (hk : env.scope.kind = .function) (hx : env.scope.names.lookup x = some .local) (hy : env.scope.names.lookup y = some .local) (hl : (py.line == px.line) = true) (ne : x ≠ y)
    (ha : noStar a = true) (hb : noStar b = true) (h1 : [a, b].all (foldedForSure 8) = false) (h2 : [a, b].all (constantsAlone 8) = false) :
    swappedStores [.Tuple [.Name x px, .Name y py] kt pt] (.Tuple [a, b] k2 pt2) env = pure (some [x, y]) := by
  have kx : env.kindOf x = some .local := hx
  have ky : env.kindOf y = some .local := hy
  have hbk : env.blockKind = .function := by unfold Env.blockKind; rw [hk]; rfl
  have hl' : py.line = px.line := by simpa using hl
  have ed : [x, y].eraseDups.length = 2 := by
    have : (y == x) = false := by simpa using fun z => ne z.symm
    simp [List.eraseDups, List.eraseDupsBy, List.eraseDupsBy.loop, this]
  unfold swappedStores
  simp only [hbk, h1, h2, List.filterMap_cons, List.filterMap_nil, List.head?_cons, Option.map_some, Option.getD_some, Expr.pos, kx, ky, hl', beq_self_eq_true, Bool.and_self, if_true, List.length_cons, List.length_nil, ed]
  rw [if_neg (by decide), if_neg ?_]
  · rfl
  · intro z
    simp only [List.any_cons, List.any_nil, Bool.or_eq_true, Bool.false_eq_true, or_false] at z
    rcases z with z | z
    · cases a <;> first | (cases z; done) | (simp [noStar] at ha; done)
    · cases b <;> first | (cases z; done) | (simp [noStar] at hb; done)
theorem ts_par (G : XG g X) {kt k2 : Nat} {px py pt pt2 : Pos} (nx : Nm X i x) (ny : Nm X j y) (lx : X.env.scope.names.lookup x = some .local) (ly : X.env.scope.names.lookup y = some .local) (hij : i ≠ j) (ha : PE X a (TR g W (RV g) ma)) (hb : PE X b (TR g W (RV g) mb)) (hs : noStar a = true) (hs' : noStar b = true)
    (hw : swappedStores [.Tuple [.Name x px, .Name y py] kt pt] (.Tuple [a, b] k2 pt2) X.env = pure (some [x, y])) :
    PS X (.Assign [.Tuple [.Name x px, .Name y py] kt pt] (.Tuple [a, b] k2 pt2) pos) (TSt g W fun r S => (ma r S).st r fun x S => (mb r S).st r fun y S => ofO ((setR i (.v x) r).bind (setR j (.v y))) S) := by
  refine PS.imp (ps_par G.calm G.nd nx.at_ ny.at_ hij lx ly (as2 ha hb hs hs') hw (sole_no rfl)) ?_
  rintro Dn σ H ⟨H0, al0, al, r, S, rs, h⟩
  refine ⟨H0, al0, al, r, S, rs, ?_⟩
  dsimp only at h ⊢
  cases e1 : ma r S with
  | bad => rw [e1] at h; exact h
  | exc c S1 => rw [e1] at h; exact fun H' al' rs => h σ H' al' rs
  | ok x S1 =>
    rw [e1] at h
    cases e2 : mb r S1 with
    | bad => simp only [Out.st, e2] at h; exact h.elim
    | exc c S2 => simp only [Out.st, Out.bnd, e2] at h ⊢; exact fun H' al' rs => h σ H' al' rs
    | ok y S2 =>
      simp only [Out.st, Out.bnd, e2] at h ⊢
      intro H1 al1 vs rs1 k1 p1 b1
      obtain ⟨r', e, h⟩ := h.ofO
      cases b1 with
      | cons b1 bn =>
        cases bn with
        | cons b2 bn =>
          cases bn
          refine ⟨_, _, rfl, ?_⟩
          simp only [Option.bind_eq_some_iff] at e
          obtain ⟨r1, e3, e4⟩ := e
          obtain ⟨_, rfl⟩ := setR_some e3
          obtain ⟨_, rfl⟩ := setR_some e4
          exact h _ H1 al1 ((rs1.setV b1).setV b2)
end
end Pi

/-! Pi8c: statements that change a def's own list or dict, or an instance, by data. -/
namespace Pi
open PySem L2 PySem.Spec PyProof.Rows
section
variable {g : GC} {al al' al0 als : Al} {H H' H0 Hs : Hp} {S S' : Sto} {r r' : Rho} {σ σ' : L2.St} {W : WX} {X : Cx} {Φ : Phi}
variable {a b c tg e : Expr} {m ma mb mc : Rho → Sto → Out D} {pos p p2 p3 apos cpos tpos spos : Pos} {i j : Nat} {x y : Str}

/-- the def's own list, dict at a name -/
theorem RS.olAt {ds : List D} (rs : RS g H0 al0 r S al σ H) (e : r[i]? = some (some (.ol ds))) : ∃ q vs, σ[i]? = some (some (.ref q)) ∧ H0 q = none ∧ H q = some (.lst vs) ∧ DtL g al H vs ds := by
  obtain ⟨v, ev, q, vs, rfl, z, y, l⟩ := rs.sl i _ e
  exact ⟨q, vs, ev, z, y, l⟩
theorem RS.odAt {ds : List (Str × D)} (rs : RS g H0 al0 r S al σ H) (e : r[i]? = some (some (.od ds))) : ∃ q vs, σ[i]? = some (some (.ref q)) ∧ H0 q = none ∧ H q = some (.dK vs) ∧ DtK g al H vs ds := by
  obtain ⟨v, ev, q, vs, rfl, z, y, l⟩ := rs.sl i _ e
  exact ⟨q, vs, ev, z, y, l⟩
theorem RS.putL {q : Addr} {vs ws : List V} {ds es : List D} (rs : RS g H0 al0 r S al σ H) (e : r[i]? = some (some (.ol ds))) (ev : σ[i]? = some (some (.ref q))) (z : H0 q = none) (y : H q = some (.lst vs)) (l : DtL g al H ws es) :
    RS g H0 al0 (r.set i (some (.ol es))) S al σ (upd H q (.lst ws)) :=
  rs.mut e rfl ev z (loose_lst y) (fun _ _ _ w => by rw [y] at w; cases w) ⟨q, ws, rfl, z, upd_same, l.loose (loose_lst y)⟩
theorem RS.putD {q : Addr} {vs ws : List (Key × V)} {ds es : List (Str × D)} (rs : RS g H0 al0 r S al σ H) (e : r[i]? = some (some (.od ds))) (ev : σ[i]? = some (some (.ref q))) (z : H0 q = none) (y : H q = some (.dK vs)) (l : DtK g al H ws es) :
    RS g H0 al0 (r.set i (some (.od es))) S al σ (upd H q (.dK ws)) :=
  rs.mut e rfl ev z (loose_dK y) (fun _ _ _ w => by rw [y] at w; cases w) ⟨q, ws, rfl, z, upd_same, l.loose (loose_dK y)⟩
/-- a place of a name that is read -/
structure Nv (X : Cx) (i : Nat) (x : Str) : Prop where
  at_ : X.N[i]? = some x
  vis : Vis X.env.scope x
  d1 : (x == ("__debug__" : Str)) = false
  d2 : (x == ("__classdict__" : Str)) = false
/-- what a method call of a built-in asks of the text -/
structure MB (X : Cx) (o : Expr) (name : Str) (apos cpos : Pos) (a : Expr) : Prop where
  base : attributeBase o name X.env (eval o X.env) = eval o X.env
  few : ((backTo cpos (starEach [a] X.env)).all (fun x => !x.1) && (backToKw cpos (keywordEach [] X.env)).all (fun x => x.1.isSome)
      && decide (([a] : List Expr).length + ([] : List Keyword).length + (if ([] : List Keyword).isEmpty then 0 else 1) < 30)) = true
  line : (apos.endLine == cpos.line) = true
theorem ts_app (n : Nv X i x) (ha : PE X a (TR g W (RV g) ma)) (hs : noStar a = true) (mb : MB X (.Name x p) "append" apos cpos a) :
    PS X (.Expr (.Call (.Attribute (.Name x p) "append" apos) [a] [] cpos) pos) (TSt g W fun r S => match r[i]? with
      | some (some (.ol xs)) => (ma r S).st r fun d S => if xs.length < sizeLine then ofO (setR i (.ol (xs ++ [d])) r) S else .bad
      | _ => .bad) := by
  refine PS.imp (ps_expr (pe_bm PySem.F.plainAttrs_list PySem.F.slot_list_append PySem.F.type_list_append mt_append (pe_var n.at_ n.vis n.d1 n.d2) (pa_cons ha pa_nil (star_ok hs)) mb.base mb.few mb.line (star_ok hs) rfl) (swaps_no rfl)) ?_
  rintro Dn σ H ⟨H0, al0, al, r, S, rs, h⟩
  dsimp only at h
  split at h
  · rename_i xs er
    obtain ⟨q, vs, ev, z, y, l⟩ := rs.olAt er
    refine ⟨_, ev, .inl ⟨rfl, vs, .of y⟩, H0, al0, al, r, S, rs, (PstS.st (R1 := RV g H) rs h).imp ?_⟩
    rintro v H1 ⟨al1, d, S1, rs1, k1, p1, b1, h⟩
    split at h
    · rename_i hz
      obtain ⟨r', e, h⟩ := h.ofO
      obtain ⟨_, rfl⟩ := setR_some e
      obtain ⟨q', vs', ev', z', y', l'⟩ := rs1.olAt er
      rw [ev] at ev'
      cases ev'
      refine ⟨q, vs', v, rfl, rfl, y', by rw [l'.length]; exact hz, h _ _ al1 (rs1.putL er ev z' y' (l'.append (.cons b1 .nil)))⟩
    · exact h.elim
  · exact h.elim
/-- xs.extend(ys), ys frozen or not -/
def rExtQ (K : PySem.W.Frag) : V → List V → Hp → VK → Prop := fun x vs H Q => ∃ l b xs zs, x = .ref l ∧ vs = [.ref b] ∧ H l = some (.lst xs) ∧ SqL K H b zs ∧ xs.length + zs.length ≤ sizeLine ∧ Q .non (upd H l (.lst (xs ++ zs)))
theorem mt_extQ : MtR X "list.extend" (rExtQ X.K) := by
  intro pins s σ H x vs v us Q I rx rv h
  obtain ⟨l, b, xs, zs, rfl, rfl, hH, hB, hz, q⟩ := h
  cases rx
  obtain ⟨u, rfl, ru⟩ := rv.one
  cases ru
  obtain ⟨z, its, n, r, hl, e⟩ := I.lstM hH
  obtain ⟨its2, r2, ⟨ob, n2, e2, hc2, hd2, hs2⟩, z2⟩ := I.list hB
  have hl2 := r2.length
  have hsz : its.toArray.size + its2.toArray.size ≤ sizeLine := by rw [List.size_toArray, List.size_toArray]; omega
  have hlong : ¬ (!its.toArray.isEmpty && Builtin.List.listTooLong (its.toArray.size + its2.toArray.size)) = true := by
    rw [notLongL hsz, Bool.and_false]
    exact Bool.false_ne_true
  obtain ⟨oc, od, oda, osl⟩ := ob
  dsimp only at hc2 hd2 hs2
  subst hc2 hd2 hs2
  refine call_meets F.slot_list_extend ⟨_, e, rfl⟩ F.entry_list_extend (F.args_list_extend_2 _ _)
    (AutoSeq1.pi_list_extend l its.toArray n b its2.toArray n2 osl hlong (by rw [List.size_toArray]; omega) (by omega)) ⟨e, e2, ?_⟩
  refine ⟨.non, _, I.lset (its' := its ++ its2) hH e (by simp) (r.append r2) ?_, rfl, q⟩
  rw [List.length_append]
  omega
theorem ts_ext (G : XG g X) (n : Nv X i x) (ha : PE X a (TR g W (RV g) ma)) (hs : noStar a = true) (mb : MB X (.Name x p) "extend" apos cpos a) :
    PS X (.Expr (.Call (.Attribute (.Name x p) "extend" apos) [a] [] cpos) pos) (TSt g W fun r S => match r[i]? with
      | some (some (.ol xs)) => (ma r S).st r fun d S => match d with
        | .lst ys => if xs.length + ys.length ≤ sizeLine then ofO (setR i (.ol (xs ++ ys)) r) S else .bad
        | _ => .bad
      | _ => .bad) := by
  refine PS.imp (ps_expr (pe_bm PySem.F.plainAttrs_list PySem.F.slot_list_extend PySem.F.type_list_extend mt_extQ (pe_var n.at_ n.vis n.d1 n.d2) (pa_cons ha pa_nil (star_ok hs)) mb.base mb.few mb.line (star_ok hs) rfl) (swaps_no rfl)) ?_
  rintro Dn σ H ⟨H0, al0, al, r, S, rs, h⟩
  dsimp only at h
  split at h
  · rename_i xs er
    obtain ⟨q, vs, ev, z, y, l⟩ := rs.olAt er
    refine ⟨_, ev, .inl ⟨rfl, vs, .of y⟩, H0, al0, al, r, S, rs, (PstS.st (R1 := RV g H) rs h).imp ?_⟩
    rintro v H1 ⟨al1, d, S1, rs1, k1, p1, b1, h⟩
    cases d <;> try exact h.elim
    rename_i ys
    dsimp only at h
    split at h
    · rename_i hz
      obtain ⟨r', e, h⟩ := h.ofO
      obtain ⟨_, rfl⟩ := setR_some e
      obtain ⟨q', vs', ev', z', y', l'⟩ := rs1.olAt er
      rw [ev] at ev'
      cases ev'
      obtain ⟨q2, ws, rfl, sq, l2⟩ := Dt.lstI b1
      have hK := G.hK
      refine ⟨q, q2, vs', ws, rfl, rfl, y', hK ▸ sq.sq, by rw [l'.length, l2.length]; exact hz, h _ _ al1 (rs1.putL er ev z' y' (l'.append l2))⟩
    · exact h.elim
  · exact h.elim

/-! ### the last one taken from a list -/
/-- as an expression: its value, and the list is shorter -/
theorem pop_of {R : V → Hp → Prop} (n : Nv X i x) (hb : attributeBase (.Name x p) "pop" X.env (eval (.Name x p) X.env) = eval (.Name x p) X.env) (hl : (apos.endLine == cpos.line) = true) :
    PE X (.Call (.Attribute (.Name x p) "pop" apos) [] [] cpos) (fun σ H Q => ∃ v, σ[i]? = some (some v) ∧ tyV X.K "list" v H ∧ rPop v [] H Q) :=
  PE.imp (pe_bm0 PySem.F.plainAttrs_list PySem.F.slot_list_pop PySem.F.type_list_pop mt_pop (pe_var n.at_ n.vis n.d1 n.d2) hb hl) fun _ _ _ ⟨v, e, h⟩ => ⟨v, e, h⟩
theorem pop_at {xs : List D} {d : D} {Q : VK} (rs : RS g H0 al0 r S al σ H) (e : r[i]? = some (some (.ol xs))) (ed : xs.getLast? = some d)
    (h : ∀ v H', RS g H0 al0 (r.set i (some (.ol xs.dropLast))) S al σ H' → Dt g al H' v d → Q v H') : ∃ v, σ[i]? = some (some v) ∧ tyV X.K "list" v H ∧ rPop v [] H Q := by
  obtain ⟨q, vs, ev, z, y, l⟩ := rs.olAt e
  rw [List.getLast?_eq_getElem?] at ed
  obtain ⟨w, ew, dw⟩ := l.get ed
  rw [← l.length] at ew
  exact ⟨_, ev, .inl ⟨rfl, vs, .of y⟩, q, vs, w, rfl, rfl, y, ew, h _ _ (rs.putL e ev z y l.dropLast) (dw.loose (loose_lst y))⟩
def popS (t : Tg) (i : Nat) : Rho → Sto → SO := fun r S => match r[i]? with
  | some (some (.ol xs)) => (match xs.getLast? with
    | some d => ofO ((setR i (.ol xs.dropLast) r).bind fun r => bindT t d r) S
    | none => .bad)
  | _ => .bad
theorem ts_popl (G : XG g X) (n : Nv X i x) {t : Tg} (hg : PG X tg (TGd g t)) (hb : attributeBase (.Name x p) "pop" X.env (eval (.Name x p) X.env) = eval (.Name x p) X.env) (hl : (apos.endLine == cpos.line) = true)
    (h1 : (assignEach [tg] X.env).map (·.2) = [assign tg X.env]) (hw : swappedStores [tg] (.Call (.Attribute (.Name x p) "pop" apos) [] [] cpos) X.env = pure none) :
    PS X (.Assign [tg] (.Call (.Attribute (.Name x p) "pop" apos) [] [] cpos) pos) (TSt g W (popS t i)) := by
  refine PS.imp (ps_asg (pop_of (R := fun _ _ => True) n hb hl) hg (sole_no rfl) hw h1) ?_
  rintro Dn σ H ⟨H0, al0, al, r, S, rs, h⟩
  unfold popS at h
  split at h
  · rename_i xs er
    split at h
    · rename_i d ed
      obtain ⟨r', e, h⟩ := h.ofO
      simp only [Option.bind_eq_some_iff] at e
      obtain ⟨r1, e1, e2⟩ := e
      obtain ⟨_, rfl⟩ := setR_some e1
      refine pop_at rs er ed ?_
      intro v H' rs' dv
      exact ⟨H0, al0, al, _, S, d, r', rs', dv, e2, fun σ' rs2 _ => h σ' H' al rs2⟩
    · exact h.elim
  · exact h.elim
/-- a key taken from a dict -/
theorem ts_popk (n : Nv X i x) (ha : PE X a (TR g W (RV g) ma)) (mb : M1 X (.Name x p) "pop" apos a cpos) :
    PS X (.Expr (.Call (.Attribute (.Name x p) "pop" apos) [a] [] cpos) pos) (TSt g W fun r S => match r[i]? with
      | some (some (.od kvs)) => (ma r S).st r fun k S => match k with
        | .str k => if (dget kvs k).isSome = true then ofO (setR i (.od (ddrop kvs k)) r) S else .bad
        | _ => .bad
      | _ => .bad) := by
  refine PS.imp (ps_expr (pe_dpop1 (pe_var n.at_ n.vis n.d1 n.d2) ha mb) (swaps_no rfl)) ?_
  rintro Dn σ H ⟨H0, al0, al, r, S, rs, h⟩
  dsimp only at h
  split at h
  · rename_i kvs er
    obtain ⟨q, vs, ev, z, y, l⟩ := rs.odAt er
    refine ⟨_, ev, q, rfl, .inl ⟨vs, .inl y⟩, H0, al0, al, r, S, rs, (PstS.st (R1 := RV g H) rs h).imp ?_⟩
    rintro v H1 ⟨al1, d, S1, rs1, k1, p1, b1, h⟩
    cases d <;> try exact h.elim
    rename_i k
    cases b1
    dsimp only at h
    split at h
    · rename_i hz
      obtain ⟨r', e, h⟩ := h.ofO
      obtain ⟨_, rfl⟩ := setR_some e
      obtain ⟨q', vs', ev', z', y', l'⟩ := rs1.odAt er
      rw [ev] at ev'
      cases ev'
      rcases l'.val k with ⟨e1, _⟩ | ⟨w, d, e1, e2, _⟩
      · rw [e1] at hz; cases hz
      · exact ⟨vs', .inr k, w, y', rfl, e2, h _ _ al1 (rs1.putD er ev z' y' (l'.drop k))⟩
    · exact h.elim
  · exact h.elim
/-- d[k] = e -/
theorem ts_setk (G : XG g X) (n : Nv X i x) (ha : PE X a (TR g W (RV g) ma)) (hb : PE X b (TR g W (RV g) mb)) (hs : noComp b = true) :
    PS X (.Assign [.Subscript (.Name x p) a tpos] b pos) (TSt g W fun r S => (mb r S).st r fun d S => match r[i]? with
      | some (some (.od kvs)) => (ma r S).st r fun k S => match k with
        | .str k => if kvs.length < sizeLine then ofO (setR i (.od (dput kvs k d)) r) S else .bad
        | _ => .bad
      | _ => .bad) := by
  refine PS.imp (ps_dput (by have := G.room; omega) (pe_var n.at_ n.vis n.d1 n.d2) ha hb (swaps_no hs)) ?_
  rintro Dn σ H ⟨H0, al0, al, r, S, rs, h⟩
  refine ⟨H0, al0, al, r, S, rs, (PstS.st (R1 := RV g H) rs h).imp ?_⟩
  rintro v H1 ⟨al1, d, S1, rs1, k1, p1, b1, h⟩
  split at h
  · rename_i kvs er
    obtain ⟨q, vs, ev, z, y, l⟩ := rs1.odAt er
    refine ⟨_, ev, H0, al0, al1, r, S1, rs1, (PstS.st (R1 := RV g H1) rs1 h).imp ?_⟩
    rintro u H2 ⟨al2, k, S2, rs2, k2, p2, b2, h⟩
    cases k <;> try exact h.elim
    rename_i k
    cases b2
    dsimp only at h
    split at h
    · rename_i hz
      obtain ⟨r', e, h⟩ := h.ofO
      obtain ⟨_, rfl⟩ := setR_some e
      obtain ⟨q', vs', ev', z', y', l'⟩ := rs2.odAt er
      rw [ev] at ev'
      cases ev'
      exact ⟨q, _, rfl, .k (k := .inr k) y' (by rw [l'.length]; exact hz), h _ _ al2 (rs2.putD er ev z' y' (l'.put (Dt.mono k2 p2 b1)))⟩
    · exact h.elim
  · exact h.elim
/-- a number added to, taken from -/
theorem ts_aug (G : XG g X) (n : Nm X i x) (o : O2) (ho : o = .add ∨ o = .sub) (ha : PE X a (TR g W (RV g) ma)) :
    PS X (.AugAssign (.Name x p) (opOf o) a pos) (TSt g W fun r S => match r[i]? with
      | some (some (.v (.int x))) => (ma r S).st r fun y S => match y with
        | .int y => (match o with
          | .add => ofO (setR i (.v (.int (x + y))) r) S
          | .sub => ofO (setR i (.v (.int (x - y))) r) S
          | _ => .bad)
        | _ => .bad
      | _ => .bad) := by
  have go : ∀ (f : Int → Int → Int), PIp X (opOf o) (ipI f) → PS X (.AugAssign (.Name x p) (opOf o) a pos) (TSt g W fun r S => match r[i]? with
      | some (some (.v (.int x))) => (ma r S).st r fun y S => match y with
        | .int y => ofO (setR i (.v (.int (f x y))) r) S
        | _ => .bad
      | _ => .bad) := fun f hf => by
    refine PS.imp (ps_aug G.nd n.at_ n.loc ha hf n.fn) ?_
    rintro Dn σ H ⟨H0, al0, al, r, S, rs, h⟩
    dsimp only at h
    split at h
    · rename_i z er
      obtain ⟨v, ev, k⟩ := rs.sl i _ er
      cases k
      refine ⟨_, ev, H0, al0, al, r, S, rs, (PstS.st (R1 := RV g H) rs h).imp ?_⟩
      rintro u H1 ⟨al1, d, S1, rs1, k1, p1, b1, h⟩
      cases d <;> try exact h.elim
      rename_i w
      cases b1
      obtain ⟨r', e, h⟩ := h.ofO
      obtain ⟨_, rfl⟩ := setR_some e
      exact ⟨z, w, rfl, rfl, h _ _ al1 (rs1.setV (.int _))⟩
    · exact h.elim
  rcases ho with rfl | rfl
  · exact go _ ip_add
  · exact go _ ip_sub
/-- o.f = e -/
theorem fput_of : ∀ {fs : List (Str × V)} {ds : List (Str × D)} {f : Str} {v : V} {d : D}, FsOk g al H fs ds → Dt g al H v d → FsOk g al H (putF f v fs) (fput f d ds)
  | [], [], f, v, d, _, q => ⟨rfl, .cons q .nil⟩
  | [], _ :: _, _, _, _, h, _ => by have := h.len; simp at this
  | _ :: _, [], _, _, _, h, _ => by have := h.len; simp at this
  | (x, u) :: fs, (y, c) :: ds, f, v, d, h, q => by
    obtain ⟨h1, h2⟩ := h
    simp only [List.map_cons, List.cons.injEq] at h1
    obtain ⟨rfl, h1⟩ := h1
    cases h2 with
    | cons k t =>
      by_cases ef : x = f
      · subst ef
        have e1 : putF x v ((x, u) :: fs) = (x, v) :: fs := by simp [putF]
        have e2 : fput x d ((x, c) :: ds) = (x, d) :: ds := by simp [fput]
        rw [e1, e2]
        exact ⟨by simp [h1], .cons q t⟩
      · obtain ⟨g1, g2⟩ := fput_of (f := f) (fs := fs) (ds := ds) ⟨h1, t⟩ q
        have e1 : putF f v ((x, u) :: fs) = (x, u) :: putF f v fs := by simp [putF, ef]
        have e2 : fput f d ((x, c) :: ds) = (x, c) :: fput f d ds := by simp [fput, ef]
        rw [e1, e2]
        exact ⟨by simp [g1], .cons k g2⟩

/-- an instance's attribute changes -/
theorem RS.field {k : Nat} {q dx : Addr} {o : Ob} {f : Str} {d : D} {v : V} {fs : List (Str × V)} (rs : RS g H0 al0 r S al σ H) (ea : al[k]? = some (q, dx)) (eo : S[k]? = some o) (y : H q = some (.ins (g.ca o.cls) dx fs)) (fo : FsOk g al H fs o.fs) (dv : Dt g al H v d) :
    RS g H0 al0 r (S.set k ⟨o.cls, fput f d o.fs⟩) al σ (upd H q (.ins (g.ca o.cls) dx (putF f v fs))) := by
  have lo : Loose H q := loose_ins y
  have hk : k < S.length := (List.getElem?_eq_some_iff.mp eo).1
  refine ⟨⟨fun a u e n => ?_, fun a C dz gs e => ?_⟩, rs.pre, ⟨by rw [List.length_set]; exact rs.sto.len, fun j w dw u e1 e2 => ?_, rs.sto.nd⟩, rs.len, fun j s e => ?_, rs.nd⟩
  · have e1 := rs.keep.k a u e n
    rw [upd_ne (fun z => by subst z; rw [y] at e1; cases e1; exact n _ _ _ rfl)]
    exact e1
  · obtain ⟨gs', e1⟩ := rs.keep.i a C dz gs e
    by_cases ha : a = q
    · subst ha
      rw [y] at e1
      cases e1
      exact ⟨_, upd_same⟩
    · exact ⟨gs', by rw [upd_ne ha]; exact e1⟩
  · by_cases hj : j = k
    · subst hj
      rw [List.getElem?_set_self hk] at e2
      cases e2
      rw [ea] at e1
      cases e1
      exact ⟨_, upd_same, (fput_of fo dv).loose lo⟩
    · rw [List.getElem?_set_ne (Ne.symm hj)] at e2
      obtain ⟨gs, h1, h2⟩ := rs.sto.ins j w dw u e1 e2
      refine ⟨gs, ?_, h2.loose lo⟩
      rw [upd_ne (fun z => hj (rs.sto.nd j k w dw dx e1 (by rw [z]; exact ea)))]
      exact h1
  · obtain ⟨w, ew, h⟩ := rs.sl j s e
    refine ⟨w, ew, h.loose lo fun ow z => ?_⟩
    subst z
    rcases rs.own_some ⟨j, s, e, ow, ew⟩ with ⟨_, z⟩ | ⟨_, z⟩ <;> (rw [y] at z; cases z)
theorem swaps_attr {b a : Expr} {f : Str} {p : Pos} {n : Nat} {env : Env} : swapsWith b (some (.Attribute a f p)) n env = pure false := by cases b <;> rfl
theorem ts_attr {f : Str} (G : XG g X) (A : AtI g f) (ha : PE X a (TR g W (RV g) ma)) (hb : PE X b (TR g W (RV g) mb)) :
    PS X (.Assign [.Attribute a f p] b pos) (TSt g W fun r S => (mb r S).st r fun d S => (ma r S).st r fun x S => match x with
      | .obj i => (match S[i]? with
        | some o => if o.fs.length < 1000 then .nx r (S.set i ⟨o.cls, fput f d o.fs⟩) else .bad
        | none => .bad)
      | _ => .bad) := by
  refine PS.imp (ps_fld ha hb swaps_attr) ?_
  rintro Dn σ H ⟨H0, al0, al, r, S, rs, h⟩
  refine ⟨H0, al0, al, r, S, rs, (PstS.st (R1 := RV g H) rs h).imp ?_⟩
  rintro v H1 ⟨al1, d, S1, rs1, k1, p1, b1, h⟩
  refine ⟨H0, al0, al1, r, S1, rs1, (PstS.st (R1 := RV g H1) rs1 h).imp ?_⟩
  rintro u H2 ⟨al2, x, S2, rs2, k2, p2, b2, h⟩
  cases x <;> try exact h.elim
  rename_i k
  cases b2 with
  | @obj _ q dx ea =>
    dsimp only at h
    cases eo : S2[k]? with
    | none => rw [eo] at h; exact h.elim
    | some o =>
      rw [eo] at h
      dsimp only at h
      split at h
      · rename_i hz
        obtain ⟨fs, y, fo⟩ := rs2.sto.ins k q dx o ea eo
        obtain ⟨A1, A2⟩ := A o.cls
        have hK := G.hK
        exact ⟨q, g.ca o.cls, dx, fs, rfl, y, hK ▸ A1, hK ▸ A2, by rw [fo.len]; exact hz, h _ _ al2 (rs2.field ea eo y fo (Dt.mono k2 p2 b1))⟩
      · exact h.elim

/-! ### raise -/
/-- the exceptions' class with the number c -/
structure ExI (g : GC) (X : Cx) (x : Str) (c : Nat) : Prop where
  ex : ∃ (C : Addr) (B newId initId : String) (bmB : List Value), g.xa c = .ref C ∧ ExcBaseFacts B newId initId bmB ∧ PySem.W.excIn X.K C bmB newId = true ∧ X.mg x = some (.ref C) ∧ PySem.W.keepIn X.K (.ref C) = true ∧ Raises X (.ref C)
theorem ts_raise {es : List Expr} {ml : Rho → Sto → Out (List D)} {k : Nat} (G : XG g X) (tk : Takes X W) (E : ExI g X x k) (hg : Gl X x) (ha : PA X (a :: es) (TAs g W ml)) (hs : noStars (a :: es) = true) (hdb : (x == ("__debug__" : Str)) = false) :
    PS X (.Raise (some (.Call (.Name x p) (a :: es) [] cpos)) none pos) (TSt g W fun r S => (ml r S).st r fun xs S => if xs.length ≤ sizeLine then .xc k r S else .bad) := by
  obtain ⟨C, B, newId, initId, bmB, ec, F, q, gC, kC, rr⟩ := E.ex
  have hs' : noStar a = true ∧ noStars es = true := by simpa only [noStars, Bool.and_eq_true] using hs
  refine PS.imp (ps_raise G.calm tk (pmk_ownA F q gC kC rr hg ha hdb (star_ok hs'.1) (star_plain hs'.2))) ?_
  rintro Dn σ H ⟨H0, al0, al, r, S, rs, h⟩
  refine ⟨H0, al0, al, r, S, rs, (PstS.st (R1 := fun al H vs ds => DtL g al H vs ds) rs h).imp ?_⟩
  rintro vs H1 ⟨al1, ds, S1, rs1, k1, p1, b1, h⟩
  split at h
  · rename_i hz
    have q := h σ H1 al1 rs1
    rw [ec] at q
    exact ⟨by rw [b1.length]; exact hz, q⟩
  · exact h.elim
/-- raise of a name's class without a call is not served; X() neither -/
theorem ts_raise_never {st : Stmt} (h : PS X st tNever) : PS X st (TSt g W fun _ _ => .bad) := by
  refine PS.imp h ?_
  rintro Dn σ H ⟨H0, al0, al, r, S, rs, h⟩
  exact h.elim

/-! ### a comprehension into a name, on one line -/
variable {elt tgt iter kx vx : Expr} {ifs : List Expr} {scope : Scope} {own : List (Str × Nat)} {t : Tg} {mt : Rho → Sto → Out Bool} {me mk : Rho → Sto → Out D} {mi : Rho → Sto → Out (List D)}
theorem ts_setLc (G : XG g X) (hy : X.N[i]? = some y) (hyl : X.env.scope.names.lookup y = some .local) (hk : X.env.scope.kind = .function) (hl : (p.line == cpos.line) = true) (hn : (scope.names.any fun (n, k) => n == y && (k == .local || k == .cell)) = false)
    (hi : PI X tgt iter (TIt g W mi)) (ok : blkC X.N X.env.scope scope own = true) (ht : ∀ i ∈ t.ids, i ∈ own.map (·.2))
    (hg : ∀ (s : Shared) (H : Hp) (C : Addr) (cl : List (Str × Addr)) (fp : List Addr), PG (X.blk s H scope (compEnvC scope cl C X.env) fp) tgt (TGd g t))
    (hc : ∀ (s : Shared) (H : Hp) (C : Addr) (cl : List (Str × Addr)) (fp : List Addr), PTs (X.blk s H scope (compEnvC scope cl C X.env) fp) ifs (TT' g WF mt))
    (he : ∀ (s : Shared) (H : Hp) (C : Addr) (cl : List (Str × Addr)) (fp : List Addr), PE (X.blk s H scope (compEnvC scope cl C X.env) fp) elt (TR g WF (RV g) me)) (hs : ∀ x, foldedSetIterable iter X.env x = pure x) :
    PS X (.Assign [.Name y p] (.ListComp elt [⟨tgt, iter, ifs, 0⟩] scope cpos) pos) (TSt g W fun r S => ((mi r S).bnd fun xs S => (loopL (lcStep t (own.map (·.2)) r mt me) xs S).bnd fun ys S => if xs.length ≤ sizeLine then Out.ok (D.lst ys) S else .bad).st r fun d S => ofO (setR i (D.own d) r) S) := by
  refine PS.imp (ps_setLc G.calm G.nd hy hyl (sw_true hk hyl hl hn) hi (blkOk_by ok) hg hc he hs) fun Dn σ H h => ?_
  have q : tAsg (TR g W (RF g) fun r S => (mi r S).bnd fun xs S => (loopL (lcStep t (own.map (·.2)) r mt me) xs S).bnd fun ys S => if xs.length ≤ sizeLine then Out.ok (D.lst ys) S else .bad) (gName i) Dn σ H := asgO_of h
  exact lc_of ht q
theorem sw_dict {gs : List Comprehension} {l : Nat} {env : Env} (hk : env.scope.kind = .function) (hy : env.scope.names.lookup y = some .local) (hl : (p.line == cpos.line) = true)
    (ha : (scope.names.any fun (n, k) => n == y && (k == .local || k == .cell)) = false) : swapsWith (.DictComp kx vx gs scope cpos) (some (.Name y p)) l env = pure true := by
  have h1 : env.kindOf y = some .local := hy
  have h2 : env.blockKind = .function := by unfold Env.blockKind; rw [hk]; rfl
  unfold swapsWith
  simp only [h1, h2, ha, hl, Expr.pos]
  rfl
/-- the dict comprehension's store happens within its frame -/
theorem pi_setDc {wi : TI} {gt : TG} {tt : TT} {tk tv : TE} (G : XG g X) (hy : X.N[i]? = some y) (hyl : X.env.scope.names.lookup y = some .local) (hsw : swapsWith (.DictComp kx vx [⟨tgt, iter, ifs, 0⟩] scope cpos) (some (.Name y p)) pos.line X.env = pure true)
    (hi : PI X tgt iter wi) (ok : BlkOk X.N X.env.scope scope own)
    (hg : ∀ (s : Shared) (H : Hp) (C : Addr) (cl : List (Str × Addr)) (fp : List Addr), PG (X.blk s H scope (compEnvC scope cl C X.env) fp) tgt gt)
    (hc : ∀ (s : Shared) (H : Hp) (C : Addr) (cl : List (Str × Addr)) (fp : List Addr), PTs (X.blk s H scope (compEnvC scope cl C X.env) fp) ifs tt)
    (hkx : ∀ (s : Shared) (H : Hp) (C : Addr) (cl : List (Str × Addr)) (fp : List Addr), PE (X.blk s H scope (compEnvC scope cl C X.env) fp) kx tk)
    (hvx : ∀ (s : Shared) (H : Hp) (C : Addr) (cl : List (Str × Addr)) (fp : List Addr), PE (X.blk s H scope (compEnvC scope cl C X.env) fp) vx tv) (hs : ∀ x, foldedSetIterable iter X.env x = pure x) :
    PS X (.Assign [.Name y p] (.DictComp kx vx [⟨tgt, iter, ifs, 0⟩] scope cpos) pos) (tAsg (tDc wi gt tt tk tv (own.map (·.2))) (gName i)) := by
  constructor
  intro pins s σ H Dn I h
  rw [exec_Assign_Name_used _ _ _ _ hsw]
  refine wpAny_bind (wpAny_standAt (wpAny_bind ?_))
  show wpAny _ X.A (do let _ ← comprehension (.DictComp kx vx [⟨tgt, iter, ifs, 0⟩] scope cpos) scope X.env (firstIterPos [⟨tgt, iter, ifs, 0⟩] cpos) newDict false (eval iter X.env) (some (assign (.Name y p) X.env))) _ _ s
  have hd : tDc wi gt tt tk tv (own.map (·.2)) σ H (fun x H1 => gName i x σ H1 Dn.nx) := h
  have core := dc_core (Qf := fun _ s' => SP X pins Dn .next s') (use := some (assign (.Name y p) X.env)) (pos' := firstIterPos [⟨tgt, iter, ifs, 0⟩] cpos) (pos := cpos) G.calm G.nd I hi ok hg hc hkx hvx hs hd fun L C s' m H' I' q hn f => ?_
  · exact wpAny_bind (thn core fun _ s' hq => wpAny_pure (wpAny_pure hq))
  · show wpAny _ _ (assign (.Name y p) X.env (.ref L)) _ _ _
    refine wpAny_assign_Name (store_ok2 (v := V.ref L) I' G.nd hy (.inl hyl) rfl (fun s2 I2 hx => ?_) (.inr hyl))
    obtain ⟨z, sb, hz⟩ := hx
    obtain ⟨f0, f1, f2, f3, f4, f5⟩ := f
    have ne : C ≠ z := by
      rcases hz with w | w
      · rw [w]; exact f1
      · exact fun e => f4 y z w e.symm
    exact ⟨m, hn.sameBut sb ne, fun h3 sb3 => ⟨_, H', I2.turned (t' := s2.toks) (fun b o hb e => (sb3.2 b hb).trans e) f0 f1 f3 f4 f5, q⟩⟩
theorem ts_setDc (G : XG g X) (hy : X.N[i]? = some y) (hyl : X.env.scope.names.lookup y = some .local) (hk : X.env.scope.kind = .function) (hl : (p.line == cpos.line) = true) (hn : (scope.names.any fun (n, k) => n == y && (k == .local || k == .cell)) = false)
    (hi : PI X tgt iter (TIt g W mi)) (ok : blkC X.N X.env.scope scope own = true) (ht : ∀ i ∈ t.ids, i ∈ own.map (·.2))
    (hg : ∀ (s : Shared) (H : Hp) (C : Addr) (cl : List (Str × Addr)) (fp : List Addr), PG (X.blk s H scope (compEnvC scope cl C X.env) fp) tgt (TGd g t))
    (hc : ∀ (s : Shared) (H : Hp) (C : Addr) (cl : List (Str × Addr)) (fp : List Addr), PTs (X.blk s H scope (compEnvC scope cl C X.env) fp) ifs (TT' g WF mt))
    (hkx : ∀ (s : Shared) (H : Hp) (C : Addr) (cl : List (Str × Addr)) (fp : List Addr), PE (X.blk s H scope (compEnvC scope cl C X.env) fp) kx (TR g WF (RV g) mk))
    (hvx : ∀ (s : Shared) (H : Hp) (C : Addr) (cl : List (Str × Addr)) (fp : List Addr), PE (X.blk s H scope (compEnvC scope cl C X.env) fp) vx (TR g WF (RV g) me)) (hs : ∀ x, foldedSetIterable iter X.env x = pure x) :
    PS X (.Assign [.Name y p] (.DictComp kx vx [⟨tgt, iter, ifs, 0⟩] scope cpos) pos) (TSt g W fun r S => ((mi r S).bnd fun xs S => (loopK (dcStep t (own.map (·.2)) r mt mk me) xs [] S).bnd fun ys S => if xs.length ≤ sizeLine then Out.ok (D.dic ys) S else .bad).st r fun d S => ofO (setR i (D.own d) r) S) := by
  refine PS.imp (pi_setDc G hy hyl (sw_dict hk hyl hl hn) hi (blkOk_by ok) hg hc hkx hvx hs) fun Dn σ H h => ?_
  have q : tAsg (TR g W (RF g) fun r S => (mi r S).bnd fun xs S => (loopK (dcStep t (own.map (·.2)) r mt mk me) xs [] S).bnd fun ys S => if xs.length ≤ sizeLine then Out.ok (D.dic ys) S else .bad) (gName i) Dn σ H := asgO_of h
  exact dc_of ht q
end
end Pi

/-! Pi9: from a def's text to the reckoning, and that it is sound: expressions. -/
namespace Pi
open PySem L2 PySem.Spec PyProof.Rows

/-- the module's names -/
structure Tab where
  fns : List (Str × Nat)
  cls : List (Str × Nat)
  exs : List (Str × Nat)
  blt : List Str
  con : List (Str × D)
  ats : List Str
/-- a def's names -/
structure CI where
  tab : Tab
  N : List Str
  sc : List (Str × NameKind)
  cells : List Str
structure TabOk (g : GC) (Φ : Phi) (X : Cx) (k : Nat) (tab : Tab) : Prop where
  fn : ∀ x i, tab.fns.lookup x = some i → X.mg x = some (.ref (g.fa i)) ∧ i < Φ.n
  F : ∀ i, i < Φ.n → FnI g Φ X.prog X.w X.K X.mg X.base k i
  cl : ∀ x c, tab.cls.lookup x = some c → ClI g Φ X x c k
  ex : ∀ x c, tab.exs.lookup x = some c → ExI g X x c
  bl : ∀ x, x ∈ tab.blt → X.mg x = none
  co : ∀ x d, tab.con.lookup x = some d → ∃ v u, X.mg x = some u ∧ RelV v u ∧ ∀ al H, Dt g al H v d
  at_ : ∀ f, f ∈ tab.ats → AtI g f
  room : Room (k + 1) X.A
  gd : X.A.guards = some []
  sm : Smx X
structure CIok (ci : CI) (X : Cx) : Prop where
  N : X.N = ci.N
  sc : X.env.scope.names = ci.sc
  kd : X.env.scope.kind = .function
  fn : ∀ x, x ∈ ci.cells → X.fn x = true

def place (x : Str) : List Str → Option Nat
  | [] => none
  | y :: r => if y = x then some 0 else (place x r).map (· + 1)
theorem place_at {x : Str} : ∀ {N : List Str} {i : Nat}, place x N = some i → N[i]? = some x
  | [], _, h => by cases h
  | y :: r, i, h => by
    unfold place at h
    split at h
    · rename_i e
      cases h
      simp [e]
    · rw [Option.map_eq_some_iff] at h
      obtain ⟨j, h, rfl⟩ := h
      simpa using place_at h
def CI.vis (ci : CI) (x : Str) : Bool := match ci.sc.lookup x with
  | some .local => true
  | some .cell => true
  | some .free => true
  | _ => false
def CI.loc (ci : CI) (x : Str) : Bool := match ci.sc.lookup x with
  | some .local => true
  | some .cell => decide (x ∈ ci.cells)
  | _ => false
def CI.gl (ci : CI) (x : Str) : Bool := decide (ci.sc.lookup x = some .globalImplicit)
def fine (x : Str) : Bool := !(x == ("__debug__" : Str)) && !(x == ("__classdict__" : Str)) && !decide (x = ("__name__" : Str))
/-- a name that is read -/
def CI.nv (ci : CI) (x : Str) : Option Nat := if ci.vis x = true ∧ fine x = true then place x ci.N else none
def CI.nm (ci : CI) (x : Str) : Option Nat := if ci.loc x = true then place x ci.N else none
def CI.blt (ci : CI) (x : Str) : Bool := ci.gl x && decide (x ∈ ci.tab.blt) && fine x
section
variable {g : GC} {Φ : Phi} {X : Cx} {ci : CI} {W : WX} {k : Nat}
theorem fine_ok {x : Str} (h : fine x = true) : (x == ("__debug__" : Str)) = false ∧ (x == ("__classdict__" : Str)) = false ∧ x ≠ "__name__" := by
  simp only [fine, Bool.and_eq_true, Bool.not_eq_true', decide_eq_false_iff_not] at h
  exact ⟨h.1.1, h.1.2, h.2⟩
theorem CIok.nv {x : Str} {i : Nat} (O : CIok ci X) (h : ci.nv x = some i) : Nv X i x := by
  unfold CI.nv at h
  split at h
  · rename_i hh
    obtain ⟨h1, h2⟩ := hh
    obtain ⟨d1, d2, _⟩ := fine_ok h2
    refine ⟨by rw [O.N]; exact place_at h, ?_, d1, d2⟩
    unfold CI.vis at h1
    rw [← O.sc] at h1
    unfold Vis
    revert h1
    cases X.env.scope.names.lookup x with
    | none => intro h; cases h
    | some q => cases q <;> simp
  · cases h
theorem CIok.nm {x : Str} {i : Nat} (O : CIok ci X) (h : ci.nm x = some i) : Nm X i x := by
  unfold CI.nm at h
  split at h
  · rename_i h1
    have hp := place_at h
    unfold CI.loc at h1
    rw [← O.sc] at h1
    cases e : X.env.scope.names.lookup x with
    | none => rw [e] at h1; cases h1
    | some q =>
      rw [e] at h1
      cases q with
      | «local» => exact ⟨by rw [O.N]; exact hp, .inl e, .inr e⟩
      | cell => exact ⟨by rw [O.N]; exact hp, .inr e, .inl (O.fn x (by simpa using h1))⟩
      | _ => cases h1
  · cases h
theorem CIok.gl {x : Str} (O : CIok ci X) (h : ci.gl x = true) : Gl X x := by
  unfold CI.gl at h
  rw [← O.sc] at h
  show X.env.scope.names.lookup x = some .globalImplicit
  exact of_decide_eq_true h
theorem CIok.blt {x : Str} (O : CIok ci X) (T : TabOk g Φ X k ci.tab) (h : ci.blt x = true) : Gl X x ∧ X.mg x = none ∧ x ≠ "__name__" ∧ (x == ("__debug__" : Str)) = false := by
  simp only [CI.blt, Bool.and_eq_true, decide_eq_true_eq] at h
  obtain ⟨⟨h1, h2⟩, h3⟩ := h
  obtain ⟨d1, d2, d3⟩ := fine_ok h3
  exact ⟨O.gl h1, T.bl _ h2, d3, d1⟩

/-! ### what is promised of a piece -/
structure SE (g : GC) (Φ : Phi) (X : Cx) (W : WX) (e : Expr) (ir : E) : Prop where
  v : PE X e (TR g W (RV g) (ev Φ ir))
  f : ir.isNew = true → PE X e (TR g W (RF g) (ev Φ ir))
  b : PE X e (TR g W (RB g) fun r S => rd ir r S (ev Φ ir r S))
def E.isVar : E → Bool
  | .var _ => true
  | _ => false
theorem rd_no {ir : E} (h : ir.isVar = false) {r : Rho} {S : Sto} {o : Out D} : rd ir r S o = o := by cases ir <;> first | rfl | cases h
theorem SE.ofF {e : Expr} {ir : E} (h : PE X e (TR g W (RF g) (ev Φ ir))) (hv : ir.isVar = false) : SE g Φ X W e ir :=
  ⟨PE.FtoV h, fun _ => h, by
    have q := PE.FtoB h
    simpa only [rd_no hv] using q⟩
theorem SE.ofV {e : Expr} {ir : E} (h : PE X e (TR g W (RV g) (ev Φ ir))) (hn : ir.isNew = false) (hv : ir.isVar = false) : SE g Φ X W e ir :=
  ⟨h, fun z => (by rw [hn] at z; cases z), by
    have q := PE.toB h
    simpa only [rd_no hv] using q⟩
structure SLs (g : GC) (Φ : Phi) (X : Cx) (W : WX) (es : List Expr) (ir : EL) : Prop where
  a : PA X es (TAs g W (evL Φ ir))
  s : noStars es = true
def ST (g : GC) (Φ : Phi) (X : Cx) (W : WX) (e : Expr) (ir : T) : Prop := PT X e (TT' g W (evT Φ ir))
def SW (g : GC) (Φ : Phi) (X : Cx) (W : WX) (e : Expr) (ir : T) : Prop := PW X e (TT' g W (evT Φ ir))
structure SI (g : GC) (Φ : Phi) (X : Cx) (W : WX) (tg e : Expr) (ir : It) : Prop where
  i : PI X tg e (TIt g W (evI Φ ir))
  s : noSet e = true
/-- the pieces' makers -/
structure Fam where
  cE : CI → Expr → Option E
  cT : CI → Expr → Option T
  cW : CI → Expr → Option T
  cL : CI → List Expr → Option EL
  cI : CI → Expr → Expr → Option It
structure Good (g : GC) (Φ : Phi) (k : Nat) (ci : CI) (X : Cx) (W : WX) : Prop where
  O : CIok ci X
  T : TabOk g Φ X k ci.tab
  G : XG g X
  L : Lets X W
structure Snd (g : GC) (Φ : Phi) (k : Nat) (F : Fam) : Prop where
  cE : ∀ {ci X W}, Good g Φ k ci X W → ∀ {e ir}, F.cE ci e = some ir → SE g Φ X W e ir
  cT : ∀ {ci X W}, Good g Φ k ci X W → ∀ {e ir}, F.cT ci e = some ir → ST g Φ X W e ir
  cW : ∀ {ci X W}, Good g Φ k ci X W → ∀ {e ir}, F.cW ci e = some ir → SW g Φ X W e ir
  cL : ∀ {ci X W}, Good g Φ k ci X W → ∀ {e ir}, F.cL ci e = some ir → SLs g Φ X W e ir
  cI : ∀ {ci X W}, Good g Φ k ci X W → ∀ {t e ir}, F.cI ci t e = some ir → SI g Φ X W t e ir
def fam0 : Fam := ⟨fun _ _ => none, fun _ _ => none, fun _ _ => none, fun _ _ => none, fun _ _ _ => none⟩
theorem snd0 : Snd g Φ k fam0 := ⟨fun _ _ _ h => (nomatch h), fun _ _ _ h => (nomatch h), fun _ _ _ h => (nomatch h), fun _ _ _ h => (nomatch h), fun _ _ _ _ h => (nomatch h)⟩

/-! ### names, constants -/
def cName (ci : CI) (x : Str) : Option E :=
  match ci.nv x with
  | some i => some (.var i)
  | none => if ci.gl x = true ∧ fine x = true then
      (match ci.tab.con.lookup x with
      | some (.int n) => some (.int n)
      | some (.str s) => some (.str s)
      | some _ => none
      | none => (ci.tab.fns.lookup x).map .fn)
    else none
variable {F : Fam} (Z : Good g Φ k ci X W) {ir : E} {pos p p2 : Pos} {e a b c : Expr} {x : Str}
include Z
theorem cName_ok (h : cName ci x = some ir) : SE g Φ X W (.Name x pos) ir := by
  unfold cName at h
  split at h
  · rename_i i e
    cases h
    have n := Z.O.nv e
    exact ⟨s_varV n.at_ n.vis n.d1 n.d2, fun z => (by cases z), s_varB n.at_ n.vis n.d1 n.d2 _⟩
  · split at h
    · rename_i hh
      obtain ⟨h1, h2⟩ := hh
      obtain ⟨d1, d2, d3⟩ := fine_ok h2
      split at h
      · rename_i n e
        cases h
        obtain ⟨v, u, e1, e2, e3⟩ := Z.T.co _ _ e
        exact .ofV (s_const (pe_glob (Z.O.gl h1) e1 e2 d1) e3) rfl rfl
      · rename_i n e
        cases h
        obtain ⟨v, u, e1, e2, e3⟩ := Z.T.co _ _ e
        exact .ofV (s_const (pe_glob (Z.O.gl h1) e1 e2 d1) e3) rfl rfl
      · cases h
      · rw [Option.map_eq_some_iff] at h
        obtain ⟨i, e, rfl⟩ := h
        exact .ofV (s_const (pe_glob (v := .ref (g.fa i)) (Z.O.gl h1) (Z.T.fn _ _ e).1 rfl d1) fun _ _ => .fn i) rfl rfl
    · cases h
omit Z
def cConst : Const → Option E
  | .int n => some (.int n)
  | .str x => some (.str x)
  | .bool b => some (.bl b)
  | .none => some .non
  | _ => none
theorem cConst_ok {v : Const} {j : Nat} (h : cConst v = some ir) : SE g Φ X W (.Constant v j pos) ir := by
  unfold cConst at h
  split at h <;> cases h
  · exact .ofV (s_const pe_int fun _ _ => .int _) rfl rfl
  · exact .ofV (s_const pe_str fun _ _ => .str _) rfl rfl
  · exact .ofV (s_const pe_bl fun _ _ => .bl _) rfl rfl
  · exact .ofV (s_const pe_non fun _ _ => .non) rfl rfl

/-! ### operators -/
def opI : Operator → Option O2
  | .Add => some .add
  | .Sub => some .sub
  | .Mult => some .mul
  | .FloorDiv => some .fdiv
  | .Mod => some .mod
  | _ => none
theorem opI_ok {o : Operator} {i : O2} (h : opI o = some i) : o = opOf i := by
  cases o <;> cases h <;> rfl
def cBin (F : Fam) (ci : CI) (a : Expr) (o : Operator) (b : Expr) : Option E :=
  match opI o, F.cE ci a, F.cE ci b with
  | some o, some x, some y => some (.bin o x y)
  | _, _, _ => none
include Z
theorem cBin_ok (H : Snd g Φ k F) {o : Operator} (h : cBin F ci a o b = some ir) : SE g Φ X W (.BinOp a o b pos) ir := by
  unfold cBin at h
  split at h
  · rename_i i x y e1 e2 e3
    cases h
    rw [opI_ok e1]
    have A := H.cE Z e2
    have B := H.cE Z e3
    have q := s_bin (pos := pos) Z.G i A.b B.b
    by_cases hi : i = .add
    · subst hi
      exact .ofF (by simp only [ev]; exact q) rfl
    · exact .ofV (by simpa only [ev] using PE.frz q) (by cases i <;> first | rfl | exact absurd rfl hi) rfl
  · cases h

omit Z
def cUn (F : Fam) (ci : CI) (o : UnaryOp) (a : Expr) : Option E :=
  match o, F.cE ci a with
  | .USub, some x => some (.neg x)
  | .Not, some x => some (.not x)
  | _, _ => none
include Z
theorem cUn_ok (H : Snd g Φ k F) {o : UnaryOp} (h : cUn F ci o a = some ir) : SE g Φ X W (.UnaryOp o a pos) ir := by
  unfold cUn at h
  split at h
  · rename_i x e1
    cases h
    exact .ofV (by simp only [ev]; exact s_neg (pos := pos) (H.cE Z e1).v) rfl rfl
  · rename_i x e1
    cases h
    exact .ofV (by simp only [ev]; exact s_not (pos := pos) Z.G (H.cE Z e1).b) rfl rfl
  · cases h
omit Z
def cmI : CmpOp → Option Cm
  | .Lt => some .lt
  | .LtE => some .le
  | .Gt => some .gt
  | .GtE => some .ge
  | .Eq => some .eq
  | .NotEq => some .ne
  | .In => some .inn
  | .NotIn => some .nin
  | _ => none
theorem cmI_ok {o : CmpOp} {i : Cm} (h : cmI o = some i) : o = cmOf i := by
  cases o <;> cases h <;> rfl
theorem marks_no {o : CmpOp} (h : noSet e = true) : behindInMarks o e = false := by
  cases e <;> first | rfl | (simp [noSet] at h; done)
def isNone : Expr → Bool
  | .Constant .none _ _ => true
  | _ => false
theorem isNone_ok (h : isNone e = true) : ∃ j p, e = .Constant .none j p := by
  unfold isNone at h
  split at h
  · exact ⟨_, _, rfl⟩
  · cases h
/-- the comparison's makings -/
def cCmp (F : Fam) (ci : CI) (a : Expr) (ops : List CmpOp) (bs : List Expr) : Option E :=
  match ops, bs with
  | [.Is], [b] => if isNone b = true then (F.cE ci a).map .isN else none
  | [.IsNot], [b] => if isNone b = true then (F.cE ci a).map .notN else none
  | [o], [b] => (match cmI o, F.cE ci a, F.cE ci b with
    | some i, some x, some y => if noSet b = true then some (.cmp i x y) else none
    | _, _, _ => none)
  | [o, p], [b, c] => (match cmI o, cmI p, F.cE ci a, F.cE ci b, F.cE ci c with
    | some i, some j, some x, some y, some z => if noSet c = true then some (.chain i j x y z) else none
    | _, _, _, _, _ => none)
  | _, _ => none
include Z
theorem cCmp_ok (H : Snd g Φ k F) {ops : List CmpOp} {bs : List Expr} (h : cCmp F ci a ops bs = some ir) : SE g Φ X W (.Compare a ops bs pos) ir := by
  unfold cCmp at h
  split at h
  · split at h
    · rename_i hn
      rw [Option.map_eq_some_iff] at h
      obtain ⟨x, e1, rfl⟩ := h
      obtain ⟨j, p, rfl⟩ := isNone_ok hn
      exact .ofV (by simp only [ev]; exact s_isN (pos := pos) (H.cE Z e1).b) rfl rfl
    · cases h
  · split at h
    · rename_i hn
      rw [Option.map_eq_some_iff] at h
      obtain ⟨x, e1, rfl⟩ := h
      obtain ⟨j, p, rfl⟩ := isNone_ok hn
      exact .ofV (by simp only [ev]; exact s_notN (pos := pos) (H.cE Z e1).b) rfl rfl
    · cases h
  · split at h
    · rename_i i x y e1 e2 e3
      split at h
      · rename_i hs
        cases h
        rw [cmI_ok e1]
        exact .ofV (by simp only [ev]; exact s_cmp (pos := pos) Z.G i (H.cE Z e2).b (H.cE Z e3).b (marks_no hs)) rfl rfl
      · cases h
    · cases h
  · split at h
    · rename_i i j x y z e1 e2 e3 e4 e5
      split at h
      · rename_i hs
        cases h
        rw [cmI_ok e1, cmI_ok e2]
        exact .ofV (by simp only [ev]; exact s_chain (pos := pos) Z.G i j (H.cE Z e3).b (H.cE Z e4).b (H.cE Z e5).b (by simpa only [lastMarks] using marks_no hs)) rfl rfl
      · cases h
    · cases h
  · cases h
omit Z
def cBool (F : Fam) (ci : CI) (o : BoolOp) (es : List Expr) (pos : Pos) : Option E :=
  match es with
  | [a] => (F.cE ci a).map fun x => .and (.bl true) x
  | a :: b :: r => (match o, F.cE ci a, F.cE ci (.BoolOp o (b :: r) pos) with
    | .And, some x, some y => some (.and x y)
    | .Or, some x, some y => some (.or x y)
    | _, _, _ => none)
  | [] => none
include Z
theorem cBool_ok (H : Snd g Φ k F) {o : BoolOp} {es : List Expr} (h : cBool F ci o es pos = some ir) : SE g Φ X W (.BoolOp o es pos) ir := by
  unfold cBool at h
  split at h
  · rw [Option.map_eq_some_iff] at h
    obtain ⟨x, e1, rfl⟩ := h
    exact .ofV (by simp only [ev]; exact s_one (H.cE Z e1).v) rfl rfl
  · split at h
    · rename_i x y e1 e2
      cases h
      exact .ofV (by simp only [ev]; exact s_and (pos := pos) Z.G (H.cE Z e1).v (H.cE Z e2).v) rfl rfl
    · rename_i x y e1 e2
      cases h
      exact .ofV (by simp only [ev]; exact s_or (pos := pos) Z.G (H.cE Z e1).v (H.cE Z e2).v) rfl rfl
    · cases h
  · cases h
omit Z
def cIf (F : Fam) (ci : CI) (c a b : Expr) : Option E :=
  match F.cT ci c, F.cE ci a, F.cE ci b with
  | some t, some x, some y => some (.ite t x y)
  | _, _, _ => none
include Z
theorem cIf_ok (H : Snd g Φ k F) (h : cIf F ci c a b = some ir) : SE g Φ X W (.IfExp c a b pos) ir := by
  unfold cIf at h
  split at h
  · rename_i t x y e1 e2 e3
    cases h
    exact .ofV (by simp only [ev]; exact s_ite (pos := pos) (H.cT Z e1) (H.cE Z e2).v (H.cE Z e3).v) rfl rfl
  · cases h
theorem cTup_ok (H : Snd g Φ k F) {es : List Expr} {el : EL} {j : Nat} (h : F.cL ci es = some el) : SE g Φ X W (.Tuple es j pos) (.tup el) :=
  .ofV (by simp only [ev]; exact s_tup (pos := pos) (H.cL Z h).a) rfl rfl
theorem cLst_ok (H : Snd g Φ k F) {es : List Expr} {el : EL} (h : F.cL ci es = some el) : SE g Φ X W (.List es pos) (.lst el) :=
  .ofF (by simp only [ev]; exact s_lst (pos := pos) (H.cL Z h).a) rfl
/-! ### argument lists -/
omit Z
def cLs (F : Fam) (ci : CI) (es : List Expr) : Option EL :=
  match es with
  | [] => some .nil
  | a :: r => (match F.cE ci a, F.cL ci r with
    | some x, some l => if noStar a = true then some (.cons x l) else none
    | _, _ => none)
include Z
theorem cLs_ok (H : Snd g Φ k F) {es : List Expr} {el : EL} (h : cLs F ci es = some el) : SLs g Φ X W es el := by
  unfold cLs at h
  split at h
  · cases h
    exact ⟨by simpa only [evL] using a_nil, rfl⟩
  · split at h
    · rename_i x l e1 e2
      split at h
      · rename_i hs
        cases h
        have q := H.cL Z e2
        exact ⟨by simpa only [evL] using a_cons (H.cE Z e1).v q.a hs, by simp only [noStars, hs, q.s, Bool.and_self]⟩
      · cases h
    · cases h
/-! ### items, parts, attributes -/
omit Z
def cPart (F : Fam) (ci : CI) : Option Expr → Option E
  | none => some .non
  | some a => (match F.cE ci a with
    | some .non => none
    | o => o)
include Z
theorem cPart_ok (H : Snd g Φ k F) {o : Option Expr} (h : cPart F ci o = some ir) : PO X o (TOp g W fun r S => partO ir S (ev Φ ir r S)) := by
  unfold cPart at h
  split at h
  · cases h
    exact o_none
  · split at h
    · cases h
    · rename_i a hn
      have q := o_some (H.cE Z h).v
      have e2 : (fun r S => partO ir S (ev Φ ir r S)) = fun (r : Rho) (S : Sto) => intO (ev Φ ir r S) := by
        funext r S
        cases ir <;> first | rfl | exact absurd h hn
      rw [e2]
      exact q
omit Z
def cSub (F : Fam) (ci : CI) (a i : Expr) : Option E :=
  match i with
  | .Slice lo hi none _ => (match F.cE ci a, cPart F ci lo, cPart F ci hi with
    | some x, some l, some u => some (.slice x l u)
    | _, _, _ => none)
  | i => (match F.cE ci a, F.cE ci i with
    | some x, some y => if plainIx i = true then some (.sub x y) else none
    | _, _ => none)
include Z
theorem cSub_ok (H : Snd g Φ k F) (h : cSub F ci a b = some ir) : SE g Φ X W (.Subscript a b pos) ir := by
  unfold cSub at h
  split at h
  · split at h
    · rename_i x l u e1 e2 e3
      cases h
      exact .ofF (by simp only [ev]; exact s_slice (pos := pos) Z.G (H.cE Z e1).b (cPart_ok Z H e2) (cPart_ok Z H e3)) rfl
    · cases h
  · split at h
    · rename_i x y e1 e2
      split at h
      · rename_i hs
        cases h
        exact .ofV (by simp only [ev]; exact s_sub (pos := pos) Z.G (H.cE Z e1).b (H.cE Z e2).v hs) rfl rfl
      · cases h
    · cases h
omit Z
/-- a receiver that isn't super() -/
def noBase : Expr → Bool
  | .Call _ _ _ _ => false
  | _ => true
theorem base_no {env : Env} {f : Str} {w : Sem Value} (h : noBase e = true) : attributeBase e f env w = w := by
  cases e <;> first | rfl | (simp [noBase] at h; done)
def cAttr (F : Fam) (ci : CI) (a : Expr) (f : Str) : Option E :=
  match F.cE ci a with
  | some x => if noBase a = true ∧ f ∈ ci.tab.ats then some (.attr x f) else none
  | none => none
include Z
theorem cAttr_ok (H : Snd g Φ k F) {f : Str} (h : cAttr F ci a f = some ir) : SE g Φ X W (.Attribute a f pos) ir := by
  unfold cAttr at h
  split at h
  · rename_i x e1
    split at h
    · rename_i hh
      cases h
      exact .ofV (by simp only [ev]; exact s_attr (pos := pos) Z.G (Z.T.at_ f hh.2) (H.cE Z e1).v (base_no hh.1)) rfl rfl
    · cases h
  · cases h
end
end Pi

/-! Pi9b: calls. -/
namespace Pi
open PySem L2 PySem.Spec PyProof.Rows
section
variable {g : GC} {Φ : Phi} {X : Cx} {ci : CI} {W : WX} {k : Nat}
variable {F : Fam} (Z : Good g Φ k ci X W) {ir : E} {pos p p2 cpos apos : Pos} {e a b c : Expr} {x y : Str} {es args : List Expr}

/-! ### built-ins -/
def biN : Bi → Str
  | .len => "len" | .int => "int" | .list => "list" | .dict => "dict" | .repr => "repr" | .abs => "abs" | .all => "all" | .sum => "sum" | .max => "max"
def biOf (x : Str) : Option Bi := [Bi.len, .int, .list, .dict, .repr, .abs, .all, .sum, .max].find? fun o => decide (biN o = x)
theorem biOf_ok {o : Bi} (h : biOf x = some o) : x = biN o := by
  have := List.find?_some h
  exact (of_decide_eq_true this).symm
def tyOf (x : Str) : Option Ty := [Ty.int, .bool, .str, .list, .tuple, .dict].find? fun o => decide ((Str.ofString (tyN o)) = x)
theorem tyOf_ok {o : Ty} (h : tyOf x = some o) : x = Str.ofString (tyN o) := by
  have := List.find?_some h
  exact (of_decide_eq_true this).symm
def tysOf (ci : CI) : List Expr → Option (List Ty)
  | [] => some []
  | .Name y _ :: r => (match tyOf y, tysOf ci r with
    | some t, some ts => if ci.blt y = true then some (t :: ts) else none
    | _, _ => none)
  | _ :: _ => none
theorem boot_ty (t : Ty) : bootBuiltins (Str.ofString (tyN t)) = some (.type (tyN t)) := by cases t <;> rfl
include Z
theorem tysOf_ok : ∀ {es : List Expr} {ts : List Ty}, tysOf ci es = some ts → Paired (TyArg X) es ts
  | [], ts, h => by cases h; exact .nil
  | e :: r, ts, h => by
    unfold tysOf at h
    split at h
    · rename_i heq; cases heq
    · rename_i y p r' heq
      cases heq
      split at h
      · rename_i t ts' e1 e2
        split at h
        · rename_i hb
          cases h
          obtain ⟨h1, h2, h3, h4⟩ := Z.O.blt Z.T hb
          exact .cons ⟨⟨y, p, rfl, h1, h2, by rw [tyOf_ok e1]; exact boot_ty t, h3, h4⟩⟩ (tysOf_ok e2)
        · cases h
      · cases h
    · cases h
omit Z
def cBlt (F : Fam) (ci : CI) (x : Str) (args : List Expr) : Option E :=
  match args with
  | [a] => (match biOf x, F.cE ci a with
    | some o, some y => if noStar a = true then some (.bi o y) else none
    | _, _ => none)
  | [a, b] => if x = "isinstance" then (match F.cE ci a, b with
      | some u, .Name y _ => (match tyOf y with
        | some t => if ci.blt y = true ∧ noStar a = true then some (.isi u [t]) else none
        | none => none)
      | some u, .Tuple es _ _ => (match tysOf ci es with
        | some ts => if noStar a = true ∧ ts.length ≤ 100 then some (.isi u ts) else none
        | none => none)
      | _, _ => none)
    else (match F.cE ci a, F.cE ci b with
      | some u, some v => if noStar a = true ∧ noStar b = true then (if x = "max" then some (.b2 .max u v) else if x = "min" then some (.b2 .min u v) else none) else none
      | _, _ => none)
  | _ => none
include Z
theorem bi_call (H : Snd g Φ k F) {o : Bi} {u : E} (hb : ci.blt x = true) (hx : x = biN o) (ha : F.cE ci a = some u) (hs : noStar a = true) : SE g Φ X W (.Call (.Name x p) [a] [] pos) (.bi o u) := by
  obtain ⟨h1, h2, h3, h4⟩ := Z.O.blt Z.T hb
  subst hx
  have A := (H.cE Z ha).b
  have main : PE X (.Call (.Name (biN o) p) [a] [] pos) (TR g W (RF g) (ev Φ (.bi o u))) := by
    simp only [ev]
    cases o with
    | len => exact s_bi1 (call_lenQ Z.G) h1 h2 rfl h3 h4 A hs
    | int => exact s_ty1 call_intQ h1 h2 rfl h3 h4 A hs
    | list => exact s_ty1 (call_listQ Z.G) h1 h2 rfl h3 h4 A hs
    | dict => exact s_ty1 call_dictQ h1 h2 rfl h3 h4 A hs
    | repr => exact s_bi1 (call_reprQ Z.G Z.T.gd Z.T.sm) h1 h2 rfl h3 h4 A hs
    | abs => exact s_bi1 call_absQ h1 h2 rfl h3 h4 A hs
    | all => exact s_bi1 (call_allQ Z.G) h1 h2 rfl h3 h4 A hs
    | sum => exact s_bi1 (call_sumQ Z.G) h1 h2 rfl h3 h4 A hs
    | max => exact s_bi1 (call_maxQ Z.G) h1 h2 rfl h3 h4 A hs
  by_cases hn : (E.bi o u).isNew = true
  · exact .ofF main rfl
  · exact .ofV (PE.frz main) (by simpa using hn) rfl
theorem cBlt_ok (H : Snd g Φ k F) (hb : ci.blt x = true) (h : cBlt F ci x args = some ir) : SE g Φ X W (.Call (.Name x p) args [] pos) ir := by
  obtain ⟨h1, h2, h3, h4⟩ := Z.O.blt Z.T hb
  unfold cBlt at h
  split at h
  · split at h
    · rename_i o y e2 e3
      split at h
      · rename_i hs
        cases h
        exact bi_call Z H hb (biOf_ok e2) e3 hs
      · cases h
    · cases h
  · split at h
    · rename_i hx
      subst hx
      split at h
      · rename_i u y q e1
        split at h
        · rename_i t e2
          split at h
          · rename_i hh
            cases h
            obtain ⟨g1, g2, g3, g4⟩ := Z.O.blt Z.T hh.1
            exact .ofV (by simp only [ev]; exact s_is1 Z.G t h1 h2 rfl h3 h4 g1 g2 (by rw [tyOf_ok e2]; exact boot_ty t) g3 g4 (H.cE Z e1).b hh.2) rfl rfl
          · cases h
        · cases h
      · rename_i u es' j q e1
        split at h
        · rename_i ts e2
          split at h
          · rename_i hh
            cases h
            exact .ofV (by simp only [ev]; exact s_isTs Z.G h1 h2 rfl h3 h4 (tysOf_ok Z e2) (Nat.le_trans hh.2 (by decide)) (H.cE Z e1).b hh.1) rfl rfl
          · cases h
        · cases h
      · cases h
    · split at h
      · rename_i u v e1 e2
        split at h
        · rename_i hs
          split at h
          · rename_i hx
            subst hx
            cases h
            exact .ofV (by simp only [ev]; exact s_b2 Z.G .max h1 h2 rfl h3 h4 (H.cE Z e1).v (H.cE Z e2).v hs.1 hs.2) rfl rfl
          · split at h
            · rename_i hx
              subst hx
              cases h
              exact .ofV (by simp only [ev]; exact s_b2 Z.G .min h1 h2 rfl h3 h4 (H.cE Z e1).v (H.cE Z e2).v hs.1 hs.2) rfl rfl
            · cases h
        · cases h
      · cases h
  · cases h
/-! ### defs, classes -/
omit Z
/-- list(o.values()) -/
def cLv (F : Fam) (ci : CI) (x : Str) (args : List Expr) : Option E :=
  match args with
  | [.Call (.Attribute o m apos) [] [] cpos] => if x = "list" ∧ m = "values" ∧ noBase o = true ∧ (apos.endLine == cpos.line) = true then (F.cE ci o).map .lvals else none
  | _ => none
include Z
theorem cLv_ok (H : Snd g Φ k F) (hb : ci.blt x = true) (h : cLv F ci x args = some ir) : SE g Φ X W (.Call (.Name x p) args [] pos) ir := by
  obtain ⟨h1, h2, h3, h4⟩ := Z.O.blt Z.T hb
  unfold cLv at h
  split at h
  · split at h
    · rename_i hh
      obtain ⟨rfl, rfl, h5, h6⟩ := hh
      rw [Option.map_eq_some_iff] at h
      obtain ⟨u, e1, rfl⟩ := h
      exact .ofF (by simp only [ev]; exact s_lvals Z.G (H.cE Z e1).v h1 h2 (base_no h5) h6) rfl
    · cases h
  · cases h
omit Z
def cCallN (F : Fam) (ci : CI) (x : Str) (args : List Expr) : Option E :=
  match ci.nv x with
  | some i => (match args, F.cL ci args with
    | _ :: _, some el => some (.callv i el)
    | _, _ => none)
  | none => if ci.gl x = true ∧ fine x = true then
      (match ci.tab.fns.lookup x with
      | some i => (match args with
        | [] => some (.call i .nil)
        | _ :: _ => (F.cL ci args).map (.call i))
      | none => (match ci.tab.cls.lookup x with
        | some c => (match args, F.cL ci args with
          | _ :: _, some el => some (.new c el)
          | _, _ => none)
        | none => if ci.blt x = true then (match cLv F ci x args with
          | some e => some e
          | none => cBlt F ci x args) else none))
    else none
include Z
theorem cCallN_ok (H : Snd g Φ k F) (h : cCallN F ci x args = some ir) : SE g Φ X W (.Call (.Name x p) args [] pos) ir := by
  unfold cCallN at h
  have room := Z.T.room
  split at h
  · rename_i i en
    have n := Z.O.nv en
    split at h
    · rename_i e0 r el e1
      cases h
      have q := H.cL Z e1
      exact .ofV (by simp only [ev]; exact s_callv Z.T.F Z.T.gd (room.mono (Nat.le_succ k)) n.at_ n.vis Z.L q.a q.s n.d1 n.d2) rfl rfl
    · cases h
  · split at h
    · rename_i hh
      obtain ⟨hg, hf⟩ := hh
      obtain ⟨d1, d2, d3⟩ := fine_ok hf
      split at h
      · rename_i i e1
        obtain ⟨m1, m2⟩ := Z.T.fn _ _ e1
        have rm := room.mono (Nat.le_succ k)
        split at h
        · cases h
          exact .ofV (by simp only [ev, evL]; exact s_call0 (Z.T.F i m2) Z.T.gd rm (Z.O.gl hg) m1 Z.L d1) rfl rfl
        · rw [Option.map_eq_some_iff] at h
          obtain ⟨el, e2, rfl⟩ := h
          have q := H.cL Z e2
          exact .ofV (by simp only [ev]; exact s_call (Z.T.F i m2) Z.T.gd rm (Z.O.gl hg) m1 Z.L q.a q.s d1) rfl rfl
      · split at h
        · rename_i c e1
          split at h
          · rename_i e0 r el e2
            cases h
            have q := H.cL Z e2
            exact .ofV (by simp only [ev]; exact s_new (Z.T.cl _ _ e1) Z.T.gd room (Z.O.gl hg) q.a q.s d1) rfl rfl
          · cases h
        · split at h
          · rename_i hb
            split at h
            · rename_i e e2
              cases h
              exact cLv_ok Z H hb e2
            · exact cBlt_ok Z H hb h
          · cases h
    · cases h
end
end Pi

/-! Pi9c: methods, displays, comprehensions, what is walked, tests. -/
namespace Pi
open PySem L2 PySem.Spec PyProof.Rows
section
variable {g : GC} {Φ : Phi} {X : Cx} {ci : CI} {W : WX} {k : Nat}
variable {F : Fam} (Z : Good g Φ k ci X W) {ir : E} {pos p p2 cpos apos : Pos} {e a b c : Expr} {x y : Str} {es args : List Expr}

/-! ### methods -/
theorem few1 {env : Env} (hs : noStar a = true) : ((backTo cpos (starEach [a] env)).all (fun x => !x.1) && (backToKw cpos (keywordEach [] env)).all (fun x => x.1.isSome)
      && decide (([a] : List Expr).length + ([] : List Keyword).length + (if ([] : List Keyword).isEmpty then 0 else 1) < 30)) = true := by
  rw [star_ok hs]
  rfl
theorem few2 {env : Env} (hs : noStar a = true) (hs' : noStar b = true) : ((backTo cpos (starEach [a, b] env)).all (fun x => !x.1) && (backToKw cpos (keywordEach [] env)).all (fun x => x.1.isSome)
      && decide (([a, b] : List Expr).length + ([] : List Keyword).length + (if ([] : List Keyword).isEmpty then 0 else 1) < 30)) = true := by
  rw [star_ok hs, star_ok hs']
  rfl
theorem m1_of {o : Expr} {m : Str} (ho : noBase o = true) (hs : noStar a = true) (hl : (apos.endLine == cpos.line) = true) : M1 X o m apos a cpos :=
  ⟨base_no ho, few1 hs, hl, by rw [star_ok hs]; rfl⟩
theorem m2_of {o : Expr} {m : Str} (ho : noBase o = true) (hs : noStar a = true) (hs' : noStar b = true) (hl : (apos.endLine == cpos.line) = true) : M2 X o m apos a b cpos :=
  ⟨base_no ho, few2 hs hs', hl, by rw [star_ok hs, star_ok hs']; rfl⟩
theorem mb_of {o : Expr} {m : Str} (ho : noBase o = true) (hs : noStar a = true) (hl : (apos.endLine == cpos.line) = true) : MB X o m apos cpos a :=
  ⟨base_no ho, few1 hs, hl⟩
def strOf : Expr → Option Str
  | .Constant (.str x) _ _ => some x
  | _ => none
theorem strOf_ok (h : strOf e = some x) : ∃ j p, e = .Constant (.str x) j p := by
  unfold strOf at h
  split at h
  · cases h; exact ⟨_, _, rfl⟩
  · cases h
def cCallM (F : Fam) (ci : CI) (o : Expr) (m : Str) (apos : Pos) (args : List Expr) (cpos : Pos) : Option E :=
  if noBase o = true ∧ (apos.endLine == cpos.line) = true then
    (match args with
    | [a] => if noStar a = true then
        (if m = "join" then (match strOf o, F.cE ci a with
          | some x, some u => some (.join x u)
          | _, _ => none)
        else if m = "get" then (match F.cE ci o, F.cE ci a with
          | some u, some v => some (.get1 u v)
          | _, _ => none)
        else none) else none
    | [a, b] => if noStar a = true ∧ noStar b = true then
        (if m = "get" then (match F.cE ci o, F.cE ci a, F.cE ci b with
          | some u, some v, some w => some (.get2 u v w)
          | _, _, _ => none)
        else none) else none
    | _ => none)
  else none
include Z
theorem cCallM_ok (H : Snd g Φ k F) {o : Expr} {m : Str} (h : cCallM F ci o m apos args cpos = some ir) : SE g Φ X W (.Call (.Attribute o m apos) args [] cpos) ir := by
  unfold cCallM at h
  split at h
  · rename_i hh
    obtain ⟨ho, hl⟩ := hh
    split at h
    · split at h
      · rename_i hs
        split at h
        · rename_i hm
          subst hm
          split at h
          · rename_i z u e1 e2
            cases h
            obtain ⟨j, q, rfl⟩ := strOf_ok e1
            exact .ofV (by simp only [ev]; exact s_join Z.G (H.cE Z e2).b hs rfl (few1 hs) hl) rfl rfl
          · cases h
        · split at h
          · rename_i hm
            subst hm
            split at h
            · rename_i u v e1 e2
              cases h
              exact .ofV (by simp only [ev]; exact s_get1 Z.G (H.cE Z e1).b (H.cE Z e2).v (m1_of ho hs hl)) rfl rfl
            · cases h
          · cases h
      · cases h
    · split at h
      · rename_i hs
        split at h
        · rename_i hm
          subst hm
          split at h
          · rename_i u v w e1 e2 e3
            cases h
            exact .ofV (by simp only [ev]; exact s_get2 Z.G (H.cE Z e1).b (H.cE Z e2).v (H.cE Z e3).v (m2_of ho hs.1 hs.2 hl)) rfl rfl
          · cases h
        · cases h
      · cases h
    · cases h
  · cases h
omit Z
/-! ### displays of pairs -/
def cPairs (F : Fam) (ci : CI) : List (Option Expr) → List Expr → Option KL
  | [], [] => some .nil
  | some a :: ks, b :: vs => (match F.cE ci a, F.cE ci b, cPairs F ci ks vs with
    | some u, some v, some r => some (.cons u v r)
    | _, _, _ => none)
  | _, _ => none
def klM (Φ : Phi) : KL → List ((Rho → Sto → Out D) × (Rho → Sto → Out D))
  | .nil => []
  | .cons u v r => (ev Φ u, ev Φ v) :: klM Φ r
theorem klM_ok (Φ : Phi) : ∀ (l : KL) (r : Rho) (acc : List (Str × D)) (S : Sto), evD Φ l r acc S = dmD (klM Φ l) r acc S
  | .nil, r, acc, S => by simp only [evD, klM, dmD]
  | .cons u v l, r, acc, S => by
    simp only [evD, klM, dmD]
    congr 1
    funext y S
    congr 1
    funext z S
    cases y <;> first | rfl | exact klM_ok Φ l r _ S
include Z
theorem cPairs_ok (H : Snd g Φ k F) : ∀ {ks : List (Option Expr)} {vs : List Expr} {l : KL}, cPairs F ci ks vs = some l →
    PPs X pos ks vs ((klM Φ l).map fun m => (TR g W (RV g) m.1, TR g W (RV g) m.2)) ∧ ks.all (·.isSome) = true ∧ ks.length = vs.length ∧ (klM Φ l).length = ks.length
  | [], [], l, h => by
    cases h
    exact ⟨pps_nil, rfl, rfl, rfl⟩
  | some a :: ks, b :: vs, l, h => by
    unfold cPairs at h
    split at h
    · rename_i u v r e1 e2 e3
      cases h
      obtain ⟨q1, q2, q3, q4⟩ := cPairs_ok H e3
      exact ⟨pps_cons (H.cE Z e1).v (H.cE Z e2).v q1, by simpa using q2, by simpa using q3, by simpa [klM] using q4⟩
    · cases h
  | [], _ :: _, _, h => by cases h
  | none :: _, _, _, h => by cases h
  | some _ :: _, [], _, h => by cases h
omit Z
def cDict0 (F : Fam) (ci : CI) (ks : List (Option Expr)) (vs : List Expr) : Option E :=
  match cPairs F ci ks vs with
  | some l => if ks.length ≤ 15 then some (.dct l) else none
  | none => none
def cDict (F : Fam) (ci : CI) (ks : List (Option Expr)) (vs : List Expr) : Option E :=
  match ks, vs with
  | [none, none], [a, b] => (match F.cE ci a, F.cE ci b with
    | some u, some v => some (.mrg u v)
    | _, _ => none)
  | ks, vs => cDict0 F ci ks vs
include Z
theorem cDict0_ok (H : Snd g Φ k F) {ks : List (Option Expr)} {vs : List Expr} (h : cDict0 F ci ks vs = some ir) : SE g Φ X W (.Dict ks vs pos) ir := by
  unfold cDict0 at h
  split at h
  · rename_i l e1
    split at h
    · rename_i hl
      cases h
      obtain ⟨q1, q2, q3, q4⟩ := cPairs_ok (pos := pos) Z H e1
      have e2 : ev Φ (.dct l) = fun r S => dmD (klM Φ l) r [] S := by
        funext r S
        simp only [ev]
        exact klM_ok Φ l r [] S
      refine .ofF ?_ rfl
      rw [e2]
      by_cases hn : ks = []
      · subst hn
        cases vs with
        | nil =>
          have : klM Φ l = [] := List.length_eq_zero_iff.mp q4
          rw [this]
          exact s_dct0
        | cons => simp at q3
      · exact s_dct q1 q2 q3 q4 hn hl
    · cases h
  · cases h
theorem cDict_ok (H : Snd g Φ k F) {ks : List (Option Expr)} {vs : List Expr} (h : cDict F ci ks vs = some ir) : SE g Φ X W (.Dict ks vs pos) ir := by
  unfold cDict at h
  split at h
  · split at h
    · rename_i u v e1 e2
      cases h
      exact .ofF (by simp only [ev]; exact s_mrg (H.cE Z e1).v (H.cE Z e2).v) rfl
    · cases h
  · exact cDict0_ok Z H h
omit Z
/-! ### targets -/
def nmsOf (ci : CI) : List Expr → Option (List Nat)
  | [] => some []
  | .Name x _ :: r => (match ci.nm x, nmsOf ci r with
    | some i, some is => some (i :: is)
    | _, _ => none)
  | _ :: _ => none
def cTg (ci : CI) : Expr → Option Tg
  | .Name x _ => (ci.nm x).map .nm
  | .Tuple [.Name x _, .Tuple es _ _] _ _ => (match ci.nm x, nmsOf ci es with
    | some i, some is => some (.kv i is)
    | _, _ => none)
  | .Tuple es _ _ => (nmsOf ci es).map .tup
  | _ => none
theorem nmsOf_ok (O : CIok ci X) : ∀ {es : List Expr} {is : List Nat}, nmsOf ci es = some is → Paired (NmOk X) es is
  | [], is, h => by cases h; exact .nil
  | e :: r, is, h => by
    unfold nmsOf at h
    split at h
    · rename_i heq; cases heq
    · rename_i y p r' heq
      cases heq
      split at h
      · rename_i i is' e1 e2
        cases h
        have n := O.nm e1
        exact .cons ⟨⟨y, p, rfl, n.at_, n.loc, n.fn⟩⟩ (nmsOf_ok O e2)
      · cases h
    · cases h
theorem cTg_ok (O : CIok ci X) (G : XG g X) {t : Tg} (h : cTg ci e = some t) : PG X e (TGd g t) := by
  unfold cTg at h
  split at h
  · rw [Option.map_eq_some_iff] at h
    obtain ⟨i, h, rfl⟩ := h
    have n := O.nm h
    exact g_nm G n.at_ n.loc n.fn
  · split at h
    · rename_i i is e1 e2
      cases h
      have n := O.nm e1
      exact g_kv G n.at_ n.loc n.fn (nmsOf_ok O e2)
    · cases h
  · rw [Option.map_eq_some_iff] at h
    obtain ⟨is, h, rfl⟩ := h
    exact g_tup G (nmsOf_ok O h)
  · cases h
end
end Pi

/-! Pi9d: what is walked, comprehensions, tests, and the whole of expressions. -/
namespace Pi
open PySem L2 PySem.Spec PyProof.Rows
section
variable {g : GC} {Φ : Phi} {X : Cx} {ci : CI} {W : WX} {k : Nat}
variable {F : Fam} (Z : Good g Φ k ci X W) {ir : E} {pos p p2 cpos apos : Pos} {e a b c tg : Expr} {x y : Str} {es args : List Expr}

/-! ### what is walked -/
def isTup : Expr → Bool
  | .Tuple _ _ _ => true
  | _ => false
theorem isTup_ok (h : isTup e = true) : ∃ es j p, e = .Tuple es j p := by
  unfold isTup at h
  split at h
  · exact ⟨_, _, _, rfl⟩
  · cases h
/-- a walk over a built-in's or a method's outcome -/
def cIterN (F : Fam) (ci : CI) (tg : Expr) (x : Str) (args : List Expr) : Option It :=
  if ci.gl x = true ∧ x ∈ ci.tab.blt then
    (match args with
    | [a] => if noStar a = true then (match F.cE ci a with
        | some u => if x = "range" then some (.rng u) else if x = "reversed" then some (.rev u) else if x = "enumerate" ∧ isTup tg = true then some (.enum u) else none
        | none => none) else none
    | [a, b] => if noStar a = true ∧ noStar b = true then (match F.cE ci a, F.cE ci b with
        | some u, some v => if x = "range" then some (.rng2 u v) else if x = "zip" ∧ isTup tg = true then some (.zip u v) else none
        | _, _ => none) else none
    | _ => none)
  else none
def cIterM (F : Fam) (ci : CI) (tg : Expr) (o : Expr) (m : Str) (apos cpos : Pos) : Option It :=
  if noBase o = true ∧ (apos.endLine == cpos.line) = true then
    (match F.cE ci o with
    | some u => if m = "items" ∧ isTup tg = true then some (.items u) else if m = "values" then some (.vals u) else none
    | none => none)
  else none
def cIter (F : Fam) (ci : CI) (tg e : Expr) : Option It :=
  match (match e with
    | .Call (.Name x _) args [] _ => cIterN F ci tg x args
    | .Call (.Attribute o m apos) [] [] cpos => cIterM F ci tg o m apos cpos
    | _ => none) with
  | some i => some i
  | none => (match F.cE ci e with
    | some u => if noSet e = true then some (.over u) else none
    | none => none)
include Z
theorem cIterN_ok (H : Snd g Φ k F) {it : It} (h : cIterN F ci tg x args = some it) : SI g Φ X W tg (.Call (.Name x p) args [] pos) it := by
  unfold cIterN at h
  refine ⟨?_, rfl⟩
  split at h
  · rename_i hh
    have hg := Z.O.gl hh.1
    have hm := Z.T.bl _ hh.2
    split at h
    · split at h
      · rename_i hs
        split at h
        · rename_i u e1
          have A := (H.cE Z e1).v
          split at h
          · rename_i hx; subst hx; cases h
            simp only [evI]; exact i_rng hg hm A hs
          · split at h
            · rename_i hx; subst hx; cases h
              simp only [evI]; exact i_rev Z.G hg hm A hs
            · split at h
              · rename_i hx
                obtain ⟨rfl, ht⟩ := hx
                obtain ⟨es, j, q, rfl⟩ := isTup_ok ht
                cases h
                simp only [evI]; exact i_enum Z.G hg hm A hs
              · cases h
        · cases h
      · cases h
    · split at h
      · rename_i hs
        split at h
        · rename_i u v e1 e2
          have A := (H.cE Z e1).v
          have B := (H.cE Z e2).v
          split at h
          · rename_i hx; subst hx; cases h
            simp only [evI]; exact i_rng2 hg hm A B hs.1 hs.2
          · split at h
            · rename_i hx
              obtain ⟨rfl, ht⟩ := hx
              obtain ⟨es, j, q, rfl⟩ := isTup_ok ht
              cases h
              simp only [evI]; exact i_zip Z.G hg hm A B hs.1 hs.2
            · cases h
        · cases h
      · cases h
    · cases h
  · cases h
theorem cIterM_ok (H : Snd g Φ k F) {it : It} {o : Expr} {m : Str} (h : cIterM F ci tg o m apos cpos = some it) : SI g Φ X W tg (.Call (.Attribute o m apos) [] [] cpos) it := by
  unfold cIterM at h
  refine ⟨?_, rfl⟩
  split at h
  · rename_i hh
    split at h
    · rename_i u e1
      have A := (H.cE Z e1).v
      split at h
      · rename_i hx
        obtain ⟨rfl, ht⟩ := hx
        obtain ⟨es, j, q, rfl⟩ := isTup_ok ht
        cases h
        simp only [evI]; exact i_items A (base_no hh.1) hh.2
      · split at h
        · rename_i hx; subst hx; cases h
          simp only [evI]; exact i_vals A (base_no hh.1) hh.2
        · cases h
    · cases h
  · cases h
theorem cIter_ok (H : Snd g Φ k F) {it : It} (h : cIter F ci tg e = some it) : SI g Φ X W tg e it := by
  unfold cIter at h
  split at h
  · rename_i i e1
    cases h
    split at e1
    · exact cIterN_ok Z H e1
    · exact cIterM_ok Z H e1
    · cases e1
  · split at h
    · rename_i u e1
      split at h
      · rename_i hs
        cases h
        exact ⟨by simp only [evI]; exact i_over Z.G (H.cE Z e1).v, hs⟩
      · cases h
    · cases h
omit Z
/-! ### tests -/
/-- a test by its value -/
def plainT : Expr → Bool
  | .UnaryOp .Not _ _ => false
  | .BoolOp _ _ _ => false
  | .IfExp _ _ _ _ => false
  | .Compare _ _ _ _ => false
  | _ => true
theorem plainT_ok (h : plainT e = true) {env : Env} : ∀ whole, isTrue e env whole = (do let v ← whole; standAt e.pos; holding [v] (truthy v)) := by
  intro w
  cases e <;> first | rfl | (simp [plainT] at h; done) | skip
  rename_i o a p
  cases o <;> first | rfl | (simp [plainT] at h; done)
def cTest (F : Fam) (ci : CI) (e : Expr) : Option T :=
  match e with
  | .UnaryOp .Not a _ => (F.cT ci a).map .not
  | .BoolOp _ _ _ => F.cW ci e
  | .Compare a ops bs _ => (cCmp F ci a ops bs).map .e
  | e => if plainT e = true then (F.cE ci e).map .e else none
theorem out_cmp (o : Out D) (q : Sto → Out D) (f : D → D → Option Bool) :
    ((o.bnd fun u S => (q S).bnd fun v S => (lift (f u v) S).bnd fun k S => .ok (.bl k) S).bnd fun x S => lift (truD x) S) = o.bnd fun u S => (q S).bnd fun v S => lift (f u v) S := by
  cases o with
  | ok u S =>
    show (((q S).bnd fun v S => (lift (f u v) S).bnd fun k S => .ok (.bl k) S).bnd fun x S => lift (truD x) S) = (q S).bnd fun v S => lift (f u v) S
    cases q S with
    | ok v S' =>
      show (((lift (f u v) S').bnd fun k S => .ok (.bl k) S).bnd fun x S => lift (truD x) S) = lift (f u v) S'
      cases f u v <;> rfl
    | _ => rfl
  | _ => rfl
theorem out_chain (o : Out D) (q w : Sto → Out D) (f f' : D → D → Option Bool) :
    ((o.bnd fun u S => (q S).bnd fun v S => (lift (f u v) S).bnd fun k S => if k = true then (w S).bnd fun z S => (lift (f' v z) S).bnd fun k S => .ok (.bl k) S else .ok (.bl false) S).bnd fun x S => lift (truD x) S) =
      o.bnd fun u S => (q S).bnd fun v S => (lift (f u v) S).bnd fun k S => if k = true then (w S).bnd fun z S => lift (f' v z) S else .ok false S := by
  cases o with
  | ok u S =>
    show (((q S).bnd fun v S => (lift (f u v) S).bnd fun k S => if k = true then (w S).bnd fun z S => (lift (f' v z) S).bnd fun k S => .ok (.bl k) S else .ok (.bl false) S).bnd fun x S => lift (truD x) S) =
      (q S).bnd fun v S => (lift (f u v) S).bnd fun k S => if k = true then (w S).bnd fun z S => lift (f' v z) S else .ok false S
    cases q S with
    | ok v S' =>
      show (((lift (f u v) S').bnd fun k S => if k = true then (w S).bnd fun z S => (lift (f' v z) S).bnd fun k S => .ok (.bl k) S else .ok (.bl false) S).bnd fun x S => lift (truD x) S) =
        (lift (f u v) S').bnd fun k S => if k = true then (w S).bnd fun z S => lift (f' v z) S else .ok false S
      cases f u v with
      | none => rfl
      | some k =>
        cases k with
        | false => rfl
        | true =>
          show (((w S').bnd fun z S => (lift (f' v z) S).bnd fun k S => .ok (.bl k) S).bnd fun x S => lift (truD x) S) = (w S').bnd fun z S => lift (f' v z) S
          cases w S' with
          | ok z S2 =>
            show (((lift (f' v z) S2).bnd fun k S => .ok (.bl k) S).bnd fun x S => lift (truD x) S) = lift (f' v z) S2
            cases f' v z <;> rfl
          | _ => rfl
    | _ => rfl
  | _ => rfl
/-- a comparison's truth, as a test -/
theorem cmp_tt {a : Expr} {ops : List CmpOp} {bs : List Expr} {u : E} (H : Snd g Φ k F) (Z : Good g Φ k ci X W) (h : cCmp F ci a ops bs = some u) : ST g Φ X W (.Compare a ops bs pos) (.e u) := by
  unfold cCmp at h
  show PT X _ _
  split at h
  · split at h
    · rename_i hn
      rw [Option.map_eq_some_iff] at h
      obtain ⟨x, e1, rfl⟩ := h
      obtain ⟨j, p, rfl⟩ := isNone_ok hn
      have q := t_isN (pos := pos) (pos' := p) (j := j) (H.cE Z e1).b
      have e2 : evT Φ (.e (.isN x)) = fun r S => ((rd x r S (ev Φ x r S)).bnd fun x S => .ok (match x with | .non => true | _ => false) S) := by
        funext r S
        simp only [evT, rd, ev, Out.bnd_assoc]
        cases rd x r S (ev Φ x r S) <;> rfl
      rw [e2]
      exact q
    · cases h
  · split at h
    · rename_i hn
      rw [Option.map_eq_some_iff] at h
      obtain ⟨x, e1, rfl⟩ := h
      obtain ⟨j, p, rfl⟩ := isNone_ok hn
      have q := t_notN (pos := pos) (pos' := p) (j := j) (H.cE Z e1).b
      have e2 : evT Φ (.e (.notN x)) = fun r S => ((rd x r S (ev Φ x r S)).bnd fun x S => .ok (match x with | .non => false | _ => true) S) := by
        funext r S
        simp only [evT, rd, ev, Out.bnd_assoc]
        cases rd x r S (ev Φ x r S) <;> rfl
      rw [e2]
      exact q
    · cases h
  · split at h
    · rename_i i x y e1 e2 e3
      split at h
      · rename_i hs
        cases h
        rw [cmI_ok e1]
        have q := t_cmp (pos := pos) Z.G i (H.cE Z e2).b (H.cE Z e3).b (marks_no hs)
        have e4 : evT Φ (.e (.cmp i x y)) = fun r S => ((rd x r S (ev Φ x r S)).bnd fun u S => (rd y r S (ev Φ y r S)).bnd fun v S => lift (cmD i u v) S) := by
          funext r S
          simp only [evT, ev]
          exact out_cmp (rd x r S (ev Φ x r S)) (fun S => rd y r S (ev Φ y r S)) (cmD i)
        rw [e4]
        exact q
      · cases h
    · cases h
  · split at h
    · rename_i i j x y z e1 e2 e3 e4 e5
      split at h
      · rename_i hs
        cases h
        rw [cmI_ok e1, cmI_ok e2]
        have q := t_chain (pos := pos) Z.G i j (H.cE Z e3).b (H.cE Z e4).b (H.cE Z e5).b (by simpa only [lastMarks] using marks_no hs)
        have e6 : evT Φ (.e (.chain i j x y z)) = fun r S => ((rd x r S (ev Φ x r S)).bnd fun u S => (rd y r S (ev Φ y r S)).bnd fun v S => (lift (cmD i u v) S).bnd fun k S =>
            if k = true then (rd z r S (ev Φ z r S)).bnd fun w S => lift (cmD j v w) S else .ok false S) := by
          funext r S
          simp only [evT, ev]
          exact out_chain (rd x r S (ev Φ x r S)) (fun S => rd y r S (ev Φ y r S)) (fun S => rd z r S (ev Φ z r S)) (cmD i) (cmD j)
        rw [e6]
        exact q
      · cases h
    · cases h
  · cases h
end
end Pi

/-! Pi9e: comprehensions, and the whole of expressions. -/
namespace Pi
open PySem L2 PySem.Spec PyProof.Rows
section
variable {g : GC} {Φ : Phi} {X : Cx} {ci : CI} {W : WX} {k : Nat}
variable {F : Fam} (Z : Good g Φ k ci X W) {ir : E} {pos p p2 cpos apos : Pos} {e a b c tg : Expr} {x y : Str} {es args : List Expr}

include Z
theorem cTest_ok (H : Snd g Φ k F) {t : T} (h : cTest F ci e = some t) : ST g Φ X W e t := by
  unfold cTest at h
  split at h
  · rw [Option.map_eq_some_iff] at h
    obtain ⟨u, e1, rfl⟩ := h
    show PT X _ _
    have q := t_not (pos := by assumption) (H.cT Z e1)
    simp only [evT]
    exact q
  · exact (H.cW Z h).pt
  · rw [Option.map_eq_some_iff] at h
    obtain ⟨u, e1, rfl⟩ := h
    exact cmp_tt H Z e1
  · split at h
    · rename_i hp
      rw [Option.map_eq_some_iff] at h
      obtain ⟨u, e1, rfl⟩ := h
      show PT X _ _
      simp only [evT]
      exact t_yes_of Z.G (H.cE Z e1).b (plainT_ok hp)
    · cases h
omit Z
def cWs (F : Fam) (ci : CI) (e : Expr) : Option T :=
  match e with
  | .BoolOp _ [a] _ => F.cT ci a
  | .BoolOp .And (a :: b :: r) pos => (match F.cT ci a, F.cW ci (.BoolOp .And (b :: r) pos) with
    | some u, some v => some (.and u v)
    | _, _ => none)
  | .BoolOp .Or (a :: b :: r) pos => (match F.cT ci a, F.cW ci (.BoolOp .Or (b :: r) pos) with
    | some u, some v => some (.or u v)
    | _, _ => none)
  | _ => none
include Z
theorem cWs_ok (H : Snd g Φ k F) {t : T} (h : cWs F ci e = some t) : SW g Φ X W e t := by
  unfold cWs at h
  show PW X _ _
  split at h
  · rename_i o a p
    cases o with
    | And => exact pw_and1 (H.cT Z h)
    | Or => exact pw_or1 (H.cT Z h)
  · split at h
    · rename_i u v e1 e2
      cases h
      simp only [evT]
      exact w_and (H.cT Z e1) (H.cW Z e2)
    · cases h
  · split at h
    · rename_i u v e1 e2
      cases h
      simp only [evT]
      exact w_or (H.cT Z e1) (H.cW Z e2)
    · cases h
  · cases h
omit Z
/-! ### comprehensions -/
def blkCI (ci : CI) (scope : Scope) : CI := { ci with
  sc := scope.names.map fun (n, k) => if (k == NameKind.free && true && ci.sc.lookup n == some .cell) then (n, NameKind.cell) else (n, k)
  cells := (scope.names.map (·.1)).filter fun x => scope.names.lookup x == some .cell }
def ownOf (ci : CI) (scope : Scope) : List (Str × Nat) := scope.names.filterMap fun y => if y.2 = .local ∨ y.2 = .cell then (place y.1 ci.N).map fun i => (y.1, i) else none
theorem blkC_names {N : List Str} {sc sc' scope : Scope} {own : List (Str × Nat)} (h : sc.names = sc'.names) : blkC N sc scope own = blkC N sc' scope own := by
  unfold blkC
  rw [h]
theorem blkC_kind {N : List Str} {sc scope : Scope} {own : List (Str × Nat)} (h : blkC N sc scope own = true) : scope.kind = .function := (blkOk_by h).kind
include Z
theorem blk_good {scope : Scope} (hk : scope.kind = .function) (s : Shared) (H : Hp) (C : Addr) (cl : List (Str × Addr)) (fp : List Addr) : Good g Φ k (blkCI ci scope) (X.blk s H scope (compEnvC scope cl C X.env) fp) WF := by
  refine ⟨⟨Z.O.N, ?_, hk, fun x hx => ?_⟩, ⟨Z.T.fn, Z.T.F, fun x c h => ?_, fun x c h => ?_, Z.T.bl, Z.T.co, Z.T.at_, Z.T.room, Z.T.gd, Z.T.sm⟩, Z.G.blk, fun σ pins H s e s' I c => passL pins σ H s e s' I c⟩
  · show (relabel scope X.env).names = _
    unfold relabel blkCI
    dsimp only
    have hkd := Z.O.kd
    have hsc := Z.O.sc
    congr 1
    funext y
    show (if (y.2 == NameKind.free && X.env.scope.kind == .function && X.env.scope.names.lookup y.1 == some .cell) = true then (y.1, NameKind.cell) else (y.1, y.2)) = _
    rw [hkd, hsc]
    rfl
  · have := (List.mem_filter.mp hx).2
    exact this
  · have C := Z.T.cl x c h
    exact ⟨C.mg, C.mkc, C.cls, C.F⟩
  · have q := (Z.T.ex x c h).ex
    exact ⟨q⟩
omit Z
def cComp (F : Fam) (ci : CI) (gs : List Comprehension) (scope : Scope) : Option (Tg × It × T × List Nat) :=
  match gs with
  | [⟨tg, iter, ifs, a⟩] => (match cTg (blkCI ci scope) tg, F.cI ci tg iter, (match ifs with
      | [] => some T.yes
      | [c] => F.cT (blkCI ci scope) c
      | _ => none) with
    | some t, some it, some tt => if a = 0 ∧ blkC ci.N { scope with names := ci.sc } scope (ownOf ci scope) = true ∧ (t.ids.all fun i => decide (i ∈ (ownOf ci scope).map (·.2))) = true then some (t, it, tt, (ownOf ci scope).map (·.2)) else none
    | _, _, _ => none)
  | _ => none
def cLc (F : Fam) (ci : CI) (elt : Expr) (gs : List Comprehension) (scope : Scope) : Option E :=
  match cComp F ci gs scope, F.cE (blkCI ci scope) elt with
  | some (t, it, tt, vs), some u => some (.lc u t it tt vs)
  | _, _ => none
def cDc (F : Fam) (ci : CI) (kx vx : Expr) (gs : List Comprehension) (scope : Scope) : Option E :=
  match cComp F ci gs scope, F.cE (blkCI ci scope) kx, F.cE (blkCI ci scope) vx with
  | some (t, it, tt, vs), some u, some v => some (.dc u v t it tt vs)
  | _, _, _ => none
/-- what a comprehension's makings promise -/
structure CompOk (g : GC) (Φ : Phi) (k : Nat) (ci : CI) (X : Cx) (W : WX) (gs : List Comprehension) (scope : Scope) (t : Tg) (it : It) (tt : T) (vs : List Nat) : Prop where
  ex : ∃ tg iter ifs own, gs = [⟨tg, iter, ifs, 0⟩] ∧ vs = own.map (·.2) ∧ PI X tg iter (TIt g W (evI Φ it)) ∧ blkC X.N X.env.scope scope own = true ∧ (∀ i ∈ t.ids, i ∈ own.map (·.2)) ∧
    (∀ (s : Shared) (H : Hp) (C : Addr) (cl : List (Str × Addr)) (fp : List Addr), PG (X.blk s H scope (compEnvC scope cl C X.env) fp) tg (TGd g t)) ∧
    (∀ (s : Shared) (H : Hp) (C : Addr) (cl : List (Str × Addr)) (fp : List Addr), PTs (X.blk s H scope (compEnvC scope cl C X.env) fp) ifs (TT' g WF (evT Φ tt))) ∧
    (∀ x, foldedSetIterable iter X.env x = pure x) ∧ scope.kind = .function
include Z
theorem cComp_ok (H : Snd g Φ k F) {gs : List Comprehension} {scope : Scope} {t : Tg} {it : It} {tt : T} {vs : List Nat} (h : cComp F ci gs scope = some (t, it, tt, vs)) : CompOk g Φ k ci X W gs scope t it tt vs := by
  unfold cComp at h
  split at h
  · rename_i tg iter ifs a
    split at h
    · rename_i t' it' tt' e1 e2 e3
      split at h
      · rename_i hh
        obtain ⟨rfl, hb, hi⟩ := hh
        cases h
        have hb' : blkC X.N X.env.scope scope (ownOf ci scope) = true := by
          rw [Z.O.N, blkC_names (sc' := { scope with names := ci.sc }) Z.O.sc]
          exact hb
        have hk := blkC_kind hb
        have I := H.cI Z e2
        refine ⟨tg, iter, ifs, ownOf ci scope, rfl, rfl, I.i, hb', fun i hm => ?_, fun s H2 C cl fp => ?_, fun s H2 C cl fp => ?_, folded_no I.s, hk⟩
        · have := List.all_eq_true.mp hi i hm
          exact of_decide_eq_true this
        · have Z2 := blk_good Z hk s H2 C cl fp
          exact cTg_ok Z2.O Z2.G e1
        · have Z2 := blk_good Z hk s H2 C cl fp
          split at e3
          · cases e3
            have : evT Φ .yes = fun _ S => .ok true S := by funext r S; simp only [evT]
            rw [this]
            exact ts_nil
          · exact pts_one (H.cT Z2 e3)
          · cases e3
      · cases h
    · cases h
  · cases h
theorem cLc_ok (H : Snd g Φ k F) {gs : List Comprehension} {scope : Scope} (h : cLc F ci e gs scope = some ir) : SE g Φ X W (.ListComp e gs scope pos) ir := by
  unfold cLc at h
  split at h
  · rename_i t it tt vs u e1 e2
    cases h
    obtain ⟨tg, iter, ifs, own, rfl, rfl, hi, hb, ht, hg, hc, hs, hk⟩ := (cComp_ok Z H e1).ex
    refine .ofF ?_ rfl
    have q := s_lc (pos := pos) Z.G hi hb ht hg hc (fun s H2 C cl fp => (H.cE (blk_good Z hk s H2 C cl fp) e2).v) hs
    simp only [ev]
    exact q
  · cases h
theorem cDc_ok (H : Snd g Φ k F) {gs : List Comprehension} {scope : Scope} (h : cDc F ci a b gs scope = some ir) : SE g Φ X W (.DictComp a b gs scope pos) ir := by
  unfold cDc at h
  split at h
  · rename_i t it tt vs u v e1 e2 e3
    cases h
    obtain ⟨tg, iter, ifs, own, rfl, rfl, hi, hb, ht, hg, hc, hs, hk⟩ := (cComp_ok Z H e1).ex
    refine .ofF ?_ rfl
    have q := s_dc (pos := pos) Z.G hi hb ht hg hc (fun s H2 C cl fp => (H.cE (blk_good Z hk s H2 C cl fp) e2).v) (fun s H2 C cl fp => (H.cE (blk_good Z hk s H2 C cl fp) e3).v) hs
    simp only [ev]
    exact q
  · cases h
omit Z

/-! ### the whole -/
def stepE (F : Fam) (ci : CI) (e : Expr) : Option E :=
  match e with
  | .Name x _ => cName ci x
  | .Constant v _ _ => cConst v
  | .BinOp a o b _ => cBin F ci a o b
  | .UnaryOp o a _ => cUn F ci o a
  | .Compare a ops bs _ => cCmp F ci a ops bs
  | .BoolOp o es pos => cBool F ci o es pos
  | .IfExp c a b _ => cIf F ci c a b
  | .Tuple es _ _ => (F.cL ci es).map E.tup
  | .List es _ => (F.cL ci es).map E.lst
  | .Dict ks vs _ => cDict F ci ks vs
  | .Subscript a i _ => cSub F ci a i
  | .Attribute a f _ => cAttr F ci a f
  | .Call (.Name x _) args [] _ => cCallN F ci x args
  | .Call (.Attribute o m apos) args [] cpos => cCallM F ci o m apos args cpos
  | .ListComp e gs scope _ => cLc F ci e gs scope
  | .DictComp a b gs scope _ => cDc F ci a b gs scope
  | _ => none
def step (F : Fam) : Fam := ⟨stepE F, cTest F, cWs F, cLs F, cIter F⟩
def fam : Nat → Fam
  | 0 => fam0
  | n + 1 => step (fam n)
include Z
theorem stepE_ok (H : Snd g Φ k F) (h : stepE F ci e = some ir) : SE g Φ X W e ir := by
  unfold stepE at h
  split at h
  · exact cName_ok Z h
  · exact cConst_ok h
  · exact cBin_ok Z H h
  · exact cUn_ok Z H h
  · exact cCmp_ok Z H h
  · exact cBool_ok Z H h
  · exact cIf_ok Z H h
  · rw [Option.map_eq_some_iff] at h
    obtain ⟨el, e1, rfl⟩ := h
    exact cTup_ok Z H e1
  · rw [Option.map_eq_some_iff] at h
    obtain ⟨el, e1, rfl⟩ := h
    exact cLst_ok Z H e1
  · exact cDict_ok Z H h
  · exact cSub_ok Z H h
  · exact cAttr_ok Z H h
  · exact cCallN_ok Z H h
  · exact cCallM_ok Z H h
  · exact cLc_ok Z H h
  · exact cDc_ok Z H h
  · cases h
omit Z
theorem step_ok (H : Snd g Φ k F) : Snd g Φ k (step F) := ⟨fun Z _ _ h => stepE_ok Z H h, fun Z _ _ h => cTest_ok Z H h, fun Z _ _ h => cWs_ok Z H h, fun Z _ _ h => cLs_ok Z H h, fun Z _ _ _ h => cIter_ok Z H h⟩
theorem fam_ok : ∀ n, Snd g Φ k (fam n)
  | 0 => snd0
  | n + 1 => step_ok (fam_ok n)
end
end Pi

/-! Pi10: statements, from a def's text. -/
namespace Pi
open PySem L2 PySem.Spec PyProof.Rows

/-! ### names that stand where a value is wanted -/
def nr (a : E) (l : List Nat) : List Nat := match a with
  | .var _ => []
  | _ => l
mutual
def vE : E → List Nat
  | .var i => [i]
  | .bin _ a b => nr a (vE a) ++ nr b (vE b)
  | .neg a => vE a
  | .cmp _ a b => nr a (vE a) ++ nr b (vE b)
  | .isN a => nr a (vE a)
  | .notN a => nr a (vE a)
  | .chain _ _ a b c => nr a (vE a) ++ nr b (vE b) ++ nr c (vE c)
  | .and a b => vE a ++ vE b
  | .or a b => vE a ++ vE b
  | .not a => nr a (vE a)
  | .ite c a b => vT c ++ vE a ++ vE b
  | .tup es => vL es
  | .lst es => vL es
  | .dct ps => vD ps
  | .call _ es => vL es
  | .callv _ es => vL es
  | .new _ es => vL es
  | .bi _ a => nr a (vE a)
  | .b2 _ a b => vE a ++ vE b
  | .isi a _ => nr a (vE a)
  | .sub a b => nr a (vE a) ++ vE b
  | .slice a b c => nr a (vE a) ++ vE b ++ vE c
  | .attr a _ => vE a
  | .join _ a => nr a (vE a)
  | .get1 a b => nr a (vE a) ++ vE b
  | .get2 a b c => nr a (vE a) ++ vE b ++ vE c
  | .lc e _ it c _ => vE e ++ vI it ++ vT c
  | .dc a b _ it c _ => vE a ++ vE b ++ vI it ++ vT c
  | .mrg a b => vE a ++ vE b
  | .lvals a => vE a
  | _ => []
def vT : T → List Nat
  | .e a => nr a (vE a)
  | .and a b => vT a ++ vT b
  | .or a b => vT a ++ vT b
  | .not a => vT a
  | .yes => []
def vL : EL → List Nat
  | .nil => []
  | .cons a l => vE a ++ vL l
def vD : KL → List Nat
  | .nil => []
  | .cons a b l => vE a ++ vE b ++ vD l
def vI : It → List Nat
  | .over a => vE a
  | .rng a => vE a
  | .rng2 a b => vE a ++ vE b
  | .enum a => vE a
  | .rev a => vE a
  | .items a => vE a
  | .vals a => vE a
  | .zip a b => vE a ++ vE b
end
def vS : S → List Nat
  | .asg _ e => vE e
  | .par _ _ a b => vE a ++ vE b
  | .aug _ _ e => vE e
  | .setk _ k e => vE k ++ vE e
  | .app _ e => vE e
  | .ext _ e => vE e
  | .popk _ e => vE e
  | .attr a _ e => vE a ++ vE e
  | .ex e => vE e
  | .ret e => vE e
  | .ite c _ _ => vT c
  | .whl c _ => vT c
  | .for _ it _ => vI it
  | .raise _ es => vL es
  | _ => []
def frzS (s : S) : S := match vS s with
  | [] => s
  | is => .frz is s

section
variable {g : GC} {Φ : Phi} {X : Cx} {ci : CI} {W : WX} {k n : Nat}
def SS (g : GC) (Φ : Phi) (X : Cx) (W : WX) (st : Stmt) (s : S) : Prop := PS X st (TSt g W (ex Φ s))
def SB (g : GC) (Φ : Phi) (X : Cx) (W : WX) (st : List Stmt) (s : SL) : Prop := PSs X st (TSt g W (exL Φ s))
theorem frzS_ok {st : Stmt} {s : S} (h : SS g Φ X W st s) : SS g Φ X W st (frzS s) := by
  unfold frzS
  split
  · exact h
  · have q := PS.frz (vS s) h
    show PS X st (TSt g W (ex Φ (.frz _ s)))
    simp only [ex]
    exact q
/-- what is known of the exceptions' classes -/
structure SubOk (g : GC) (K : PySem.W.Frag) (sub : Nat → Nat → Option Bool) : Prop where
  ex : ∀ c c' b, sub c c' = some b → PySem.W.exmOne K (g.xa c) (g.xa c') = some b
  kt : ∀ c c' b, sub c c' = some b → ∃ D0, g.xa c = .ref D0 ∧ L2.ExcC K D0 ∧ PySem.W.kitOne K (.ref D0) (g.xa c') = some b ∧ PySem.W.kitOne K (.ref D0) (.type "ValueError") = some true
structure GoodS (g : GC) (Φ : Phi) (k : Nat) (ci : CI) (X : Cx) (W : WX) : Prop where
  Z : Good g Φ k ci X W
  tk : Takes X W
  po : PassesOwn (model X.prog X.w) X.A X.env X.xe
  st : X.stack = X.env :: X.outer
  fr : X.env.frame = some X.env.locals
  sb : SubOk g X.K Φ.sub
variable (Y : GoodS g Φ k ci X W) {pos p p2 cpos apos tpos : Pos} {e a b c tg v : Expr} {x y : Str} {es args : List Expr} {s : S} {st : Stmt}

/-! ### a name gets a value -/
def cSet (F : Fam) (ci : CI) (x : Str) (p : Pos) (v : Expr) : Option S :=
  match ci.nm x with
  | none => none
  | some i => (match v with
    | .ListComp elt gs scope cpos => if ci.sc.lookup x = some .local ∧ (p.line == cpos.line) = true ∧ (scope.names.any fun (n, k) => n == x && (k == .local || k == .cell)) = false then (cLc F ci elt gs scope).map (.asg (.nm i)) else none
    | .DictComp kx vx gs scope cpos => if ci.sc.lookup x = some .local ∧ (p.line == cpos.line) = true ∧ (scope.names.any fun (n, k) => n == x && (k == .local || k == .cell)) = false then (cDc F ci kx vx gs scope).map (.asg (.nm i)) else none
    | .Call (.Attribute (.Name y _) m apos) [] [] cpos => if m = "pop" ∧ (apos.endLine == cpos.line) = true then (ci.nv y).map (.popl (.nm i)) else none
    | v => if noComp v = true then (F.cE ci v).map (.asg (.nm i)) else none)
include Y
theorem set_ok (H : Snd g Φ k F) {i : Nat} {u : E} (hi : ci.nm x = some i) (hv : F.cE ci v = some u) (hc : noComp v = true) : SS g Φ X W (.Assign [.Name x p] v pos) (.asg (.nm i) u) := by
  have n := Y.Z.O.nm hi
  have A := H.cE Y.Z hv
  show PS X _ _
  simp only [ex]
  by_cases hn : u.isNew = true
  · have q := ts_setO (p := p) (pos := pos) Y.Z.G n (A.f hn) hc
    simp only [hn, D.slot, if_true]
    exact q
  · have q := ts_setV (p := p) (pos := pos) Y.Z.G n A.v hc
    have hn' : u.isNew = false := by simpa using hn
    simp only [hn', D.slot, Bool.false_eq_true, if_false]
    exact q
theorem cSet_ok (H : Snd g Φ k F) (h : cSet F ci x p v = some s) : SS g Φ X W (.Assign [.Name x p] v pos) s := by
  unfold cSet at h
  split at h
  · cases h
  · rename_i i hi
    have n := Y.Z.O.nm hi
    split at h
    · split at h
      · rename_i hh
        obtain ⟨hl, hp, hs⟩ := hh
        rw [Option.map_eq_some_iff] at h
        obtain ⟨u, e1, rfl⟩ := h
        unfold cLc at e1
        split at e1
        · rename_i t it tt vs u' e2 e3
          cases e1
          obtain ⟨tg, iter, ifs, own, rfl, rfl, hi', hb, ht, hg, hc, hs', hk⟩ := (cComp_ok Y.Z H e2).ex
          have q := ts_setLc (pos := pos) Y.Z.G n.at_ (by rw [Y.Z.O.sc]; exact hl) Y.Z.O.kd hp hs hi' hb ht hg hc (fun s H2 C cl fp => (H.cE (blk_good Y.Z hk s H2 C cl fp) e3).v) hs'
          show PS X _ _
          simp only [ex, ev, E.isNew, D.slot, if_true]
          exact q
        · cases e1
      · cases h
    · split at h
      · rename_i hh
        obtain ⟨hl, hp, hs⟩ := hh
        rw [Option.map_eq_some_iff] at h
        obtain ⟨u, e1, rfl⟩ := h
        unfold cDc at e1
        split at e1
        · rename_i t it tt vs u' v' e2 e3 e4
          cases e1
          obtain ⟨tg, iter, ifs, own, rfl, rfl, hi', hb, ht, hg, hc, hs', hk⟩ := (cComp_ok Y.Z H e2).ex
          have q := ts_setDc (pos := pos) Y.Z.G n.at_ (by rw [Y.Z.O.sc]; exact hl) Y.Z.O.kd hp hs hi' hb ht hg hc (fun s H2 C cl fp => (H.cE (blk_good Y.Z hk s H2 C cl fp) e3).v) (fun s H2 C cl fp => (H.cE (blk_good Y.Z hk s H2 C cl fp) e4).v) hs'
          show PS X _ _
          simp only [ex, ev, E.isNew, D.slot, if_true]
          exact q
        · cases e1
      · cases h
    · split at h
      · rename_i hh
        obtain ⟨rfl, hl⟩ := hh
        rw [Option.map_eq_some_iff] at h
        obtain ⟨j, e1, rfl⟩ := h
        show PS X _ _
        simp only [ex]
        exact ts_popl (t := .nm i) Y.Z.G (Y.Z.O.nv e1) (g_nm (pos := p) Y.Z.G n.at_ n.loc n.fn) rfl hl rfl rfl
      · cases h
    · split at h
      · rename_i hc
        rw [Option.map_eq_some_iff] at h
        obtain ⟨u, e1, rfl⟩ := h
        exact set_ok Y H hi e1 hc
      · cases h
omit Y

/-! ### several names get values -/
def cSetT (F : Fam) (ci : CI) (ts : List Expr) (v : Expr) : Option S :=
  match v with
  | .Tuple [a, b] _ _ => (match ts with
    | [.Name x px, .Name y py] => (match ci.nm x, ci.nm y, F.cE ci a, F.cE ci b with
      | some i, some j, some u, some w => if ci.sc.lookup x = some .local ∧ ci.sc.lookup y = some .local ∧ i ≠ j ∧ x ≠ y ∧ (py.line == px.line) = true ∧ noStar a = true ∧ noStar b = true ∧ [a, b].all (foldedForSure 8) = false ∧ [a, b].all (constantsAlone 8) = false then some (.par i j u w) else none
      | _, _, _, _ => none)
    | _ => none)
  | .Call (.Attribute (.Name y _) m apos) [] [] cpos => if m = "pop" ∧ (apos.endLine == cpos.line) = true then (match ci.nv y, nmsOf ci ts with
      | some j, some is => some (.popl (.tup is) j)
      | _, _ => none) else none
  | v => if noComp v = true ∧ noTup v = true then (match nmsOf ci ts, F.cE ci v with
      | some is, some u => some (.asg (.tup is) u)
      | _, _ => none) else none
include Y
theorem cSetT_ok (H : Snd g Φ k F) {ts : List Expr} {j0 : Nat} (h : cSetT F ci ts v = some s) : SS g Φ X W (.Assign [.Tuple ts j0 p] v pos) s := by
  unfold cSetT at h
  split at h
  · split at h
    · split at h
      · rename_i i j u w e1 e2 e3 e4
        split at h
        · rename_i hh
          obtain ⟨l1, l2, hij, hxy, hl, s1, s2, f1, f2⟩ := hh
          cases h
          have n1 := Y.Z.O.nm e1
          have n2 := Y.Z.O.nm e2
          have m1 := Y.Z.O.sc ▸ l1
          have m2 := Y.Z.O.sc ▸ l2
          show PS X _ _
          simp only [ex]
          exact ts_par Y.Z.G n1 n2 m1 m2 hij (H.cE Y.Z e3).v (H.cE Y.Z e4).v s1 s2 (swapped_two Y.Z.O.kd m1 m2 hl hxy s1 s2 f1 f2)
        · cases h
      · cases h
    · cases h
  · split at h
    · rename_i hh
      obtain ⟨rfl, hl⟩ := hh
      split at h
      · rename_i j is e1 e2
        cases h
        show PS X _ _
        simp only [ex]
        exact ts_popl (t := .tup is) Y.Z.G (Y.Z.O.nv e1) (g_tup (pos := p) Y.Z.G (nmsOf_ok Y.Z.O e2)) rfl hl rfl rfl
      · cases h
    · cases h
  · split at h
    · rename_i hh
      split at h
      · rename_i is u e1 e2
        cases h
        show PS X _ _
        simp only [ex]
        exact ts_setT (t := .tup is) Y.Z.G (g_tup (pos := p) Y.Z.G (nmsOf_ok Y.Z.O e1)) (H.cE Y.Z e2).v hh.1 hh.2
      · cases h
    · cases h
omit Y
/-! ### expressions as statements -/
def cExpr (F : Fam) (ci : CI) (e : Expr) : Option S :=
  match e with
  | .Constant (.str _) _ _ => some .pass
  | .Call (.Attribute (.Name x _) m apos) [a] [] cpos => if noStar a = true ∧ (apos.endLine == cpos.line) = true then (match ci.nv x, F.cE ci a with
      | some i, some u => if m = "append" then some (.app i u) else if m = "extend" then some (.ext i u) else if m = "pop" then some (.popk i u) else none
      | _, _ => none) else none
  | e => if noComp e = true then (F.cE ci e).map .ex else none
include Y
theorem cExpr_ok (H : Snd g Φ k F) (h : cExpr F ci e = some s) : SS g Φ X W (.Expr e pos) s := by
  unfold cExpr at h
  split at h
  · cases h
    show PS X _ _
    simp only [ex]
    exact ts_doc
  · split at h
    · rename_i hh
      obtain ⟨hs, hl⟩ := hh
      split at h
      · rename_i i u e1 e2
        have n := Y.Z.O.nv e1
        have A := (H.cE Y.Z e2).v
        split at h
        · rename_i hm; subst hm; cases h
          show PS X _ _
          simp only [ex]
          exact ts_app n A hs (mb_of rfl hs hl)
        · split at h
          · rename_i hm; subst hm; cases h
            show PS X _ _
            simp only [ex]
            exact ts_ext Y.Z.G n A hs (mb_of rfl hs hl)
          · split at h
            · rename_i hm; subst hm; cases h
              show PS X _ _
              simp only [ex]
              exact ts_popk n A (m1_of rfl hs hl)
            · cases h
      · cases h
    · cases h
  · split at h
    · rename_i hc
      rw [Option.map_eq_some_iff] at h
      obtain ⟨u, e1, rfl⟩ := h
      show PS X _ _
      simp only [ex]
      exact ts_ex (H.cE Y.Z e1).v hc
    · cases h
omit Y
/-! ### stores -/
def cAssign (F : Fam) (ci : CI) (t v : Expr) : Option S :=
  match t with
  | .Name x p => cSet F ci x p v
  | .Tuple ts _ _ => cSetT F ci ts v
  | .Subscript (.Name x _) kx _ => (match ci.nv x, F.cE ci kx, F.cE ci v with
      | some i, some u, some w => if noComp v = true then some (.setk i u w) else none
      | _, _, _ => none)
  | .Attribute o f _ => (match F.cE ci o, F.cE ci v with
      | some u, some w => if f ∈ ci.tab.ats then some (.attr u f w) else none
      | _, _ => none)
  | _ => none
include Y
theorem cAssign_ok (H : Snd g Φ k F) (h : cAssign F ci a v = some s) : SS g Φ X W (.Assign [a] v pos) s := by
  unfold cAssign at h
  split at h
  · exact cSet_ok Y H h
  · exact cSetT_ok Y H h
  · split at h
    · rename_i i u w e1 e2 e3
      split at h
      · rename_i hc
        cases h
        show PS X _ _
        simp only [ex]
        exact ts_setk Y.Z.G (Y.Z.O.nv e1) (H.cE Y.Z e2).v (H.cE Y.Z e3).v hc
      · cases h
    · cases h
  · split at h
    · rename_i u w e1 e2
      split at h
      · rename_i hh
        cases h
        show PS X _ _
        simp only [ex]
        exact ts_attr Y.Z.G (Y.Z.T.at_ _ hh) (H.cE Y.Z e1).v (H.cE Y.Z e2).v
      · cases h
    · cases h
  · cases h
omit Y
def cAug (F : Fam) (ci : CI) (x : Str) (o : Operator) (v : Expr) : Option S :=
  match ci.nm x, opI o, F.cE ci v with
  | some i, some .add, some u => some (.aug i .add u)
  | some i, some .sub, some u => some (.aug i .sub u)
  | _, _, _ => none
include Y
theorem cAug_ok (H : Snd g Φ k F) {o : Operator} (h : cAug F ci x o v = some s) : SS g Φ X W (.AugAssign (.Name x p) o v pos) s := by
  unfold cAug at h
  split at h
  · rename_i i u e1 e2 e3
    cases h
    rw [opI_ok e2]
    show PS X _ _
    simp only [ex]
    exact ts_aug Y.Z.G (Y.Z.O.nm e1) .add (.inl rfl) (H.cE Y.Z e3).v
  · rename_i i u e1 e2 e3
    cases h
    rw [opI_ok e2]
    show PS X _ _
    simp only [ex]
    exact ts_aug Y.Z.G (Y.Z.O.nm e1) .sub (.inr rfl) (H.cE Y.Z e3).v
  · cases h
omit Y
def cRaise (F : Fam) (ci : CI) (x : Str) (args : List Expr) : Option S :=
  match args, ci.tab.exs.lookup x, F.cL ci args with
  | _ :: _, some c, some el => if ci.gl x = true ∧ fine x = true then some (.raise c el) else none
  | _, _, _ => none
include Y
theorem cRaise_ok (H : Snd g Φ k F) (h : cRaise F ci x args = some s) : SS g Φ X W (.Raise (some (.Call (.Name x p) args [] cpos)) none pos) s := by
  unfold cRaise at h
  split at h
  · rename_i a r c el e1 e2
    split at h
    · rename_i hh
      cases h
      have q := H.cL Y.Z e2
      show PS X _ _
      simp only [ex]
      exact ts_raise Y.Z.G Y.tk (Y.Z.T.ex _ _ e1) (Y.Z.O.gl hh.1) q.a q.s (fine_ok hh.2).1
    · cases h
  · cases h
omit Y
end
end Pi

/-! Pi10t: except suites: constants are returned, behind a test or not. -/
namespace Pi
open PySem L2 PySem.Spec PyProof.Rows
def cstV : E → Option V
  | .int n => some (.int n)
  | .str x => some (.str x)
  | .bl b => some (.bl b)
  | .non => some .non
  | _ => none
section
variable {g : GC} {Φ : Phi} {X : Cx} {ci : CI} {W : WX} {k n : Nat}
theorem cstV_of {u : E} {d : D} (h : cst u = some d) : ∃ v, cstV u = some v ∧ ∀ al H, Dt g al H v d := by
  cases u <;> try (cases h; done)
  all_goals cases h
  · exact ⟨_, rfl, fun _ _ => .int _⟩
  · exact ⟨_, rfl, fun _ _ => .str _⟩
  · exact ⟨_, rfl, fun _ _ => .bl _⟩
  · exact ⟨_, rfl, fun _ _ => .non⟩
theorem pe_cst {v : Const} {j : Nat} {p : Pos} {u : E} (h : cConst v = some u) : ∃ w, cstV u = some w ∧ PE X (.Constant v j p) (tC w) := by
  unfold cConst at h
  split at h <;> cases h
  · exact ⟨_, rfl, pe_int⟩
  · exact ⟨_, rfl, pe_str⟩
  · exact ⟨_, rfl, pe_bl⟩
  · exact ⟨_, rfl, pe_non⟩
/-! ### the exception's class -/
/-- is the exception of class D one of these: a class of the program's, ValueError -/
def kitO (g : GC) (K : PySem.W.Frag) (D : Addr) (o : Option Nat) (b : Bool) : Prop := match o with
  | some c => PySem.W.kitOne K (.ref D) (g.xa c) = some b
  | none => PySem.W.kitOne K (.ref D) (.type "ValueError") = some b
def kitAll (g : GC) (K : PySem.W.Frag) (D : Addr) : List (Option Nat) → Bool → Prop
  | [], b => b = true
  | o :: r, b => ∃ b1, kitO g K D o b1 ∧ (b1 = false → b = false) ∧ (b1 = true → kitAll g K D r b)
/-- what a suite wishes: a holds the exception, cls is its class, j its name's slot -/
def rdX (g : GC) (K : PySem.W.Frag) (j : Option Nat) (a : Addr) (cls : Value) (od : Option Addr) : List XI → TS
  | [] => fun D σ H => D.nx σ H
  | .ret u :: _ => fun D σ H => ∃ v, cstV u = some v ∧ D.rt v H
  | .ifi i n u :: l => fun D σ H => ∃ m, σ[i]? = some (some (.int m)) ∧ (m = n → ∃ v, cstV u = some v ∧ D.rt v H) ∧ (m ≠ n → rdX g K j a cls od l D σ H)
  | .ifx t u :: l => fun D σ H => ∃ D0 b i, cls = .ref D0 ∧ od = none ∧ L2.ExcC K D0 ∧ j = some i ∧ σ[i]? = some (some (.ref a)) ∧ kitAll g K D0 t b ∧ (b = true → ∃ v, cstV u = some v ∧ D.rt v H) ∧ (b = false → rdX g K j a cls od l D σ H)
/-! ### from the text -/
def cIsx (ci : CI) (en : Option (Str × Nat)) : Expr → Option (Option Nat)
  | .Call (.Name f _) [.Name e _, .Name y _] [] _ => if f = "isinstance" ∧ ci.blt f = true ∧ (en.any fun p => decide (p.1 = e)) = true ∧ ci.nv e = en.map (·.2) then
      (match ci.tab.exs.lookup y with
      | some c => if ci.gl y = true ∧ fine y = true then some (some c) else none
      | none => if y = "ValueError" ∧ ci.blt y = true then some none else none)
    else none
  | _ => none
def cSuite (ci : CI) (en : Option (Str × Nat)) : List Stmt → Option (List XI)
  | [] => some []
  | [.Return none _] => some [.ret .non]
  | [.Return (some (.Constant v _ _)) _] => (cConst v).map fun u => [.ret u]
  | .If (.Compare (.Name x _) [.Eq] [.Constant (.int n) _ _] _) [.Return (some (.Constant v _ _)) _] [] _ :: r => (match ci.nv x, cConst v, cSuite ci en r with
    | some i, some u, some l => some (.ifi i n u :: l)
    | _, _, _ => none)
  | .If (.BoolOp .And [c1, c2] _) [.Return (some (.Constant v _ _)) _] [] _ :: r => (match cIsx ci en c1, cIsx ci en c2, cConst v, cSuite ci en r with
    | some a, some b, some u, some l => some (.ifx [a, b] u :: l)
    | _, _, _, _ => none)
  | _ => none
variable (O : CIok ci X) (T : TabOk g Φ X k ci.tab) (hK : g.K = X.K)
include O T
/-- isinstance of the exception at hand -/
theorem cIsx_ok {en : Option (Str × Nat)} {e : Expr} {o : Option Nat} (h : cIsx ci en e = some o) {a : Addr} {oe : Obj} {cls : Value} {od : Option Addr} {pn : List (Addr × Obj)} (hz : Zc cls od oe) (hf : ∃ vs, oe.data = .fields vs) :
    PT (X.suite a ((a, oe) :: pn)) e (fun σ H Q => ∃ D0 b i, cls = .ref D0 ∧ od = none ∧ L2.ExcC X.K D0 ∧ en.map (·.2) = some i ∧ σ[i]? = some (some (.ref a)) ∧ kitO g X.K D0 o b ∧ Q b H) := by
  unfold cIsx at h
  split at h
  · rename_i f pf en' pe y py cp
    split at h
    · rename_i hh
      obtain ⟨rfl, hb, hen, hnv⟩ := hh
      obtain ⟨g1, g2, g3, g4⟩ := O.blt T hb
      -- the name
      cases en with
      | none => cases hen
      | some q =>
        obtain ⟨qn, qi⟩ := q
        have hq : qn = en' := by simpa using hen
        subst hq
        have nv := O.nv (show ci.nv qn = some qi from hnv)
        have arg : ∃ (cv : Value) (c : V), (∀ u, RelV c u → u = cv) ∧ PE (X.suite a ((a, oe) :: pn)) (.Name y py) (tC c) ∧ ∀ D0 b, kitO g X.K D0 o b → PySem.W.kitOne X.K (.ref D0) cv = some b := by
          split at h
          · rename_i c ec
            split at h
            · rename_i hg
              cases h
              obtain ⟨C, B, newId, initId, bmB, e1, e2, e3, e4, e5, e6⟩ := (T.ex _ _ ec).ex
              exact ⟨.ref C, .ref C, fun u r => r, pe_glob (X := X.suite a ((a, oe) :: pn)) (O.gl hg.1) e4 rfl (fine_ok hg.2).1, fun D0 b q => by rw [← e1]; exact q⟩
            · cases h
          · split at h
            · rename_i hg
              cases h
              obtain ⟨rfl, hb2⟩ := hg
              obtain ⟨f1, f2, f3, f4⟩ := O.blt T hb2
              exact ⟨.type "ValueError", .ty "ValueError", fun u r => r, pe_bltn (X := X.suite a ((a, oe) :: pn)) (v := .ty "ValueError") f1 f2 rfl rfl f3 f4, fun D0 b q => q⟩
            · cases h
        obtain ⟨cv, c, hcv, hpe, hkit⟩ := arg
        refine ⟨fun pins s σ H Q I q => ?_⟩
        obtain ⟨D0, b, i, rfl, rfl, hC, hi, hs, hk, hQ⟩ := q
        cases hi
        have P := pt_val (X := X.suite a ((a, oe) :: pn)) (e := .Call (.Name "isinstance" pf) [.Name qn pe, .Name y py] [] cp) (pe_callB (X := X.suite a ((a, oe) :: pn)) (L2.call_isE hC hz hf) g1 g2 rfl (pa_cons (pe_var (X := X.suite a ((a, oe) :: pn)) nv.at_ nv.vis nv.d1 nv.d2) (pa_cons hpe pa_nil (star_ok rfl)) (star_ok rfl)) g3 g4 (star_ok rfl) rfl) (fun _ => rfl)
        exact P.run pins s σ H Q I ⟨_, hs, c, cv, b, rfl, hcv, hkit D0 b hk, b, rfl, hQ⟩
    · cases h
  · cases h
theorem cSuite_ok {en : Option (Str × Nat)} : ∀ {l : List Stmt} {xs : List XI}, cSuite ci en l = some xs → ∀ {a : Addr} {oe : Obj} {cls : Value} {od : Option Addr} {pn : List (Addr × Obj)}, Zc cls od oe → (∃ vs, oe.data = .fields vs) →
    PSs (X.suite a ((a, oe) :: pn)) l (rdX g X.K (en.map (·.2)) a cls od xs)
  | l, xs, h, a, oe, cls, od, pn, hz, hf => by
    unfold cSuite at h
    split at h
    · cases h
      exact PSs.imp pss_nil fun D σ H q => q
    · cases h
      refine PSs.imp (pss_cons ps_retN pss_nil) fun D σ H q => ?_
      obtain ⟨v, e, q⟩ := q
      cases e
      exact q
    · rw [Option.map_eq_some_iff] at h
      obtain ⟨u, e1, rfl⟩ := h
      rename_i v j p p2
      obtain ⟨w, ew, pw⟩ := pe_cst (X := X.suite a ((a, oe) :: pn)) (j := j) (p := p) e1
      refine PSs.imp (pss_cons (ps_ret pw) pss_nil) fun D σ H q => ?_
      obtain ⟨v', e, q⟩ := q
      rw [ew] at e
      cases e
      exact q
    · rename_i x px nn jn pn' pc v jv pv pr pi r
      split at h
      · rename_i i u l' e1 e2 e3
        cases h
        obtain ⟨w, ew, pw⟩ := pe_cst (X := X.suite a ((a, oe) :: pn)) (j := jv) (p := pv) e2
        have nv := O.nv e1
        have rest := cSuite_ok e3 (a := a) (oe := oe) (cls := cls) (od := od) (pn := pn) hz hf
        refine PSs.imp (pss_cons (ps_if (pt_cmp (pc_eqI (pe_var (X := X.suite a ((a, oe) :: pn)) nv.at_ nv.vis nv.d1 nv.d2) pe_int) rfl) (pss_cons (ps_ret pw) pss_nil) pss_nil) rest) fun D σ H q => ?_
        obtain ⟨m, hm, q1, q2⟩ := q
        refine ⟨_, hm, m, nn, rfl, rfl, _, rfl, ?_⟩
        by_cases he : m = nn
        · simp only [he, decide_true, if_true]
          obtain ⟨v', ev', q⟩ := q1 he
          rw [ew] at ev'
          cases ev'
          exact q
        · simp only [he, decide_false, Bool.false_eq_true, if_false]
          exact q2 he
      · cases h
    · rename_i c1 c2 pb v jv pv pr pi r
      split at h
      · rename_i o1 o2 u l' e1 e2 e3 e4
        cases h
        obtain ⟨w, ew, pw⟩ := pe_cst (X := X.suite a ((a, oe) :: pn)) (j := jv) (p := pv) e3
        have t1 := cIsx_ok O T e1 (a := a) (oe := oe) (cls := cls) (od := od) (pn := pn) hz hf
        have t2 := cIsx_ok O T e2 (a := a) (oe := oe) (cls := cls) (od := od) (pn := pn) hz hf
        have rest := cSuite_ok e4 (a := a) (oe := oe) (cls := cls) (od := od) (pn := pn) hz hf
        refine PSs.imp (pss_cons (ps_if (PW.pt (pw_and t1 (pw_and1 t2))) (pss_cons (ps_ret pw) pss_nil) pss_nil) rest) fun D σ H q => ?_
        obtain ⟨D0, b, i, rfl, rfl, hC, hi, hs, hk, q1, q2⟩ := q
        obtain ⟨b1, k1, f1, f2⟩ := hk
        refine ⟨D0, b1, i, rfl, rfl, hC, hi, hs, k1, ?_⟩
        cases b1 with
        | false =>
          rw [if_neg (by decide)]
          exact q2 (f1 rfl)
        | true =>
          rw [if_pos rfl]
          obtain ⟨b2, k2, f3, f4⟩ := f2 rfl
          refine ⟨D0, b2, i, rfl, rfl, hC, hi, hs, k2, ?_⟩
          cases b2 with
          | false =>
            rw [if_neg (by decide)]
            exact q2 (f3 rfl)
          | true =>
            rw [if_pos rfl]
            obtain ⟨v', ev', q⟩ := q1 (f4 rfl)
            rw [ew] at ev'
            cases ev'
            exact q
      · cases h
    · cases h
end
end Pi

/-! Pi10u: try .. except, by data. -/
namespace Pi
open PySem L2 PySem.Spec PyProof.Rows
section
variable {g : GC} {Φ : Phi} {X : Cx} {ci : CI} {W : WX} {k n : Nat} {al al0 : Al} {H H0 : Hp} {S S' : Sto} {r r' : Rho} {σ : L2.St} {K : PySem.W.Frag} {sub : Nat → Nat → Option Bool}
theorem xAll_kit (B : SubOk g K sub) {c : Nat} {D0 : Addr} (hc : g.xa c = .ref D0) (hv : PySem.W.kitOne K (.ref D0) (.type "ValueError") = some true) : ∀ {t : List (Option Nat)} {b : Bool}, xAll sub c t = some b → kitAll g K D0 t b
  | [], b, h => by cases h; rfl
  | none :: t, b, h => ⟨true, hv, (fun z => nomatch z), fun _ => xAll_kit B hc hv (t := t) h⟩
  | some q :: t, b, h => by
    unfold xAll at h
    split at h
    · rename_i e
      obtain ⟨D1, e1, _, e3, _⟩ := B.kt _ _ _ e
      rw [hc] at e1
      cases e1
      exact ⟨true, e3, (fun z => nomatch z), fun _ => xAll_kit B hc hv (t := t) h⟩
    · rename_i e
      cases h
      obtain ⟨D1, e1, _, e3, _⟩ := B.kt _ _ _ e
      rw [hc] at e1
      cases e1
      exact ⟨false, e3, fun _ => rfl, (fun z => nomatch z)⟩
    · cases h
theorem suite_rd (B : SubOk g K sub) {c c0 : Nat} {b0 : Bool} (hc : sub c c0 = some b0) {j : Option Nat} {a : Addr} {D : Ends} (rs : RS g H0 al0 r S al σ H) (hj : ∀ i, j = some i → σ[i]? = some (some (.ref a))) : ∀ (l : List XI), ((∃ (t : List (Option Nat)) (u : E), XI.ifx t u ∈ l) → j.isSome = true) →
    (match xiS sub c l r S with | .nx _ _ => D.nx σ H | .rt d _ => ∀ v, Dt g al H v d → D.rt v H | _ => False) → rdX g K j a (g.xa c) none l D σ H
  | [], _, h => h
  | .ret u :: l, _, h => by
    simp only [xiS] at h
    cases e : cst u with
    | none => rw [e] at h; exact h.elim
    | some d =>
      rw [e] at h
      obtain ⟨v, e1, e2⟩ := cstV_of e
      exact ⟨v, e1, h v (e2 al H)⟩
  | .ifi i n u :: l, hl, h => by
    simp only [xiS] at h
    have key : ∃ m, r[i]? = some (some (.v (.int m))) := by
      cases hr : r[i]? with
      | none => rw [hr] at h; exact h.elim
      | some o =>
        rw [hr] at h
        cases o with
        | none => exact h.elim
        | some s =>
          cases s with
          | v d =>
            cases d <;> first | exact ⟨_, rfl⟩ | exact h.elim
          | ol xs => exact h.elim
          | od xs => exact h.elim
    obtain ⟨m, e⟩ := key
    rw [e] at h
    obtain ⟨v, ev, q⟩ := rs.sl i _ e
    cases q
    refine ⟨m, ev, fun he => ?_, fun he => ?_⟩
    · simp only [if_pos he] at h
      cases e : cst u with
      | none => rw [e] at h; exact h.elim
      | some d =>
        rw [e] at h
        obtain ⟨v, e1, e2⟩ := cstV_of e
        exact ⟨v, e1, h v (e2 al H)⟩
    · simp only [if_neg he] at h
      exact suite_rd B hc rs hj l (fun ⟨t, u, hm⟩ => hl ⟨t, u, List.mem_cons_of_mem _ hm⟩) h
  | .ifx t u :: l, hl, h => by
    simp only [xiS] at h
    obtain ⟨D0, e1, e2, _, e4⟩ := B.kt _ _ _ hc
    obtain ⟨i, hi⟩ := Option.isSome_iff_exists.mp (hl ⟨t, u, List.mem_cons_self⟩)
    cases e : xAll sub c t with
    | none => rw [e] at h; exact h.elim
    | some b =>
      rw [e] at h
      refine ⟨D0, b, i, e1, rfl, e2, hi, hj i hi, xAll_kit B e1 e4 e, fun hb => ?_, fun hb => ?_⟩
      · subst hb
        cases e : cst u with
        | none => rw [e] at h; exact h.elim
        | some d =>
          rw [e] at h
          obtain ⟨v, e1, e2⟩ := cstV_of e
          exact ⟨v, e1, h v (e2 al H)⟩
      · subst hb
        exact suite_rd B hc rs hj l (fun ⟨t, u, hm⟩ => hl ⟨t, u, List.mem_cons_of_mem _ hm⟩) h
theorem xiS_cases (c : Nat) : ∀ (l : List XI) (r : Rho) (S : Sto), xiS sub c l r S = .nx r S ∨ (∃ d, xiS sub c l r S = .rt d S) ∨ xiS sub c l r S = .bad
  | [], r, S => .inl rfl
  | .ret u :: l, r, S => by
    simp only [xiS]
    cases cst u with
    | none => exact .inr (.inr rfl)
    | some d => exact .inr (.inl ⟨d, rfl⟩)
  | .ifi i n u :: l, r, S => by
    simp only [xiS]
    split
    · split
      · cases cst u with
        | none => exact .inr (.inr rfl)
        | some d => exact .inr (.inl ⟨d, rfl⟩)
      · exact xiS_cases c l r S
    · exact .inr (.inr rfl)
  | .ifx t u :: l, r, S => by
    simp only [xiS]
    cases xAll sub c t with
    | none => exact .inr (.inr rfl)
    | some b =>
      cases b with
      | true =>
        cases cst u with
        | none => exact .inr (.inr rfl)
        | some d => exact .inr (.inl ⟨d, rfl⟩)
      | false => exact xiS_cases c l r S
/-- a suite's end, read at a place -/
theorem suite_end {c : Nat} {l : List XI} {D : Ends} (rs : RS g H0 al0 r S al σ H) (h : PstS g W H0 al0 (xiS sub c l r S) D) : match xiS sub c l r S with | .nx _ _ => D.nx σ H | .rt d _ => ∀ v, Dt g al H v d → D.rt v H | _ => False := by
  rcases xiS_cases (sub := sub) c l r S with e | ⟨d, e⟩ | e
  · rw [e] at h ⊢
    exact h σ H al rs
  · rw [e] at h ⊢
    exact fun v q => h v H al rs.keep rs.pre rs.sto q
  · rw [e] at h
    exact h.elim
theorem RS.setX (h : RS g H0 al0 r S al σ H) (j : Nat) (o : Option V) : RS g H0 al0 (r.set j none) S al (σ.set j o) H := by
  refine ⟨h.keep, h.pre, h.sto, by rw [List.length_set, List.length_set]; exact h.len, fun i s e => ?_, fun i i' s t a ne e e' w w' q => ?_⟩
  · have hij : i ≠ j := fun z => by
      subst z
      by_cases hl : i < r.length
      · rw [List.getElem?_set_self hl] at e; cases e
      · rw [List.getElem?_eq_none (by rw [List.length_set]; omega)] at e; cases e
    rw [List.getElem?_set_ne (Ne.symm hij)] at e
    obtain ⟨v, ev, q⟩ := h.sl i s e
    exact ⟨v, by rw [List.getElem?_set_ne (Ne.symm hij)]; exact ev, q⟩
  · have off : ∀ (i : Nat) (s : Sl), (r.set j none)[i]? = some (some s) → i ≠ j ∧ r[i]? = some (some s) := fun i s e => by
      have hij : i ≠ j := fun z => by
        subst z
        by_cases hl : i < r.length
        · rw [List.getElem?_set_self hl] at e; cases e
        · rw [List.getElem?_eq_none (by rw [List.length_set]; omega)] at e; cases e
      rw [List.getElem?_set_ne (Ne.symm hij)] at e
      exact ⟨hij, e⟩
    obtain ⟨n1, e1⟩ := off i s e
    obtain ⟨n2, e2⟩ := off i' t e'
    rw [List.getElem?_set_ne (Ne.symm n1)] at q
    rw [List.getElem?_set_ne (Ne.symm n2)]
    exact h.nd i i' s t a ne e1 e2 w w' q
/-! ### from the text -/
def hasX : List XI → Bool
  | [] => false
  | .ifx _ _ :: _ => true
  | _ :: l => hasX l
theorem hasX_no : ∀ {l : List XI}, hasX l = false → ¬ ∃ (t : List (Option Nat)) (u : E), XI.ifx t u ∈ l
  | [], _, ⟨_, _, h⟩ => nomatch h
  | .ret u :: l, hh, ⟨t, v, h⟩ => by
    rcases List.mem_cons.mp h with h | h
    · cases h
    · exact hasX_no (l := l) hh ⟨t, v, h⟩
  | .ifi _ _ u :: l, hh, ⟨t, v, h⟩ => by
    rcases List.mem_cons.mp h with h | h
    · cases h
    · exact hasX_no (l := l) hh ⟨t, v, h⟩
def cHds (ci : CI) : List ExceptHandler → Option (List (Nat × List XI))
  | [] => some []
  | .ExceptHandler (some (.Name x _)) none (b :: su) _ :: r => (match ci.tab.exs.lookup x, cSuite ci none (b :: su), cHds ci r with
    | some c, some xs, some l => if ci.gl x = true ∧ fine x = true ∧ hasX xs = false then some ((c, xs) :: l) else none
    | _, _, _ => none)
  | _ => none
/-- the clauses' wishes -/
def hdL (g : GC) (K : PySem.W.Frag) (hs : List (Nat × List XI)) : List (Value × (Addr → Value → Option Addr → TS)) := hs.map fun p => (g.xa p.1, fun a cls od => rdX g K none a cls od p.2)
variable (O : CIok ci X) (T : TabOk g Φ X k ci.tab)
include O T
theorem cHds_ok : ∀ {hs : List ExceptHandler} {l : List (Nat × List XI)}, cHds ci hs = some l → HdsOk X hs (hdL g X.K l) ∧ ∀ p ∈ l, hasX p.2 = false
  | hs, l, h => by
    unfold cHds at h
    split at h
    · cases h
      exact ⟨.nil, fun _ h => nomatch h⟩
    · rename_i x px b su p2 r
      split at h
      · rename_i c xs l' e1 e2 e3
        split at h
        · rename_i hh
          obtain ⟨h1, h2, h3⟩ := hh
          cases h
          obtain ⟨q1, q2⟩ := cHds_ok e3
          obtain ⟨C, B, newId, initId, bmB, f1, f2, f3, f4, f5, f6⟩ := (T.ex _ _ e1).ex
          refine ⟨.cons (c := g.xa c) ⟨O.gl h1, (fine_ok h2).1, .inl (by rw [f1]; exact f4)⟩ (fun a oe cls d pn hz hf => cSuite_ok O T e2 hz hf) q1, fun p hp => ?_⟩
          rcases List.mem_cons.mp hp with rfl | hp
          · exact h3
          · exact q2 p hp
        · cases h
      · cases h
    · cases h
omit O T
/-- the exception's way through the clauses -/
theorem many_of (B : SubOk g K sub) {D : Ends} {c : Nat} (rs : RS g H0 al0 r S al σ H) : ∀ {l : List (Nat × List XI)}, (∀ p ∈ l, hasX p.2 = false) → PstS g W H0 al0 (exHs sub c l r S) D → wMany K W D (hdL g K l) (g.xa c) none σ H
  | [], _, h => h σ H al rs
  | (c', xs) :: l, hx, h => by
    simp only [exHs] at h
    cases e : sub c c' with
    | none => rw [e] at h; exact h.elim
    | some b =>
      rw [e] at h
      refine ⟨b, B.ex _ _ _ e, fun hb a ha => ?_, fun hb => ?_⟩
      · subst hb
        exact suite_rd (j := none) B e rs (fun i z => nomatch z) xs (fun z => (hasX_no (hx _ List.mem_cons_self) z).elim) (suite_end rs h)
      · subst hb
        exact many_of B rs (fun p hp => hx p (List.mem_cons_of_mem _ hp)) h
theorem as_of (B : SubOk g K sub) {D : Ends} {c c' j : Nat} {xs : List XI} (hjl : j < r.length) (rs : RS g H0 al0 r S al σ H) (h : PstS g W H0 al0 (match sub c c' with | some true => xiS sub c xs (r.set j none) S | some false => .xc c r S | none => .bad) D) :
    wAs K (g.xa c') j (fun a cls od => rdX g K (some j) a cls od xs) W D (g.xa c) none σ H := by
  cases e : sub c c' with
  | none => rw [e] at h; exact h.elim
  | some b =>
    rw [e] at h
    refine ⟨b, B.ex _ _ _ e, fun hb a ha => ?_, fun hb => ?_⟩
    · subst hb
      have rs' := rs.setX j (some (.ref a))
      refine suite_rd B e rs' (fun i z => by cases z; exact List.getElem?_set_self (by rw [rs.len]; exact hjl)) xs (fun _ => rfl) ?_
      have q := suite_end (rs.setX j none) h
      have fin : ∀ D' : Ends, D'.rt = D.rt → D'.nx (σ.set j (some (.ref a))) H = D.nx (σ.set j none) H → (match xiS sub c xs (r.set j none) S with | .nx _ _ => D.nx (σ.set j none) H | .rt d _ => ∀ v, Dt g al H v d → D.rt v H | _ => False) →
          (match xiS sub c xs (r.set j none) S with | .nx _ _ => D'.nx (σ.set j (some (.ref a))) H | .rt d _ => ∀ v, Dt g al H v d → D'.rt v H | _ => False) := by
        intro D' e1 e2 q
        rw [e1, e2]
        exact q
      exact fin _ rfl (by show D.nx ((σ.set j (some (.ref a))).set j none) H = _; rw [List.set_set]) q
    · subst hb
      exact h σ H al rs
end
end Pi

/-! Pi11: a def's whole body, and all defs of a program. -/
namespace Pi
open PySem L2 PySem.Spec PyProof.Rows
section
variable {g : GC} {Φ : Phi} {X : Cx} {ci : CI} {W : WX} {k n : Nat}
structure SFam where
  cS : CI → Stmt → Option S
  cB : CI → List Stmt → Option SL
def stepS (F : Fam) (Q : SFam) (ci : CI) (st : Stmt) : Option S :=
  match st with
  | .Pass _ => some .pass
  | .Break _ => some .brk
  | .Continue _ => some .cont
  | .Return (some e) _ => (F.cE ci e).map S.ret
  | .Return none _ => some (.ret .non)
  | .Expr e _ => cExpr F ci e
  | .Assign [a] v _ => cAssign F ci a v
  | .AugAssign (.Name x _) o v _ => cAug F ci x o v
  | .If c a b _ => (match F.cT ci c, Q.cB ci a, Q.cB ci b with
    | some t, some u, some v => some (.ite t u v)
    | _, _, _ => none)
  | .While c b [] _ => (match F.cT ci c, Q.cB ci b with
    | some t, some u => some (.whl t u)
    | _, _ => none)
  | .For tg iter b [] _ => (match cTg ci tg, F.cI ci tg iter, Q.cB ci b with
    | some t, some it, some u => some (.for t it u)
    | _, _, _ => none)
  | .Raise (some (.Call (.Name x _) args [] _)) none _ => cRaise F ci x args
  | .Try body [.ExceptHandler (some (.Name x _)) (some n) (b :: su) _] [] [] _ => (match Q.cB ci body, ci.tab.exs.lookup x, ci.nv n with
    | some u, some c, some j => (match cSuite ci (some (n, j)) (b :: su) with
      | some xs => if ci.gl x = true ∧ fine x = true ∧ ci.sc.lookup n = some .local then some (.trx u c j xs) else none
      | none => none)
    | _, _, _ => none)
  | .Try body (h0 :: hs) [] [] _ => (match Q.cB ci body, cHds ci (h0 :: hs) with
    | some u, some l => some (.tri u l)
    | _, _ => none)
  | _ => none
def stepB (Q : SFam) (ci : CI) (l : List Stmt) : Option SL :=
  match l with
  | [] => some .nil
  | st :: r => (match Q.cS ci st, Q.cB ci r with
    | some s, some l => some (.cons s l)
    | _, _ => none)
def sfam (F : Fam) : Nat → SFam
  | 0 => ⟨fun _ _ => none, fun _ _ => none⟩
  | n + 1 => ⟨fun ci st => (stepS F (sfam F n) ci st).map frzS, stepB (sfam F n)⟩
structure SndS (g : GC) (Φ : Phi) (k : Nat) (Q : SFam) : Prop where
  cS : ∀ {ci X W}, GoodS g Φ k ci X W → ∀ {st s}, Q.cS ci st = some s → SS g Φ X W st s
  cB : ∀ {ci X W}, GoodS g Φ k ci X W → ∀ {l s}, Q.cB ci l = some s → SB g Φ X W l s
/-- within a try -/
theorem tr_good (Y : GoodS g Φ k ci X W) {W' : WX} {pn : List (Addr × Obj)} {xe : Value → Shared → Prop} (tk : Takes (X.tr pn xe) W') (po : PassesOwn (model X.prog X.w) X.A X.env xe) : GoodS g Φ k ci (X.tr pn xe) W' := by
  have Z := Y.Z
  refine ⟨⟨⟨Z.O.N, Z.O.sc, Z.O.kd, Z.O.fn⟩, ⟨Z.T.fn, Z.T.F, fun x c h => ?_, fun x c h => ?_, Z.T.bl, Z.T.co, Z.T.at_, Z.T.room, Z.T.gd, Z.T.sm⟩, ⟨Z.G.hK, Z.G.calm, Z.G.room, Z.G.nd⟩, passAt tk⟩, tk, po, Y.st, Y.fr, Y.sb⟩
  · have C := Z.T.cl x c h
    exact ⟨C.mg, C.mkc, C.cls, C.F⟩
  · have q := (Z.T.ex x c h).ex
    exact ⟨q⟩
/-- try .. except, the body's end and the clauses' -/
theorem pst_try {H0 : Hp} {al0 : Al} {o : SO} {D : Ends} {f : Nat → Rho → Sto → SO} {W1 : WX} (h : PstS g W H0 al0 (match o with | .xc k r S => f k r S | o => o) D) (hx : ∀ k r S, PstS g W H0 al0 (f k r S) D → ∀ σ H al, RS g H0 al0 r S al σ H → W1 (g.xa k) none σ H) : PstS g W1 H0 al0 o D := by
  cases o with
  | nx r S => exact h
  | bk r S => exact h
  | ct r S => exact h
  | rt d S => exact h
  | xc k r S => exact hx k r S h
  | bad => exact h
theorem tri_ok (Y : GoodS g Φ k ci X W) {body : List Stmt} {h0 : ExceptHandler} {hs : List ExceptHandler} {pos : Pos} {u : SL} {l : List (Nat × List XI)} (hb : ∀ (W' : WX) (pn : List (Addr × Obj)) (xe : Value → Shared → Prop), GoodS g Φ k ci (X.tr pn xe) W' → SB g Φ (X.tr pn xe) W' body u) (hl : cHds ci (h0 :: hs) = some l) : SS g Φ X W (.Try body (h0 :: hs) [] [] pos) (.tri u l) := by
  obtain ⟨q1, q2⟩ := cHds_ok Y.Z.O Y.Z.T hl
  refine PS.imp (ps_try_many Y.st Y.fr Y.tk (tb := fun W' => TSt g W' (exL Φ u)) (fun W' pn xe tk po => hb W' pn xe (tr_good Y tk po)) q1) ?_
  rintro D σ H ⟨H0, al0, al, r, S, rs, h⟩
  refine ⟨H0, al0, al, r, S, rs, ?_⟩
  simp only [ex] at h
  exact pst_try h fun k r S q σ H al rs => many_of Y.sb rs q2 q
theorem trx_ok (Y : GoodS g Φ k ci X W) {body su : List Stmt} {b : Stmt} {x n : Str} {px p2 pos : Pos} {u : SL} {c j : Nat} {xs : List XI} (hb : ∀ (W' : WX) (pn : List (Addr × Obj)) (xe : Value → Shared → Prop), GoodS g Φ k ci (X.tr pn xe) W' → SB g Φ (X.tr pn xe) W' body u) (hc : ci.tab.exs.lookup x = some c) (hj : ci.nv n = some j) (hs : cSuite ci (some (n, j)) (b :: su) = some xs) (hg : ci.gl x = true) (hf : fine x = true) (hln : ci.sc.lookup n = some .local) :
    SS g Φ X W (.Try body [.ExceptHandler (some (.Name x px)) (some n) (b :: su) p2] [] [] pos) (.trx u c j xs) := by
  have nv := Y.Z.O.nv hj
  obtain ⟨C, B, newId, initId, bmB, f1, f2, f3, f4, f5, f6⟩ := (Y.Z.T.ex _ _ hc).ex
  have nmx : Names X x (g.xa c) := ⟨Y.Z.O.gl hg, (fine_ok hf).1, .inl (by rw [f1]; exact f4)⟩
  have hln' : X.env.kindOf n = some .local := by
    show X.env.scope.names.lookup n = _
    rw [Y.Z.O.sc]
    exact hln
  refine PS.imp (ps_try_as Y.st Y.fr Y.Z.G.nd nv.at_ hln' nmx Y.tk (tb := fun W' => TSt g W' (exL Φ u)) (ts := fun a cls od => rdX g X.K (some j) a cls od xs) (fun W' pn xe tk po => hb W' pn xe (tr_good Y tk po)) (fun a oe cls d pn hz hf => cSuite_ok Y.Z.O Y.Z.T hs hz hf)) ?_
  rintro D σ H ⟨H0, al0, al, r, S, rs, h⟩
  refine ⟨H0, al0, al, r, S, rs, ?_⟩
  simp only [ex] at h
  refine pst_try (f := fun k r S => if j < r.length then (match Φ.sub k c with
        | some true => xiS Φ.sub k xs (r.set j none) S
        | some false => .xc k r S
        | none => .bad) else .bad) h fun k r S q σ H al rs => ?_
  by_cases hl : j < r.length
  · rw [if_pos hl] at q
    exact as_of Y.sb hl rs q
  · rw [if_neg hl] at q
    exact q.elim
theorem stepS_ok {F : Fam} {Q : SFam} (H : Snd g Φ k F) (K : SndS g Φ k Q) (Y : GoodS g Φ k ci X W) {st : Stmt} {s : S} (h : stepS F Q ci st = some s) : SS g Φ X W st s := by
  unfold stepS at h
  split at h
  · cases h; show PS X _ _; simp only [ex]; exact ts_pass
  · cases h; show PS X _ _; simp only [ex]; exact ts_break
  · cases h; show PS X _ _; simp only [ex]; exact ts_continue
  · rw [Option.map_eq_some_iff] at h
    obtain ⟨u, e1, rfl⟩ := h
    show PS X _ _; simp only [ex]; exact ts_ret (H.cE Y.Z e1).v
  · cases h; show PS X _ _; simp only [ex, ev]; exact ts_retN
  · exact cExpr_ok Y H h
  · exact cAssign_ok Y H h
  · exact cAug_ok Y H h
  · split at h
    · rename_i t u v e1 e2 e3
      cases h
      show PS X _ _; simp only [ex]; exact ts_if (H.cT Y.Z e1) (K.cB Y e2) (K.cB Y e3)
    · cases h
  · split at h
    · rename_i t u e1 e2
      cases h
      show PS X _ _; simp only [ex]; exact ts_while Y.po (H.cT Y.Z e1) (K.cB Y e2)
    · cases h
  · split at h
    · rename_i t it u e1 e2 e3
      cases h
      have I := H.cI Y.Z e2
      show PS X _ _; simp only [ex]; exact ts_for Y.Z.G Y.po I.i (cTg_ok Y.Z.O Y.Z.G e1) (K.cB Y e3) I.s
    · cases h
  · exact cRaise_ok Y H h
  · split at h
    · rename_i u c j e1 e2 e3
      split at h
      · rename_i xs e4
        split at h
        · rename_i hh
          cases h
          exact trx_ok Y (fun W' pn xe Y' => K.cB Y' e1) e2 e3 e4 hh.1 hh.2.1 hh.2.2
        · cases h
      · cases h
    · cases h
  · split at h
    · rename_i u l e1 e2
      cases h
      exact tri_ok Y (fun W' pn xe Y' => K.cB Y' e1) e2
    · cases h
  · cases h
theorem sfam_ok {F : Fam} (H : Snd g Φ k F) : ∀ n, SndS g Φ k (sfam F n)
  | 0 => ⟨fun _ _ _ h => (nomatch h), fun _ _ _ h => (nomatch h)⟩
  | n + 1 => by
    have K := sfam_ok H n
    refine ⟨fun Y st s h => ?_, fun Y l s h => ?_⟩
    · simp only [sfam, Option.map_eq_some_iff] at h
      obtain ⟨s', e1, rfl⟩ := h
      exact frzS_ok (stepS_ok H K Y e1)
    · simp only [sfam] at h
      unfold stepB at h
      split at h
      · cases h
        show PSs _ _ _
        simp only [exL]
        exact tss_nil
      · split at h
        · rename_i s1 l1 e1 e2
          cases h
          show PSs _ _ _
          simp only [exL]
          exact tss_cons (K.cS Y e1) (K.cB Y e2)
        · cases h

/-! ### the program's tables -/
variable {P : Program} {w : World} {K : PySem.W.Frag} {mg : Str → Option Value} {base : Heap} {tab : Tab}
structure ModOk (g : GC) (K : PySem.W.Frag) (mg : Str → Option Value) (tab : Tab) (ini : Nat → Nat) (nf : Nat) (sub : Nat → Nat → Option Bool) : Prop where
  hK : g.K = K
  sb : SubOk g K sub
  fn : ∀ x i, tab.fns.lookup x = some i → mg x = some (.ref (g.fa i)) ∧ i < nf
  cl : ∀ x c, tab.cls.lookup x = some c → mg x = some (.ref (g.ca c)) ∧ Mk K (g.ca c) (g.fa (ini c)) ∧ Cls K (g.ca c) ∧ ini c < nf
  ex : ∀ x c, tab.exs.lookup x = some c → ∃ (C : Addr) (B newId initId : String) (bmB : List Value), g.xa c = .ref C ∧ ExcBaseFacts B newId initId bmB ∧ PySem.W.excIn K C bmB newId = true ∧ mg x = some (.ref C) ∧ PySem.W.keepIn K (.ref C) = true ∧ (∀ X : Cx, X.K = K → Raises X (.ref C))
  bl : ∀ x, x ∈ tab.blt → mg x = none
  co : ∀ x d, tab.con.lookup x = some d → ∃ v u, mg x = some u ∧ RelV v u ∧ ∀ al H, Dt g al H v d
  at_ : ∀ f, f ∈ tab.ats → AtI g f
theorem ModOk.tabOk {tabL : List DF} {ini : Nat → Nat} {sub : Nat → Nat → Option Bool} {X : Cx} {n : Nat} (M : ModOk g X.K X.mg tab ini tabL.length sub) (F : ∀ i, i < tabL.length → FnI g (phi tabL ini sub n) X.prog X.w X.K X.mg X.base k i) (room : Room (k + 1) X.A) (gd : X.A.guards = some []) (sm : Smx X) :
    TabOk g (phi tabL ini sub n) X k tab := by
  have hn : (phi tabL ini sub n).n = tabL.length := by cases n <;> rfl
  have hi : (phi tabL ini sub n).ini = ini := by cases n <;> rfl
  refine ⟨fun x i h => ⟨(M.fn x i h).1, by rw [hn]; exact (M.fn x i h).2⟩, fun i h => F i (by rw [← hn]; exact h), fun x c h => ?_, fun x c h => ?_, M.bl, M.co, M.at_, room, gd, sm⟩
  · obtain ⟨h1, h2, h3, h4⟩ := M.cl x c h
    exact ⟨h1, by rw [hi]; exact h2, h3, by rw [hi]; exact F _ h4⟩
  · obtain ⟨C, B, newId, initId, bmB, e1, e2, e3, e4, e5, e6⟩ := M.ex x c h
    exact ⟨⟨C, B, newId, initId, bmB, e1, e2, e3, e4, e5, e6 X rfl⟩⟩

/-! ### a def -/
theorem RS.start {N : List Str} {vs : List V} {ds : List D} {al : Al} {H : Hp} {S : Sto} (l : DtL g al H vs ds) (st : StoOk g al S H) : RS g H al (ds.map (fun d => some (Sl.v d)) ++ List.replicate (N.length - vs.length) none) S al (start N vs) H := by
  have hl := l.length
  have get : ∀ (i : Nat) (s : Sl), (ds.map (fun d => some (Sl.v d)) ++ List.replicate (N.length - vs.length) none)[i]? = some (some s) → ∃ d, ds[i]? = some d ∧ s = .v d := fun i s e => by
    by_cases hi : i < ds.length
    · rw [List.getElem?_append_left (by rw [List.length_map]; exact hi), List.getElem?_map, Option.map_eq_some_iff] at e
      obtain ⟨d, e1, e2⟩ := e
      cases e2
      exact ⟨d, e1, rfl⟩
    · rw [List.getElem?_append_right (by rw [List.length_map]; omega)] at e
      have := List.mem_of_getElem? e
      rw [List.mem_replicate] at this
      cases this.2
  refine ⟨Keep.refl H, List.prefix_refl _, st, ?_, fun i s e => ?_, fun i j s t x ne e e' w _ _ => ?_⟩
  · unfold L2.start
    rw [List.length_append, List.length_append, List.length_map, List.length_map, List.length_replicate, List.length_replicate, hl]
  · obtain ⟨d, e1, rfl⟩ := get i s e
    obtain ⟨v, ev, dv⟩ := l.get e1
    refine ⟨v, ?_, dv⟩
    unfold L2.start
    rw [List.getElem?_append_left (by rw [List.length_map]; exact (List.getElem?_eq_some_iff.mp ev).1), List.getElem?_map, ev]
    rfl
  · obtain ⟨d, _, rfl⟩ := get i s e
    cases w
/-- what is known of a def of the text -/
structure DefOk (g : GC) (K : PySem.W.Frag) (tab : Tab) (nE nS : Nat) (i : Nat) (d : DF) : Prop where
  ex : ∃ (x qual : Str) (st : Stmt) (fd : FuncData) (N ps : List Str), Fun K x qual st (g.fa i) fd ∧ FnScope N ps (defScope st) ∧ Binds K fd ps [] ∧ (sfam (fam nE) nS).cB ⟨tab, N, (defScope st).names, (defScope st).names.map (·.1)⟩ (defBody st) = some d.body ∧ d.ps = ps.length ∧ d.ns = N.length
theorem fnI_step (sm : ∃ o es ep, base.get? sysModules = some o ∧ o.data = .dict es ep) {tabL : List DF} {ini : Nat → Nat} {sub : Nat → Nat → Option Bool} {n nE nS i : Nat} {d : DF} (M : ModOk g K mg tab ini tabL.length sub) (F : ∀ i, i < tabL.length → FnI g (phi tabL ini sub n) P w K mg base k i)
    (hd : tabL[i]? = some d) (D0 : DefOk g K tab nE nS i d) : FnI g (phi tabL ini sub (n + 1)) P w K mg base (k + 2) i := by
  obtain ⟨x, qual, st, fd, N, ps, Fu, Sc, hb, hc, hps, hns⟩ := D0.ex
  have hcall : ∀ ds S, (phi tabL ini sub (n + 1)).call i ds S = runF (phi tabL ini sub n) d ds S := fun ds S => by
    show (match tabL[i]? with | some d => runF (phi tabL ini sub n) d ds S | none => .bad) = _
    rw [hd]
  have har : ∀ ds S, (phi tabL ini sub (n + 1)).call i ds S ≠ .bad → ds.length = ps.length := fun ds S h => by
    rw [hcall] at h
    unfold runF at h
    split at h
    · rename_i e; rw [e, hps]
    · exact (h rfl).elim
  have hkp := Fu.kp
  obtain ⟨oc, od, kV, doc, pm, an, cdv, ct, osl, rfl, lk, hcd⟩ := Fu.ex
  refine ⟨_, ps, fn_ofG (k := k + 1) lk hcd Sc (fun vs H Q E h => h.1) ?_, hkp, hb, har⟩
  intro A outer s H vs Q E gd room _ hsp
  obtain ⟨hl, al, ds, S, sto, l, hm⟩ := hsp
  rw [hcall] at hm
  refine ⟨TSt g (fun c d _ H => E c d H) (exL (phi tabL ini sub n) d.body), ?_, ?_⟩
  · -- the body's rules
    have tk : Takes (cxOf (L2.CX P w) P w K mg base N qual (defScope st) (g.fa i) cdv A outer s H E) (fun c d _ H => E c d H) := takes_of rfl rfl rfl rfl
    have un := room.un
    have G : XG g (cxOf (L2.CX P w) P w K mg base N qual (defScope st) (g.fa i) cdv A outer s H E) := ⟨M.hK, rfl, by show (A.deeper _).units + 200 < cLine; omega, Sc.nd⟩
    have O : CIok ⟨tab, N, (defScope st).names, (defScope st).names.map (·.1)⟩ (cxOf (L2.CX P w) P w K mg base N qual (defScope st) (g.fa i) cdv A outer s H E) := ⟨rfl, rfl, Sc.kind, fun _ _ => rfl⟩
    have T : TabOk g (phi tabL ini sub n) (cxOf (L2.CX P w) P w K mg base N qual (defScope st) (g.fa i) cdv A outer s H E) k tab := ModOk.tabOk (X := cxOf (L2.CX P w) P w K mg base N qual (defScope st) (g.fa i) cdv A outer s H E) M F room gd sm
    have Y : GoodS g (phi tabL ini sub n) k ⟨tab, N, (defScope st).names, (defScope st).names.map (·.1)⟩ (cxOf (L2.CX P w) P w K mg base N qual (defScope st) (g.fa i) cdv A outer s H E) (fun c d _ H => E c d H) := ⟨⟨O, T, G, passAt tk⟩, tk, passes_of rfl, rfl, rfl, by
      have e : (phi tabL ini sub n).sub = sub := by cases n <;> rfl
      rw [e]
      exact M.sb⟩
    exact (sfam_ok (fam_ok nE) nS).cB Y hc
  · -- its reading
    refine ⟨H, al, al, _, S, RS.start (N := N) l sto, ?_⟩
    unfold runF at hm
    have hlen : ds.length = d.ps := by rw [hps, ← hl, l.length]
    rw [if_pos hlen] at hm
    have er : N.length - vs.length = d.ns - d.ps := by rw [hns, hps, hl]
    rw [er]
    revert hm
    generalize exL (phi tabL ini sub n) d.body (ds.map (fun d => some (Sl.v d)) ++ List.replicate (d.ns - d.ps) none) S = o
    intro hm
    cases o with
    | nx r S' => exact fun σ' H' al' rs => hm H' al' .non rs.keep rs.pre rs.sto .non
    | rt d S' => exact fun v H' al' kp pr st q => hm H' al' v kp pr st q
    | xc c r S' => exact fun σ' H' al' rs => hm H' al' rs.keep rs.pre rs.sto
    | bk r S' => exact hm.elim
    | ct r S' => exact hm.elim
    | bad => exact hm.elim

/-- depth n of calls -/
theorem fnI_zero {tabL : List DF} {ini : Nat → Nat} {sub : Nat → Nat → Option Bool} {i nE nS : Nat} {d : DF} (D0 : DefOk g K tab nE nS i d) : FnI g (phi tabL ini sub 0) P w K mg base 0 i := by
  obtain ⟨x, qual, st, fd, N, ps, Fu, Sc, hb, hc, hps, hns⟩ := D0.ex
  have no : ∀ ar vs H Q E, ¬ SPI g (phi tabL ini sub 0) ar i vs H Q E := fun ar vs H Q E h => by
    obtain ⟨_, al, ds, S, _, _, hm⟩ := h
    exact hm
  exact ⟨fd, ps, ⟨fun vs H Q E h => (no _ _ _ _ _ h).elim, fun A outer s H args us vs Q E hr gd he hb hv h => (no _ _ _ _ _ h).elim⟩, Fu.kp, hb, fun ds S h => (h rfl).elim⟩
theorem all_fn (sm : ∃ o es ep, base.get? sysModules = some o ∧ o.data = .dict es ep) {tabL : List DF} {ini : Nat → Nat} {sub : Nat → Nat → Option Bool} {nE nS : Nat} (M : ModOk g K mg tab ini tabL.length sub) (D0 : ∀ (i : Nat) (d : DF), tabL[i]? = some d → DefOk g K tab nE nS i d) :
    ∀ (n i : Nat), i < tabL.length → FnI g (phi tabL ini sub n) P w K mg base (2 * n) i
  | 0, i, hi => fnI_zero (D0 i _ (List.getElem?_eq_getElem hi))
  | n + 1, i, hi => by
    have e : tabL[i]? = some tabL[i] := List.getElem?_eq_getElem hi
    exact fnI_step sm M (fun j hj => all_fn sm M D0 n j hj) e (D0 i _ e)
end
end Pi

/-! PiJ: the tables from the head's facts, the law's promise. -/
namespace Pi
open PySem L2 PySem.Spec PyProof.Rows
def faCode : He.Fa → Nat × Str × Option Str × Str × Int × Bool
  | .glo x => (0, x, none, "", 0, false)
  | .free x => (1, x, none, "", 0, false)
  | .int x i => (2, x, none, "", i, false)
  | .str x z => (3, x, none, z, 0, false)
  | .cls x => (4, x, none, "", 0, false)
  | .noat x f => (5, x, none, f, 0, false)
  | .meth x f => (6, x, none, f, 0, false)
  | .mkr x => (7, x, none, "", 0, false)
  | .exc x => (8, x, none, "", 0, false)
  | .exm x y b => (9, x, none, y, 0, b)
  | .keep x => (10, x, none, "", 0, false)
  | .code p q => (11, p.1, p.2, q, 0, false)
theorem faCode_inj : ∀ {a b : He.Fa}, faCode a = faCode b → a = b := by
  intro a b h
  cases a <;> cases b <;> simp_all [faCode]
  rename_i p _ q _
  exact Prod.ext h.1 h.2.1
instance faDec : DecidableEq He.Fa := fun a b => decidable_of_iff (faCode a = faCode b) ⟨faCode_inj, congrArg faCode⟩
/-- where things stand: the defs, the classes, the exceptions; the head's facts -/
structure Where where
  ats : List (Str × Option Str)
  cls : List Str
  exs : List Str
  fac : List He.Fa
def Where.gc (q : Where) (K : PySem.W.Frag) : GC := ⟨K, fun i => He.fAd K (q.ats.getD i ("", none)), fun c => He.ga K (q.cls.getD c (q.cls.headD "")), fun c => .ref (He.ga K (q.exs.getD c ""))⟩
def Where.chk (q : Where) (tab : Tab) (ini : Nat → Nat) (nf : Nat) : Bool :=
  tab.fns.all (fun p => decide (q.ats[p.2]? = some (p.1, none)) && decide (He.Fa.glo p.1 ∈ q.fac) && decide (p.2 < nf)) &&
  tab.cls.all (fun p => decide (q.cls[p.2]? = some p.1) && decide (He.Fa.glo p.1 ∈ q.fac) && decide (He.Fa.mkr p.1 ∈ q.fac) && decide (He.Fa.cls p.1 ∈ q.fac) && decide (q.ats[ini p.2]? = some (p.1, some ("__init__" : Str))) && decide (ini p.2 < nf)) &&
  tab.exs.all (fun p => decide (q.exs[p.2]? = some p.1) && decide (He.Fa.glo p.1 ∈ q.fac) && decide (He.Fa.exc p.1 ∈ q.fac)) &&
  tab.blt.all (fun x => decide (He.Fa.free x ∈ q.fac)) &&
  tab.con.all (fun p => match p.2 with
    | .int n => decide (He.Fa.int p.1 n ∈ q.fac)
    | .str s => decide (He.Fa.str p.1 s ∈ q.fac)
    | _ => false) &&
  tab.ats.all (fun f => !q.cls.isEmpty && q.cls.all fun x => decide (He.Fa.cls x ∈ q.fac) && decide (He.Fa.noat x f ∈ q.fac))
theorem lookup_mem {α : Type} {x : Str} {y : α} : ∀ {l : List (Str × α)}, l.lookup x = some y → (x, y) ∈ l
  | [], h => by cases h
  | (a, b) :: l, h => by
    rw [List.lookup_cons] at h
    split at h
    · rename_i e
      cases h
      have : x = a := by simpa using e
      subst this
      exact List.mem_cons_self
    · exact List.mem_cons_of_mem _ (lookup_mem h)
theorem Where.mod {q : Where} {tab : Tab} {ini : Nat → Nat} {nf : Nat} {sub : Nat → Nat → Option Bool} {K : PySem.W.Frag} {h : Heap} {mg : Str → Option Value} {fn : List He.DefD} (hc : q.chk tab ini nf = true) (KX : K.In h) (G : h.Ns mainGlobals mg) (c : He.SaysD q.fac fn K) (hsb : SubOk (q.gc K) K sub) : ModOk (q.gc K) K mg tab ini nf sub := by
  unfold Where.chk at hc
  simp only [Bool.and_eq_true, List.all_eq_true, decide_eq_true_eq] at hc
  obtain ⟨⟨⟨⟨⟨h1, h2⟩, h3⟩, h4⟩, h5⟩, h6⟩ := hc
  have gl : ∀ {x : Str}, He.Fa.glo x ∈ q.fac → mg x = some (.ref (He.ga K x)) := fun m => He.glo_ok KX G (c.facts m)
  refine ⟨rfl, hsb, fun x i e => ?_, fun x k e => ?_, fun x k e => ?_, fun x m => ?_, fun x d e => ?_, fun f m => ?_⟩
  · obtain ⟨⟨e1, e2⟩, e3⟩ := h1 _ (lookup_mem e)
    refine ⟨?_, e3⟩
    rw [gl e2]
    show _ = some (Value.ref (He.fAd K (q.ats.getD i ("", none))))
    rw [List.getD_eq_getElem?_getD, e1]
    rfl
  · obtain ⟨⟨⟨⟨⟨e1, e2⟩, e3⟩, e4⟩, e5⟩, e6⟩ := h2 _ (lookup_mem e)
    have ec : (q.gc K).ca k = He.ga K x := by
      show He.ga K (q.cls.getD k (q.cls.headD "")) = _
      rw [List.getD_eq_getElem?_getD, e1]
      rfl
    have ef : (q.gc K).fa (ini k) = He.ma K (He.ga K x) "__init__" := by
      show He.fAd K (q.ats.getD (ini k) ("", none)) = _
      rw [List.getD_eq_getElem?_getD, e5]
      rfl
    rw [ec, ef]
    exact ⟨gl e2, He.mkr_ok (c.facts e3), He.cls_ok (c.facts e4), e6⟩
  · obtain ⟨⟨e1, e2⟩, e3⟩ := h3 _ (lookup_mem e)
    obtain ⟨f1, f2, f3, f4⟩ := He.exc_ok (c.facts e3)
    refine ⟨He.ga K x, "ValueError", "ValueError.__new__", "ValueError.__init__", He.veBase, ?_, PySem.F.excBase_ValueError, f1, gl e2, f2, fun X hX => ?_⟩
    · show Value.ref (He.ga K (q.exs.getD k "")) = _
      rw [List.getD_eq_getElem?_getD, e1]
      rfl
    · subst hX
      exact raises_own f3 f4
  · exact He.free_ok KX G (c.facts (h4 x m))
  · have := h5 _ (lookup_mem e)
    cases d <;> try (cases this; done)
    · rename_i n
      obtain ⟨t, et⟩ := He.int_ok KX G (c.facts (of_decide_eq_true this))
      exact ⟨.int n, _, et, ⟨t, rfl⟩, fun _ _ => .int _⟩
    · rename_i s
      obtain ⟨t, et⟩ := He.str_ok KX G (c.facts (of_decide_eq_true this))
      exact ⟨.str s, _, et, ⟨t, rfl⟩, fun _ _ => .str _⟩
  · obtain ⟨n0, all⟩ := h6 f m
    intro k
    have hm : (q.cls.getD k (q.cls.headD "")) ∈ q.cls := by
      rw [List.getD_eq_getElem?_getD]
      cases e : q.cls[k]? with
      | some y => exact List.mem_of_getElem? e
      | none =>
        cases e2 : q.cls with
        | nil => rw [e2] at n0; cases n0
        | cons y l => simp
    obtain ⟨a1, a2⟩ := all _ hm
    exact ⟨He.cls_ok (c.facts a1), He.noat_ok (c.facts a2)⟩
/-- a def of the text, as the head tells it -/
theorem defOk_of {g : GC} {K : PySem.W.Frag} {tab : Tab} {nE nS i : Nat} {x qual : Str} {st : Stmt} {N ps : List Str} {body : SL} (fd : ∃ fd, FunD K x qual (defArgs st) (defBody st) (defScope st) [] [] (g.fa i) fd) (S : FnScope N ps (defScope st))
    (hb : ∀ (kV doc pm : Value) (an : Option Addr) (cdv ct : Value) (us : List Value), us.length = ps.length → bindArgs (PySem.W.fnOf x qual (defArgs st) (defBody st) (defScope st) .none kV doc pm an cdv ct) ⟨us, []⟩ = pure (ps.zip us))
    (hc : (sfam (fam nE) nS).cB ⟨tab, N, (defScope st).names, (defScope st).names.map (·.1)⟩ (defBody st) = some body) : DefOk g K tab nE nS i ⟨ps.length, N.length, body⟩ := by
  obtain ⟨fd, F⟩ := fd
  have b := FunD.bindsN (ps := ps) F hb
  obtain ⟨oc, od, dV, kV, doc, pm, an, cdv, ct, osl, rfl, lk, hcd, hD, hK⟩ := F.ex
  rcases hD with ⟨_, rfl⟩ | ⟨e, _⟩
  · exact ⟨x, qual, st, _, N, ps, ⟨⟨oc, od, kV, doc, pm, an, cdv, ct, osl, rfl, lk, hcd⟩, F.kp⟩, S, b, hc, rfl, rfl⟩
  · exact absurd rfl e
/-- the law -/
theorem walk_ofG {l : PySem.W.OpenLaw} {n k : Nat} {q : Program} {loose : List Str} {XP : (Str → Option Value) → Heap → Prop} {YP : World → Heap → Prop} {d : DefRec} (hn : l.most = some n) (hn2 : n ≤ sizeLine) (hdf : d.params.defaults = []) (hr : Room k callerA) (hq : importsNone q = true)
    (F : ∀ (w : World) (mg : Str → Option Value) (fa : Addr) (h : Heap), YP w h → h.Ns mainGlobals mg → mg d.name = some (.ref fa) →
      ∃ (K : PySem.W.Frag) (g : GC) (Φ : Phi) (i : Nat), K.In h ∧ g.K = K ∧ fa = g.fa i ∧
        (∀ ns : List Int, ns.length ≤ n → (∀ z ∈ ns, Builtin.Int.intBits z ≤ 1048576) → ∃ S', Φ.call i [.lst (ns.map D.int)] [] = .ok (.bl true) S') ∧
        ∀ base : Heap, K.In base → base.Ns mainGlobals mg → (∃ mm, base.Ns sysModules mm) → FnI g Φ l.prog w K mg base k i) :
    PySem.W.WalkO q loose XP YP l.row.toRowW d [] (fun f vs => PySem.call f vs) := by
  refine Att.attach_callB hn hdf fun w s0 s1 mg mb fa o pm cd doc a vs ns G Y ho hd hcd hmg hobj hints hlen hbits hg => ?_
  obtain ⟨K, g, Φ, i, KX, hK, rfl, hph, hF⟩ := F w mg fa _ Y G.T.g hmg
  have hm : ∃ mm, s1.heap.Ns sysModules mm := by
    obtain ⟨mm, h1, _⟩ := (G.T.seer hq).mods
    exact ⟨mm, h1⟩
  obtain ⟨S', e⟩ := hph ns hlen hbits
  refine law_callG (CX := L2.CX l.prog w) (sp := SPI g Φ 1 i) KX G.T.g G.T.b G.T.builtins G.T.nolimit hm hg hobj hints (Nat.le_trans hlen hn2) hr (fun base b1 b2 b3 => ?_) (fun H hl => ?_) fun H e s' z => ?_
  · obtain ⟨fd, ps, F1, _, F2, F3⟩ := hF base b1 b2 b3
    have h1 := F3 [.lst (ns.map D.int)] [] (by rw [e]; intro z; cases z)
    match ps, h1 with
    | [x], _ => exact ⟨fd, x, F1, F2⟩
  · refine ⟨rfl, [], [.lst (ns.map D.int)], [], ⟨rfl, fun i x dx o e => (by simp at e), fun i j x dx dx' e => (by simp at e)⟩, .cons (.lst (hK ▸ hl) ?_) .nil, ?_⟩
    · have li : ∀ l : List Int, DtL g [] H (l.map V.int) (l.map D.int) := fun l => by
        induction l with
        | nil => exact .nil
        | cons z l ih => exact .cons (.int z) ih
      exact li ns
    · rw [e]
      intro H' al' v _ _ _ q
      cases q
      rfl
  · obtain ⟨_, _, _, _, _, _, _, _, _, _, _, _, z⟩ := z
    exact z
end Pi

/-! PiK: the exceptions' classes, from the head. -/
namespace Pi
open PySem L2 PySem.Spec PyProof.Rows
def excCb (K : PySem.W.Frag) (D : Addr) : Bool :=
  He.eqO (PySem.W.findIn K (.ref D) "__getattribute__") (some (some (.builtin "BaseException.__getattribute__"))) && (He.eqO (PySem.W.findIn K (.ref D) "__getattr__") (some none) && (decide (PySem.W.subIn K (.ref D) (.type "BaseException") = some true) && (PySem.W.hasDictIn K D &&
  (He.eqO (PySem.W.findIn K (.ref D) "__class__") (some (some (.builtin "object.__class__"))) && (He.eqO (PySem.W.specialIn K (.builtin "object.__class__") "__get__") (some (some (.builtin "getset_descriptor.__get__"))) && (decide (PySem.W.takesIn K (.builtin "object.__class__") = some true) && decide (PySem.W.mroIn K D (.type "object") = some true)))))))
theorem excC_of {K : PySem.W.Frag} {D : Addr} (h : excCb K D = true) : L2.ExcC K D := by
  obtain ⟨h1, h⟩ := He.ba h
  obtain ⟨h2, h⟩ := He.ba h
  obtain ⟨h3, h⟩ := He.ba h
  obtain ⟨h4, h⟩ := He.ba h
  obtain ⟨h5, h⟩ := He.ba h
  obtain ⟨h6, h⟩ := He.ba h
  obtain ⟨h7, h8⟩ := He.ba h
  exact ⟨He.eqO_ok h1, He.eqO_ok h2, of_decide_eq_true h3, h4, He.eqO_ok h5, He.eqO_ok h6, of_decide_eq_true h7, of_decide_eq_true h8⟩
def Where.exB (q : Where) (n : Nat) (sub : Nat → Nat → Option Bool) (K : PySem.W.Frag) : Bool :=
  (List.range n).all fun c => excCb K (He.ga K (q.exs.getD c "")) && (decide (PySem.W.kitOne K (.ref (He.ga K (q.exs.getD c ""))) (.type "ValueError") = some true) && (List.range n).all fun c' => match sub c c' with
    | some b => decide (PySem.W.exmOne K (.ref (He.ga K (q.exs.getD c ""))) (.ref (He.ga K (q.exs.getD c' ""))) = some b) && decide (PySem.W.kitOne K (.ref (He.ga K (q.exs.getD c ""))) (.ref (He.ga K (q.exs.getD c' ""))) = some b)
    | none => true)
/-- a table of who stands below whom -/
def subT (l : List (List Bool)) : Nat → Nat → Option Bool := fun c c' => (l[c]?).bind fun r => r[c']?
theorem subOk_of {q : Where} {l : List (List Bool)} {K : PySem.W.Frag} (hl : l.all (fun r => decide (r.length ≤ l.length)) = true) (h : q.exB l.length (subT l) K = true) : SubOk (q.gc K) K (subT l) := by
  have main : ∀ c c' b, subT l c c' = some b → excCb K (He.ga K (q.exs.getD c "")) = true ∧ PySem.W.kitOne K (.ref (He.ga K (q.exs.getD c ""))) (.type "ValueError") = some true ∧ PySem.W.exmOne K (.ref (He.ga K (q.exs.getD c ""))) (.ref (He.ga K (q.exs.getD c' ""))) = some b ∧ PySem.W.kitOne K (.ref (He.ga K (q.exs.getD c ""))) (.ref (He.ga K (q.exs.getD c' ""))) = some b := by
    intro c c' b e
    have e0 := e
    unfold subT at e
    rw [Option.bind_eq_some_iff] at e
    obtain ⟨r, e1, e2⟩ := e
    have c1 : c < l.length := (List.getElem?_eq_some_iff.mp e1).1
    have c2 : c' < r.length := (List.getElem?_eq_some_iff.mp e2).1
    have c3 := of_decide_eq_true (List.all_eq_true.mp hl r (List.mem_of_getElem? e1))
    obtain ⟨h1, h2⟩ := He.ba (List.all_eq_true.mp h c (List.mem_range.mpr c1))
    obtain ⟨h3, h4⟩ := He.ba h2
    have h5 := List.all_eq_true.mp h4 c' (List.mem_range.mpr (by omega))
    rw [e0] at h5
    obtain ⟨h6, h7⟩ := He.ba h5
    exact ⟨h1, of_decide_eq_true h3, of_decide_eq_true h6, of_decide_eq_true h7⟩
  refine ⟨fun c c' b e => (main c c' b e).2.2.1, fun c c' b e => ?_⟩
  obtain ⟨h1, h2, h3, h4⟩ := main c c' b e
  exact ⟨_, rfl, excC_of h1, h4, h2⟩
theorem subOk_none {g : GC} {K : PySem.W.Frag} : SubOk g K (fun _ _ => none) := ⟨fun _ _ _ e => (nomatch e), fun _ _ _ e => (nomatch e)⟩
theorem saysD_of {fa : List He.Fa} {fn : List He.DefD} {ts : List He.Tab} {w : World} {K : PySem.W.Frag} (h : He.SaysT fa fn ts w K) : He.SaysD fa fn K := congrArg Prod.fst h
end Pi

/-! Pi12: the reckoning, step by step (a simp set: the words "pi"). -/
namespace Pi
open PySem
/-- the next statement -/
def SO.then (o : SO) (k : Rho → Sto → SO) : SO :=
  match o with
  | .nx r S => k r S
  | o => o
def SO.out (o : SO) : Out D :=
  match o with
  | .rt d S => .ok d S
  | .nx _ S => .ok .non S
  | .xc c _ S => .exc c S
  | _ => .bad
section
variable {α β : Type} {a : α} {S : Sto} {r : Rho} {c n : Nat} {Φ : Phi} {d : D}
theorem bnd_ok (f : α → Sto → Out β) : (Out.ok a S).bnd f = f a S := rfl
theorem bnd_exc (f : α → Sto → Out β) : (Out.exc c S : Out α).bnd f = .exc c S := rfl
theorem bnd_bad (f : α → Sto → Out β) : (Out.bad : Out α).bnd f = .bad := rfl
theorem bnd_ite {p : Prop} [Decidable p] (x y : Out α) (f : α → Sto → Out β) : (if p then x else y).bnd f = if p then x.bnd f else y.bnd f := by split <;> rfl
theorem st_ok (f : α → Sto → SO) : (Out.ok a S).st r f = f a S := rfl
theorem st_exc (f : α → Sto → SO) : (Out.exc c S : Out α).st r f = .xc c r S := rfl
theorem st_bad (f : α → Sto → SO) : (Out.bad : Out α).st r f = .bad := rfl
theorem st_ite {p : Prop} [Decidable p] (x y : Out α) (f : α → Sto → SO) : (if p then x else y).st r f = if p then x.st r f else y.st r f := by split <;> rfl
theorem lift_some : lift (some a) S = .ok a S := rfl
theorem lift_none : (lift (none : Option α) S) = .bad := rfl
theorem lift_ite {p : Prop} [Decidable p] (x y : Option α) : lift (if p then x else y) S = if p then lift x S else lift y S := by split <;> rfl
theorem then_nx (k : Rho → Sto → SO) : (SO.nx r S).then k = k r S := rfl
theorem then_rt (k : Rho → Sto → SO) : (SO.rt d S).then k = .rt d S := rfl
theorem then_bk (k : Rho → Sto → SO) : (SO.bk r S).then k = .bk r S := rfl
theorem then_ct (k : Rho → Sto → SO) : (SO.ct r S).then k = .ct r S := rfl
theorem then_xc (k : Rho → Sto → SO) : (SO.xc c r S).then k = .xc c r S := rfl
theorem then_bad (k : Rho → Sto → SO) : (SO.bad).then k = .bad := rfl
theorem then_ite {p : Prop} [Decidable p] (x y : SO) (k : Rho → Sto → SO) : (if p then x else y).then k = if p then x.then k else y.then k := by split <;> rfl
theorem out_rt : (SO.rt d S).out = .ok d S := rfl
theorem out_nx : (SO.nx r S).out = .ok .non S := rfl
theorem out_xc : (SO.xc c r S).out = .exc c S := rfl
theorem out_bad : SO.bad.out = .bad := rfl
theorem out_ite {p : Prop} [Decidable p] (x y : SO) : (if p then x else y).out = if p then x.out else y.out := by split <;> rfl
theorem ofO_some : ofO (some r) S = .nx r S := rfl
theorem ofO_none : ofO none S = .bad := rfl
theorem exL_nil : exL Φ .nil r S = .nx r S := by simp only [exL]
theorem exL_cons (s : Pi.S) (l : SL) : exL Φ (.cons s l) r S = (ex Φ s r S).then (exL Φ l) := by
  simp only [exL]
  cases ex Φ s r S <;> rfl
theorem runF_of {f : DF} {ds : List D} (h : ds.length = f.ps) : runF Φ f ds S = (exL Φ f.body (ds.map (fun d => some (.v d)) ++ List.replicate (f.ns - f.ps) none) S).out := by
  unfold runF
  rw [if_pos h]
  cases exL Φ f.body (ds.map (fun d => some (.v d)) ++ List.replicate (f.ns - f.ps) none) S <;> rfl
theorem frz_v : Sl.frz (.v d) = .v d := rfl
theorem frz_l {xs : List D} : Sl.frz (.ol xs) = .v (.lst xs) := rfl
theorem frz_d {xs : List (Str × D)} : Sl.frz (.od xs) = .v (.dic xs) := rfl
end
/-- a for loop's turn -/
noncomputable def forB (Φ : Phi) (t : Tg) (b : SL) : D → Rho → Sto → SO := fun x r S => match bindT t x r with | some r => exL Φ b r S | none => .bad
theorem ex_for (Φ : Phi) (t : Tg) (it : It) (b : SL) (r : Rho) (S : Sto) : ex Φ (.for t it b) r S = (evI Φ it r S).st r fun xs S => forS (forB Φ t b) xs r S := by
  simp only [ex]
  rfl
/-- a comprehension whose turns always come to a value -/
theorem loopL_map {g : D → Sto → Out (Option D)} {f : D → D} {S : Sto} : ∀ {xs : List D}, (∀ x ∈ xs, g x S = .ok (some (f x)) S) → loopL g xs S = .ok (xs.map f) S
  | [], _ => rfl
  | x :: r, h => by
    simp only [loopL, h x List.mem_cons_self, bnd_ok, loopL_map fun y hy => h y (List.mem_cons_of_mem _ hy), List.map_cons]
/-- a for loop, one turn after another, by an invariant -/
theorem forS_inv {f : D → Rho → Sto → SO} (I : Nat → Rho → Sto → Prop) {xs : List D} (h : ∀ i x r S, xs[i]? = some x → I i r S → ∃ r' S', f x r S = .nx r' S' ∧ I (i + 1) r' S') : ∀ (k : Nat) {r : Rho} {S : Sto}, k ≤ xs.length → I k r S → ∃ r' S', forS f (xs.drop k) r S = .nx r' S' ∧ I xs.length r' S' := by
  intro k
  generalize hn : xs.length - k = n
  induction n generalizing k with
  | zero =>
    intro r S hk hI
    have : k = xs.length := by omega
    subst this
    rw [List.drop_length]
    exact ⟨r, S, rfl, hI⟩
  | succ n ih =>
    intro r S hk hI
    have hlt : k < xs.length := by omega
    rw [List.drop_eq_getElem_cons hlt]
    obtain ⟨r1, S1, e, h1⟩ := h k _ r S (List.getElem?_eq_getElem hlt) hI
    obtain ⟨r2, S2, e2, h2⟩ := ih (k + 1) (by omega) (r := r1) (S := S1) (by omega) h1
    refine ⟨r2, S2, ?_, h2⟩
    rw [forS, e]
    exact e2
/-- items of lists by natural places -/
theorem ixd_nat {n i : Nat} (h : i < n) : ixd n (i : Int) = some i := by
  unfold ixd
  rw [if_pos (by omega), if_pos (by omega)]
  simp
theorem ixd_int {n : Nat} {i : Int} (h0 : 0 ≤ i) (h : i < n) : ixd n i = some i.toNat := by
  unfold ixd
  rw [if_pos h0, if_pos h]
/-- a range, without its bound being unfolded -/
noncomputable def rngF (x : D) (S : Sto) : Out (List D) := match x with
      | .int j => if fits62 j = true then .ok (rngD 0 j.toNat) S else .bad
      | _ => .bad
theorem rngF_ok {j : Int} {S : Sto} (hf : fits62 j = true) : rngF (.int j) S = .ok (rngD 0 j.toNat) S := if_pos hf
theorem evI_rng (Φ : Phi) (a : E) (r : Rho) (S : Sto) : evI Φ (.rng a) r S = (ev Φ a r S).bnd rngF := by rw [evI]; rfl
theorem fits_small (k : Nat) (hk : k ≤ 1000000) : fits62 (k : Int) = true := by
  refine fits62_of (Int.natCast_nonneg k) ?_
  have : ((k:Nat) : Int) ≤ (1000000 : Nat) := Int.ofNat_le.mpr hk
  exact Int.lt_of_le_of_lt this (by decide)
theorem rngF_nat {k : Nat} {S : Sto} (hk : k ≤ 1000000) : rngF (.int (k : Int)) S = .ok (rngD 0 k) S := by
  rw [rngF_ok (fits_small k hk), Int.toNat_natCast]
theorem rng_ok (Φ : Phi) (k : Nat) (hf : fits62 (k : Int) = true) (r : Rho) (S : Sto) (i : Nat) (h : r[i]? = some (some (.v (.int k)))) : evI Φ (.rng (.var i)) r S = .ok (rngD 0 k) S := by
  have e : ev Φ (.var i) r S = .ok (.int k) S := by rw [ev, h]
  rw [evI_rng, e, bnd_ok, rngF_ok hf, Int.toNat_natCast]
end Pi

/-! Pi13: one statement after another. -/
namespace Pi
open PySem
section
variable {Φ : Phi} {s : Pi.S} {l a b : SL} {r r' : Rho} {S S' : Sto} {o : SO} {e : E} {d : D} {c : T} {k : Bool}
theorem stp (h : ex Φ s r S = .nx r' S') : exL Φ (.cons s l) r S = exL Φ l r' S' := by rw [exL_cons, h, then_nx]
theorem stp_rt (h : ex Φ s r S = .rt d S') : exL Φ (.cons s l) r S = .rt d S' := by rw [exL_cons, h, then_rt]
theorem stp_xc {c : Nat} (h : ex Φ s r S = .xc c r' S') : exL Φ (.cons s l) r S = .xc c r' S' := by rw [exL_cons, h, then_xc]
theorem ex_frz {is : List Nat} : ex Φ (.frz is s) r S = ex Φ s (frzR r is) S := by rw [ex]
theorem ex_ret (h : ev Φ e r S = .ok d S') : ex Φ (.ret e) r S = .rt d S' := by rw [ex, h, st_ok]
theorem ex_asg {i : Nat} (h : ev Φ e r S = .ok d S') (hi : i < r.length) : ex Φ (.asg (.nm i) e) r S = .nx (r.set i (some (d.slot e.isNew))) S' := by
  rw [ex, h, st_ok]
  show ofO (setR i (d.slot e.isNew) r) S' = _
  rw [setR, if_pos hi, ofO_some]
theorem ex_set {i : Nat} (h : ev Φ e r S = .ok d S') (hr : setR i (d.slot e.isNew) r = some r') : ex Φ (.asg (.nm i) e) r S = .nx r' S' := by
  rw [ex, h, st_ok]
  show ofO (setR i (d.slot e.isNew) r) S' = _
  rw [hr, ofO_some]
theorem ex_if (h : evT Φ c r S = .ok k S') : ex Φ (.ite c a b) r S = if k = true then exL Φ a r S' else exL Φ b r S' := by rw [ex, h, st_ok]
theorem ex_if_t (h : evT Φ c r S = .ok true S') : ex Φ (.ite c a b) r S = exL Φ a r S' := by rw [ex_if h, if_pos rfl]
theorem ex_if_f (h : evT Φ c r S = .ok false S') : ex Φ (.ite c a b) r S = exL Φ b r S' := by rw [ex_if h, if_neg (by decide)]
theorem ex_setk {i : Nat} {kx : E} {kvs : List (Str × D)} {x : Str} {S'' : Sto} (h : ev Φ e r S = .ok d S') (hi : r[i]? = some (some (.od kvs))) (hk : ev Φ kx r S' = .ok (.str x) S'') (hs : kvs.length < sizeLine) : ex Φ (.setk i kx e) r S = .nx (r.set i (some (.od (dput kvs x d)))) S'' := by
  rw [ex, h, st_ok, hi]
  simp only
  rw [hk, st_ok]
  simp only
  have hl : i < r.length := (List.getElem?_eq_some_iff.mp hi).1
  rw [if_pos hs, setR, if_pos hl, ofO_some]
theorem ex_app {i : Nat} {xs : List D} (h : ev Φ e r S = .ok d S') (hi : r[i]? = some (some (.ol xs))) (hs : xs.length < sizeLine) : ex Φ (.app i e) r S = .nx (r.set i (some (.ol (xs ++ [d])))) S' := by
  have hl : i < r.length := (List.getElem?_eq_some_iff.mp hi).1
  rw [ex, hi]
  simp only
  rw [h, st_ok, if_pos hs, setR, if_pos hl, ofO_some]
theorem ex_loop {t : Tg} {it : It} {xs : List D} (h : evI Φ it r S = .ok xs S') (h2 : forS (forB Φ t b) xs r S' = o) : ex Φ (.for t it b) r S = o := by rw [ex_for, h, st_ok, h2]
theorem ev_bin {o : O2} {a b : E} {x y d : D} {S1 S2 : Sto} (ha : rd a r S (ev Φ a r S) = .ok x S1) (hb : rd b r S1 (ev Φ b r S1) = .ok y S2) (h : o2D o x y = some d) : ev Φ (.bin o a b) r S = .ok d S2 := by
  rw [ev, ha, bnd_ok, hb, bnd_ok, h, lift_some]
theorem ev_cmp {o : Cm} {a b : E} {x y : D} {k : Bool} {S1 S2 : Sto} (ha : rd a r S (ev Φ a r S) = .ok x S1) (hb : rd b r S1 (ev Φ b r S1) = .ok y S2) (h : cmD o x y = some k) : ev Φ (.cmp o a b) r S = .ok (.bl k) S2 := by
  rw [ev, ha, bnd_ok, hb, bnd_ok, h, lift_some, bnd_ok]
theorem evT_e {a : E} {x : D} {k : Bool} {S1 : Sto} (ha : rd a r S (ev Φ a r S) = .ok x S1) (h : truD x = some k) : evT Φ (.e a) r S = .ok k S1 := by
  rw [evT, ha, bnd_ok, h, lift_some]
theorem evT_not {c : T} {k : Bool} {S1 : Sto} (h : evT Φ c r S = .ok k S1) : evT Φ (.not c) r S = .ok (!k) S1 := by
  rw [evT, h, bnd_ok]
theorem evT_or_t {c d : T} {S1 : Sto} (h : evT Φ c r S = .ok true S1) : evT Φ (.or c d) r S = .ok true S1 := by
  rw [evT, h, bnd_ok, if_pos rfl]
theorem evT_or_f {c d : T} {S1 : Sto} {o : Out Bool} (h : evT Φ c r S = .ok false S1) (h2 : evT Φ d r S1 = o) : evT Φ (.or c d) r S = o := by
  rw [evT, h, bnd_ok, if_neg (by decide), h2]
theorem evT_and_f {c d : T} {S1 : Sto} (h : evT Φ c r S = .ok false S1) : evT Φ (.and c d) r S = .ok false S1 := by
  rw [evT, h, bnd_ok, if_neg (by decide)]
theorem evT_and_t {c d : T} {S1 : Sto} {o : Out Bool} (h : evT Φ c r S = .ok true S1) (h2 : evT Φ d r S1 = o) : evT Φ (.and c d) r S = o := by
  rw [evT, h, bnd_ok, if_pos rfl, h2]
theorem evL_nil : evL Φ .nil r S = .ok [] S := by rw [evL]
theorem evL_cons {a : E} {es : EL} {x : D} {xs : List D} {S1 S2 : Sto} (h : ev Φ a r S = .ok x S1) (h2 : evL Φ es r S1 = .ok xs S2) : evL Φ (.cons a es) r S = .ok (x :: xs) S2 := by
  rw [evL, h, bnd_ok, h2, bnd_ok]
theorem ev_call {f : Nat} {es : EL} {ds : List D} {S1 : Sto} {o : Out D} (h : evL Φ es r S = .ok ds S1) (h2 : Φ.call f ds S1 = o) : ev Φ (.call f es) r S = o := by
  rw [ev, h, bnd_ok, h2]
theorem ev_lst {es : EL} {ds : List D} {S1 : Sto} (h : evL Φ es r S = .ok ds S1) (h2 : ds.length ≤ sizeLine) : ev Φ (.lst es) r S = .ok (.lst ds) S1 := by
  rw [ev, h, bnd_ok, if_pos h2]
theorem ev_tup {es : EL} {ds : List D} {S1 : Sto} (h : evL Φ es r S = .ok ds S1) (h2 : ds.length ≤ sizeLine) : ev Φ (.tup es) r S = .ok (.tup ds) S1 := by
  rw [ev, h, bnd_ok, if_pos h2]
theorem ev_sub {a i : E} {x y d : D} {S1 S2 : Sto} (ha : rd a r S (ev Φ a r S) = .ok x S1) (hb : ev Φ i r S1 = .ok y S2) (h : subD x y = some d) : ev Φ (.sub a i) r S = .ok d S2 := by
  rw [ev, ha, bnd_ok, hb, bnd_ok, h, lift_some]
theorem ev_bi {o : Bi} {a : E} {x d : D} {S1 : Sto} (ha : rd a r S (ev Φ a r S) = .ok x S1) (h : biD o x = some d) : ev Φ (.bi o a) r S = .ok d S1 := by
  rw [ev, ha, bnd_ok, h, lift_some]
theorem ev_isi {a : E} {ts : List Ty} {x : D} {k : Bool} {S1 : Sto} (ha : rd a r S (ev Φ a r S) = .ok x S1) (h : isiD x ts = some k) : ev Φ (.isi a ts) r S = .ok (.bl k) S1 := by
  rw [ev, ha, bnd_ok, h, lift_some, bnd_ok]
theorem ev_var {i : Nat} {d : D} (h : r[i]? = some (some (.v d))) : ev Φ (.var i) r S = .ok d S := by rw [ev, h]
theorem ev_int {n : Int} : ev Φ (.int n) r S = .ok (.int n) S := by rw [ev]
theorem ev_str {x : Str} : ev Φ (.str x) r S = .ok (.str x) S := by rw [ev]
theorem ev_bl {b : Bool} : ev Φ (.bl b) r S = .ok (.bl b) S := by rw [ev]
theorem ev_non : ev Φ .non r S = .ok .non S := by rw [ev]
theorem rd_var {i : Nat} {d : D} {o : Out D} (h : look i r = some d) : rd (.var i) r S o = .ok d S := by
  show lift (look i r) S = _
  rw [h, lift_some]
theorem rd_int {n : Int} : rd (.int n) r S (ev Φ (.int n) r S) = .ok (.int n) S := ev_int (Φ := Φ) (r := r)
theorem rd_str {x : Str} : rd (.str x) r S (ev Φ (.str x) r S) = .ok (.str x) S := ev_str (Φ := Φ) (r := r)
theorem rd_bin {o : O2} {a b : E} {q : Out D} (h : ev Φ (.bin o a b) r S = q) : rd (.bin o a b) r S (ev Φ (.bin o a b) r S) = q := h
theorem rd_cmp {o : Cm} {a b : E} {q : Out D} (h : ev Φ (.cmp o a b) r S = q) : rd (.cmp o a b) r S (ev Φ (.cmp o a b) r S) = q := h
theorem rd_call {f : Nat} {es : EL} {q : Out D} (h : ev Φ (.call f es) r S = q) : rd (.call f es) r S (ev Φ (.call f es) r S) = q := h
theorem rd_sub {a i : E} {q : Out D} (h : ev Φ (.sub a i) r S = q) : rd (.sub a i) r S (ev Φ (.sub a i) r S) = q := h
theorem rd_lst {es : EL} {q : Out D} (h : ev Φ (.lst es) r S = q) : rd (.lst es) r S (ev Φ (.lst es) r S) = q := h
theorem rd_bi {o : Bi} {a : E} {q : Out D} (h : ev Φ (.bi o a) r S = q) : rd (.bi o a) r S (ev Φ (.bi o a) r S) = q := h
theorem rd_isi {a : E} {ts : List Ty} {q : Out D} (h : ev Φ (.isi a ts) r S = q) : rd (.isi a ts) r S (ev Φ (.isi a ts) r S) = q := h
theorem rd_dct {ps : KL} {q : Out D} (h : ev Φ (.dct ps) r S = q) : rd (.dct ps) r S (ev Φ (.dct ps) r S) = q := h
end
end Pi

namespace K03
open PySem PySem.Spec PyProof.Rows L2 Pi
def top (i : Nat) : Stmt := PySem.Challenge.pw_kindsure_k03_where_two_meet.main.body.getD i (.Pass ⟨0, 0, 0, 0⟩)
def d_meeting : He.DefD := ⟨("meeting", none), "meeting", "meeting", defArgs (top 5), defBody (top 5), defScope (top 5), [], []⟩
def d_make_of : He.DefD := ⟨("make_of", none), "make_of", "make_of", defArgs (top 6), defBody (top 6), defScope (top 6), [], []⟩
def d_parts_of : He.DefD := ⟨("parts_of", none), "parts_of", "parts_of", defArgs (top 7), defBody (top 7), defScope (top 7), [], []⟩
def d_Pair_init : He.DefD := ⟨("Pair", some "__init__"), "__init__", "Pair.__init__", defArgs (inClass (top 8) 0), defBody (inClass (top 8) 0), defScope (inClass (top 8) 0), [], []⟩
def d_all_pairs : He.DefD := ⟨("all_pairs", none), "all_pairs", "all_pairs", defArgs (top 9), defBody (top 9), defScope (top 9), [], []⟩
def d_pairs_within : He.DefD := ⟨("pairs_within", none), "pairs_within", "pairs_within", defArgs (top 10), defBody (top 10), defScope (top 10), [], []⟩
def d_met_of : He.DefD := ⟨("met_of", none), "met_of", "met_of", defArgs (top 11), defBody (top 11), defScope (top 11), [], []⟩
def d__law_cell_at : He.DefD := ⟨("_law_cell_at", none), "_law_cell_at", "_law_cell_at", defArgs (top 13), defBody (top 13), defScope (top 13), [], []⟩
def d__law_next : He.DefD := ⟨("_law_next", none), "_law_next", "_law_next", defArgs (top 14), defBody (top 14), defScope (top 14), [], []⟩
def d__law_name_by : He.DefD := ⟨("_law_name_by", none), "_law_name_by", "_law_name_by", defArgs (top 15), defBody (top 15), defScope (top 15), [], []⟩
def d__law_kind_by : He.DefD := ⟨("_law_kind_by", none), "_law_kind_by", "_law_kind_by", defArgs (top 16), defBody (top 16), defScope (top 16), [], []⟩
def d__law_mixed : He.DefD := ⟨("_law_mixed", none), "_law_mixed", "_law_mixed", defArgs (top 17), defBody (top 17), defScope (top 17), [], []⟩
def d__law_met : He.DefD := ⟨("_law_met", none), "_law_met", "_law_met", defArgs (top 18), defBody (top 18), defScope (top 18), [], []⟩
def d__law_fits : He.DefD := ⟨("_law_fits", none), "_law_fits", "_law_fits", defArgs (top 19), defBody (top 19), defScope (top 19), [], []⟩
def d__law_loosened : He.DefD := ⟨("_law_loosened", none), "_law_loosened", "_law_loosened", defArgs (top 20), defBody (top 20), defScope (top 20), [], []⟩
def d__law_told : He.DefD := ⟨("_law_told", none), "_law_told", "_law_told", defArgs (top 21), defBody (top 21), defScope (top 21), [], []⟩
def d__law_wide : He.DefD := ⟨("_law_wide", none), "_law_wide", "_law_wide", defArgs (top 22), defBody (top 22), defScope (top 22), [], []⟩
def d_law : He.DefD := ⟨("law", none), "law", "law", defArgs (top 23), defBody (top 23), defScope (top 23), [], []⟩
def fn : List He.DefD := [d_meeting, d_make_of, d_parts_of, d_Pair_init, d_all_pairs, d_pairs_within, d_met_of, d__law_cell_at, d__law_next, d__law_name_by, d__law_kind_by, d__law_mixed, d__law_met, d__law_fits, d__law_loosened, d__law_told, d__law_wide, d_law]
def fac : List He.Fa := [.glo "meeting", .glo "make_of", .glo "parts_of", .glo "all_pairs", .glo "pairs_within", .glo "met_of", .glo "_law_cell_at", .glo "_law_next", .glo "_law_name_by", .glo "_law_kind_by", .glo "_law_mixed", .glo "_law_met", .glo "_law_fits", .glo "_law_loosened", .glo "_law_told", .glo "_law_wide", .glo "law", .free "len", .free "int", .free "list", .free "repr", .free "isinstance", .free "str", .free "range", .free "reversed", .free "ValueError", .glo "Pair", .mkr "Pair", .cls "Pair", .noat "Pair" "kind", .noat "Pair" "met", .noat "Pair" "other", .noat "Pair" "within", .glo "KindError", .exc "KindError", .glo "Unsure", .exc "Unsure", .glo "Unlike", .exc "Unlike"]
def whr : Where := ⟨[("meeting", none), ("make_of", none), ("parts_of", none), ("Pair", some "__init__"), ("all_pairs", none), ("pairs_within", none), ("met_of", none), ("_law_cell_at", none), ("_law_next", none), ("_law_name_by", none), ("_law_kind_by", none), ("_law_mixed", none), ("_law_met", none), ("_law_fits", none), ("_law_loosened", none), ("_law_told", none), ("_law_wide", none), ("law", none)], ["Pair"], ["KindError", "Unsure", "Unlike"], fac⟩
def tab : Tab := ⟨[("meeting", 0), ("make_of", 1), ("parts_of", 2), ("all_pairs", 4), ("pairs_within", 5), ("met_of", 6), ("_law_cell_at", 7), ("_law_next", 8), ("_law_name_by", 9), ("_law_kind_by", 10), ("_law_mixed", 11), ("_law_met", 12), ("_law_fits", 13), ("_law_loosened", 14), ("_law_told", 15), ("_law_wide", 16), ("law", 17)], [("Pair", 0)], [("KindError", 0), ("Unsure", 1), ("Unlike", 2)], ["len", "int", "list", "repr", "isinstance", "str", "range", "reversed", "ValueError"], [], ["kind", "met", "other", "within"]⟩
def ini (c : Nat) : Nat := ([3] : List Nat).getD c 0
def b_meeting : SL := (.cons (.frz [0, 1] (.asg (.nm 2) (.new 0 (.cons (.var 0) (.cons (.var 1) .nil)))))
 (.cons (.frz [2] (.asg (.nm 3) (.call 4 (.cons (.var 2) .nil))))
 (.cons (.frz [3] (.for (.nm 4) (.rev (.var 3))
 (.cons (.frz [4, 4, 4, 5, 6, 4] (.attr (.var 4) "met" (.call 6 (.cons (.attr (.var 4) "kind") (.cons (.attr (.var 4) "other") (.cons (.dc (.var 5) (.attr (.var 6) "met") (.tup [5, 6]) (.items (.attr (.var 4) "within")) .yes [5, 6]) .nil))))))
 .nil)))
 (.cons (.frz [2] (.ite (.e (.isN (.attr (.var 2) "met")))
 (.cons (.raise 2 (.cons (.str "these two kinds have no meeting") .nil))
 .nil)
 .nil))
 (.cons (.frz [2] (.ret (.attr (.var 2) "met")))
 .nil)))))
theorem c_meeting : (sfam (fam 40) 40).cB ⟨tab, ["kind", "other", "top", "pairs", "pair", "name", "part"], (defScope (top 5)).names, (defScope (top 5)).names.map (·.1)⟩ (defBody (top 5)) = some b_meeting := by decide +kernel
theorem s_meeting : FnScope ["kind", "other", "top", "pairs", "pair", "name", "part"] ["kind", "other"] (defScope (top 5)) := ⟨rfl, rfl, rfl, by decide +kernel, rfl, by decide +kernel, by decide +kernel⟩
def b_make_of : SL := (.cons (.ite (.e (.isi (.var 0) [.str]))
 (.cons (.frz [0] (.ret (.var 0)))
 .nil)
 .nil)
 (.cons (.ret (.sub (.var 0) (.int (0))))
 .nil))
theorem c_make_of : (sfam (fam 40) 40).cB ⟨tab, ["kind"], (defScope (top 6)).names, (defScope (top 6)).names.map (·.1)⟩ (defBody (top 6)) = some b_make_of := by decide +kernel
theorem s_make_of : FnScope ["kind"] ["kind"] (defScope (top 6)) := ⟨rfl, rfl, rfl, by decide +kernel, rfl, by decide +kernel, by decide +kernel⟩
def b_parts_of : SL := (.cons (.ite (.e (.isi (.var 0) [.str]))
 (.cons (.ret (.dct .nil))
 .nil)
 .nil)
 (.cons (.ret (.sub (.var 0) (.int (1))))
 .nil))
theorem c_parts_of : (sfam (fam 40) 40).cB ⟨tab, ["kind"], (defScope (top 7)).names, (defScope (top 7)).names.map (·.1)⟩ (defBody (top 7)) = some b_parts_of := by decide +kernel
theorem s_parts_of : FnScope ["kind"] ["kind"] (defScope (top 7)) := ⟨rfl, rfl, rfl, by decide +kernel, rfl, by decide +kernel, by decide +kernel⟩
def b_Pair_init : SL := (.cons (.frz [0, 1] (.attr (.var 0) "kind" (.var 1)))
 (.cons (.frz [0, 2] (.attr (.var 0) "other" (.var 2)))
 (.cons (.frz [0] (.attr (.var 0) "within" (.dct .nil)))
 (.cons (.frz [0] (.attr (.var 0) "met" .non))
 .nil))))
theorem c_Pair_init : (sfam (fam 40) 40).cB ⟨tab, ["self", "kind", "other"], (defScope (inClass (top 8) 0)).names, (defScope (inClass (top 8) 0)).names.map (·.1)⟩ (defBody (inClass (top 8) 0)) = some b_Pair_init := by decide +kernel
theorem s_Pair_init : FnScope ["self", "kind", "other"] ["self", "kind", "other"] (defScope (inClass (top 8) 0)) := ⟨rfl, rfl, rfl, by decide +kernel, rfl, by decide +kernel, by decide +kernel⟩
def b_all_pairs : SL := (.cons (.frz [0] (.asg (.nm 1) (.lst (.cons (.var 0) .nil))))
 (.cons (.asg (.nm 2) (.int (0)))
 (.cons (.whl (.e (.cmp .lt (.var 2) (.bi .len (.var 1))))
 (.cons (.frz [2] (.asg (.nm 3) (.sub (.var 1) (.var 2))))
 (.cons (.frz [3, 3] (.asg (.nm 4) (.call 5 (.cons (.attr (.var 3) "kind") (.cons (.attr (.var 3) "other") .nil)))))
 (.cons (.frz [3, 5, 6, 7, 4] (.attr (.var 3) "within" (.dc (.var 5) (.new 0 (.cons (.var 6) (.cons (.var 7) .nil))) (.kv 5 [6, 7]) (.items (.var 4)) .yes [5, 6, 7])))
 (.cons (.frz [3] (.ext 1 (.lvals (.attr (.var 3) "within"))))
 (.cons (.aug 2 .add (.int (1)))
 .nil))))))
 (.cons (.frz [1] (.ret (.var 1)))
 .nil))))
theorem c_all_pairs : (sfam (fam 40) 40).cB ⟨tab, ["top", "pairs", "at", "pair", "within", "name", "one", "two"], (defScope (top 9)).names, (defScope (top 9)).names.map (·.1)⟩ (defBody (top 9)) = some b_all_pairs := by decide +kernel
theorem s_all_pairs : FnScope ["top", "pairs", "at", "pair", "within", "name", "one", "two"] ["top"] (defScope (top 9)) := ⟨rfl, rfl, rfl, by decide +kernel, rfl, by decide +kernel, by decide +kernel⟩
def b_pairs_within : SL := (.cons (.frz [0] (.asg (.nm 2) (.call 2 (.cons (.var 0) .nil))))
 (.cons (.frz [1] (.asg (.nm 3) (.call 2 (.cons (.var 1) .nil))))
 (.cons (.frz [0, 1] (.ite (.e (.cmp .ne (.call 1 (.cons (.var 0) .nil)) (.call 1 (.cons (.var 1) .nil))))
 (.cons (.ret (.dct .nil))
 .nil)
 .nil))
 (.cons (.frz [0] (.ite (.e (.cmp .eq (.call 1 (.cons (.var 0) .nil)) (.str "record")))
 (.cons (.frz [6, 6, 6, 2] (.ret (.dc (.var 6) (.tup (.cons (.sub (.var 2) (.var 6)) (.cons (.sub (.var 3) (.var 6)) .nil))) (.nm 6) (.over (.var 2)) (.e (.cmp .inn (.var 6) (.var 3))) [6])))
 .nil)
 .nil))
 (.cons (.frz [3, 2] (.asg (.nm 4) (.mrg (.var 3) (.var 2))))
 (.cons (.frz [2, 3] (.asg (.nm 5) (.mrg (.var 2) (.var 3))))
 (.cons (.frz [6, 6, 6, 5] (.ret (.dc (.var 6) (.tup (.cons (.sub (.var 4) (.var 6)) (.cons (.sub (.var 5) (.var 6)) .nil))) (.nm 6) (.over (.var 5)) .yes [6])))
 .nil)))))))
theorem c_pairs_within : (sfam (fam 40) 40).cB ⟨tab, ["kind", "other", "mine", "theirs", "first", "second", "name"], (defScope (top 10)).names, (defScope (top 10)).names.map (·.1)⟩ (defBody (top 10)) = some b_pairs_within := by decide +kernel
theorem s_pairs_within : FnScope ["kind", "other", "mine", "theirs", "first", "second", "name"] ["kind", "other"] (defScope (top 10)) := ⟨rfl, rfl, rfl, by decide +kernel, rfl, by decide +kernel, by decide +kernel⟩
def b_met_of : SL := (.cons (.frz [0] (.asg (.nm 3) (.call 1 (.cons (.var 0) .nil))))
 (.cons (.frz [1] (.ite (.e (.cmp .ne (.var 3) (.call 1 (.cons (.var 1) .nil))))
 (.cons (.ret .non)
 .nil)
 .nil))
 (.cons (.ite (.or (.e (.cmp .eq (.var 3) (.str "num"))) (.e (.cmp .eq (.var 3) (.str "truth"))))
 (.cons (.frz [3] (.ret (.var 3)))
 .nil)
 .nil)
 (.cons (.frz [5, 6, 2] (.asg (.nm 4) (.dc (.var 5) (.var 6) (.tup [5, 6]) (.items (.var 2)) (.e (.notN (.var 6))) [5, 6])))
 (.cons (.ite (.and (.e (.cmp .eq (.var 3) (.str "choice"))) (.e (.cmp .lt (.bi .len (.var 4)) (.bi .len (.var 2)))))
 (.cons (.ret .non)
 .nil)
 .nil)
 (.cons (.frz [3, 4] (.ret (.tup (.cons (.var 3) (.cons (.var 4) .nil)))))
 .nil))))))
theorem c_met_of : (sfam (fam 40) 40).cB ⟨tab, ["kind", "other", "met", "make", "parts", "name", "part"], (defScope (top 11)).names, (defScope (top 11)).names.map (·.1)⟩ (defBody (top 11)) = some b_met_of := by decide +kernel
theorem s_met_of : FnScope ["kind", "other", "met", "make", "parts", "name", "part"] ["kind", "other", "met"] (defScope (top 11)) := ⟨rfl, rfl, rfl, by decide +kernel, rfl, by decide +kernel, by decide +kernel⟩
def b__law_cell_at : SL := (.cons (.ite (.e (.cmp .lt (.var 1) (.bi .len (.var 0))))
 (.cons (.frz [1] (.ret (.sub (.var 0) (.var 1))))
 .nil)
 .nil)
 (.cons (.ret (.int (0)))
 .nil))
theorem c__law_cell_at : (sfam (fam 40) 40).cB ⟨tab, ["_law_script", "_law_k"], (defScope (top 13)).names, (defScope (top 13)).names.map (·.1)⟩ (defBody (top 13)) = some b__law_cell_at := by decide +kernel
theorem s__law_cell_at : FnScope ["_law_script", "_law_k"] ["_law_script", "_law_k"] (defScope (top 13)) := ⟨rfl, rfl, rfl, by decide +kernel, rfl, by decide +kernel, by decide +kernel⟩
def b__law_next : SL := (.cons (.ret (.bin .mod (.bin .add (.bin .mul (.var 0) (.int (48271))) (.int (11))) (.int (2147483647))))
 .nil)
theorem c__law_next : (sfam (fam 40) 40).cB ⟨tab, ["_law_seed"], (defScope (top 14)).names, (defScope (top 14)).names.map (·.1)⟩ (defBody (top 14)) = some b__law_next := by decide +kernel
theorem s__law_next : FnScope ["_law_seed"] ["_law_seed"] (defScope (top 14)) := ⟨rfl, rfl, rfl, by decide +kernel, rfl, by decide +kernel, by decide +kernel⟩
def b__law_name_by : SL := (.cons (.asg (.nm 1) (.str "mnbvcxzlkjhgfdsapoiuytrewq"))
 (.cons (.ite (.e (.cmp .eq (.bin .mod (.bin .fdiv (.var 0) (.int (11))) (.int (4))) (.int (0))))
 (.cons (.asg (.nm 5) (.bin .mod (.bin .fdiv (.var 0) (.int (44))) (.int (8))))
 (.cons (.frz [5] (.ret (.bin .add (.bin .add (.slice (.str "overmany") .non (.var 5)) (.sub (.var 1) (.bin .mod (.bin .fdiv (.var 0) (.int (352))) (.int (26))))) (.slice (.str "overmany") (.bin .add (.var 5) (.int (1))) .non))))
 .nil))
 .nil)
 (.cons (.asg (.nm 2) (.bin .add (.int (1)) (.bin .mod (.var 0) (.int (2)))))
 (.cons (.ite (.e (.cmp .eq (.bin .mod (.bin .fdiv (.var 0) (.int (2))) (.int (5))) (.int (0))))
 (.cons (.asg (.nm 2) (.bin .add (.int (1)) (.bin .mod (.bin .fdiv (.var 0) (.int (10))) (.int (12)))))
 .nil)
 .nil)
 (.cons (.asg (.nm 3) (.lst .nil))
 (.cons (.frz [2] (.for (.nm 4) (.rng (.var 2))
 (.cons (.app 3 (.sub (.var 1) (.bin .mod (.bin .fdiv (.var 0) (.int (120))) (.int (26)))))
 (.cons (.asg (.nm 0) (.call 8 (.cons (.bin .add (.var 0) (.var 4)) .nil)))
 .nil))))
 (.cons (.ret (.join "" (.var 3)))
 .nil)))))))
theorem c__law_name_by : (sfam (fam 40) 40).cB ⟨tab, ["_law_seed", "_law_some", "_law_size", "_law_signs", "_law_k", "_law_at"], (defScope (top 15)).names, (defScope (top 15)).names.map (·.1)⟩ (defBody (top 15)) = some b__law_name_by := by decide +kernel
theorem s__law_name_by : FnScope ["_law_seed", "_law_some", "_law_size", "_law_signs", "_law_k", "_law_at"] ["_law_seed"] (defScope (top 15)) := ⟨rfl, rfl, rfl, by decide +kernel, rfl, by decide +kernel, by decide +kernel⟩
def b__law_kind_by : SL := (.cons (.frz [0] (.asg (.nm 0) (.call 8 (.cons (.var 0) .nil))))
 (.cons (.asg (.nm 2) (.bin .mod (.bin .fdiv (.var 0) (.int (7))) (.int (4))))
 (.cons (.ite (.or (.e (.cmp .eq (.var 1) (.int (0)))) (.e (.cmp .lt (.var 2) (.int (2)))))
 (.cons (.ret (.sub (.lst (.cons (.str "num") (.cons (.str "truth") .nil))) (.bin .mod (.var 2) (.int (2)))))
 .nil)
 .nil)
 (.cons (.asg (.nm 3) (.dct .nil))
 (.cons (.for (.nm 4) (.rng (.bin .sub (.bin .add (.bin .mod (.bin .fdiv (.var 0) (.int (29))) (.int (4))) (.var 2)) (.int (2))))
 (.cons (.asg (.nm 0) (.call 8 (.cons (.bin .add (.var 0) (.var 4)) .nil)))
 (.cons (.frz [0] (.setk 3 (.call 9 (.cons (.bin .fdiv (.var 0) (.int (3))) .nil)) (.call 10 (.cons (.var 0) (.cons (.bin .sub (.var 1) (.int (1))) .nil)))))
 .nil)))
 (.cons (.frz [3] (.ret (.tup (.cons (.sub (.lst (.cons (.str "record") (.cons (.str "choice") .nil))) (.bin .sub (.var 2) (.int (2)))) (.cons (.var 3) .nil)))))
 .nil))))))
theorem c__law_kind_by : (sfam (fam 40) 40).cB ⟨tab, ["_law_seed", "_law_deep", "_law_pick", "_law_parts", "_law_k"], (defScope (top 16)).names, (defScope (top 16)).names.map (·.1)⟩ (defBody (top 16)) = some b__law_kind_by := by decide +kernel
theorem s__law_kind_by : FnScope ["_law_seed", "_law_deep", "_law_pick", "_law_parts", "_law_k"] ["_law_seed", "_law_deep"] (defScope (top 16)) := ⟨rfl, rfl, rfl, by decide +kernel, rfl, by decide +kernel, by decide +kernel⟩
def b__law_mixed : SL := (.cons (.frz [1] (.asg (.nm 1) (.call 8 (.cons (.var 1) .nil))))
 (.cons (.ite (.e (.isi (.var 0) [.str]))
 (.cons (.frz [0, 0, 0, 0] (.ret (.sub (.lst (.cons (.var 0) (.cons (.var 0) (.cons (.var 0) (.cons (.var 0) (.cons (.str "num") (.cons (.str "truth") .nil))))))) (.bin .mod (.bin .fdiv (.var 1) (.int (11))) (.int (6))))))
 .nil)
 .nil)
 (.cons (.asg (.nm 2) (.dct .nil))
 (.cons (.for (.nm 3) (.over (.sub (.var 0) (.int (1))))
 (.cons (.frz [1] (.asg (.nm 1) (.call 8 (.cons (.var 1) .nil))))
 (.cons (.ite (.e (.cmp .gt (.bin .mod (.bin .fdiv (.var 1) (.int (5))) (.int (4))) (.int (0))))
 (.cons (.frz [3, 3, 1] (.setk 2 (.var 3) (.call 11 (.cons (.sub (.sub (.var 0) (.int (1))) (.var 3)) (.cons (.var 1) .nil)))))
 .nil)
 .nil)
 .nil)))
 (.cons (.ite (.or (.e (.cmp .eq (.bin .mod (.bin .fdiv (.var 1) (.int (7))) (.int (2))) (.int (0)))) (.e (.cmp .eq (.var 2) (.dct .nil))))
 (.cons (.frz [1, 1] (.setk 2 (.call 9 (.cons (.var 1) .nil)) (.call 10 (.cons (.var 1) (.cons (.int (1)) .nil)))))
 .nil)
 .nil)
 (.cons (.frz [2] (.ret (.tup (.cons (.sub (.var 0) (.int (0))) (.cons (.var 2) .nil)))))
 .nil))))))
theorem c__law_mixed : (sfam (fam 40) 40).cB ⟨tab, ["_law_kind", "_law_seed", "_law_parts", "_law_name"], (defScope (top 17)).names, (defScope (top 17)).names.map (·.1)⟩ (defBody (top 17)) = some b__law_mixed := by decide +kernel
theorem s__law_mixed : FnScope ["_law_kind", "_law_seed", "_law_parts", "_law_name"] ["_law_kind", "_law_seed"] (defScope (top 17)) := ⟨rfl, rfl, rfl, by decide +kernel, rfl, by decide +kernel, by decide +kernel⟩
def b__law_met : SL := (.cons (.ite (.or (.e (.isi (.var 0) [.str])) (.e (.isi (.var 1) [.str])))
 (.cons (.frz [0] (.ret (.sub (.lst (.cons .non (.cons (.var 0) .nil))) (.bi .int (.cmp .eq (.var 0) (.var 1))))))
 .nil)
 .nil)
 (.cons (.ite (.e (.cmp .ne (.sub (.var 0) (.int (0))) (.sub (.var 1) (.int (0)))))
 (.cons (.ret .non)
 .nil)
 .nil)
 (.cons (.asg (.nm 2) (.dct .nil))
 (.cons (.for (.nm 3) (.over (.bin .add (.bi .list (.sub (.var 0) (.int (1)))) (.bi .list (.sub (.var 1) (.int (1))))))
 (.cons (.ite (.and (.e (.cmp .inn (.var 3) (.sub (.var 0) (.int (1))))) (.e (.cmp .inn (.var 3) (.sub (.var 1) (.int (1))))))
 (.cons (.frz [3, 3] (.asg (.nm 4) (.call 12 (.cons (.sub (.sub (.var 0) (.int (1))) (.var 3)) (.cons (.sub (.sub (.var 1) (.int (1))) (.var 3)) .nil)))))
 (.cons (.ite (.e (.notN (.var 4)))
 (.cons (.frz [3, 4] (.setk 2 (.var 3) (.var 4)))
 .nil)
 (.cons (.ite (.e (.cmp .eq (.sub (.var 0) (.int (0))) (.str "choice")))
 (.cons (.ret .non)
 .nil)
 .nil)
 .nil))
 .nil))
 (.cons (.ite (.e (.cmp .eq (.sub (.var 0) (.int (0))) (.str "choice")))
 (.cons (.frz [3, 3, 3] (.setk 2 (.var 3) (.get2 (.sub (.var 0) (.int (1))) (.var 3) (.get1 (.sub (.var 1) (.int (1))) (.var 3)))))
 .nil)
 .nil)
 .nil))
 .nil))
 (.cons (.frz [2] (.ret (.tup (.cons (.sub (.var 0) (.int (0))) (.cons (.var 2) .nil)))))
 .nil)))))
theorem c__law_met : (sfam (fam 40) 40).cB ⟨tab, ["_law_kind", "_law_other", "_law_parts", "_law_name", "_law_both"], (defScope (top 18)).names, (defScope (top 18)).names.map (·.1)⟩ (defBody (top 18)) = some b__law_met := by decide +kernel
theorem s__law_met : FnScope ["_law_kind", "_law_other", "_law_parts", "_law_name", "_law_both"] ["_law_kind", "_law_other"] (defScope (top 18)) := ⟨rfl, rfl, rfl, by decide +kernel, rfl, by decide +kernel, by decide +kernel⟩
def b__law_fits : SL := (.cons (.ite (.or (.e (.isi (.var 0) [.str])) (.e (.isi (.var 1) [.str])))
 (.cons (.ret (.cmp .eq (.var 0) (.var 1)))
 .nil)
 .nil)
 (.cons (.ite (.e (.cmp .ne (.sub (.var 0) (.int (0))) (.sub (.var 1) (.int (0)))))
 (.cons (.ret (.bl false))
 .nil)
 .nil)
 (.cons (.asg (.nm 2) (.sub (.var 1) (.int (1))))
 (.cons (.ite (.e (.cmp .eq (.sub (.var 0) (.int (0))) (.str "choice")))
 (.cons (.asg (.nm 2) (.sub (.var 0) (.int (1))))
 .nil)
 .nil)
 (.cons (.frz [2] (.for (.nm 3) (.over (.var 2))
 (.cons (.frz [3, 3] (.ite (.or (.e (.cmp .nin (.var 3) (.sub (.var 0) (.int (1))))) (.or (.e (.cmp .nin (.var 3) (.sub (.var 1) (.int (1))))) (.not (.e (.call 13 (.cons (.sub (.sub (.var 0) (.int (1))) (.var 3)) (.cons (.sub (.sub (.var 1) (.int (1))) (.var 3)) .nil)))))))
 (.cons (.ret (.bl false))
 .nil)
 .nil))
 .nil)))
 (.cons (.ret (.bl true))
 .nil))))))
theorem c__law_fits : (sfam (fam 40) 40).cB ⟨tab, ["_law_kind", "_law_other", "_law_wanted", "_law_name"], (defScope (top 19)).names, (defScope (top 19)).names.map (·.1)⟩ (defBody (top 19)) = some b__law_fits := by decide +kernel
theorem s__law_fits : FnScope ["_law_kind", "_law_other", "_law_wanted", "_law_name"] ["_law_kind", "_law_other"] (defScope (top 19)) := ⟨rfl, rfl, rfl, by decide +kernel, rfl, by decide +kernel, by decide +kernel⟩
def b__law_loosened : SL := (.cons (.frz [1] (.asg (.nm 1) (.call 8 (.cons (.var 1) .nil))))
 (.cons (.ite (.e (.isi (.var 0) [.str]))
 (.cons (.frz [0] (.ret (.var 0)))
 .nil)
 .nil)
 (.cons (.asg (.nm 2) (.dct .nil))
 (.cons (.for (.nm 3) (.over (.sub (.var 0) (.int (1))))
 (.cons (.frz [1] (.asg (.nm 1) (.call 8 (.cons (.var 1) .nil))))
 (.cons (.ite (.or (.e (.cmp .eq (.sub (.var 0) (.int (0))) (.str "choice"))) (.e (.cmp .gt (.bin .mod (.bin .fdiv (.var 1) (.int (5))) (.int (3))) (.int (0)))))
 (.cons (.frz [3, 3, 1] (.setk 2 (.var 3) (.call 14 (.cons (.sub (.sub (.var 0) (.int (1))) (.var 3)) (.cons (.var 1) .nil)))))
 .nil)
 .nil)
 .nil)))
 (.cons (.frz [1] (.ite (.and (.e (.cmp .eq (.sub (.var 0) (.int (0))) (.str "choice"))) (.e (.cmp .nin (.call 9 (.cons (.var 1) .nil)) (.var 2))))
 (.cons (.frz [1, 1] (.setk 2 (.call 9 (.cons (.var 1) .nil)) (.call 10 (.cons (.var 1) (.cons (.int (1)) .nil)))))
 .nil)
 .nil))
 (.cons (.frz [2] (.ret (.tup (.cons (.sub (.var 0) (.int (0))) (.cons (.var 2) .nil)))))
 .nil))))))
theorem c__law_loosened : (sfam (fam 40) 40).cB ⟨tab, ["_law_kind", "_law_seed", "_law_parts", "_law_name"], (defScope (top 20)).names, (defScope (top 20)).names.map (·.1)⟩ (defBody (top 20)) = some b__law_loosened := by decide +kernel
theorem s__law_loosened : FnScope ["_law_kind", "_law_seed", "_law_parts", "_law_name"] ["_law_kind", "_law_seed"] (defScope (top 20)) := ⟨rfl, rfl, rfl, by decide +kernel, rfl, by decide +kernel, by decide +kernel⟩
def b__law_told : SL := (.cons (.tri (.cons (.frz [0, 1] (.ret (.call 0 (.cons (.var 0) (.cons (.var 1) .nil)))))
 .nil) [(2, [(.ifi 2 (0) .non)])])
 (.cons (.trx (.cons (.frz [0, 1] (.ex (.call 0 (.cons (.var 0) (.cons (.var 1) .nil)))))
 .nil) 0 3 [(.ifx [some 1, none] .non)])
 (.cons (.ret (.str "no such refusal"))
 .nil)))
theorem c__law_told : (sfam (fam 40) 40).cB ⟨tab, ["_law_one", "_law_other", "_law_pick", "e"], (defScope (top 21)).names, (defScope (top 21)).names.map (·.1)⟩ (defBody (top 21)) = some b__law_told := by decide +kernel
theorem s__law_told : FnScope ["_law_one", "_law_other", "_law_pick", "e"] ["_law_one", "_law_other", "_law_pick"] (defScope (top 21)) := ⟨rfl, rfl, rfl, by decide +kernel, rfl, by decide +kernel, by decide +kernel⟩
def b__law_wide : SL := (.cons (.asg (.nm 1) (.dct .nil))
 (.cons (.for (.nm 2) (.rng (.int (60)))
 (.cons (.asg (.nm 0) (.call 8 (.cons (.bin .add (.var 0) (.var 2)) .nil)))
 (.cons (.frz [0, 0] (.setk 1 (.call 9 (.cons (.var 0) .nil)) (.call 10 (.cons (.var 0) (.cons (.int (1)) .nil)))))
 .nil)))
 (.cons (.frz [1] (.ret (.tup (.cons (.sub (.lst (.cons (.str "record") (.cons (.str "choice") .nil))) (.bin .mod (.bin .fdiv (.var 0) (.int (3))) (.int (2)))) (.cons (.var 1) .nil)))))
 .nil)))
theorem c__law_wide : (sfam (fam 40) 40).cB ⟨tab, ["_law_seed", "_law_parts", "_law_k"], (defScope (top 22)).names, (defScope (top 22)).names.map (·.1)⟩ (defBody (top 22)) = some b__law_wide := by decide +kernel
theorem s__law_wide : FnScope ["_law_seed", "_law_parts", "_law_k"] ["_law_seed"] (defScope (top 22)) := ⟨rfl, rfl, rfl, by decide +kernel, rfl, by decide +kernel, by decide +kernel⟩
def b_law : SL := (.cons (.frz [0, 0] (.asg (.nm 1) (.call 10 (.cons (.call 7 (.cons (.var 0) (.cons (.int (0)) .nil))) (.cons (.bin .add (.int (1)) (.bin .mod (.call 7 (.cons (.var 0) (.cons (.int (1)) .nil))) (.int (4)))) .nil)))))
 (.cons (.frz [0] (.ite (.e (.cmp .eq (.bin .mod (.bin .fdiv (.call 7 (.cons (.var 0) (.cons (.int (4)) .nil))) (.int (2))) (.int (8))) (.int (3))))
 (.cons (.frz [0] (.asg (.nm 1) (.call 16 (.cons (.call 7 (.cons (.var 0) (.cons (.int (0)) .nil))) .nil))))
 .nil)
 .nil))
 (.cons (.frz [1, 0] (.asg (.nm 2) (.call 11 (.cons (.var 1) (.cons (.call 7 (.cons (.var 0) (.cons (.int (3)) .nil))) .nil)))))
 (.cons (.frz [0] (.ite (.e (.cmp .eq (.bin .mod (.call 7 (.cons (.var 0) (.cons (.int (2)) .nil))) (.int (3))) (.int (0))))
 (.cons (.frz [0, 0] (.asg (.nm 2) (.call 10 (.cons (.call 7 (.cons (.var 0) (.cons (.int (3)) .nil))) (.cons (.bin .add (.int (1)) (.bin .mod (.bin .fdiv (.call 7 (.cons (.var 0) (.cons (.int (1)) .nil))) (.int (4))) (.int (4)))) .nil)))))
 .nil)
 .nil))
 (.cons (.asg (.nm 3) (.lst (.cons (.bi .repr (.var 1)) (.cons (.bi .repr (.var 2)) .nil))))
 (.cons (.frz [1, 2] (.asg (.nm 4) (.call 12 (.cons (.var 1) (.cons (.var 2) .nil)))))
 (.cons (.frz [1, 2, 0] (.asg (.nm 5) (.call 15 (.cons (.var 1) (.cons (.var 2) (.cons (.bin .mod (.call 7 (.cons (.var 0) (.cons (.int (4)) .nil))) (.int (2))) .nil))))))
 (.cons (.frz [2, 1] (.asg (.nm 6) (.call 15 (.cons (.var 2) (.cons (.var 1) (.cons (.int (0)) .nil))))))
 (.cons (.ite (.or (.e (.cmp .ne (.lst (.cons (.bi .repr (.var 1)) (.cons (.bi .repr (.var 2)) .nil))) (.var 3))) (.or (.e (.cmp .ne (.var 5) (.var 4))) (.e (.cmp .ne (.var 6) (.var 4)))))
 (.cons (.ret (.bl false))
 .nil)
 .nil)
 (.cons (.ite (.e (.isN (.var 4)))
 (.cons (.ret (.bl true))
 .nil)
 .nil)
 (.cons (.frz [4, 0] (.asg (.nm 7) (.call 14 (.cons (.var 4) (.cons (.call 7 (.cons (.var 0) (.cons (.int (5)) .nil))) .nil)))))
 (.cons (.frz [1, 5, 2, 5, 5, 7] (.ret (.and (.call 13 (.cons (.var 1) (.cons (.var 5) .nil))) (.and (.call 13 (.cons (.var 2) (.cons (.var 5) .nil))) (.and (.bl true) (.call 13 (.cons (.var 5) (.cons (.var 7) .nil))))))))
 .nil))))))))))))
theorem c_law : (sfam (fam 40) 40).cB ⟨tab, ["_law_script", "_law_one", "_law_other", "_law_ahead", "_law_due", "_law_found", "_law_turned", "_law_loose"], (defScope (top 23)).names, (defScope (top 23)).names.map (·.1)⟩ (defBody (top 23)) = some b_law := by decide +kernel
theorem s_law : FnScope ["_law_script", "_law_one", "_law_other", "_law_ahead", "_law_due", "_law_found", "_law_turned", "_law_loose"] ["_law_script"] (defScope (top 23)) := ⟨rfl, rfl, rfl, by decide +kernel, rfl, by decide +kernel, by decide +kernel⟩
def dfs : List DF := [⟨2, 7, b_meeting⟩, ⟨1, 1, b_make_of⟩, ⟨1, 1, b_parts_of⟩, ⟨3, 3, b_Pair_init⟩, ⟨1, 8, b_all_pairs⟩, ⟨2, 7, b_pairs_within⟩, ⟨3, 7, b_met_of⟩, ⟨2, 2, b__law_cell_at⟩, ⟨1, 1, b__law_next⟩, ⟨1, 6, b__law_name_by⟩, ⟨2, 5, b__law_kind_by⟩, ⟨2, 4, b__law_mixed⟩, ⟨2, 5, b__law_met⟩, ⟨2, 4, b__law_fits⟩, ⟨2, 4, b__law_loosened⟩, ⟨3, 4, b__law_told⟩, ⟨1, 3, b__law_wide⟩, ⟨1, 8, b_law⟩]
theorem defs_ok {K : PySem.W.Frag} (c : He.SaysD fac fn K) : ∀ (i : Nat) (d : DF), dfs[i]? = some d → DefOk (whr.gc K) K tab 40 40 i d
  | 0, _, h => by cases h; exact defOk_of (ps := ["kind", "other"]) (c.def_ 0 (d := d_meeting) rfl) s_meeting (fun _ _ _ _ _ _ us hl => match us, hl with | [_, _], _ => rfl) c_meeting
  | 1, _, h => by cases h; exact defOk_of (ps := ["kind"]) (c.def_ 1 (d := d_make_of) rfl) s_make_of (fun _ _ _ _ _ _ us hl => match us, hl with | [_], _ => rfl) c_make_of
  | 2, _, h => by cases h; exact defOk_of (ps := ["kind"]) (c.def_ 2 (d := d_parts_of) rfl) s_parts_of (fun _ _ _ _ _ _ us hl => match us, hl with | [_], _ => rfl) c_parts_of
  | 3, _, h => by cases h; exact defOk_of (ps := ["self", "kind", "other"]) (c.def_ 3 (d := d_Pair_init) rfl) s_Pair_init (fun _ _ _ _ _ _ us hl => match us, hl with | [_, _, _], _ => rfl) c_Pair_init
  | 4, _, h => by cases h; exact defOk_of (ps := ["top"]) (c.def_ 4 (d := d_all_pairs) rfl) s_all_pairs (fun _ _ _ _ _ _ us hl => match us, hl with | [_], _ => rfl) c_all_pairs
  | 5, _, h => by cases h; exact defOk_of (ps := ["kind", "other"]) (c.def_ 5 (d := d_pairs_within) rfl) s_pairs_within (fun _ _ _ _ _ _ us hl => match us, hl with | [_, _], _ => rfl) c_pairs_within
  | 6, _, h => by cases h; exact defOk_of (ps := ["kind", "other", "met"]) (c.def_ 6 (d := d_met_of) rfl) s_met_of (fun _ _ _ _ _ _ us hl => match us, hl with | [_, _, _], _ => rfl) c_met_of
  | 7, _, h => by cases h; exact defOk_of (ps := ["_law_script", "_law_k"]) (c.def_ 7 (d := d__law_cell_at) rfl) s__law_cell_at (fun _ _ _ _ _ _ us hl => match us, hl with | [_, _], _ => rfl) c__law_cell_at
  | 8, _, h => by cases h; exact defOk_of (ps := ["_law_seed"]) (c.def_ 8 (d := d__law_next) rfl) s__law_next (fun _ _ _ _ _ _ us hl => match us, hl with | [_], _ => rfl) c__law_next
  | 9, _, h => by cases h; exact defOk_of (ps := ["_law_seed"]) (c.def_ 9 (d := d__law_name_by) rfl) s__law_name_by (fun _ _ _ _ _ _ us hl => match us, hl with | [_], _ => rfl) c__law_name_by
  | 10, _, h => by cases h; exact defOk_of (ps := ["_law_seed", "_law_deep"]) (c.def_ 10 (d := d__law_kind_by) rfl) s__law_kind_by (fun _ _ _ _ _ _ us hl => match us, hl with | [_, _], _ => rfl) c__law_kind_by
  | 11, _, h => by cases h; exact defOk_of (ps := ["_law_kind", "_law_seed"]) (c.def_ 11 (d := d__law_mixed) rfl) s__law_mixed (fun _ _ _ _ _ _ us hl => match us, hl with | [_, _], _ => rfl) c__law_mixed
  | 12, _, h => by cases h; exact defOk_of (ps := ["_law_kind", "_law_other"]) (c.def_ 12 (d := d__law_met) rfl) s__law_met (fun _ _ _ _ _ _ us hl => match us, hl with | [_, _], _ => rfl) c__law_met
  | 13, _, h => by cases h; exact defOk_of (ps := ["_law_kind", "_law_other"]) (c.def_ 13 (d := d__law_fits) rfl) s__law_fits (fun _ _ _ _ _ _ us hl => match us, hl with | [_, _], _ => rfl) c__law_fits
  | 14, _, h => by cases h; exact defOk_of (ps := ["_law_kind", "_law_seed"]) (c.def_ 14 (d := d__law_loosened) rfl) s__law_loosened (fun _ _ _ _ _ _ us hl => match us, hl with | [_, _], _ => rfl) c__law_loosened
  | 15, _, h => by cases h; exact defOk_of (ps := ["_law_one", "_law_other", "_law_pick"]) (c.def_ 15 (d := d__law_told) rfl) s__law_told (fun _ _ _ _ _ _ us hl => match us, hl with | [_, _, _], _ => rfl) c__law_told
  | 16, _, h => by cases h; exact defOk_of (ps := ["_law_seed"]) (c.def_ 16 (d := d__law_wide) rfl) s__law_wide (fun _ _ _ _ _ _ us hl => match us, hl with | [_], _ => rfl) c__law_wide
  | 17, _, h => by cases h; exact defOk_of (ps := ["_law_script"]) (c.def_ 17 (d := d_law) rfl) s_law (fun _ _ _ _ _ _ us hl => match us, hl with | [_], _ => rfl) c_law
  | n + 18, _, h => by cases h
def subL : List (List Bool) := [[true, false, false], [true, true, false], [true, true, true]]
def sub : Nat → Nat → Option Bool := subT subL
def exK (K : PySem.W.Frag) : Bool := whr.exB subL.length sub K
noncomputable abbrev phi0 : Phi := phi dfs ini sub 14
def lawNo : Nat := 17
theorem chk_ok : whr.chk tab ini dfs.length = true := by decide +kernel
abbrev R : PySem.W.OpenRow := PySem.W.OpenLaw.row PySem.Challenge.rw_kindsure_k03_where_two_meet
abbrev hk : PySem.W.Hook := He.hookX 4 fac fn [] [] exK
def ob (s : PySem.W.SharedT) : He.AlX := He.obsX 4 fac fn [] [] exK (HandSHeadRun.getT s)
theorem ob_eq (s : PySem.W.SharedT) : ob s = hk.obs s.abs := He.obsX_eq (HandSHeadRun.getT_eq s)
def names : List Str := (["KindError", "Pair", "Unlike", "Unsure", "_law_cell_at", "_law_fits", "_law_kind_by", "_law_loosened", "_law_met", "_law_mixed", "_law_name_by", "_law_next", "_law_told", "_law_wide", "all_pairs", "make_of", "meeting", "met_of", "pairs_within", "parts_of"] : List Str)
theorem run (w : World) : HandSHeadRun.RunEq R (PySem.W.view R.prog [23]) hk ob 3000 names w := by
  intro os
  kernel_rfl
/-- the law by its reckoning -/
theorem holds_of (hph : ∀ ns : List Int, ns.length ≤ 63 → (∀ z ∈ ns, Builtin.Int.intBits z ≤ 1048576) → ∃ S, phi0.call lawNo [.lst (ns.map D.int)] [] = .ok (.bl true) S) : PySem.Challenge.rw_kindsure_k03_where_two_meet.Holds := by
  open PySem.W PySem.Calls in
  w_on; o_law
  refine HandSHeadRun.head_any (r := PySem.W.OpenLaw.row PySem.Challenge.rw_kindsure_k03_where_two_meet) (q := PySem.W.view (PySem.W.OpenLaw.row PySem.Challenge.rw_kindsure_k03_where_two_meet).prog [23]) (H := hk) (ob := ob) (M := 3000) (loose := names) (d := HandSHeadRun.topDef (PySem.W.OpenLaw.row PySem.Challenge.rw_kindsure_k03_where_two_meet).prog 23) (kwd := []) ob_eq
    (by kernel_rfl) (fun s => by kernel_rfl) run (by kernel_rfl) (by kernel_rfl) (by kernel_rfl) (by rfl) (by first | assumption | decide +kernel) (by decide +kernel) ⟨rfl, rfl, rfl, rfl, rfl, by decide +kernel⟩ ?hw ?hc
  case hw => w_witness2
  case hc =>
    refine walk_ofG (l := PySem.Challenge.rw_kindsure_k03_where_two_meet) (n := 63) (k := 2 * 14) rfl (by decide) (by kernel_rfl) ⟨rfl, by decide, by decide⟩ (by kernel_rfl) ?_
    intro w mg fa h Y G hmg0
    obtain ⟨K, KX, c0⟩ := Y
    have c : He.SaysD fac fn K := saysD_of c0.t
    have hmg : mg ("law" : PySem.Str) = some (.ref fa) := by
      have e : (HandSHeadRun.topDef (PySem.W.OpenLaw.row PySem.Challenge.rw_kindsure_k03_where_two_meet).prog 23).name = ("law" : PySem.Str) := by kernel_rfl
      rw [← e]
      exact hmg0
    have e := hmg.symm.trans (He.glo_ok KX G (c.facts (f := .glo "law") (by decide)))
    cases e
    refine ⟨K, whr.gc K, phi0, lawNo, KX, rfl, rfl, hph, fun base KB GB hmm => ?_⟩
    obtain ⟨mm, o, es, ep, q1, q2, _⟩ := hmm
    exact all_fn (P := PySem.Challenge.pw_kindsure_k03_where_two_meet) (w := w) (base := base) ⟨o, es, ep, q1, q2⟩ (Where.mod chk_ok KX G c (subOk_of (by decide) c0.more)) (defs_ok c) 14 lawNo (by decide)
end K03

namespace K03
open PySem PySem.Spec L2 Pi
noncomputable abbrev ph (n : Nat) : Phi := phi dfs ini sub n
theorem call_at {n i : Nat} {d : DF} (h : dfs[i]? = some d) {ds : List D} (hl : ds.length = d.ps) (S : Sto) : (ph (n + 1)).call i ds S = (exL (ph n) d.body (ds.map (fun d => some (.v d)) ++ List.replicate (d.ns - d.ps) none) S).out := by
  show (match dfs[i]? with | some d => runF (ph n) d ds S | none => .bad) = _
  rw [h]
  exact runF_of hl
def nxt (s : Int) : Int := (s * 48271 + 11).fmod 2147483647
theorem next_ok (n : Nat) (s : Int) (S : Sto) : (ph (n + 1)).call 8 [.int s] S = .ok (.int (nxt s)) S := by
  rw [call_at rfl rfl]
  simp [b__law_next, exL_cons, exL_nil, ex, ev, bnd_ok, st_ok, lift_some, lift_ite, rd, look, o2D, frzR, nxt, then_rt, out_rt, frz_v]
def cellAt (ns : List Int) (k : Nat) : Int := ns.getD k 0
theorem cell_ok (n : Nat) (ns : List Int) (k : Nat) (S : Sto) : (ph (n + 1)).call 7 [.lst (ns.map D.int), .int k] S = .ok (.int (cellAt ns k)) S := by
  rw [call_at rfl rfl]
  by_cases h : k < ns.length
  · simp [b__law_cell_at, exL_cons, exL_nil, ex, ev, evT, bnd_ok, st_ok, lift_some, lift_ite, rd, look, o2D, frzR, frz_v, cmD, biD, lenD, subD, truD, then_rt, then_nx, out_rt, h, ixd_nat, cellAt]
  · simp [b__law_cell_at, exL_cons, exL_nil, ex, ev, evT, bnd_ok, st_ok, lift_some, lift_ite, rd, look, o2D, frzR, frz_v, cmD, biD, lenD, subD, truD, then_rt, then_nx, out_rt, h, ixd_nat, cellAt]
theorem make_of_str (n : Nat) (x : Str) (S : Sto) : (ph (n + 1)).call 1 [.str x] S = .ok (.str x) S := by
  rw [call_at rfl rfl]
  simp [b_make_of, exL_cons, exL_nil, ex, ev, evT, bnd_ok, st_ok, lift_some, lift_ite, rd, look, frzR, frz_v, isiD, tyD, truD, then_rt, then_nx, out_rt]
theorem make_of_tup (n : Nat) (x : Str) (d : D) (S : Sto) : (ph (n + 1)).call 1 [.tup [.str x, d]] S = .ok (.str x) S := by
  rw [call_at rfl rfl]
  simp [b_make_of, exL_cons, exL_nil, ex, ev, evT, bnd_ok, st_ok, lift_some, lift_ite, rd, look, frzR, frz_v, isiD, tyD, truD, then_rt, then_nx, out_rt, subD, ixd]
theorem parts_of_str (n : Nat) (x : Str) (S : Sto) : (ph (n + 1)).call 2 [.str x] S = .ok (.dic []) S := by
  rw [call_at rfl rfl]
  simp [b_parts_of, exL_cons, exL_nil, ex, ev, evT, evD, bnd_ok, st_ok, lift_some, lift_ite, rd, look, frzR, frz_v, isiD, tyD, truD, then_rt, then_nx, out_rt]
theorem parts_of_tup (n : Nat) (x : D) (d : D) (S : Sto) : (ph (n + 1)).call 2 [.tup [x, d]] S = .ok d S := by
  rw [call_at rfl rfl]
  simp [b_parts_of, exL_cons, exL_nil, ex, ev, evT, evD, bnd_ok, st_ok, lift_some, lift_ite, rd, look, frzR, frz_v, isiD, tyD, truD, then_rt, then_nx, out_rt, subD, ixd]
/-- kinds -/
inductive Kd where
  | num | truth | rcd (fs : List (Str × Kd)) | cho (fs : List (Str × Kd))
mutual
def kd : Kd → D
  | .num => .str "num"
  | .truth => .str "truth"
  | .rcd fs => .tup [.str "record", .dic (kdL fs)]
  | .cho fs => .tup [.str "choice", .dic (kdL fs)]
def kdL : List (Str × Kd) → List (Str × D)
  | [] => []
  | p :: r => (p.1, kd p.2) :: kdL r
end
theorem kdL_map : ∀ fs : List (Str × Kd), kdL fs = fs.map fun p => (p.1, kd p.2)
  | [] => by simp only [kdL, List.map_nil]
  | p :: r => by simp only [kdL, kdL_map r, List.map_cons]
theorem dget_map {α : Type} (f : α → D) : ∀ (fs : List (Str × α)) (x : Str), dget (fs.map fun p => (p.1, f p.2)) x = (fs.find? fun p => decide (p.1 = x)).map fun p => f p.2
  | [], _ => rfl
  | p :: r, x => by
    have ih := dget_map f r x
    unfold dget at ih ⊢
    rw [List.map_cons, List.find?_cons, List.find?_cons]
    by_cases h : p.1 = x
    · simp [h]
    · simp only [h, decide_false]
      exact ih
def lookK (fs : List (Str × Kd)) (x : Str) : Option Kd := (fs.find? fun p => decide (p.1 = x)).map (·.2)
theorem dget_kdL (fs : List (Str × Kd)) (x : Str) : dget (kdL fs) x = (lookK fs x).map kd := by
  rw [kdL_map, dget_map]
  unfold lookK
  rw [Option.map_map]
  rfl
def Apart (fs : List (Str × Kd)) : Prop := (fs.map (·.1)).Nodup
theorem find_apart {α : Type} {fs : List (Str × α)} {p : Str × α} (h : (fs.map (·.1)).Nodup) (hp : p ∈ fs) : (fs.find? fun q => decide (q.1 = p.1)) = some p := by
  induction fs with
  | nil => cases hp
  | cons q r ih =>
    rw [List.map_cons, List.nodup_cons] at h
    rw [List.find?_cons]
    rcases List.mem_cons.mp hp with rfl | hp
    · simp
    · have : q.1 ≠ p.1 := fun e => h.1 (e ▸ List.mem_map_of_mem hp)
      simp only [this, decide_false]
      exact ih h.2 hp
theorem lookK_of {fs : List (Str × Kd)} {p : Str × Kd} (h : Apart fs) (hp : p ∈ fs) : lookK fs p.1 = some p.2 := by
  unfold lookK
  rw [find_apart h hp]
  rfl
/-- a kind as it is drawn: names apart, not too many -/
inductive Kok : Kd → Prop
  | num : Kok .num
  | truth : Kok .truth
  | rcd (fs : List (Str × Kd)) : Apart fs → fs.length ≤ sizeLine → (∀ p ∈ fs, Kok p.2) → Kok (.rcd fs)
  | cho (fs : List (Str × Kd)) : Apart fs → fs.length ≤ sizeLine → (∀ p ∈ fs, Kok p.2) → Kok (.cho fs)
theorem w_num_truth : (Str.ofString "num" = Str.ofString "truth") = False := eq_false (by decide)
theorem w_num_record : (Str.ofString "num" = Str.ofString "record") = False := eq_false (by decide)
theorem w_num_choice : (Str.ofString "num" = Str.ofString "choice") = False := eq_false (by decide)
theorem w_truth_num : (Str.ofString "truth" = Str.ofString "num") = False := eq_false (by decide)
theorem w_truth_record : (Str.ofString "truth" = Str.ofString "record") = False := eq_false (by decide)
theorem w_truth_choice : (Str.ofString "truth" = Str.ofString "choice") = False := eq_false (by decide)
theorem w_record_num : (Str.ofString "record" = Str.ofString "num") = False := eq_false (by decide)
theorem w_record_truth : (Str.ofString "record" = Str.ofString "truth") = False := eq_false (by decide)
theorem w_record_choice : (Str.ofString "record" = Str.ofString "choice") = False := eq_false (by decide)
theorem w_choice_num : (Str.ofString "choice" = Str.ofString "num") = False := eq_false (by decide)
theorem w_choice_truth : (Str.ofString "choice" = Str.ofString "truth") = False := eq_false (by decide)
theorem w_choice_record : (Str.ofString "choice" = Str.ofString "record") = False := eq_false (by decide)
mutual
def sz : Kd → Nat
  | .num => 1
  | .truth => 1
  | .rcd fs => szL fs + 1
  | .cho fs => szL fs + 1
def szL : List (Str × Kd) → Nat
  | [] => 0
  | p :: r => sz p.2 + szL r
end
theorem sz_pos (k : Kd) : 1 ≤ sz k := by cases k <;> simp [sz]
theorem sz_look : ∀ {fs : List (Str × Kd)} {x : Str} {k : Kd}, lookK fs x = some k → sz k ≤ szL fs ∧ ∃ p ∈ fs, p.2 = k
  | [], x, k, h => by simp [lookK] at h
  | p :: r, x, k, h => by
    unfold lookK at h
    rw [List.find?_cons] at h
    by_cases e : p.1 = x
    · simp [e] at h
      subst h
      exact ⟨by rw [szL]; omega, p, List.mem_cons_self, rfl⟩
    · simp only [e, decide_false] at h
      obtain ⟨h1, q, h2, h3⟩ := sz_look (fs := r) (x := x) (k := k) h
      exact ⟨by rw [szL]; omega, q, List.mem_cons_of_mem _ h2, h3⟩
theorem dget_mem {kvs : List (Str × D)} {x : Str} {d : D} (h : dget kvs x = some d) : ∃ p ∈ kvs, p.2 = d := by
  unfold dget at h
  rw [Option.map_eq_some_iff] at h
  obtain ⟨p, h1, h2⟩ := h
  exact ⟨p, List.mem_of_find?_eq_some h1, h2⟩
mutual
def dep : Kd → Nat
  | .num => 0
  | .truth => 0
  | .rcd fs => depL fs + 1
  | .cho fs => depL fs + 1
def depL : List (Str × Kd) → Nat
  | [] => 0
  | p :: r => max (dep p.2) (depL r)
end
theorem dep_mem : ∀ {fs : List (Str × Kd)} {p : Str × Kd}, p ∈ fs → dep p.2 ≤ depL fs
  | q :: r, p, h => by
    rw [depL]
    rcases List.mem_cons.mp h with rfl | h
    · exact Nat.le_max_left _ _
    · exact Nat.le_trans (dep_mem h) (Nat.le_max_right _ _)
/-- a loop that may end early: a test of each item -/
theorem forS_ret {f : D → Rho → Sto → SO} {S : Sto} (I : Rho → Prop) (q : D → Bool) : ∀ {xs : List D}, (∀ x ∈ xs, ∀ r, I r → (q x = true → ∃ r', f x r S = .nx r' S ∧ I r') ∧ (q x = false → f x r S = .rt (.bl false) S)) →
    ∀ r, I r → ∃ r', forS f xs r S = (if xs.all q = true then .nx r' S else .rt (.bl false) S) ∧ I r'
  | [], _, r, hr => ⟨r, rfl, hr⟩
  | x :: xs, h, r, hr => by
    obtain ⟨h1, h2⟩ := h x List.mem_cons_self r hr
    cases hq : q x with
    | true =>
      obtain ⟨r1, e1, i1⟩ := h1 hq
      obtain ⟨r2, e2, i2⟩ := forS_ret I q (fun y hy => h y (List.mem_cons_of_mem _ hy)) r1 i1
      refine ⟨r2, ?_, i2⟩
      rw [forS, e1]
      simp only [List.all_cons, hq, Bool.true_and]
      exact e2
    | false =>
      refine ⟨r, ?_, hr⟩
      rw [forS, h2 hq]
      simp [hq]
end K03

namespace K03
open PySem PySem.Spec L2 Pi
/-! ### names -/
theorem sub_str {x : Str} {i : Int} (hx : x.length ≤ sizeLine) (h0 : 0 ≤ i) (h : i < (x.cps.toList.length : Nat)) : ∃ c, subD (.str x) (.int i) = some (.str ⟨#[c]⟩) := by
  have hl : i.toNat < x.cps.toList.length := by omega
  refine ⟨x.cps.toList[i.toNat], ?_⟩
  simp only [subD, if_pos hx, ixd_int h0 h, Option.bind_some, List.getElem?_eq_getElem hl, Option.map_some]
theorem abc_len : ("mnbvcxzlkjhgfdsapoiuytrewq" : Str).cps.toList.length = 26 := by decide
theorem abc_sub (i : Int) : ∃ c, subD (.str "mnbvcxzlkjhgfdsapoiuytrewq") (.int (i.fmod 26)) = some (.str ⟨#[c]⟩) := by
  refine sub_str (by decide) (Int.fmod_nonneg_of_pos _ (by decide)) ?_
  rw [abc_len]
  exact Int.fmod_lt_of_pos _ (by decide)
theorem over_at : ∀ k : Fin 8, (Txt.slice ("overmany" : Str) none (some ((k.val : Nat) : Int))).length + 1 + (Txt.slice ("overmany" : Str) (some ((k.val : Nat) + 1 : Int)) none).length ≤ 8 := by decide
theorem one_len (c : Nat) : (⟨#[c]⟩ : Str).length = 1 := rfl
def lb11 : SL := (.cons (.app 3 (.sub (.var 1) (.bin .mod (.bin .fdiv (.var 0) (.int (120))) (.int (26)))))
 (.cons (.asg (.nm 0) (.call 8 (.cons (.bin .add (.var 0) (.var 4)) .nil)))
 .nil))
theorem rngD_len (i : Int) (n : Nat) : (rngD i n).length = n := by simp [rngD]
theorem rngD_get (i : Int) (n k : Nat) (d : D) (h : (rngD i n)[k]? = some d) : d = .int (i + k) := by
  have hk : k < n := by
    have := (List.getElem?_eq_some_iff.mp h).1
    rwa [rngD_len] at this
  simp only [rngD, List.getElem?_map, List.getElem?_range hk, Option.map_some, Option.some.injEq] at h
  exact h.symm
theorem abc_sub2 (i : Int) : ∃ c, c < 16 ^ 8 ∧ subD (.str "mnbvcxzlkjhgfdsapoiuytrewq") (.int (i.fmod 26)) = some (.str ⟨#[c]⟩) := by
  have h0 : 0 ≤ i.fmod 26 := Int.fmod_nonneg_of_pos _ (by decide)
  have h1 : i.fmod 26 < 26 := Int.fmod_lt_of_pos _ (by decide)
  have all : ∀ c ∈ ("mnbvcxzlkjhgfdsapoiuytrewq" : Str).cps.toList, c < 16 ^ 8 := by decide
  have hl : (i.fmod 26).toNat < ("mnbvcxzlkjhgfdsapoiuytrewq" : Str).cps.toList.length := by rw [abc_len]; omega
  refine ⟨("mnbvcxzlkjhgfdsapoiuytrewq" : Str).cps.toList[(i.fmod 26).toNat], all _ (List.getElem_mem hl), ?_⟩
  have hi : i.fmod 26 < (("mnbvcxzlkjhgfdsapoiuytrewq" : Str).cps.toList.length : Nat) := by rw [abc_len]; exact h1
  simp only [subD, if_pos (by decide : ("mnbvcxzlkjhgfdsapoiuytrewq" : Str).length ≤ sizeLine), ixd_int h0 hi, Option.bind_some, List.getElem?_eq_getElem hl, Option.map_some]
/-- the letters' loop -/
theorem letters (n : Nat) (sz : Nat) (hsz : sz ≤ 12) (s : Int) (o : Option Sl) (S : Sto) : ∃ r' s' ls o', forS (forB (ph (n + 1)) (.nm 4) lb11) (rngD 0 sz) [some (.v (.int s)), some (.v (.str "mnbvcxzlkjhgfdsapoiuytrewq")), some (.v (.int sz)), some (.ol []), o, none] S = .nx r' S ∧
    r' = [some (.v (.int s')), some (.v (.str "mnbvcxzlkjhgfdsapoiuytrewq")), some (.v (.int sz)), some (.ol ls), o', none] ∧ ls.length = sz ∧ ∃ cs : List Nat, (∀ c ∈ cs, c < 16 ^ 8) ∧ ls = cs.map fun c => D.str ⟨#[c]⟩ := by
  obtain ⟨r', S', e, hI⟩ := forS_inv (f := forB (ph (n + 1)) (.nm 4) lb11) (xs := rngD 0 sz) (fun k r S' => S' = S ∧ ∃ s' ls o', r = [some (.v (.int s')), some (.v (.str "mnbvcxzlkjhgfdsapoiuytrewq")), some (.v (.int sz)), some (.ol ls), o', none] ∧ ls.length = k ∧ ∃ cs : List Nat, (∀ c ∈ cs, c < 16 ^ 8) ∧ ls = cs.map fun c => D.str ⟨#[c]⟩) (by
    rintro i x r S1 hx ⟨rfl, s', ls, o', rfl, hl, cs, hcs, rfl⟩
    have hi : i < sz := by
      have := (List.getElem?_eq_some_iff.mp hx).1
      rwa [rngD_len] at this
    have ex := rngD_get _ _ _ _ hx
    subst ex
    obtain ⟨c, hc, ec⟩ := abc_sub2 (s'.fdiv 120)
    have hb : (List.map (fun c => D.str ⟨#[c]⟩) cs).length < sizeLine := by rw [hl]; exact Nat.lt_of_lt_of_le (by omega : i < 13) (by decide)
    have hb2 : cs.length < sizeLine := by simpa using hb
    refine ⟨[some (.v (.int (nxt (s' + (0 + (i : Nat)))))), some (.v (.str "mnbvcxzlkjhgfdsapoiuytrewq")), some (.v (.int sz)), some (.ol ((cs ++ [c]).map fun c => D.str ⟨#[c]⟩)), some (.v (.int (0 + (i : Nat)))), none], S1, ?_, rfl, _, _, _, rfl, ?_, cs ++ [c], fun d hd => by rcases List.mem_append.mp hd with hd | hd; exact hcs d hd; rw [List.mem_singleton] at hd; exact hd ▸ hc, rfl⟩
    · simp [forB, lb11, bindT, exL_cons, exL_nil, ex, ev, evL, rd, look, o2D, bnd_ok, st_ok, lift_some, then_nx, ec, hb2, setR, ofO_some, next_ok, D.slot, E.isNew]
    · simpa using hl) 0 (Nat.zero_le _) ⟨rfl, s, [], o, rfl, rfl, [], fun _ h => (nomatch h), rfl⟩
  obtain ⟨rfl, s', ls, o', rfl, hl, hc⟩ := hI
  rw [rngD_len] at hl
  exact ⟨_, s', ls, o', by simpa using e, rfl, hl, hc⟩
/-- a name: not too long, of small signs -/
structure Nam (x : Str) : Prop where
  len : x.length ≤ 12
  cps : ∀ c ∈ x.cps.toList, c < 16 ^ 8
theorem Nam.app {x y : Str} (h : x.length + y.length ≤ 12) (hx : ∀ c ∈ x.cps.toList, c < 16 ^ 8) (hy : ∀ c ∈ y.cps.toList, c < 16 ^ 8) : Nam (x ++ y) := by
  refine ⟨by rw [Str.length_append]; exact h, fun c hc => ?_⟩
  rw [Str.cps_append, Array.toList_append, List.mem_append] at hc
  rcases hc with hc | hc
  · exact hx c hc
  · exact hy c hc
theorem over_cps : ∀ k : Fin 8, (∀ c ∈ (Txt.slice ("overmany" : Str) none (some ((k.val : Nat) : Int))).cps.toList, c < 16 ^ 8) ∧ (∀ c ∈ (Txt.slice ("overmany" : Str) (some ((k.val : Nat) + 1 : Int)) none).cps.toList, c < 16 ^ 8) := by decide
theorem name_a (n : Nat) (s : Int) (S : Sto) (h : (s.fdiv 11).fmod 4 = 0) : ∃ x, Nam x ∧ (ph (n + 1)).call 9 [.int s] S = .ok (.str x) S := by
  have h0 : 0 ≤ (s.fdiv 44).fmod 8 := Int.fmod_nonneg_of_pos _ (by decide)
  have h1 : (s.fdiv 44).fmod 8 < 8 := Int.fmod_lt_of_pos _ (by decide)
  obtain ⟨k, hk⟩ : ∃ k : Fin 8, (s.fdiv 44).fmod 8 = ((k.val : Nat) : Int) := ⟨⟨((s.fdiv 44).fmod 8).toNat, by omega⟩, by show _ = ((((s.fdiv 44).fmod 8).toNat : Nat) : Int); omega⟩
  obtain ⟨c, hc, ec⟩ := abc_sub2 (s.fdiv 352)
  have ho := over_at k
  obtain ⟨o1, o2⟩ := over_cps k
  generalize hA : Txt.slice ("overmany" : Str) none (some ((k.val : Nat) : Int)) = A at *
  generalize hB : Txt.slice ("overmany" : Str) (some ((k.val : Nat) + 1 : Int)) none = B at *
  have big : 12 ≤ sizeLine := by decide
  have l1 : A.length + 1 ≤ sizeLine := by omega
  have l2 : (A ++ (⟨#[c]⟩ : Str)).length + B.length ≤ sizeLine := by rw [Str.length_append, one_len]; omega
  have hov : ("overmany" : Str).length ≤ sizeLine := by decide
  refine ⟨A ++ (⟨#[c]⟩ : Str) ++ B, Nam.app (by rw [Str.length_append, one_len]; omega) (fun d hd => ?_) o2, ?_⟩
  · rw [Str.cps_append, Array.toList_append, List.mem_append] at hd
    rcases hd with hd | hd
    · exact o1 d hd
    · have : d = c := by simpa using hd
      rw [this]; exact hc
  · rw [call_at rfl rfl]
    simp [b__law_name_by, exL_cons, exL_nil, ex, ev, evT, bnd_ok, st_ok, lift_some, rd, look, frzR, frz_v, truD, then_rt, then_nx, out_rt, o2D, cmD, eqq, D.deep, eqd, h, hk, D.slot, E.isNew, setR, ofO_some, partO, intO, sliceD, hov, hA, hB, ec, one_len, l1, l2]
def st11 : Pi.S := .frz [2] (.for (.nm 4) (.rng (.var 2)) lb11)
theorem b11 : b__law_name_by = (.cons (.asg (.nm 1) (.str "mnbvcxzlkjhgfdsapoiuytrewq"))
 (.cons (.ite (.e (.cmp .eq (.bin .mod (.bin .fdiv (.var 0) (.int (11))) (.int (4))) (.int (0))))
 (.cons (.asg (.nm 5) (.bin .mod (.bin .fdiv (.var 0) (.int (44))) (.int (8))))
 (.cons (.frz [5] (.ret (.bin .add (.bin .add (.slice (.str "overmany") .non (.var 5)) (.sub (.var 1) (.bin .mod (.bin .fdiv (.var 0) (.int (352))) (.int (26))))) (.slice (.str "overmany") (.bin .add (.var 5) (.int (1))) .non))))
 .nil))
 .nil)
 (.cons (.asg (.nm 2) (.bin .add (.int (1)) (.bin .mod (.var 0) (.int (2)))))
 (.cons (.ite (.e (.cmp .eq (.bin .mod (.bin .fdiv (.var 0) (.int (2))) (.int (5))) (.int (0))))
 (.cons (.asg (.nm 2) (.bin .add (.int (1)) (.bin .mod (.bin .fdiv (.var 0) (.int (10))) (.int (12)))))
 .nil)
 .nil)
 (.cons (.asg (.nm 3) (.lst .nil))
 (.cons st11
 (.cons (.ret (.join "" (.var 3)))
 .nil))))))) := rfl
theorem strs_one : ∀ cs : List Nat, strsD (cs.map fun c => D.str ⟨#[c]⟩) = some (cs.map fun c => (⟨#[c]⟩ : Str))
  | [] => rfl
  | c :: r => by rw [List.map_cons, List.map_cons, strsD, strs_one r]; rfl
theorem sum_one : ∀ cs : List Nat, ((cs.map fun c => (⟨#[c]⟩ : Str)).map (·.length)).sum = cs.length
  | [] => rfl
  | c :: r => by
    have ih := sum_one r
    simp only [List.map_cons, List.sum_cons, List.length_cons, one_len] at ih ⊢
    rw [ih]
    omega
theorem join_cps : ∀ (l : List Str), (∀ y ∈ l, ∀ c ∈ y.cps.toList, c < 16 ^ 8) → ∀ c ∈ (Str.join "" l).cps.toList, c < 16 ^ 8
  | [], _, c, hc => by simp [Str.join, Str.empty] at hc
  | [x], h, c, hc => h x List.mem_cons_self c hc
  | x :: y :: r, h, c, hc => by
    have e : Str.join "" (x :: y :: r) = x ++ "" ++ Str.join "" (y :: r) := rfl
    rw [e, Str.cps_append, Array.toList_append, List.mem_append, Str.cps_append, Array.toList_append, List.mem_append] at hc
    rcases hc with (hc | hc) | hc
    · exact h x List.mem_cons_self c hc
    · have : c ∈ ([] : List Nat) := hc
      cases this
    · exact join_cps (y :: r) (fun z hz => h z (List.mem_cons_of_mem _ hz)) c hc
theorem join_nam (cs : List Nat) (hl : cs.length ≤ 12) (hc : ∀ c ∈ cs, c < 16 ^ 8) : Nam (Txt.join "" (cs.map fun c => (⟨#[c]⟩ : Str))) := by
  have e : Txt.join "" (cs.map fun c => (⟨#[c]⟩ : Str)) = Str.join "" (cs.map fun c => (⟨#[c]⟩ : Str)) := TL.join_eq _ _
  rw [e]
  refine ⟨?_, join_cps _ fun y hy d hd => ?_⟩
  · have := StrLaws.join_length_le "" (cs.map fun c => (⟨#[c]⟩ : Str))
    rw [sum_one] at this
    have e0 : ("" : Str).length = 0 := rfl
    rw [e0] at this
    omega
  · obtain ⟨c, hc', rfl⟩ := List.mem_map.mp hy
    have : d = c := by simpa using hd
    rw [this]
    exact hc c hc'
theorem join_ok (cs : List Nat) (hk : cs.length ≤ 12) : joinD "" (.lst (cs.map fun c => D.str ⟨#[c]⟩)) = some (.str (Txt.join "" (cs.map fun c => (⟨#[c]⟩ : Str)))) := by
  have hj : ((cs.map fun c => (⟨#[c]⟩ : Str)).map (·.length)).sum + (cs.map fun c => (⟨#[c]⟩ : Str)).length * ("" : Str).length ≤ 16777216 := by
    have e0 : ("" : Str).length = 0 := by decide
    rw [sum_one, e0, Nat.mul_zero, Nat.add_zero]
    exact Nat.le_trans hk (by decide)
  simp only [joinD, strs_one, Option.bind_some, if_pos hj]
theorem name_fin (n : Nat) (s s' : Int) (k : Nat) (hk : k ≤ 12) (S : Sto) (cs : List Nat) (hlc : cs.length = k) (o' : Option Sl) (e : forS (forB (ph (n + 1)) (.nm 4) lb11) (rngD 0 k) [some (.v (.int s)), some (.v (.str "mnbvcxzlkjhgfdsapoiuytrewq")), some (.v (.int k)), some (.ol []), none, none] S = .nx [some (.v (.int s')), some (.v (.str "mnbvcxzlkjhgfdsapoiuytrewq")), some (.v (.int k)), some (.ol (cs.map fun c => D.str ⟨#[c]⟩)), o', none] S) : (ex (ph (n + 1)) st11 [some (.v (.int s)), some (.v (.str "mnbvcxzlkjhgfdsapoiuytrewq")), some (.v (.int k)), some (.ol []), none, none] S).then (exL (ph (n + 1)) (.cons (.ret (.join "" (.var 3))) .nil)) = .rt (.str (Txt.join "" (cs.map fun c => (⟨#[c]⟩ : Str)))) S := by
  have hk6 : k ≤ 1000000 := by omega
  rw [st11, ex]
  simp only [frzR, List.getElem?_cons_zero, List.getElem?_cons_succ, List.set_cons_zero, List.set_cons_succ, frz_v]
  rw [ex_for, rng_ok _ k (fits_small k hk6) _ _ 2 rfl, st_ok, e]
  simp only [then_nx, exL_cons, ex, ev, rd, look, lift_some, bnd_ok, st_ok, List.getElem?_cons_zero, List.getElem?_cons_succ, join_ok cs (by omega), then_rt]
def tl11 : SL := .cons st11 (.cons (.ret (.join "" (.var 3))) .nil)
theorem b11t : b__law_name_by = (.cons (.asg (.nm 1) (.str "mnbvcxzlkjhgfdsapoiuytrewq"))
 (.cons (.ite (.e (.cmp .eq (.bin .mod (.bin .fdiv (.var 0) (.int (11))) (.int (4))) (.int (0))))
 (.cons (.asg (.nm 5) (.bin .mod (.bin .fdiv (.var 0) (.int (44))) (.int (8))))
 (.cons (.frz [5] (.ret (.bin .add (.bin .add (.slice (.str "overmany") .non (.var 5)) (.sub (.var 1) (.bin .mod (.bin .fdiv (.var 0) (.int (352))) (.int (26))))) (.slice (.str "overmany") (.bin .add (.var 5) (.int (1))) .non))))
 .nil))
 .nil)
 (.cons (.asg (.nm 2) (.bin .add (.int (1)) (.bin .mod (.var 0) (.int (2)))))
 (.cons (.ite (.e (.cmp .eq (.bin .mod (.bin .fdiv (.var 0) (.int (2))) (.int (5))) (.int (0))))
 (.cons (.asg (.nm 2) (.bin .add (.int (1)) (.bin .mod (.bin .fdiv (.var 0) (.int (10))) (.int (12)))))
 .nil)
 .nil)
 (.cons (.asg (.nm 3) (.lst .nil))
 tl11))))) := rfl
theorem name_fin2 {Φ : Phi} {r : Rho} {S : Sto} {o : SO} (h : (ex Φ st11 r S).then (exL Φ (.cons (.ret (.join "" (.var 3))) .nil)) = o) : exL Φ tl11 r S = o := by
  rw [tl11, exL_cons]
  exact h
theorem st11_a (Φ : Phi) (s : Int) (r : Rho) (S : Sto) (hr : r[0]? = some (some (.v (.int s)))) (h : ¬ (s.fdiv 11).fmod 4 = 0) (a : SL) : ex Φ (.ite (.e (.cmp .eq (.bin .mod (.bin .fdiv (.var 0) (.int (11))) (.int (4))) (.int (0)))) a .nil) r S = .nx r S := by
  simp [exL_cons, exL_nil, ex, ev, evT, evL, bnd_ok, st_ok, lift_some, rd, look, truD, then_rt, then_nx, out_rt, o2D, cmD, eqq, D.deep, eqd, h, hr]
theorem st11_b (Φ : Phi) (s : Int) (r : Rho) (S : Sto) (hr : r[0]? = some (some (.v (.int s)))) : ev Φ (.bin .add (.int (1)) (.bin .mod (.var 0) (.int (2)))) r S = .ok (.int (1 + s.fmod 2)) S := by
  simp [ev, bnd_ok, lift_some, rd, look, o2D, hr]
theorem st11_c (Φ : Phi) (s : Int) (r : Rho) (S : Sto) (hr : r[0]? = some (some (.v (.int s)))) : evT Φ (.e (.cmp .eq (.bin .mod (.bin .fdiv (.var 0) (.int (2))) (.int (5))) (.int (0)))) r S = .ok (decide ((s.fdiv 2).fmod 5 = 0)) S := by
  simp [ev, evT, bnd_ok, lift_some, rd, look, truD, o2D, cmD, eqq, D.deep, eqd, hr, BEq.beq]
theorem st11_d (Φ : Phi) (s : Int) (r : Rho) (S : Sto) (hr : r[0]? = some (some (.v (.int s)))) : ev Φ (.bin .add (.int (1)) (.bin .mod (.bin .fdiv (.var 0) (.int (10))) (.int (12)))) r S = .ok (.int (1 + (s.fdiv 10).fmod 12)) S := by
  simp [ev, bnd_ok, lift_some, rd, look, o2D, hr]
theorem st11_e (Φ : Phi) (s : Int) (r : Rho) (S : Sto) (hr : r[0]? = some (some (.v (.int s)))) (h2 : 2 < r.length) : ex Φ (.ite (.e (.cmp .eq (.bin .mod (.bin .fdiv (.var 0) (.int (2))) (.int (5))) (.int (0))))
 (.cons (.asg (.nm 2) (.bin .add (.int (1)) (.bin .mod (.bin .fdiv (.var 0) (.int (10))) (.int (12)))))
 .nil)
 .nil) (r.set 2 (some (.v (.int (1 + s.fmod 2))))) S = .nx (r.set 2 (some (.v (.int (if (s.fdiv 2).fmod 5 = 0 then 1 + (s.fdiv 10).fmod 12 else 1 + s.fmod 2))))) S := by
  have hr' : (r.set 2 (some (.v (.int (1 + s.fmod 2)))))[0]? = some (some (.v (.int s))) := by
    rw [List.getElem?_set_ne (by decide)]; exact hr
  rw [ex_if (st11_c Φ s _ S hr')]
  by_cases h5 : (s.fdiv 2).fmod 5 = 0
  · rw [if_pos (by simpa using h5), if_pos h5, stp (ex_asg (st11_d Φ s _ S hr') (by rw [List.length_set]; exact h2)), exL_nil, List.set_set]
    rfl
  · rw [if_neg (by simpa using h5), if_neg h5, exL_nil]
theorem name_b (n : Nat) (s : Int) (S : Sto) (h : ¬ (s.fdiv 11).fmod 4 = 0) : ∃ x, Nam x ∧ (ph (n + 2)).call 9 [.int s] S = .ok (.str x) S := by
  obtain ⟨k, hk, ek⟩ : ∃ k : Nat, k ≤ 12 ∧ (if (s.fdiv 2).fmod 5 = 0 then 1 + (s.fdiv 10).fmod 12 else 1 + s.fmod 2) = (k : Int) := by
    have a0 : 0 ≤ (s.fdiv 10).fmod 12 := Int.fmod_nonneg_of_pos _ (by decide)
    have a1 : (s.fdiv 10).fmod 12 < 12 := Int.fmod_lt_of_pos _ (by decide)
    have b0 : 0 ≤ s.fmod 2 := Int.fmod_nonneg_of_pos _ (by decide)
    have b1 : s.fmod 2 < 2 := Int.fmod_lt_of_pos _ (by decide)
    split
    · exact ⟨(1 + (s.fdiv 10).fmod 12).toNat, by omega, by omega⟩
    · exact ⟨(1 + s.fmod 2).toNat, by omega, by omega⟩
  obtain ⟨r', s', ls, o', e, rfl, hl, cs, hcs, rfl⟩ := letters n k hk s none S
  have hlc : cs.length = k := by simpa using hl
  refine ⟨_, join_nam cs (by omega) hcs, ?_⟩
  have fin := name_fin2 (name_fin n s s' k hk S cs hlc o' e)
  rw [call_at rfl rfl]
  have el : ev (ph (n + 1)) (.lst .nil) [some (.v (.int s)), some (.v (.str "mnbvcxzlkjhgfdsapoiuytrewq")), some (.v (.int k)), none, none, none] S = .ok (.lst []) S := by
    rw [ev, evL, bnd_ok]
    exact if_pos (Nat.zero_le _)
  refine Eq.trans (congrArg SO.out (?_ : exL (ph (n + 1)) b__law_name_by [some (.v (.int s)), none, none, none, none, none] S = _)) out_rt
  rw [b11t]
  refine (stp (ex_set (d := .str "mnbvcxzlkjhgfdsapoiuytrewq") (S' := S) (r' := [some (.v (.int s)), some (.v (.str "mnbvcxzlkjhgfdsapoiuytrewq")), none, none, none, none]) (by rw [ev]) rfl)).trans ?_
  refine (stp (st11_a _ s _ S rfl h _)).trans ?_
  refine (stp (ex_set (r' := [some (.v (.int s)), some (.v (.str "mnbvcxzlkjhgfdsapoiuytrewq")), some (.v (.int (1 + s.fmod 2))), none, none, none]) (st11_b _ s _ S rfl) rfl)).trans ?_
  have e5 := st11_e (ph (n + 1)) s [some (.v (.int s)), some (.v (.str "mnbvcxzlkjhgfdsapoiuytrewq")), none, none, none, none] S rfl (by simp)
  rw [ek] at e5
  refine (stp e5).trans ?_
  exact (stp (ex_set el rfl)).trans fin
theorem name_ok (n : Nat) (s : Int) (S : Sto) : ∃ x, Nam x ∧ (ph (n + 2)).call 9 [.int s] S = .ok (.str x) S := by
  by_cases h : (s.fdiv 11).fmod 4 = 0
  · exact name_a (n + 1) s S h
  · exact name_b n s S h
/-! ### kinds as drawn -/
/-- at most b parts, names -/
inductive Kg (b : Nat) : Kd → Prop
  | num : Kg b .num
  | truth : Kg b .truth
  | rcd (fs : List (Str × Kd)) : Apart fs → fs.length ≤ b → (∀ p ∈ fs, Nam p.1) → (∀ p ∈ fs, Kg b p.2) → Kg b (.rcd fs)
  | cho (fs : List (Str × Kd)) : Apart fs → fs.length ≤ b → fs ≠ [] → (∀ p ∈ fs, Nam p.1) → (∀ p ∈ fs, Kg b p.2) → Kg b (.cho fs)
theorem Kg.ok {b : Nat} (hb : b ≤ sizeLine) {k : Kd} (h : Kg b k) : Kok k := by
  induction h with
  | num => exact .num
  | truth => exact .truth
  | rcd fs h1 h2 _ h3 ih => exact .rcd fs h1 (Nat.le_trans h2 hb) fun p hp => ih p hp
  | cho fs h1 h2 _ h3 h4 ih => exact .cho fs h1 (Nat.le_trans h2 hb) fun p hp => ih p hp
def kput (fs : List (Str × Kd)) (x : Str) (k : Kd) : List (Str × Kd) :=
  if (fs.any fun p => decide (p.1 = x)) = true then fs.map (fun p => if p.1 = x then (p.1, k) else p) else fs ++ [(x, k)]
theorem dput_kdL (fs : List (Str × Kd)) (x : Str) (k : Kd) : dput (kdL fs) x (kd k) = kdL (kput fs x k) := by
  unfold dput kput
  have e : ((kdL fs).any fun p => decide (p.1 = x)) = (fs.any fun p => decide (p.1 = x)) := by
    rw [kdL_map, List.any_map]; rfl
  rw [e]
  split
  · rw [kdL_map, kdL_map, List.map_map, List.map_map]
    refine List.map_congr_left fun p hp => ?_
    by_cases h : p.1 = x <;> simp [h]
  · rw [kdL_map, kdL_map, List.map_append]
    rfl
theorem kput_keys (fs : List (Str × Kd)) (x : Str) (k : Kd) : (kput fs x k).map (·.1) = if (fs.any fun p => decide (p.1 = x)) = true then fs.map (·.1) else fs.map (·.1) ++ [x] := by
  unfold kput
  split
  · rw [List.map_map]
    refine List.map_congr_left fun p hp => ?_
    by_cases h : p.1 = x <;> simp [h]
  · rw [List.map_append]; rfl
theorem kput_apart {fs : List (Str × Kd)} {x : Str} {k : Kd} (h : Apart fs) : Apart (kput fs x k) := by
  unfold Apart at h ⊢
  rw [kput_keys]
  split
  · exact h
  · rename_i hn
    rw [List.nodup_append]
    refine ⟨h, by simp, ?_⟩
    intro a ha b hb
    rw [List.mem_singleton] at hb
    subst hb
    rintro rfl
    apply hn
    obtain ⟨p, hp, e⟩ := List.mem_map.mp ha
    rw [List.any_eq_true]
    exact ⟨p, hp, by simpa using e⟩
theorem kput_len (fs : List (Str × Kd)) (x : Str) (k : Kd) : (kput fs x k).length ≤ fs.length + 1 := by
  unfold kput
  split
  · rw [List.length_map]; omega
  · rw [List.length_append]; simp
theorem kput_ne (fs : List (Str × Kd)) (x : Str) (k : Kd) : kput fs x k ≠ [] := by
  unfold kput
  split
  · rename_i h
    intro e
    rw [List.map_eq_nil_iff] at e
    subst e
    simp at h
  · simp
theorem kput_all {P : Str × Kd → Prop} {fs : List (Str × Kd)} {x : Str} {k : Kd} (h : ∀ p ∈ fs, P p) (hx : P (x, k)) : ∀ p ∈ kput fs x k, P p := by
  unfold kput
  split
  · intro p hp
    obtain ⟨q, hq, rfl⟩ := List.mem_map.mp hp
    by_cases e : q.1 = x
    · simp only [e, if_true]; exact hx
    · simp only [e, if_false]; exact h q hq
  · intro p hp
    rcases List.mem_append.mp hp with hp | hp
    · exact h p hp
    · rw [List.mem_singleton] at hp
      subst hp
      exact hx
def lb12 : SL := (.cons (.asg (.nm 0) (.call 8 (.cons (.bin .add (.var 0) (.var 4)) .nil)))
 (.cons (.frz [0] (.setk 3 (.call 9 (.cons (.bin .fdiv (.var 0) (.int (3))) .nil)) (.call 10 (.cons (.var 0) (.cons (.bin .sub (.var 1) (.int (1))) .nil)))))
 .nil))
/-- one turn -/
theorem turn12 (n m : Nat) (s i pk : Int) (fs : List (Str × Kd)) (o : Option Sl) (S : Sto) (hl : fs.length < sizeLine) (k : Kd) (x : Str) (hx : (ph (n + 2)).call 9 [.int ((nxt (s + i)).fdiv 3)] S = .ok (.str x) S) (hk : (ph (n + 2)).call 10 [.int (nxt (s + i)), .int m] S = .ok (kd k) S) :
    forB (ph (n + 2)) (.nm 4) lb12 (.int i) [some (.v (.int s)), some (.v (.int (m + 1 : Nat))), some (.v (.int pk)), some (.od (kdL fs)), o] S =
      .nx [some (.v (.int (nxt (s + i)))), some (.v (.int (m + 1 : Nat))), some (.v (.int pk)), some (.od (kdL (kput fs x k))), some (.v (.int i))] S := by
  have hm : ((m + 1 : Nat) : Int) - 1 = m := by omega
  have hlk : (kdL fs).length < sizeLine := by rw [kdL_map, List.length_map]; exact hl
  show exL (ph (n + 2)) lb12 [some (.v (.int s)), some (.v (.int (m + 1 : Nat))), some (.v (.int pk)), some (.od (kdL fs)), some (.v (.int i))] S = _
  unfold lb12
  refine (stp (ex_set (d := .int (nxt (s + i))) (S' := S) (r' := [some (.v (.int (nxt (s + i)))), some (.v (.int (m + 1 : Nat))), some (.v (.int pk)), some (.od (kdL fs)), some (.v (.int i))]) ?_ rfl)).trans ?_
  · simp [ev, evL, rd, look, o2D, bnd_ok, lift_some, next_ok]
  refine (stp (ex_frz.trans (ex_setk (d := kd k) (S' := S) (S'' := S) (i := 3) (kvs := kdL fs) (x := x) ?_ rfl ?_ hlk))).trans ?_
  · simp [ev, evL, rd, look, o2D, bnd_ok, lift_some, frzR, frz_v]
    exact hk
  · simp [ev, evL, rd, look, o2D, bnd_ok, lift_some, frzR, frz_v]
    exact hx
  · rw [exL_nil, dput_kdL]
    rfl
/-- what the loop keeps -/
structure Fs (b m j : Nat) (fs : List (Str × Kd)) : Prop where
  ap : Apart fs
  len : fs.length ≤ j
  nam : ∀ p ∈ fs, Nam p.1
  kg : ∀ p ∈ fs, Kg b p.2
  dp : ∀ p ∈ fs, dep p.2 ≤ m
  ne : 0 < j → fs ≠ []
theorem Fs.nil {b m : Nat} : Fs b m 0 [] := ⟨List.nodup_nil, Nat.le_refl _, (fun _ h => nomatch h), (fun _ h => nomatch h), (fun _ h => nomatch h), fun h => absurd h (Nat.lt_irrefl 0)⟩
theorem Fs.put {b m j : Nat} {fs : List (Str × Kd)} (h : Fs b m j fs) {x : Str} {k : Kd} (hx : Nam x) (hk : Kg b k) (hd : dep k ≤ m) : Fs b m (j + 1) (kput fs x k) :=
  ⟨kput_apart h.ap, Nat.le_trans (kput_len _ _ _) (Nat.succ_le_succ h.len), kput_all (P := fun p => Nam p.1) h.nam hx, kput_all (P := fun p => Kg b p.2) h.kg hk, kput_all (P := fun p => dep p.2 ≤ m) h.dp hd, fun _ => kput_ne _ _ _⟩
theorem loop12 (n m b : Nat) (S : Sto) (pk : Int) (c : Nat) (hc : c ≤ 60) (ih : ∀ s : Int, ∃ k, Kg b k ∧ dep k ≤ m ∧ (ph (n + 2)).call 10 [.int s, .int m] S = .ok (kd k) S) (s : Int) (o : Option Sl) :
    ∃ r' fs, forS (forB (ph (n + 2)) (.nm 4) lb12) (rngD 0 c) [some (.v (.int s)), some (.v (.int (m + 1 : Nat))), some (.v (.int pk)), some (.od (kdL [])), o] S = .nx r' S ∧ Fs b m c fs ∧
      ∃ s' o', r' = [some (.v (.int s')), some (.v (.int (m + 1 : Nat))), some (.v (.int pk)), some (.od (kdL fs)), o'] := by
  have big : 61 ≤ sizeLine := by decide
  obtain ⟨r', S', e, hI⟩ := forS_inv (f := forB (ph (n + 2)) (.nm 4) lb12) (xs := rngD 0 c) (fun j r S' => S' = S ∧ ∃ fs, Fs b m j fs ∧ ∃ s' o', r = [some (.v (.int s')), some (.v (.int (m + 1 : Nat))), some (.v (.int pk)), some (.od (kdL fs)), o']) (by
    rintro i x r S1 hx ⟨rfl, fs, hf, s', o', rfl⟩
    have hi : i < c := by
      have := (List.getElem?_eq_some_iff.mp hx).1
      rwa [rngD_len] at this
    have ex := rngD_get _ _ _ _ hx
    subst ex
    obtain ⟨y, hy, ey⟩ := name_ok n ((nxt (s' + (0 + (i : Nat)))).fdiv 3) S1
    obtain ⟨k, hk, hd, ek⟩ := ih (nxt (s' + (0 + (i : Nat))))
    exact ⟨_, _, turn12 n m s' _ pk fs o' S1 (by have := hf.len; omega) k y ey ek, rfl, _, hf.put hy hk hd, _, _, rfl⟩) 0 (Nat.zero_le _) ⟨rfl, [], Fs.nil, s, o, rfl⟩
  obtain ⟨rfl, fs, hf, s', o', rfl⟩ := hI
  rw [rngD_len] at hf
  exact ⟨_, fs, by simpa using e, hf, s', o', rfl⟩
def lo12 : Pi.S := .for (.nm 4) (.rng (.bin .sub (.bin .add (.bin .mod (.bin .fdiv (.var 0) (.int (29))) (.int (4))) (.var 2)) (.int (2)))) lb12
def re12 : Pi.S := .frz [3] (.ret (.tup (.cons (.sub (.lst (.cons (.str "record") (.cons (.str "choice") .nil))) (.bin .sub (.var 2) (.int (2)))) (.cons (.var 3) .nil))))
theorem b12 : b__law_kind_by = (.cons (.frz [0] (.asg (.nm 0) (.call 8 (.cons (.var 0) .nil))))
 (.cons (.asg (.nm 2) (.bin .mod (.bin .fdiv (.var 0) (.int (7))) (.int (4))))
 (.cons (.ite (.or (.e (.cmp .eq (.var 1) (.int (0)))) (.e (.cmp .lt (.var 2) (.int (2)))))
 (.cons (.ret (.sub (.lst (.cons (.str "num") (.cons (.str "truth") .nil))) (.bin .mod (.var 2) (.int (2)))))
 .nil)
 .nil)
 (.cons (.asg (.nm 3) (.dct .nil))
 (.cons lo12 (.cons re12 .nil)))))) := rfl
theorem two_of (a b : D) (S : Sto) (Φ : Phi) (i : E) (r : Rho) (v : Int) (hi : ev Φ i r S = .ok (.int v) S) (ea eb : E) (ha : ev Φ ea r S = .ok a S) (hb : ev Φ eb r S = .ok b S) (h0 : 0 ≤ v) (h2 : v < 2) :
    ev Φ (.sub (.lst (.cons ea (.cons eb .nil))) i) r S = .ok (if v = 0 then a else b) S := by
  have s2 : 2 ≤ sizeLine := by decide
  have hv : v = 0 ∨ v = 1 := by omega
  have el : ev Φ (.lst (.cons ea (.cons eb .nil))) r S = .ok (.lst [a, b]) S := by
    simp only [ev, evL, ha, hb, bnd_ok]
    exact if_pos s2
  rw [ev]
  simp only [rd, el, bnd_ok, hi]
  rcases hv with rfl | rfl
  · simp [subD, ixd, lift_some]
  · simp [subD, ixd, lift_some]
theorem kind_by_ok (b : Nat) (hb : 4 ≤ b) : ∀ (m n : Nat) (s : Int) (S : Sto), ∃ k, Kg b k ∧ dep k ≤ m ∧ (ph (n + m + 3)).call 10 [.int s, .int m] S = .ok (kd k) S := by
  intro m
  induction m with
  | zero =>
    intro n s S
    have p0 : 0 ≤ ((nxt s).fdiv 7).fmod 4 := Int.fmod_nonneg_of_pos _ (by decide)
    have q0 : 0 ≤ (((nxt s).fdiv 7).fmod 4).fmod 2 := Int.fmod_nonneg_of_pos _ (by decide)
    have q1 : (((nxt s).fdiv 7).fmod 4).fmod 2 < 2 := Int.fmod_lt_of_pos _ (by decide)
    refine ⟨if (((nxt s).fdiv 7).fmod 4).fmod 2 = 0 then .num else .truth, by split; exact .num; exact .truth, by split <;> exact Nat.le_refl 0, ?_⟩
    rw [call_at rfl rfl]
    refine Eq.trans (congrArg SO.out (?_ : exL (ph (n + 2)) b__law_kind_by [some (.v (.int s)), some (.v (.int 0)), none, none, none] S = _)) out_rt
    rw [b12]
    refine (stp (ex_frz.trans (ex_set (d := .int (nxt s)) (S' := S) (r' := [some (.v (.int (nxt s))), some (.v (.int 0)), none, none, none]) ?_ rfl))).trans ?_
    · simp [ev, evL, rd, look, bnd_ok, frzR, frz_v, next_ok]
    refine (stp (ex_set (d := .int (((nxt s).fdiv 7).fmod 4)) (S' := S) (r' := [some (.v (.int (nxt s))), some (.v (.int 0)), some (.v (.int (((nxt s).fdiv 7).fmod 4))), none, none]) ?_ rfl)).trans ?_
    · simp [ev, rd, look, o2D, bnd_ok, lift_some]
    refine stp_rt ((ex_if_t (S' := S) ?_).trans (stp_rt (ex_ret ?_)))
    · simp [ev, evT, rd, look, bnd_ok, lift_some, cmD, eqq, D.deep, eqd, truD]
    · refine (two_of (.str "num") (.str "truth") S _ _ _ ((((nxt s).fdiv 7).fmod 4).fmod 2) (by simp [ev, rd, look, o2D, bnd_ok, lift_some]) _ _ (by rw [ev]) (by rw [ev]) q0 q1).trans ?_
      split <;> rfl
  | succ m ih =>
    intro n s S
    have p0 : 0 ≤ ((nxt s).fdiv 7).fmod 4 := Int.fmod_nonneg_of_pos _ (by decide)
    have p1 : ((nxt s).fdiv 7).fmod 4 < 4 := Int.fmod_lt_of_pos _ (by decide)
    have f0 : 0 ≤ ((nxt s).fdiv 29).fmod 4 := Int.fmod_nonneg_of_pos _ (by decide)
    have f1 : ((nxt s).fdiv 29).fmod 4 < 4 := Int.fmod_lt_of_pos _ (by decide)
    have ih' : ∀ s : Int, ∃ k, Kg b k ∧ dep k ≤ m ∧ (ph (n + m + 1 + 2)).call 10 [.int s, .int m] S = .ok (kd k) S := fun s => ih n s S
    generalize hpk : ((nxt s).fdiv 7).fmod 4 = pk at *
    have start : exL (ph (n + m + 1 + 2)) b__law_kind_by [some (.v (.int s)), some (.v (.int (m + 1 : Nat))), none, none, none] S = exL (ph (n + m + 1 + 2)) (.cons (.ite (.or (.e (.cmp .eq (.var 1) (.int (0)))) (.e (.cmp .lt (.var 2) (.int (2)))))
 (.cons (.ret (.sub (.lst (.cons (.str "num") (.cons (.str "truth") .nil))) (.bin .mod (.var 2) (.int (2)))))
 .nil)
 .nil)
 (.cons (.asg (.nm 3) (.dct .nil))
 (.cons lo12 (.cons re12 .nil)))) [some (.v (.int (nxt s))), some (.v (.int (m + 1 : Nat))), some (.v (.int pk)), none, none] S := by
      rw [b12]
      refine (stp (ex_frz.trans (ex_set (d := .int (nxt s)) (S' := S) (r' := [some (.v (.int (nxt s))), some (.v (.int (m + 1 : Nat))), none, none, none]) ?_ rfl))).trans ?_
      · simp [ev, evL, rd, look, bnd_ok, frzR, frz_v, next_ok]
      refine (stp (ex_set (d := .int pk) (S' := S) (r' := [some (.v (.int (nxt s))), some (.v (.int (m + 1 : Nat))), some (.v (.int pk)), none, none]) ?_ rfl)).trans rfl
      simp [ev, rd, look, o2D, bnd_ok, lift_some, hpk]
    by_cases hp : pk < 2
    · refine ⟨if pk.fmod 2 = 0 then .num else .truth, by split; exact .num; exact .truth, by split <;> exact Nat.zero_le _, ?_⟩
      have q0 : 0 ≤ pk.fmod 2 := Int.fmod_nonneg_of_pos _ (by decide)
      have q1 : pk.fmod 2 < 2 := Int.fmod_lt_of_pos _ (by decide)
      rw [call_at rfl rfl]
      refine Eq.trans (congrArg SO.out (start.trans (?_ : _ = SO.rt (kd (if pk.fmod 2 = 0 then .num else .truth)) S))) out_rt
      refine stp_rt ((ex_if_t (S' := S) ?_).trans (stp_rt (ex_ret ?_)))
      · simp [ev, evT, rd, look, bnd_ok, lift_some, cmD, eqq, D.deep, eqd, truD, hp]
      · refine (two_of (.str "num") (.str "truth") S _ _ _ (pk.fmod 2) (by simp [ev, rd, look, o2D, bnd_ok, lift_some]) _ _ (by rw [ev]) (by rw [ev]) q0 q1).trans ?_
        split <;> rfl
    · obtain ⟨c, hc, ec⟩ : ∃ c : Nat, c ≤ 4 ∧ ((nxt s).fdiv 29).fmod 4 + pk - 2 = (c : Int) := ⟨(((nxt s).fdiv 29).fmod 4 + pk - 2).toNat, by omega, by omega⟩
      obtain ⟨r', fs, el, hf, s', o', rfl⟩ := loop12 (n + m + 1) m b S pk c (by omega) ih' (nxt s) none
      have hcho : pk = 3 → fs ≠ [] := fun h => hf.ne (by omega)
      refine ⟨if pk - 2 = 0 then .rcd fs else .cho fs, ?_, ?_, ?_⟩
      · split
        · exact .rcd fs hf.ap (by have := hf.len; omega) hf.nam hf.kg
        · exact .cho fs hf.ap (by have := hf.len; omega) (hcho (by omega)) hf.nam hf.kg
      · have hd : depL fs ≤ m := by
          have gen : ∀ gs : List (Str × Kd), (∀ p ∈ gs, dep p.2 ≤ m) → depL gs ≤ m := by
            intro gs
            induction gs with
            | nil => intro _; exact Nat.zero_le _
            | cons p gs ihg =>
              intro h
              rw [depL]
              exact Nat.max_le.mpr ⟨h p List.mem_cons_self, ihg fun q hq => h q (List.mem_cons_of_mem _ hq)⟩
          exact gen fs hf.dp
        split <;> (rw [dep]; omega)
      · rw [call_at rfl rfl]
        refine Eq.trans (congrArg SO.out (start.trans (?_ : _ = SO.rt (kd (if pk - 2 = 0 then .rcd fs else .cho fs)) S))) out_rt
        refine (stp (r' := [some (.v (.int (nxt s))), some (.v (.int (m + 1 : Nat))), some (.v (.int pk)), none, none]) (S' := S) ((ex_if_f (S' := S) ?_).trans exL_nil)).trans ?_
        · have hne : ¬ ((m : Int) + 1 = 0) := by omega
          simp [ev, evT, rd, look, bnd_ok, lift_some, cmD, eqq, D.deep, eqd, truD, hp, hne]
        refine (stp (ex_set (d := .dic []) (S' := S) (r' := [some (.v (.int (nxt s))), some (.v (.int (m + 1 : Nat))), some (.v (.int pk)), some (.od []), none]) (by rw [ev, evD]) rfl)).trans ?_
        have hk0 : (kdL []) = ([] : List (Str × D)) := by rw [kdL]
        rw [hk0] at el
        have erng : evI (ph (n + m + 1 + 2)) (.rng (.bin .sub (.bin .add (.bin .mod (.bin .fdiv (.var 0) (.int (29))) (.int (4))) (.var 2)) (.int (2)))) [some (.v (.int (nxt s))), some (.v (.int (m + 1 : Nat))), some (.v (.int pk)), some (.od []), none] S = .ok (rngD 0 c) S := by
          have e : ev (ph (n + m + 1 + 2)) (.bin .sub (.bin .add (.bin .mod (.bin .fdiv (.var 0) (.int (29))) (.int (4))) (.var 2)) (.int (2))) [some (.v (.int (nxt s))), some (.v (.int (m + 1 : Nat))), some (.v (.int pk)), some (.od []), none] S = .ok (.int c) S := by
            rw [← ec]
            simp [ev, rd, look, o2D, bnd_ok, lift_some]
          rw [evI_rng, e, bnd_ok, rngF_nat (by omega)]
        refine (stp (ex_loop erng el)).trans ?_
        refine stp_rt (ex_frz.trans (ex_ret ?_))
        have e2 : ev (ph (n + m + 1 + 2)) (.sub (.lst (.cons (.str "record") (.cons (.str "choice") .nil))) (.bin .sub (.var 2) (.int (2)))) (frzR [some (.v (.int s')), some (.v (.int (m + 1 : Nat))), some (.v (.int pk)), some (.od (kdL fs)), o'] [3]) S = .ok (if pk - 2 = 0 then .str "record" else .str "choice") S :=
          two_of _ _ S _ _ _ (pk - 2) (by simp [ev, rd, look, o2D, bnd_ok, lift_some, frzR]) _ _ (by rw [ev]) (by rw [ev]) (by omega) (by omega)
        have e3 : ev (ph (n + m + 1 + 2)) (.var 3) (frzR [some (.v (.int s')), some (.v (.int (m + 1 : Nat))), some (.v (.int pk)), some (.od (kdL fs)), o'] [3]) S = .ok (.dic (kdL fs)) S := by
          simp [ev, frzR, frz_d]
        have s2 : 2 ≤ sizeLine := by decide
        rw [ev]
        simp only [evL, e2, e3, bnd_ok]
        refine (if_pos s2).trans ?_
        split <;> rfl
/-- at most w fields a level, m levels, names -/
inductive Vg (w : Nat) : Nat → D → Prop
  | int (m : Nat) (i : Int) : -1000000000000 ≤ i → i ≤ 1000000000000 → Vg w m (.int i)
  | bl (m : Nat) (b : Bool) : Vg w m (.bl b)
  | dic (m : Nat) (kvs : List (Str × D)) : kvs.length ≤ w → (∀ p ∈ kvs, Nam p.1) → (∀ p ∈ kvs, Vg w m p.2) → Vg w (m + 1) (.dic kvs)
  | tup (m : Nat) (x : Str) (d : D) : Nam x → Vg w m d → Vg w (m + 1) (.tup [.str x, d])
theorem dput_len (kvs : List (Str × D)) (x : Str) (d : D) : (dput kvs x d).length ≤ kvs.length + 1 := by
  unfold dput
  split
  · rw [List.length_map]; omega
  · rw [List.length_append]; simp
theorem dget_dput (kvs : List (Str × D)) (x y : Str) (d : D) : dget (dput kvs x d) y = if x = y then some d else dget kvs y := by
  unfold dput
  split
  · rename_i h
    unfold dget
    induction kvs with
    | nil => simp at h
    | cons p r ih =>
      rw [List.map_cons, List.find?_cons, List.find?_cons]
      by_cases e : p.1 = x
      · simp only [e, if_true]
        by_cases e2 : x = y
        · simp [e2]
        · simp only [e2, decide_false, if_false]
          by_cases h2 : (r.any fun p => decide (p.1 = x)) = true
          · have := ih h2
            rw [if_neg e2] at this
            exact this
          · have hm : r.map (fun p => if p.1 = x then (p.1, d) else p) = r := by
              refine (List.map_congr_left fun q hq => ?_).trans (List.map_id r)
              have : ¬ q.1 = x := fun hx => h2 (List.any_eq_true.mpr ⟨q, hq, by simpa using hx⟩)
              simp [this]
            rw [hm]
      · simp only [e, if_false]
        have h2 : (r.any fun p => decide (p.1 = x)) = true := by simpa [e] using h
        by_cases e3 : p.1 = y
        · have : ¬ x = y := fun hx => e (e3.trans hx.symm)
          simp [e3, this]
        · simp only [e3, decide_false]
          exact ih h2
  · rename_i h
    unfold dget
    rw [List.find?_append]
    by_cases e : x = y
    · subst e
      have : kvs.find? (fun p => decide (p.1 = x)) = none := by
        rw [List.find?_eq_none]
        intro q hq hx
        exact h (List.any_eq_true.mpr ⟨q, hq, hx⟩)
      simp [this]
    · simp [e]
theorem keys_get (fs : List (Str × Kd)) {i : Nat} (h : i < fs.length) : (keysD (kdL fs))[i]? = some (.str (fs[i]).1) := by
  unfold keysD
  rw [kdL_map, List.map_map, List.getElem?_map, List.getElem?_eq_getElem h]
  rfl
theorem keys_len (fs : List (Str × Kd)) : (keysD (kdL fs)).length = fs.length := by
  unfold keysD
  rw [List.length_map, kdL_map, List.length_map]
/-! ### records and choices alike -/
def mk (c : Bool) (fs : List (Str × Kd)) : Kd := match c with | true => .cho fs | false => .rcd fs
def mkw (c : Bool) : Str := match c with | true => "choice" | false => "record"
theorem kd_mk (c : Bool) (fs : List (Str × Kd)) : kd (mk c fs) = .tup [.str (mkw c), .dic (kdL fs)] := by cases c <;> simp only [mk, mkw, kd]
theorem dep_mk (c : Bool) (fs : List (Str × Kd)) : dep (mk c fs) = depL fs + 1 := by cases c <;> simp only [mk, dep]
theorem Kg.mk {b : Nat} {c : Bool} {fs : List (Str × Kd)} (h1 : Apart fs) (h2 : fs.length ≤ b) (h3 : c = true → fs ≠ []) (h4 : ∀ p ∈ fs, Nam p.1) (h5 : ∀ p ∈ fs, Kg b p.2) : Kg b (K03.mk c fs) := by
  cases c
  · exact .rcd fs h1 h2 h4 h5
  · exact .cho fs h1 h2 (h3 rfl) h4 h5
theorem Kg.split {b : Nat} {k : Kd} (h : Kg b k) : (k = .num ∨ k = .truth) ∨ ∃ c fs, k = K03.mk c fs ∧ Apart fs ∧ fs.length ≤ b ∧ (c = true → fs ≠ []) ∧ (∀ p ∈ fs, Nam p.1) ∧ ∀ p ∈ fs, Kg b p.2 := by
  cases h with
  | num => exact .inl (.inl rfl)
  | truth => exact .inl (.inr rfl)
  | rcd fs h1 h2 h3 h4 => exact .inr ⟨false, fs, rfl, h1, h2, (fun h => nomatch h), h3, h4⟩
  | cho fs h1 h2 h3 h4 h5 => exact .inr ⟨true, fs, rfl, h1, h2, fun _ => h3, h4, h5⟩
theorem Kg.up {b c : Nat} (hb : b ≤ c) {k : Kd} (h : Kg b k) : Kg c k := by
  induction h with
  | num => exact .num
  | truth => exact .truth
  | rcd fs h1 h2 h3 _ ih => exact .rcd fs h1 (Nat.le_trans h2 hb) h3 ih
  | cho fs h1 h2 h3 h4 _ ih => exact .cho fs h1 (Nat.le_trans h2 hb) h3 h4 ih
theorem depL_le {m : Nat} : ∀ gs : List (Str × Kd), (∀ p ∈ gs, dep p.2 ≤ m) → depL gs ≤ m
  | [], _ => Nat.zero_le _
  | p :: r, h => by
    rw [depL]
    exact Nat.max_le.mpr ⟨h p List.mem_cons_self, depL_le r fun q hq => h q (List.mem_cons_of_mem _ hq)⟩
theorem kput_len_mem {fs : List (Str × Kd)} {p : Str × Kd} (h : p ∈ fs) (k : Kd) : (kput fs p.1 k).length = fs.length := by
  unfold kput
  rw [if_pos (List.any_eq_true.mpr ⟨p, h, by simp⟩), List.length_map]
theorem eqdK_nil : ∀ kvs : List (Str × D), eqdK kvs [] = some kvs.isEmpty
  | [] => rfl
  | p :: r => by
    rw [eqdK]
    show (eqdK r []).map _ = _
    rw [eqdK_nil r]
    rfl
theorem eq_nil (kvs : List (Str × D)) : cmD .eq (.dic kvs) (.dic []) = some kvs.isEmpty := by
  have h : min (D.dic kvs).deep (D.dic []).deep ≤ 100 := Nat.le_trans (Nat.min_le_right _ _) (by decide)
  show eqq _ _ = _
  unfold eqq
  rw [if_pos h, eqd, eqdK_nil]
  cases kvs <;> rfl
/-! ### bent -/
end K03

namespace K03
open PySem PySem.Spec L2 Pi
/-! ### repr -/
theorem shown_int14 {i : Int} (h1 : -1000000000000 ≤ i) (h2 : i ≤ 1000000000000) : (PyData.shown (.int i)).length ≤ 14 := by
  by_cases a : i = 1000000000000
  · subst a; decide +kernel
  by_cases b : i = -1000000000000
  · subst b; decide +kernel
  exact Nat.le_trans (PyData.shown_int_le2 (by omega) (by omega)) (by decide)
theorem showable_int {i : Int} (h1 : -1000000000000 ≤ i) (h2 : i ≤ 1000000000000) : (PyData.int i).showable = true := by
  have h : i.natAbs < 2 ^ 1920 := Nat.lt_of_le_of_lt (by omega : i.natAbs ≤ 1000000000000) (by decide +kernel)
  unfold PyData.showable
  rw [decide_eq_true_eq]
  by_cases h0 : i.natAbs = 0
  · rw [h0]; decide
  · exact (Nat.log2_lt h0).mpr h
/-- what a text needs -/
structure Sh (d : D) (B : Nat) : Prop where
  pl : d.plain = true
  sh : d.py.showable = true
  lv : d.py.leavesShort 14 = true
  bk : d.py.bulk ≤ B
theorem Sh.up {d : D} {B C : Nat} (h : Sh d B) (hb : B ≤ C) : Sh d C := ⟨h.pl, h.sh, h.lv, Nat.le_trans h.bk hb⟩
theorem Sh.dic {kvs : List (Str × D)} {w B : Nat} (hw : kvs.length ≤ w) (hn : ∀ p ∈ kvs, Nam p.1) (h : ∀ p ∈ kvs, Sh p.2 B) : Sh (.dic kvs) (w * (14 + B)) := by
  have gen : ∀ l : List (Str × D), (∀ p ∈ l, Nam p.1) → (∀ p ∈ l, Sh p.2 B) → plainK l = true ∧ PyData.showableKv (pyK l) = true ∧ PyData.leavesShortKv 14 (pyK l) = true ∧ PyData.bulkKv (pyK l) ≤ l.length * (14 + B) := by
    intro l
    induction l with
    | nil => intro _ _; exact ⟨rfl, rfl, rfl, Nat.zero_le _⟩
    | cons p l ih =>
      intro h1 h2
      obtain ⟨a1, a2, a3, a4⟩ := ih (fun q hq => h1 q (List.mem_cons_of_mem _ hq)) (fun q hq => h2 q (List.mem_cons_of_mem _ hq))
      have g := h2 p List.mem_cons_self
      have gn := h1 p List.mem_cons_self
      have e12 : p.1.cps.size ≤ 12 := gn.len
      refine ⟨by simp only [plainK, g.pl, a1, Bool.and_self], ?_, ?_, ?_⟩
      · simp only [pyK, PyData.showableKv, PyData.showable, g.sh, a2, Bool.and_self]
      · have : (PyData.str p.1).leavesShort 14 = true := by
          simp only [PyData.leavesShort, List.all_eq_true, decide_eq_true_eq]
          exact gn.cps
        simp only [pyK, PyData.leavesShortKv, this, g.lv, a3, Bool.and_self]
      · have := g.bk
        simp only [pyK, PyData.bulkKv, PyData.bulk, List.length_cons, Nat.add_mul]
        omega
  obtain ⟨a1, a2, a3, a4⟩ := gen kvs hn h
  refine ⟨by simpa only [D.plain] using a1, by simpa only [D.py, PyData.showable] using a2, by simpa only [D.py, PyData.leavesShort] using a3, ?_⟩
  simp only [D.py, PyData.bulk]
  exact Nat.le_trans a4 (Nat.mul_le_mul_right _ hw)
theorem Sh.tup {x : Str} {d : D} {B : Nat} (hx : Nam x) (h : Sh d B) : Sh (.tup [.str x, d]) (14 + B) := by
  have e12 : x.cps.size ≤ 12 := hx.len
  have hl : (PyData.str x).leavesShort 14 = true := by
    simp only [PyData.leavesShort, List.all_eq_true, decide_eq_true_eq]
    exact hx.cps
  refine ⟨by simp only [D.plain, plainL, h.pl, Bool.and_self], by simp only [D.py, pyL, PyData.showable, PyData.showableAll, h.sh, Bool.and_self], by simp only [D.py, pyL, PyData.leavesShort, PyData.leavesShortAll, h.lv, Bool.and_true]; exact hl, ?_⟩
  have := h.bk
  simp only [D.py, pyL, PyData.bulk, PyData.bulkAll]
  omega
theorem Sh.int {i : Int} (h1 : -1000000000000 ≤ i) (h2 : i ≤ 1000000000000) : Sh (.int i) 0 :=
  ⟨rfl, showable_int h1 h2, by simp only [D.py, PyData.leavesShort, decide_eq_true_eq]; exact shown_int14 h1 h2, Nat.le_refl 0⟩
theorem Sh.bl (b : Bool) : Sh (.bl b) 0 := ⟨rfl, rfl, rfl, Nat.le_refl 0⟩
theorem Sh.nam {x : Str} (h : Nam x) : Sh (.str x) 12 :=
  ⟨rfl, rfl, by simp only [D.py, PyData.leavesShort, List.all_eq_true, decide_eq_true_eq]; exact h.cps, h.len⟩
theorem nam_record : Nam ("record" : Str) := ⟨by decide, by decide⟩
theorem nam_choice : Nam ("choice" : Str) := ⟨by decide, by decide⟩
theorem nam_num : Nam ("num" : Str) := ⟨by decide, by decide⟩
theorem nam_truth : Nam ("truth" : Str) := ⟨by decide, by decide⟩
def roomK (b : Nat) : Nat → Nat
  | 0 => 12
  | m + 1 => 14 + (b + 1) * (14 + roomK b m)
theorem Kg.sh {b : Nat} {k : Kd} (h : Kg b k) : ∀ m, dep k ≤ m → Sh (kd k) (roomK b m) ∧ (kd k).deep ≤ 2 * m := by
  have base : ∀ m, 12 ≤ roomK b m := fun m => by cases m <;> simp [roomK]; omega
  have fields : ∀ (fs : List (Str × Kd)) (m : Nat), fs.length ≤ b → (∀ p ∈ fs, Nam p.1) → (∀ p ∈ fs, ∀ m, dep p.2 ≤ m → Sh (kd p.2) (roomK b m) ∧ (kd p.2).deep ≤ 2 * m) → depL fs ≤ m → Sh (.dic (kdL fs)) ((b + 1) * (14 + roomK b m)) ∧ deepK (kdL fs) ≤ 2 * m := by
    intro fs m h1 h2 h3 h4
    have hp : ∀ p ∈ kdL fs, ∃ q ∈ fs, p = (q.1, kd q.2) := by
      intro p hp
      rw [kdL_map] at hp
      obtain ⟨q, hq, rfl⟩ := List.mem_map.mp hp
      exact ⟨q, hq, rfl⟩
    refine ⟨(Sh.dic (w := b) (B := roomK b m) (by rw [kdL_map, List.length_map]; exact h1) (fun p hm => ?_) (fun p hm => ?_)).up (Nat.mul_le_mul_right _ (Nat.le_succ b)), ?_⟩
    · obtain ⟨q, hq, rfl⟩ := hp p hm; exact h2 q hq
    · obtain ⟨q, hq, rfl⟩ := hp p hm
      exact (h3 q hq m (Nat.le_trans (dep_mem hq) h4)).1
    · have gen : ∀ l : List (Str × D), (∀ p ∈ l, p.2.deep ≤ 2 * m) → deepK l ≤ 2 * m := by
        intro l
        induction l with
        | nil => intro _; exact Nat.zero_le _
        | cons p l ih =>
          intro h
          rw [deepK]
          exact Nat.max_le.mpr ⟨h p List.mem_cons_self, ih fun q hq => h q (List.mem_cons_of_mem _ hq)⟩
      refine gen _ fun p hm => ?_
      obtain ⟨q, hq, rfl⟩ := hp p hm
      exact (h3 q hq m (Nat.le_trans (dep_mem hq) h4)).2
  induction h with
  | num => intro m _; rw [kd]; exact ⟨(Sh.nam nam_num).up (base m), Nat.zero_le _⟩
  | truth => intro m _; rw [kd]; exact ⟨(Sh.nam nam_truth).up (base m), Nat.zero_le _⟩
  | rcd fs h1 h2 h3 _ ih =>
    intro m hm
    rw [dep] at hm
    obtain ⟨j, rfl⟩ : ∃ j, m = j + 1 := ⟨m - 1, by omega⟩
    obtain ⟨a1, a2⟩ := fields fs j h2 h3 ih (by omega)
    rw [kd]
    refine ⟨Sh.tup nam_record a1, ?_⟩
    simp only [D.deep, deepL]
    omega
  | cho fs h1 h2 _ h3 _ ih =>
    intro m hm
    rw [dep] at hm
    obtain ⟨j, rfl⟩ : ∃ j, m = j + 1 := ⟨m - 1, by omega⟩
    obtain ⟨a1, a2⟩ := fields fs j h2 h3 ih (by omega)
    rw [kd]
    refine ⟨Sh.tup nam_choice a1, ?_⟩
    simp only [D.deep, deepL]
    omega
theorem repr_ok {d : D} {B : Nat} (h : Sh d B) (hB : B ≤ 1000000) (hd : d.deep ≤ 100) : biD .repr d = some (.str d.py.shown) := by
  have e := PyData.shown_le_bulk 14 (by decide) d.py h.lv
  have e2 := h.bk
  have : d.py.shown.length ≤ sizeLine := by
    have : sizeLine = 16777216 := sizeLine_eq
    omega
  simp only [biD]
  exact if_pos ⟨h.pl, h.sh, this, hd⟩
/-- the size of a kind -/
def roomZ (b : Nat) : Nat → Nat
  | 0 => 1
  | m + 1 => b * roomZ b m + 1
theorem Kg.sz {b : Nat} {k : Kd} (h : Kg b k) : ∀ m, dep k ≤ m → sz k ≤ roomZ b m := by
  have base : ∀ m, 1 ≤ roomZ b m := fun m => by cases m <;> simp [roomZ]
  have fields : ∀ (fs : List (Str × Kd)) (m : Nat), (∀ p ∈ fs, ∀ m, dep p.2 ≤ m → K03.sz p.2 ≤ roomZ b m) → depL fs ≤ m → szL fs ≤ fs.length * roomZ b m := by
    intro fs m
    induction fs with
    | nil => intro _ _; exact Nat.zero_le _
    | cons p fs ih =>
      intro h1 h2
      rw [depL] at h2
      have a := h1 p List.mem_cons_self m (by omega)
      have b' := ih (fun q hq => h1 q (List.mem_cons_of_mem _ hq)) (by omega)
      rw [szL, List.length_cons, Nat.add_mul]
      omega
  induction h with
  | num => intro m _; exact base m
  | truth => intro m _; exact base m
  | rcd fs h1 h2 h3 _ ih =>
    intro m hm
    rw [dep] at hm
    obtain ⟨j, rfl⟩ : ∃ j, m = j + 1 := ⟨m - 1, by omega⟩
    have := fields fs j ih (by omega)
    have h5 := Nat.mul_le_mul_right (roomZ b j) h2
    rw [K03.sz]
    show _ ≤ b * roomZ b j + 1
    omega
  | cho fs h1 h2 _ h3 _ ih =>
    intro m hm
    rw [dep] at hm
    obtain ⟨j, rfl⟩ : ∃ j, m = j + 1 := ⟨m - 1, by omega⟩
    have := fields fs j ih (by omega)
    have h5 := Nat.mul_le_mul_right (roomZ b j) h2
    rw [K03.sz]
    show _ ≤ b * roomZ b j + 1
    omega
def mkOf : Kd → Str
  | .num => "num"
  | .truth => "truth"
  | .rcd _ => "record"
  | .cho _ => "choice"
def ptOf : Kd → List (Str × Kd)
  | .num => []
  | .truth => []
  | .rcd fs => fs
  | .cho fs => fs
theorem make_ok (n : Nat) (k : Kd) (S : Sto) : (ph (n + 1)).call 1 [kd k] S = .ok (.str (mkOf k)) S := by
  cases k with
  | num => rw [kd]; exact make_of_str n _ S
  | truth => rw [kd]; exact make_of_str n _ S
  | rcd fs => rw [kd]; exact make_of_tup n _ _ S
  | cho fs => rw [kd]; exact make_of_tup n _ _ S
theorem parts_ok (n : Nat) (k : Kd) (S : Sto) : (ph (n + 1)).call 2 [kd k] S = .ok (.dic (kdL (ptOf k))) S := by
  cases k with
  | num => rw [kd, ptOf, kdL]; exact parts_of_str n _ S
  | truth => rw [kd, ptOf, kdL]; exact parts_of_str n _ S
  | rcd fs => rw [kd, ptOf]; exact parts_of_tup n _ _ S
  | cho fs => rw [kd, ptOf]; exact parts_of_tup n _ _ S
theorem apart_of {k : Kd} (h : Kok k) : Apart (ptOf k) ∧ (ptOf k).length ≤ sizeLine ∧ ∀ p ∈ ptOf k, Kok p.2 := by
  cases h with
  | num => exact ⟨List.nodup_nil, Nat.zero_le _, fun _ h => nomatch h⟩
  | truth => exact ⟨List.nodup_nil, Nat.zero_le _, fun _ h => nomatch h⟩
  | rcd fs h1 h2 h3 => exact ⟨h1, h2, h3⟩
  | cho fs h1 h2 h3 => exact ⟨h1, h2, h3⟩
def fitF : Nat → Kd → Kd → Bool
  | _, .num, .num => true
  | _, .truth, .truth => true
  | m + 1, .rcd fs, .rcd gs => gs.all fun p => match lookK fs p.1 with | some k => fitF m k p.2 | none => false
  | m + 1, .cho fs, .cho gs => fs.all fun p => match lookK gs p.1 with | some o => fitF m p.2 o | none => false
  | _, _, _ => false
theorem look_dep {fs : List (Str × Kd)} {x : Str} {k : Kd} (h : lookK fs x = some k) : dep k ≤ depL fs := by
  obtain ⟨_, p, hp, rfl⟩ := sz_look h
  exact dep_mem hp
theorem all_congr' {α : Type} {l : List α} {f g : α → Bool} (h : ∀ x ∈ l, f x = g x) : l.all f = l.all g := by
  induction l with
  | nil => rfl
  | cons x l ih =>
    rw [List.all_cons, List.all_cons, h x List.mem_cons_self, ih fun y hy => h y (List.mem_cons_of_mem _ hy)]
theorem fitF_up : ∀ (m m' : Nat) (k o : Kd), dep k ≤ m → dep k ≤ m' → fitF m k o = fitF m' k o := by
  intro m
  induction m with
  | zero =>
    intro m' k o h1 h2
    cases k with
    | num => cases o <;> cases m' <;> simp only [fitF]
    | truth => cases o <;> cases m' <;> simp only [fitF]
    | rcd fs => rw [dep] at h1; omega
    | cho fs => rw [dep] at h1; omega
  | succ m ih =>
    intro m' k o h1 h2
    cases k with
    | num => cases o <;> cases m' <;> simp only [fitF]
    | truth => cases o <;> cases m' <;> simp only [fitF]
    | rcd fs =>
      rw [dep] at h1 h2
      obtain ⟨j, rfl⟩ : ∃ j, m' = j + 1 := ⟨m' - 1, by omega⟩
      cases o with
      | rcd gs =>
        simp only [fitF]
        refine all_congr' fun p _ => ?_
        cases e : lookK fs p.1 with
        | none => rfl
        | some k =>
          have := look_dep e
          exact ih j k p.2 (by omega) (by omega)
      | _ => simp only [fitF]
    | cho fs =>
      rw [dep] at h1 h2
      obtain ⟨j, rfl⟩ : ∃ j, m' = j + 1 := ⟨m' - 1, by omega⟩
      cases o with
      | cho gs =>
        simp only [fitF]
        refine all_congr' fun p hp => ?_
        have := dep_mem hp
        cases e : lookK gs p.1 with
        | none => rfl
        | some k => exact ih j p.2 k (by omega) (by omega)
      | _ => simp only [fitF]
def fit (k o : Kd) : Bool := fitF (dep k) k o
theorem fit_rcd (fs gs : List (Str × Kd)) : fit (.rcd fs) (.rcd gs) = gs.all fun p => match lookK fs p.1 with | some k => fit k p.2 | none => false := by
  unfold fit
  rw [dep]
  simp only [fitF]
  refine all_congr' fun p _ => ?_
  cases e : lookK fs p.1 with
  | none => rfl
  | some k => exact fitF_up _ _ k p.2 (look_dep e) (Nat.le_refl _)
theorem fit_cho (fs gs : List (Str × Kd)) : fit (.cho fs) (.cho gs) = fs.all fun p => match lookK gs p.1 with | some o => fit p.2 o | none => false := by
  unfold fit
  rw [dep]
  simp only [fitF]
  refine all_congr' fun p hp => ?_
  cases e : lookK gs p.1 with
  | none => rfl
  | some o => exact fitF_up _ _ p.2 o (dep_mem hp) (Nat.le_refl _)
def isS (k : Kd) : Bool := match k with | .num => true | .truth => true | _ => false
theorem isi_str (k : Kd) : isiD (kd k) [.str] = some (isS k) := by cases k <;> simp [kd, isiD, tyD, isS]
theorem eq_one (k o : Kd) (h : (isS k || isS o) = true) : cmD .eq (kd k) (kd o) = some (fit k o) := by
  have hmin : min (kd k).deep (kd o).deep ≤ 100 := by
    cases k with
    | num => exact Nat.le_trans (Nat.min_le_left _ _) (by rw [kd]; exact Nat.zero_le _)
    | truth => exact Nat.le_trans (Nat.min_le_left _ _) (by rw [kd]; exact Nat.zero_le _)
    | rcd fs => cases o with
      | num => exact Nat.le_trans (Nat.min_le_right _ _) (by rw [kd]; exact Nat.zero_le _)
      | truth => exact Nat.le_trans (Nat.min_le_right _ _) (by rw [kd]; exact Nat.zero_le _)
      | _ => cases h
    | cho fs => cases o with
      | num => exact Nat.le_trans (Nat.min_le_right _ _) (by rw [kd]; exact Nat.zero_le _)
      | truth => exact Nat.le_trans (Nat.min_le_right _ _) (by rw [kd]; exact Nat.zero_le _)
      | _ => cases h
  show eqq _ _ = _
  unfold eqq
  rw [if_pos hmin]
  cases k <;> cases o <;> (try (cases h; done)) <;> simp [kd, eqd, fit, dep, fitF, w_num_truth, w_truth_num]
end K03

namespace K03
open PySem PySem.Spec L2 Pi
/-! ### wide -/
def lb16 : SL := (.cons (.asg (.nm 0) (.call 8 (.cons (.bin .add (.var 0) (.var 2)) .nil)))
 (.cons (.frz [0, 0] (.setk 1 (.call 9 (.cons (.var 0) .nil)) (.call 10 (.cons (.var 0) (.cons (.int (1)) .nil)))))
 .nil))
theorem b16 : b__law_wide = (.cons (.asg (.nm 1) (.dct .nil))
 (.cons (.for (.nm 2) (.rng (.int (60))) lb16)
 (.cons (.frz [1] (.ret (.tup (.cons (.sub (.lst (.cons (.str "record") (.cons (.str "choice") .nil))) (.bin .mod (.bin .fdiv (.var 0) (.int (3))) (.int (2)))) (.cons (.var 1) .nil)))))
 .nil))) := rfl
theorem wide_ok (n : Nat) (s : Int) (S : Sto) : ∃ k, Kg 60 k ∧ dep k ≤ 2 ∧ (ph (n + 5)).call 16 [.int s] S = .ok (kd k) S := by
  have big : 61 ≤ sizeLine := by decide
  have s2 : 2 ≤ sizeLine := by decide
  obtain ⟨r', S', el, hI⟩ := forS_inv (f := forB (ph (n + 4)) (.nm 2) lb16) (xs := rngD 0 60) (fun j r S' => S' = S ∧ ∃ fs, Fs 60 1 j fs ∧ ∃ s' o', r = [some (.v (.int s')), some (.od (kdL fs)), o']) (by
    rintro i x r S1 hx ⟨rfl, fs, hf, s', o', rfl⟩
    have hi : i < 60 := by
      have := (List.getElem?_eq_some_iff.mp hx).1
      rwa [rngD_len] at this
    have ex := rngD_get _ _ _ _ hx
    subst ex
    generalize (0 + (i : Int)) = ii
    obtain ⟨y, hy, ey⟩ := name_ok (n + 2) (nxt (s' + ii)) S1
    obtain ⟨k, hk, hd, ek⟩ := kind_by_ok 60 (by decide) 1 n (nxt (s' + ii)) S1
    have hlk : (kdL fs).length < sizeLine := by rw [kdL_map, List.length_map]; have := hf.len; omega
    refine ⟨[some (.v (.int (nxt (s' + ii)))), some (.od (kdL (kput fs y k))), some (.v (.int ii))], S1, ?_, rfl, _, hf.put hy hk hd, _, _, rfl⟩
    show exL (ph (n + 4)) lb16 [some (.v (.int s')), some (.od (kdL fs)), some (.v (.int ii))] S1 = _
    unfold lb16
    refine (stp (ex_set (d := .int (nxt (s' + ii))) (S' := S1) (r' := [some (.v (.int (nxt (s' + ii)))), some (.od (kdL fs)), some (.v (.int ii))]) ?_ rfl)).trans ?_
    · simp [ev, evL, rd, look, o2D, bnd_ok, lift_some, next_ok]
    refine (stp (ex_frz.trans (ex_setk (d := kd k) (S' := S1) (S'' := S1) (i := 1) (kvs := kdL fs) (x := y) (ev_call (evL_cons (ev_var rfl) (evL_cons ev_int evL_nil)) ek) rfl (ev_call (evL_cons (ev_var rfl) evL_nil) ey) hlk))).trans ?_
    rw [exL_nil, dput_kdL]
    rfl) 0 (Nat.zero_le _) (r := [some (.v (.int s)), some (.od []), none]) (S := S) ⟨rfl, [], Fs.nil, s, none, by rw [kdL]⟩
  obtain ⟨rfl, fs, hf, s', o', rfl⟩ := hI
  rw [rngD_len] at hf
  have q0 : 0 ≤ (s'.fdiv 3).fmod 2 := Int.fmod_nonneg_of_pos _ (by decide)
  have q1 : (s'.fdiv 3).fmod 2 < 2 := Int.fmod_lt_of_pos _ (by decide)
  have hd : depL fs ≤ 1 := depL_le fs hf.dp
  refine ⟨if (s'.fdiv 3).fmod 2 = 0 then .rcd fs else .cho fs, ?_, by split <;> (rw [dep]; omega), ?_⟩
  · split
    · exact .rcd fs hf.ap hf.len hf.nam hf.kg
    · exact .cho fs hf.ap hf.len (hf.ne (by decide)) hf.nam hf.kg
  · rw [call_at rfl rfl]
    refine Eq.trans (congrArg SO.out (?_ : exL (ph (n + 4)) b__law_wide [some (.v (.int s)), none, none] S' = _)) out_rt
    rw [b16]
    refine (stp (ex_set (d := .dic []) (S' := S') (r' := [some (.v (.int s)), some (.od []), none]) (by rw [ev, evD]) rfl)).trans ?_
    have erng : evI (ph (n + 4)) (.rng (.int 60)) [some (.v (.int s)), some (.od []), none] S' = .ok (rngD 0 60) S' := by
      have e : ev (ph (n + 4)) (.int 60) [some (.v (.int s)), some (.od []), none] S' = .ok (.int (60 : Nat)) S' := by rw [ev]; rfl
      rw [evI_rng, e, bnd_ok, rngF_nat (by omega)]
    rw [List.drop_zero] at el
    refine (stp (ex_loop erng el)).trans ?_
    refine stp_rt (ex_frz.trans (ex_ret ?_))
    have e2 : ev (ph (n + 4)) (.sub (.lst (.cons (.str "record") (.cons (.str "choice") .nil))) (.bin .mod (.bin .fdiv (.var 0) (.int (3))) (.int (2)))) (frzR [some (.v (.int s')), some (.od (kdL fs)), o'] [1]) S' = .ok (if (s'.fdiv 3).fmod 2 = 0 then .str "record" else .str "choice") S' :=
      two_of _ _ S' _ _ _ ((s'.fdiv 3).fmod 2) (by simp [ev, rd, look, o2D, bnd_ok, lift_some, frzR]) _ _ (by rw [ev]) (by rw [ev]) q0 q1
    have e3 : ev (ph (n + 4)) (.var 1) (frzR [some (.v (.int s')), some (.od (kdL fs)), o'] [1]) S' = .ok (.dic (kdL fs)) S' := by
      simp [ev, frzR, frz_d]
    rw [ev]
    simp only [evL, e2, e3, bnd_ok]
    refine (if_pos s2).trans ?_
    split <;> rfl
/-! ### mixed -/
structure Ps (b m j : Nat) (fs : List (Str × Kd)) : Prop where
  ap : Apart fs
  len : fs.length ≤ j
  nam : ∀ p ∈ fs, Nam p.1
  kg : ∀ p ∈ fs, Kg b p.2
  dp : ∀ p ∈ fs, dep p.2 ≤ m
theorem Ps.nil {b m j : Nat} : Ps b m j [] := ⟨List.nodup_nil, Nat.zero_le _, (fun _ h => nomatch h), (fun _ h => nomatch h), (fun _ h => nomatch h)⟩
theorem Ps.put {b m j : Nat} {fs : List (Str × Kd)} (h : Ps b m j fs) {x : Str} {k : Kd} (hx : Nam x) (hk : Kg b k) (hd : dep k ≤ m) : Ps b m (j + 1) (kput fs x k) :=
  ⟨kput_apart h.ap, Nat.le_trans (kput_len _ _ _) (Nat.succ_le_succ h.len), kput_all (P := fun p => Nam p.1) h.nam hx, kput_all (P := fun p => Kg b p.2) h.kg hk, kput_all (P := fun p => dep p.2 ≤ m) h.dp hd⟩
theorem Ps.up {b m j j' : Nat} {fs : List (Str × Kd)} (h : Ps b m j fs) (hj : j ≤ j') : Ps b m j' fs := ⟨h.ap, Nat.le_trans h.len hj, h.nam, h.kg, h.dp⟩
def lb11m : SL := (.cons (.frz [1] (.asg (.nm 1) (.call 8 (.cons (.var 1) .nil))))
 (.cons (.ite (.e (.cmp .gt (.bin .mod (.bin .fdiv (.var 1) (.int (5))) (.int (4))) (.int (0))))
 (.cons (.frz [3, 3, 1] (.setk 2 (.var 3) (.call 11 (.cons (.sub (.sub (.var 0) (.int (1))) (.var 3)) (.cons (.var 1) .nil)))))
 .nil)
 .nil)
 .nil))
def fr11 : Pi.S := (.ite (.or (.e (.cmp .eq (.bin .mod (.bin .fdiv (.var 1) (.int (7))) (.int (2))) (.int (0)))) (.e (.cmp .eq (.var 2) (.dct .nil))))
 (.cons (.frz [1, 1] (.setk 2 (.call 9 (.cons (.var 1) .nil)) (.call 10 (.cons (.var 1) (.cons (.int (1)) .nil)))))
 .nil)
 .nil)
def st11m : Pi.S := (.ite (.e (.isi (.var 0) [.str]))
 (.cons (.frz [0, 0, 0, 0] (.ret (.sub (.lst (.cons (.var 0) (.cons (.var 0) (.cons (.var 0) (.cons (.var 0) (.cons (.str "num") (.cons (.str "truth") .nil))))))) (.bin .mod (.bin .fdiv (.var 1) (.int (11))) (.int (6))))))
 .nil)
 .nil)
theorem b11m : b__law_mixed = (.cons (.frz [1] (.asg (.nm 1) (.call 8 (.cons (.var 1) .nil))))
 (.cons st11m
 (.cons (.asg (.nm 2) (.dct .nil))
 (.cons (.for (.nm 3) (.over (.sub (.var 0) (.int (1)))) lb11m)
 (.cons fr11
 (.cons (.frz [2] (.ret (.tup (.cons (.sub (.var 0) (.int (0))) (.cons (.var 2) .nil)))))
 .nil)))))) := rfl
theorem sz_mk (c : Bool) (fs : List (Str × Kd)) : sz (K03.mk c fs) = szL fs + 1 := by cases c <;> (show sz _ = _; rw [K03.mk, sz])
theorem szL_app : ∀ a b : List (Str × Kd), szL (a ++ b) = szL a + szL b
  | [], b => by rw [List.nil_append, szL, Nat.zero_add]
  | p :: a, b => by rw [List.cons_append, szL, szL, szL_app a b, Nat.add_assoc]
theorem szL_take (fs : List (Str × Kd)) {i : Nat} (hi : i < fs.length) : szL (fs.take (i + 1)) = szL (fs.take i) + sz (fs[i]).2 := by
  rw [List.take_succ, List.getElem?_eq_getElem hi, szL_app]
  show _ + szL [fs[i]] = _
  rw [szL, szL, Nat.add_zero]
theorem kput_sz {gs : List (Str × Kd)} (h : Apart gs) (x : Str) (k : Kd) : szL (kput gs x k) ≤ szL gs + sz k := by
  have gen : ∀ l : List (Str × Kd), Apart l → szL (l.map fun p => if p.1 = x then (p.1, k) else p) ≤ szL l + sz k ∧ (x ∉ l.map (·.1) → (l.map fun p => if p.1 = x then (p.1, k) else p) = l) := by
    intro l
    induction l with
    | nil => intro _; exact ⟨by rw [List.map_nil, szL]; omega, fun _ => rfl⟩
    | cons p l ih =>
      intro h
      have h' : p.1 ∉ l.map (·.1) ∧ (l.map (·.1)).Nodup := by
        have : ((p :: l).map (·.1)).Nodup := h
        rwa [List.map_cons, List.nodup_cons] at this
      obtain ⟨i1, i2⟩ := ih h'.2
      refine ⟨?_, fun hn => ?_⟩
      · rw [List.map_cons, szL, szL]
        by_cases e : p.1 = x
        · rw [if_pos e, i2 (by rw [← e]; exact h'.1)]
          show sz k + _ ≤ _
          omega
        · rw [if_neg e]
          omega
      · rw [List.map_cons, List.mem_cons, not_or] at hn
        rw [List.map_cons, if_neg (fun e => hn.1 e.symm), i2 hn.2]
  unfold kput
  split
  · exact (gen gs h).1
  · rw [szL_app, szL, szL]
    exact Nat.le_refl _
theorem mixed_ok (b : Nat) (hb4 : 3 ≤ b) (hb : b + 1 < sizeLine) : ∀ (m n : Nat) (k : Kd) (s : Int) (S : Sto), Kg b k → dep k ≤ m → ∃ k', Kg (b + 1) k' ∧ dep k' ≤ m + 1 ∧ sz k' ≤ 6 * sz k ∧ (ph (n + m + 5)).call 11 [kd k, .int s] S = .ok (kd k') S := by
  intro m
  have s6 : 6 ≤ sizeLine := by decide
  have start : ∀ (n : Nat) (k : Kd) (s : Int) (S : Sto), exL (ph (n + 1)) b__law_mixed [some (.v (kd k)), some (.v (.int s)), none, none] S = exL (ph (n + 1)) (.cons st11m
 (.cons (.asg (.nm 2) (.dct .nil))
 (.cons (.for (.nm 3) (.over (.sub (.var 0) (.int (1)))) lb11m)
 (.cons fr11
 (.cons (.frz [2] (.ret (.tup (.cons (.sub (.var 0) (.int (0))) (.cons (.var 2) .nil)))))
 .nil))))) [some (.v (kd k)), some (.v (.int (nxt s))), none, none] S := by
    intro n k s S
    rw [b11m]
    refine (stp (ex_frz.trans (ex_set (d := .int (nxt s)) (S' := S) (r' := [some (.v (kd k)), some (.v (.int (nxt s))), none, none]) ?_ rfl))).trans rfl
    exact ev_call (evL_cons (ev_var rfl) evL_nil) (next_ok n s S)
  have base : ∀ (n : Nat) (k : Kd) (s : Int) (S : Sto), (k = .num ∨ k = .truth) → ∃ k', (k' = .num ∨ k' = .truth) ∧ (ph (n + 2)).call 11 [kd k, .int s] S = .ok (kd k') S := by
    intro n k s S hk
    have q0 : 0 ≤ ((nxt s).fdiv 11).fmod 6 := Int.fmod_nonneg_of_pos _ (by decide)
    have q1 : ((nxt s).fdiv 11).fmod 6 < 6 := Int.fmod_lt_of_pos _ (by decide)
    have main : ∀ k' : Kd, subD (.lst [kd k, kd k, kd k, kd k, .str "num", .str "truth"]) (.int (((nxt s).fdiv 11).fmod 6)) = some (kd k') → (ph (n + 2)).call 11 [kd k, .int s] S = .ok (kd k') S := by
      intro k' hk'
      rw [call_at rfl rfl]
      refine Eq.trans (congrArg SO.out ((start n k s S).trans ?_)) out_rt
      unfold st11m
      refine stp_rt ((ex_if_t (S' := S) ?_).trans (stp_rt (ex_frz.trans (ex_ret ?_))))
      · rcases hk with rfl | rfl <;> exact evT_e (rd_isi (ev_isi (rd_var rfl) rfl)) rfl
      · exact ev_sub (rd_lst (ev_lst (ds := [kd k, kd k, kd k, kd k, .str "num", .str "truth"]) (evL_cons (ev_var rfl) (evL_cons (ev_var rfl) (evL_cons (ev_var rfl) (evL_cons (ev_var rfl) (evL_cons ev_str (evL_cons ev_str evL_nil)))))) s6)) (ev_bin (d := .int (((nxt s).fdiv 11).fmod 6)) (rd_bin (ev_bin (d := .int ((nxt s).fdiv 11)) (rd_var rfl) rd_int rfl)) rd_int rfl) hk'
    have six : ((nxt s).fdiv 11).fmod 6 = 0 ∨ ((nxt s).fdiv 11).fmod 6 = 1 ∨ ((nxt s).fdiv 11).fmod 6 = 2 ∨ ((nxt s).fdiv 11).fmod 6 = 3 ∨ ((nxt s).fdiv 11).fmod 6 = 4 ∨ ((nxt s).fdiv 11).fmod 6 = 5 := by omega
    rcases six with e | e | e | e | e | e
    · exact ⟨k, hk, main k (by rw [e]; rfl)⟩
    · exact ⟨k, hk, main k (by rw [e]; rfl)⟩
    · exact ⟨k, hk, main k (by rw [e]; rfl)⟩
    · exact ⟨k, hk, main k (by rw [e]; rfl)⟩
    · exact ⟨.num, .inl rfl, main .num (by rw [e]; rfl)⟩
    · exact ⟨.truth, .inr rfl, main .truth (by rw [e]; rfl)⟩
  have baseK : ∀ k' : Kd, (k' = .num ∨ k' = .truth) → Kg (b + 1) k' ∧ ∀ m, dep k' ≤ m := by
    rintro k' (rfl | rfl)
    · exact ⟨.num, fun _ => Nat.zero_le _⟩
    · exact ⟨.truth, fun _ => Nat.zero_le _⟩
  induction m with
  | zero =>
    intro n k s S hk hd
    rcases hk.split with h | ⟨c, fs, rfl, _⟩
    · obtain ⟨k', h1, h2⟩ := base (n + 3) k s S h
      exact ⟨k', (baseK k' h1).1, (baseK k' h1).2 _, by have := sz_pos k; rcases h1 with rfl | rfl <;> (rw [sz]; omega), h2⟩
    · rw [dep_mk] at hd; omega
  | succ m ih =>
    intro n k s S hk hd
    rcases hk.split with h | ⟨c, fs, rfl, h1, h2, h3, h4, h5⟩
    · obtain ⟨k', h1, h2⟩ := base (n + m + 4) k s S h
      exact ⟨k', (baseK k' h1).1, (baseK k' h1).2 _, by have := sz_pos k; rcases h1 with rfl | rfl <;> (rw [sz]; omega), h2⟩
    · have s2 : 2 ≤ sizeLine := by decide
      rw [dep_mk] at hd
      have hkd := kd_mk c fs
      generalize hK : kd (K03.mk c fs) = K at *
      obtain ⟨r', S', el, hI⟩ := forS_inv (f := forB (ph (n + m + 5)) (.nm 3) lb11m) (xs := keysD (kdL fs)) (fun j r S' => S' = S ∧ ∃ s' gs o', r = [some (.v K), some (.v (.int s')), some (.od (kdL gs)), o'] ∧ Ps (b + 1) (m + 1) j gs ∧ szL gs ≤ 6 * szL (fs.take j)) (by
        rintro i x r S1 hx ⟨rfl, s', gs, o', rfl, hP, hz⟩
        have hi : i < fs.length := by
          have := (List.getElem?_eq_some_iff.mp hx).1
          rwa [keys_len] at this
        rw [keys_get fs hi] at hx
        have ex' : x = .str (fs[i]).1 := (Option.some.inj hx).symm
        subst ex'
        have hm : fs[i] ∈ fs := List.getElem_mem hi
        have hl := lookK_of h1 hm
        obtain ⟨k', hk', hd', hz', ek'⟩ := ih n (fs[i]).2 (nxt s') S1 (h5 _ hm) (by have := dep_mem hm; omega)
        have hlk : (kdL gs).length < sizeLine := by rw [kdL_map, List.length_map]; have := hP.len; omega
        have eN : ex (ph (n + m + 5)) (.frz [1] (.asg (.nm 1) (.call 8 (.cons (.var 1) .nil)))) [some (.v K), some (.v (.int s')), some (.od (kdL gs)), some (.v (.str (fs[i]).1))] S1 = .nx [some (.v K), some (.v (.int (nxt s'))), some (.od (kdL gs)), some (.v (.str (fs[i]).1))] S1 :=
          ex_frz.trans (ex_set (ev_call (evL_cons (ev_var rfl) evL_nil) (next_ok (n + m + 4) s' S1)) rfl)
        have eC : evT (ph (n + m + 5)) (.e (.cmp .gt (.bin .mod (.bin .fdiv (.var 1) (.int (5))) (.int (4))) (.int (0)))) [some (.v K), some (.v (.int (nxt s'))), some (.od (kdL gs)), some (.v (.str (fs[i]).1))] S1 = .ok (decide (0 < ((nxt s').fdiv 5).fmod 4)) S1 :=
          evT_e (k := decide (0 < ((nxt s').fdiv 5).fmod 4)) (rd_cmp (ev_cmp (rd_bin (ev_bin (rd_bin (ev_bin (d := .int ((nxt s').fdiv 5)) (rd_var rfl) rd_int rfl)) rd_int rfl)) rd_int rfl)) rfl
        have eb : exL (ph (n + m + 5)) lb11m [some (.v K), some (.v (.int s')), some (.od (kdL gs)), some (.v (.str (fs[i]).1))] S1 = .nx [some (.v K), some (.v (.int (nxt s'))), some (.od (kdL (if 0 < ((nxt s').fdiv 5).fmod 4 then kput gs (fs[i]).1 k' else gs))), some (.v (.str (fs[i]).1))] S1 := by
          unfold lb11m
          refine (stp eN).trans ?_
          by_cases hc : 0 < ((nxt s').fdiv 5).fmod 4
          · rw [decide_eq_true hc] at eC
            rw [if_pos hc]
            refine (stp ((ex_if_t eC).trans (stp (ex_frz.trans (ex_setk (d := kd k') (S' := S1) (S'' := S1) (i := 2) (kvs := kdL gs) (x := (fs[i]).1) ?_ rfl (ev_var rfl) hlk))))).trans ?_
            · refine ev_call (evL_cons (ev_sub (rd_sub (ev_sub (rd_var (d := K) rfl) ev_int (by rw [hkd]; rfl))) (ev_var rfl) (d := kd (fs[i]).2) ?_) (evL_cons (ev_var rfl) evL_nil)) ek'
              show dget _ _ = _
              rw [dget_kdL, hl]
              rfl
            · rw [exL_nil, dput_kdL]
              rfl
          · rw [decide_eq_false hc] at eC
            rw [if_neg hc]
            exact (stp ((ex_if_f eC).trans exL_nil)).trans exL_nil
        refine ⟨_, S1, eb, rfl, _, _, _, rfl, ?_, ?_⟩
        · split
          · exact hP.put (h4 _ hm) hk' hd'
          · exact hP.up (Nat.le_succ i)
        · rw [szL_take fs hi]
          split
          · have := kput_sz hP.ap (fs[i]).1 k'
            omega
          · omega) 0 (Nat.zero_le _) (r := [some (.v K), some (.v (.int (nxt s))), some (.od []), none]) (S := S) ⟨rfl, nxt s, [], none, by rw [kdL], Ps.nil, by rw [szL]; omega⟩
      obtain ⟨rfl, s', gs, o', rfl, hP, hz⟩ := hI
      rw [keys_len] at hP hz
      rw [List.take_length] at hz
      have hPb := hP.up h2
      have hfr : ∃ gs2, Ps (b + 1) (m + 1) (b + 1) gs2 ∧ gs2 ≠ [] ∧ szL gs2 ≤ szL gs + 5 ∧ ex (ph (n + m + 5)) fr11 [some (.v K), some (.v (.int s')), some (.od (kdL gs)), o'] S' = .nx [some (.v K), some (.v (.int s')), some (.od (kdL gs2)), o'] S' := by
        have eA : evT (ph (n + m + 5)) (.e (.cmp .eq (.bin .mod (.bin .fdiv (.var 1) (.int (7))) (.int (2))) (.int (0)))) [some (.v K), some (.v (.int s')), some (.od (kdL gs)), o'] S' = .ok (decide ((s'.fdiv 7).fmod 2 = 0)) S' :=
          evT_e (k := decide ((s'.fdiv 7).fmod 2 = 0)) (rd_cmp (ev_cmp (rd_bin (ev_bin (rd_bin (ev_bin (d := .int (s'.fdiv 7)) (rd_var rfl) rd_int rfl)) rd_int rfl)) rd_int rfl)) rfl
        have eB : evT (ph (n + m + 5)) (.e (.cmp .eq (.var 2) (.dct .nil))) [some (.v K), some (.v (.int s')), some (.od (kdL gs)), o'] S' = .ok (kdL gs).isEmpty S' :=
          evT_e (rd_cmp (ev_cmp (rd_var rfl) (rd_dct (by rw [ev, evD])) (eq_nil _))) rfl
        have put : ∀ hc : evT (ph (n + m + 5)) (.or (.e (.cmp .eq (.bin .mod (.bin .fdiv (.var 1) (.int (7))) (.int (2))) (.int (0)))) (.e (.cmp .eq (.var 2) (.dct .nil)))) [some (.v K), some (.v (.int s')), some (.od (kdL gs)), o'] S' = .ok true S', ∃ gs2, Ps (b + 1) (m + 1) (b + 1) gs2 ∧ gs2 ≠ [] ∧ szL gs2 ≤ szL gs + 5 ∧ ex (ph (n + m + 5)) fr11 [some (.v K), some (.v (.int s')), some (.od (kdL gs)), o'] S' = .nx [some (.v K), some (.v (.int s')), some (.od (kdL gs2)), o'] S' := by
          intro hc
          obtain ⟨y, hy, ey⟩ := name_ok (n + m + 3) s' S'
          obtain ⟨k1, hk14, hd1, ek1⟩ := kind_by_ok 4 (Nat.le_refl 4) 1 (n + m + 1) s' S'
          have hk1 : Kg (b + 1) k1 := hk14.up (by omega)
          have hz1 : sz k1 ≤ 5 := hk14.sz 1 hd1
          have hlk : (kdL gs).length < sizeLine := by rw [kdL_map, List.length_map]; have := hPb.len; omega
          refine ⟨kput gs y k1, hPb.put hy hk1 (by omega), kput_ne _ _ _, by have := kput_sz hPb.ap y k1; omega, ?_⟩
          unfold fr11
          refine (ex_if_t hc).trans ?_
          refine (stp (r' := [some (.v K), some (.v (.int s')), some (.od (kdL (kput gs y k1))), o']) (S' := S') ?_).trans exL_nil
          refine (ex_frz.trans (ex_setk (d := kd k1) (S' := S') (S'' := S') (i := 2) (kvs := kdL gs) (x := y) (ev_call (evL_cons (ev_var rfl) (evL_cons ev_int evL_nil)) ek1) rfl (ev_call (evL_cons (ev_var rfl) evL_nil) ey) hlk)).trans ?_
          rw [dput_kdL]
          rfl
        by_cases hA : (s'.fdiv 7).fmod 2 = 0
        · rw [decide_eq_true hA] at eA
          exact put (evT_or_t eA)
        · rw [decide_eq_false hA] at eA
          cases hB : (kdL gs).isEmpty with
          | true => rw [hB] at eB; exact put (evT_or_f eA eB)
          | false =>
            rw [hB] at eB
            refine ⟨gs, hPb.up (Nat.le_succ b), ?_, Nat.le_add_right _ _, ?_⟩
            · rintro rfl
              rw [kdL] at hB
              cases hB
            · unfold fr11
              exact (ex_if_f (evT_or_f eA eB)).trans exL_nil
      obtain ⟨gs2, hP2, hne, hz2, efr⟩ := hfr
      refine ⟨K03.mk c gs2, Kg.mk hP2.ap hP2.len (fun _ => hne) hP2.nam hP2.kg, ?_, by rw [sz_mk, sz_mk]; omega, ?_⟩
      · rw [dep_mk]
        have := depL_le gs2 hP2.dp
        omega
      · rw [call_at rfl rfl]
        have st := start (n + m + 4) (K03.mk c fs) s S'
        rw [hK] at st
        refine Eq.trans (congrArg SO.out (st.trans ?_)) out_rt
        unfold st11m
        refine (stp ((ex_if_f (S' := S') (evT_e (rd_isi (ev_isi (x := K) (k := false) (rd_var rfl) (by rw [hkd]; rfl))) rfl)).trans exL_nil)).trans ?_
        refine (stp (ex_set (d := .dic []) (S' := S') (r' := [some (.v K), some (.v (.int (nxt s))), some (.od []), none]) (by rw [ev, evD]) rfl)).trans ?_
        have eo : evI (ph (n + m + 5)) (.over (.sub (.var 0) (.int (1)))) [some (.v K), some (.v (.int (nxt s))), some (.od []), none] S' = .ok (keysD (kdL fs)) S' := by
          have : ev (ph (n + m + 5)) (.sub (.var 0) (.int (1))) [some (.v K), some (.v (.int (nxt s))), some (.od []), none] S' = .ok (.dic (kdL fs)) S' := ev_sub (rd_var (d := K) rfl) ev_int (by rw [hkd]; rfl)
          rw [evI, this, bnd_ok]
        rw [List.drop_zero] at el
        refine (stp (ex_loop eo el)).trans ?_
        refine (stp efr).trans ?_
        rw [kd_mk c gs2]
        refine stp_rt (ex_frz.trans (ex_ret (ev_tup (ds := [.str (mkw c), .dic (kdL gs2)]) (evL_cons (S1 := S') ?_ (evL_cons (S1 := S') ?_ evL_nil)) s2)))
        · exact ev_sub (rd_var (d := K) rfl) ev_int (by rw [hkd]; rfl)
        · exact ev_var rfl
end K03

namespace K03
open PySem PySem.Spec L2 Pi
/-! ### the law's own walk of two kinds -/
def lb13 : SL := (.cons (.frz [3, 3] (.ite (.or (.e (.cmp .nin (.var 3) (.sub (.var 0) (.int (1))))) (.or (.e (.cmp .nin (.var 3) (.sub (.var 1) (.int (1))))) (.not (.e (.call 13 (.cons (.sub (.sub (.var 0) (.int (1))) (.var 3)) (.cons (.sub (.sub (.var 1) (.int (1))) (.var 3)) .nil)))))))
 (.cons (.ret (.bl false))
 .nil)
 .nil))
 .nil)
theorem b13 : b__law_fits = (.cons (.ite (.or (.e (.isi (.var 0) [.str])) (.e (.isi (.var 1) [.str])))
 (.cons (.ret (.cmp .eq (.var 0) (.var 1)))
 .nil)
 .nil)
 (.cons (.ite (.e (.cmp .ne (.sub (.var 0) (.int (0))) (.sub (.var 1) (.int (0)))))
 (.cons (.ret (.bl false))
 .nil)
 .nil)
 (.cons (.asg (.nm 2) (.sub (.var 1) (.int (1))))
 (.cons (.ite (.e (.cmp .eq (.sub (.var 0) (.int (0))) (.str "choice")))
 (.cons (.asg (.nm 2) (.sub (.var 0) (.int (1))))
 .nil)
 .nil)
 (.cons (.frz [2] (.for (.nm 3) (.over (.var 2)) lb13))
 (.cons (.ret (.bl true))
 .nil)))))) := rfl
theorem law_fits : ∀ (m : Nat) (n : Nat) (k o : Kd) (S : Sto), dep k ≤ m → m ≤ n → Kok k → Kok o → (ph (n + 1)).call 13 [kd k, kd o] S = .ok (.bl (fit k o)) S := by
  have one : ∀ (n : Nat) (k o : Kd) (S : Sto), (isS k || isS o) = true → (ph (n + 1)).call 13 [kd k, kd o] S = .ok (.bl (fit k o)) S := by
    intro n k o S h
    rw [call_at rfl rfl]
    refine Eq.trans (congrArg SO.out (?_ : exL (ph n) b__law_fits [some (.v (kd k)), some (.v (kd o)), none, none] S = .rt (.bl (fit k o)) S)) out_rt
    rw [b13]
    have e1 : evT (ph n) (.e (.isi (.var 0) [.str])) [some (.v (kd k)), some (.v (kd o)), none, none] S = .ok (isS k) S := evT_e (rd_isi (ev_isi (rd_var rfl) (isi_str k))) rfl
    have e2 : evT (ph n) (.e (.isi (.var 1) [.str])) [some (.v (kd k)), some (.v (kd o)), none, none] S = .ok (isS o) S := evT_e (rd_isi (ev_isi (rd_var rfl) (isi_str o))) rfl
    have ec : evT (ph n) (.or (.e (.isi (.var 0) [.str])) (.e (.isi (.var 1) [.str]))) [some (.v (kd k)), some (.v (kd o)), none, none] S = .ok true S := by
      cases hk : isS k with
      | true => rw [hk] at e1; exact evT_or_t e1
      | false =>
        rw [hk] at e1 h
        have ho : isS o = true := by simpa using h
        rw [ho] at e2
        exact evT_or_f e1 e2
    exact stp_rt ((ex_if_t ec).trans (stp_rt (ex_ret (ev_cmp (rd_var rfl) (rd_var rfl) (eq_one k o h)))))
  intro m
  induction m with
  | zero =>
    intro n k o S h1 h2 hk ho
    cases k with
    | num => exact one n _ o S rfl
    | truth => exact one n _ o S rfl
    | rcd fs => rw [dep] at h1; omega
    | cho fs => rw [dep] at h1; omega
  | succ m ih =>
    intro n k o S h1 h2 hk ho
    by_cases hs : (isS k || isS o) = true
    · exact one n k o S hs
    · obtain ⟨n, rfl⟩ : ∃ j, n = j + 1 := ⟨n - 1, by omega⟩
      obtain ⟨c, fs, rfl⟩ : ∃ c fs, k = mk c fs := by
        cases k with
        | rcd fs => exact ⟨false, fs, rfl⟩
        | cho fs => exact ⟨true, fs, rfl⟩
        | _ => exact absurd rfl hs
      obtain ⟨d, gs, rfl⟩ : ∃ d gs, o = mk d gs := by
        cases o with
        | rcd fs => exact ⟨false, fs, rfl⟩
        | cho fs => exact ⟨true, fs, rfl⟩
        | _ => exact absurd (Bool.or_true _) hs
      have hk1 : Apart fs ∧ fs.length ≤ sizeLine ∧ ∀ p ∈ fs, Kok p.2 := by have := apart_of hk; cases c <;> exact this
      have ho1 : Apart gs ∧ gs.length ≤ sizeLine ∧ ∀ p ∈ gs, Kok p.2 := by have := apart_of ho; cases d <;> exact this
      obtain ⟨a1, a2, a3⟩ := hk1
      obtain ⟨c1, c2, c3⟩ := ho1
      have hkd := kd_mk c fs
      have hod := kd_mk d gs
      rw [dep_mk] at h1
      have hsk : isiD (kd (mk c fs)) [.str] = some false := by rw [hkd]; rfl
      have hso : isiD (kd (mk d gs)) [.str] = some false := by rw [hod]; rfl
      generalize hK : kd (mk c fs) = K at *
      generalize hO : kd (mk d gs) = O at *
      rw [call_at rfl rfl]
      refine Eq.trans (congrArg SO.out (?_ : exL (ph (n + 1)) b__law_fits [some (.v K), some (.v O), none, none] S = .rt (.bl (fit (mk c fs) (mk d gs))) S)) out_rt
      rw [b13]
      have e1 : evT (ph (n + 1)) (.or (.e (.isi (.var 0) [.str])) (.e (.isi (.var 1) [.str]))) [some (.v K), some (.v O), none, none] S = .ok false S :=
        evT_or_f (evT_e (rd_isi (ev_isi (rd_var rfl) hsk)) rfl) (evT_e (rd_isi (ev_isi (rd_var rfl) hso)) rfl)
      have k0 : ∀ r : Rho, r[0]? = some (some (.v K)) → ev (ph (n + 1)) (.sub (.var 0) (.int (0))) r S = .ok (.str (mkw c)) S := fun r h => ev_sub (rd_var (d := K) (by simp only [look, h])) ev_int (by rw [hkd]; rfl)
      have o0 : ∀ r : Rho, r[1]? = some (some (.v O)) → ev (ph (n + 1)) (.sub (.var 1) (.int (0))) r S = .ok (.str (mkw d)) S := fun r h => ev_sub (rd_var (d := O) (by simp only [look, h])) ev_int (by rw [hod]; rfl)
      have k1 : ∀ r : Rho, r[0]? = some (some (.v K)) → ev (ph (n + 1)) (.sub (.var 0) (.int (1))) r S = .ok (.dic (kdL fs)) S := fun r h => ev_sub (rd_var (d := K) (by simp only [look, h])) ev_int (by rw [hkd]; rfl)
      have o1 : ∀ r : Rho, r[1]? = some (some (.v O)) → ev (ph (n + 1)) (.sub (.var 1) (.int (1))) r S = .ok (.dic (kdL gs)) S := fun r h => ev_sub (rd_var (d := O) (by simp only [look, h])) ev_int (by rw [hod]; rfl)
      have e2 : evT (ph (n + 1)) (.e (.cmp .ne (.sub (.var 0) (.int (0))) (.sub (.var 1) (.int (0))))) [some (.v K), some (.v O), none, none] S = .ok (!decide (c = d)) S := by
        refine evT_e (rd_cmp (ev_cmp (k := !decide (c = d)) (rd_sub (k0 _ rfl)) (rd_sub (o0 _ rfl)) ?_)) rfl
        cases c <;> cases d <;> simp [cmD, eqq, D.deep, eqd, mkw, w_record_choice, w_choice_record]
      refine (stp ((ex_if_f e1).trans exL_nil)).trans ?_
      by_cases hcd : c = d
      · rw [decide_eq_true hcd] at e2
        refine (stp ((ex_if_f e2).trans exL_nil)).trans ?_
        subst hcd
        have keys_all : ∀ (ns : List (Str × Kd)) (f : Str → Bool), (keysD (kdL ns)).all (fun x => match x with | .str y => f y | _ => false) = ns.all fun p => f p.1 := by
          intro ns f
          unfold keysD
          rw [kdL_map, List.map_map, List.all_map]
          rfl
        obtain ⟨nar, hnar, hap, hfit, hmem⟩ : ∃ nar, nar = (if c = true then fs else gs) ∧ Apart nar ∧ fit (mk c fs) (mk c gs) = (keysD (kdL nar)).all (fun x => match x with | .str y => (match lookK fs y, lookK gs y with | some k, some o => fit k o | _, _ => false) | _ => false) ∧ nar.length ≤ sizeLine := by
          cases c with
          | false =>
            refine ⟨gs, rfl, c1, ?_, c2⟩
            rw [keys_all gs (fun y => match lookK fs y, lookK gs y with | some k, some o => fit k o | _, _ => false)]
            show fit (.rcd fs) (.rcd gs) = _
            rw [fit_rcd]
            refine all_congr' fun p hp => ?_
            rw [lookK_of c1 hp]
            cases lookK fs p.1 <;> rfl
          | true =>
            refine ⟨fs, rfl, a1, ?_, a2⟩
            rw [keys_all fs (fun y => match lookK fs y, lookK gs y with | some k, some o => fit k o | _, _ => false)]
            show fit (.cho fs) (.cho gs) = _
            rw [fit_cho]
            refine all_congr' fun p hp => ?_
            rw [lookK_of a1 hp]
            cases lookK gs p.1 <;> rfl
        have ew : exL (ph (n + 1)) (.cons (.asg (.nm 2) (.sub (.var 1) (.int (1))))
 (.cons (.ite (.e (.cmp .eq (.sub (.var 0) (.int (0))) (.str "choice")))
 (.cons (.asg (.nm 2) (.sub (.var 0) (.int (1))))
 .nil)
 .nil)
 (.cons (.frz [2] (.for (.nm 3) (.over (.var 2)) lb13))
 (.cons (.ret (.bl true))
 .nil)))) [some (.v K), some (.v O), none, none] S = exL (ph (n + 1)) (.cons (.frz [2] (.for (.nm 3) (.over (.var 2)) lb13)) (.cons (.ret (.bl true)) .nil)) [some (.v K), some (.v O), some (.v (.dic (kdL nar))), none] S := by
          refine (stp (ex_set (r' := [some (.v K), some (.v O), some (.v (.dic (kdL gs))), none]) (o1 _ rfl) rfl)).trans ?_
          have ec : evT (ph (n + 1)) (.e (.cmp .eq (.sub (.var 0) (.int (0))) (.str "choice"))) [some (.v K), some (.v O), some (.v (.dic (kdL gs))), none] S = .ok c S := by
            refine evT_e (rd_cmp (ev_cmp (k := c) (rd_sub (k0 _ rfl)) rd_str ?_)) rfl
            cases c <;> simp [cmD, eqq, D.deep, eqd, mkw, w_record_choice]
          cases c with
          | true =>
            rw [hnar]
            exact stp ((ex_if_t ec).trans ((stp (ex_set (k1 _ rfl) rfl)).trans exL_nil))
          | false =>
            rw [hnar]
            exact stp ((ex_if_f ec).trans exL_nil)
        refine ew.trans ?_
        have eo : evI (ph (n + 1)) (.over (.var 2)) [some (.v K), some (.v O), some (.v (.dic (kdL nar))), none] S = .ok (keysD (kdL nar)) S := by
          rw [evI, ev_var rfl, bnd_ok]
        obtain ⟨r', el, _⟩ := forS_ret (S := S) (f := forB (ph (n + 1)) (.nm 3) lb13) (xs := keysD (kdL nar)) (fun r => ∃ o, r = [some (.v K), some (.v O), some (.v (.dic (kdL nar))), o]) (fun x => match x with | .str y => (match lookK fs y, lookK gs y with | some k, some o => fit k o | _, _ => false) | _ => false) (by
          rintro x hx r ⟨o, rfl⟩
          obtain ⟨q, hq, rfl⟩ := List.mem_map.mp hx
          rw [kdL_map] at hq
          obtain ⟨p, hp, rfl⟩ := List.mem_map.mp hq
          have hfz : ∀ s : Pi.S, ex (ph (n + 1)) (.frz [3, 3] s) [some (.v K), some (.v O), some (.v (.dic (kdL nar))), some (.v (.str p.1))] S = ex (ph (n + 1)) s [some (.v K), some (.v O), some (.v (.dic (kdL nar))), some (.v (.str p.1))] S := fun s => ex_frz
          have hstart : forB (ph (n + 1)) (.nm 3) lb13 (.str p.1) [some (.v K), some (.v O), some (.v (.dic (kdL nar))), o] S = exL (ph (n + 1)) lb13 [some (.v K), some (.v O), some (.v (.dic (kdL nar))), some (.v (.str p.1))] S := rfl
          have en1 : evT (ph (n + 1)) (.e (.cmp .nin (.var 3) (.sub (.var 0) (.int (1))))) [some (.v K), some (.v O), some (.v (.dic (kdL nar))), some (.v (.str p.1))] S = .ok (!(lookK fs p.1).isSome) S := by
            refine evT_e (rd_cmp (ev_cmp (k := !(lookK fs p.1).isSome) (rd_var rfl) (rd_sub (k1 _ rfl)) ?_)) rfl
            simp only [cmD, innD, dget_kdL, Option.isSome_map, Option.map_some]
          have en2 : evT (ph (n + 1)) (.e (.cmp .nin (.var 3) (.sub (.var 1) (.int (1))))) [some (.v K), some (.v O), some (.v (.dic (kdL nar))), some (.v (.str p.1))] S = .ok (!(lookK gs p.1).isSome) S := by
            refine evT_e (rd_cmp (ev_cmp (k := !(lookK gs p.1).isSome) (rd_var rfl) (rd_sub (o1 _ rfl)) ?_)) rfl
            simp only [cmD, innD, dget_kdL, Option.isSome_map, Option.map_some]
          show ((match lookK fs p.1, lookK gs p.1 with | some k, some o => fit k o | _, _ => false) = true → _) ∧ ((match lookK fs p.1, lookK gs p.1 with | some k, some o => fit k o | _, _ => false) = false → _)
          cases hkk : lookK fs p.1 with
          | none =>
            rw [hkk] at en1
            refine ⟨fun hq => (by cases hq), fun _ => ?_⟩
            exact hstart.trans (stp_rt ((hfz _).trans ((ex_if_t (evT_or_t en1)).trans (stp_rt (ex_ret ev_bl)))))
          | some kk =>
            rw [hkk] at en1
            cases hoo : lookK gs p.1 with
            | none =>
              rw [hoo] at en2
              refine ⟨fun hq => (by cases hq), fun _ => ?_⟩
              exact hstart.trans (stp_rt ((hfz _).trans ((ex_if_t (evT_or_f en1 (evT_or_t en2))).trans (stp_rt (ex_ret ev_bl)))))
            | some oo =>
              rw [hoo] at en2
              obtain ⟨_, q1, hq1, e1'⟩ := sz_look hkk
              obtain ⟨_, q2, hq2, e2'⟩ := sz_look hoo
              have hr := ih n kk oo S (by have := look_dep hkk; omega) (by omega) (e1' ▸ a3 q1 hq1) (e2' ▸ c3 q2 hq2)
              have ecall : evT (ph (n + 1)) (.not (.e (.call 13 (.cons (.sub (.sub (.var 0) (.int (1))) (.var 3)) (.cons (.sub (.sub (.var 1) (.int (1))) (.var 3)) .nil))))) [some (.v K), some (.v O), some (.v (.dic (kdL nar))), some (.v (.str p.1))] S = .ok (!(fit kk oo)) S := by
                refine evT_not (evT_e (rd_call (ev_call (evL_cons (ev_sub (rd_sub (k1 _ rfl)) (ev_var rfl) (d := kd kk) ?_) (evL_cons (ev_sub (rd_sub (o1 _ rfl)) (ev_var rfl) (d := kd oo) ?_) evL_nil)) hr)) rfl)
                · show dget _ _ = _
                  rw [dget_kdL, hkk]; rfl
                · show dget _ _ = _
                  rw [dget_kdL, hoo]; rfl
              refine ⟨fun hq => ?_, fun hq => ?_⟩
              · have hq' : fit kk oo = true := hq
                rw [hq'] at ecall
                exact ⟨_, hstart.trans ((stp ((hfz _).trans ((ex_if_f (evT_or_f en1 (evT_or_f en2 ecall))).trans exL_nil))).trans exL_nil), _, rfl⟩
              · have hq' : fit kk oo = false := hq
                rw [hq'] at ecall
                exact hstart.trans (stp_rt ((hfz _).trans ((ex_if_t (evT_or_f en1 (evT_or_f en2 ecall))).trans (stp_rt (ex_ret ev_bl)))))) [some (.v K), some (.v O), some (.v (.dic (kdL nar))), none] ⟨none, rfl⟩
        rw [← hfit] at el
        rw [exL_cons, ex_frz.trans (ex_loop (r := [some (.v K), some (.v O), some (.v (.dic (kdL nar))), none]) eo el)]
        cases fit (mk c fs) (mk c gs) with
        | true =>
          simp only [if_true, then_nx]
          exact stp_rt (ex_ret ev_bl)
        | false => rfl
      · rw [decide_eq_false hcd] at e2
        have hfz : fit (mk c fs) (mk d gs) = false := by
          cases c <;> cases d <;> (try exact absurd rfl hcd) <;> simp [mk, fit, dep, fitF]
        rw [hfz]
        exact stp_rt ((ex_if_t e2).trans (stp_rt (ex_ret ev_bl)))
end K03

namespace K03
open PySem PySem.Spec L2 Pi
/-! ### the meeting -/
def kids : Kd → Kd → List (Str × Kd × Kd)
  | .rcd fs, .rcd gs => fs.filterMap fun p => (lookK gs p.1).map fun o => (p.1, p.2, o)
  | .cho fs, .cho gs => fs.map (fun p => (p.1, p.2, (lookK gs p.1).getD p.2)) ++ (gs.filter fun p => (lookK fs p.1).isNone).map fun p => (p.1, p.2, p.2)
  | _, _ => []
def somes (ms : List (Str × Option Kd)) : List (Str × Kd) := ms.filterMap fun p => p.2.map fun k => (p.1, k)
def metOf : Kd → Kd → List (Str × Option Kd) → Option Kd
  | .num, .num, _ => some .num
  | .truth, .truth, _ => some .truth
  | .rcd _, .rcd _, ms => some (.rcd (somes ms))
  | .cho _, .cho _, ms => if (ms.all fun p => p.2.isSome) = true then some (.cho (somes ms)) else none
  | _, _, _ => none
def metF : Nat → Kd → Kd → Option Kd
  | 0, k, o => metOf k o []
  | m + 1, k, o => metOf k o ((kids k o).map fun q => (q.1, metF m q.2.1 q.2.2))
theorem mem_dep {fs : List (Str × Kd)} {x : Str} {k : Kd} (h : (x, k) ∈ fs) : dep k ≤ depL fs := dep_mem h
theorem kids_from {k o : Kd} {q : Str × Kd × Kd} (h : q ∈ kids k o) : ∃ c fs gs, k = mk c fs ∧ o = mk c gs ∧ (((q.1, q.2.1) ∈ fs ∧ (q.1, q.2.2) ∈ gs ∧ lookK gs q.1 = some q.2.2) ∨ (c = true ∧ (q.1, q.2.1) ∈ fs ∧ lookK gs q.1 = none ∧ q.2.2 = q.2.1) ∨ (c = true ∧ (q.1, q.2.2) ∈ gs ∧ lookK fs q.1 = none ∧ q.2.1 = q.2.2)) := by
  have lk : ∀ {gs : List (Str × Kd)} {x : Str} {o : Kd}, lookK gs x = some o → (x, o) ∈ gs := by
    intro gs x o e
    unfold lookK at e
    rw [Option.map_eq_some_iff] at e
    obtain ⟨p, hp, rfl⟩ := e
    have h1 := List.mem_of_find?_eq_some hp
    have h2 : p.1 = x := by simpa using List.find?_some hp
    exact h2 ▸ h1
  unfold kids at h
  split at h
  · rename_i fs gs
    obtain ⟨p, hp, e⟩ := List.mem_filterMap.mp h
    rw [Option.map_eq_some_iff] at e
    obtain ⟨o, e1, rfl⟩ := e
    exact ⟨false, fs, gs, rfl, rfl, .inl ⟨hp, lk e1, e1⟩⟩
  · rename_i fs gs
    rcases List.mem_append.mp h with h | h
    · obtain ⟨p, hp, rfl⟩ := List.mem_map.mp h
      cases e : lookK gs p.1 with
      | none => exact ⟨true, fs, gs, rfl, rfl, .inr (.inl ⟨rfl, hp, e, by simp⟩)⟩
      | some o => exact ⟨true, fs, gs, rfl, rfl, .inl ⟨hp, lk e, by simpa using e⟩⟩
    · obtain ⟨p, hp, rfl⟩ := List.mem_map.mp h
      obtain ⟨h1, h2⟩ := List.mem_filter.mp hp
      exact ⟨true, fs, gs, rfl, rfl, .inr (.inr ⟨rfl, h1, by simpa using h2, rfl⟩)⟩
  · cases h
theorem kids_dep {k o : Kd} {q : Str × Kd × Kd} (h : q ∈ kids k o) : max (dep q.2.1) (dep q.2.2) < max (dep k) (dep o) := by
  obtain ⟨c, fs, gs, rfl, rfl, hh⟩ := kids_from h
  rw [dep_mk, dep_mk]
  rcases hh with ⟨h1, h2, _⟩ | ⟨_, h1, _, e⟩ | ⟨_, h1, _, e⟩
  · have := mem_dep h1
    have := mem_dep h2
    omega
  · have := mem_dep h1
    rw [e]
    omega
  · have := mem_dep h1
    rw [e]
    omega
theorem metF_up : ∀ (m m' : Nat) (k o : Kd), max (dep k) (dep o) ≤ m → max (dep k) (dep o) ≤ m' → metF m k o = metF m' k o := by
  intro m
  induction m with
  | zero =>
    intro m' k o h1 h2
    have hk : kids k o = [] := by
      cases e : kids k o with
      | nil => rfl
      | cons q l =>
        have := kids_dep (k := k) (o := o) (q := q) (by rw [e]; exact List.mem_cons_self)
        omega
    cases m' with
    | zero => rfl
    | succ m' => simp only [metF, hk, List.map_nil]
  | succ m ih =>
    intro m' k o h1 h2
    cases m' with
    | zero =>
      have hk : kids k o = [] := by
        cases e : kids k o with
        | nil => rfl
        | cons q l =>
          have := kids_dep (k := k) (o := o) (q := q) (by rw [e]; exact List.mem_cons_self)
          omega
      simp only [metF, hk, List.map_nil]
    | succ m' =>
      simp only [metF]
      congr 1
      refine List.map_congr_left fun q hq => ?_
      have := kids_dep hq
      rw [ih m' q.2.1 q.2.2 (by omega) (by omega)]
def met (k o : Kd) : Option Kd := metF (max (dep k) (dep o)) k o
theorem met_eq (k o : Kd) : met k o = metOf k o ((kids k o).map fun q => (q.1, met q.2.1 q.2.2)) := by
  have h : met k o = metF (max (dep k) (dep o) + 1) k o := metF_up _ _ k o (Nat.le_refl _) (Nat.le_succ _)
  rw [h]
  simp only [metF]
  congr 1
  refine List.map_congr_left fun q hq => ?_
  have := kids_dep hq
  rw [show met q.2.1 q.2.2 = metF (max (dep k) (dep o)) q.2.1 q.2.2 from metF_up _ _ _ _ (Nat.le_refl _) (by omega)]
/-- the parts that meet -/
def mets (k o : Kd) : List (Str × Option Kd) := (kids k o).map fun q => (q.1, met q.2.1 q.2.2)
theorem met_rcd (fs gs : List (Str × Kd)) : met (.rcd fs) (.rcd gs) = some (.rcd (somes (mets (.rcd fs) (.rcd gs)))) := met_eq _ _
theorem met_cho (fs gs : List (Str × Kd)) : met (.cho fs) (.cho gs) = if ((mets (.cho fs) (.cho gs)).all fun p => p.2.isSome) = true then some (.cho (somes (mets (.cho fs) (.cho gs)))) else none := met_eq _ _
theorem mem_somes {k o : Kd} {x : Str} {r : Kd} : (x, r) ∈ somes (mets k o) ↔ ∃ a b, (x, a, b) ∈ kids k o ∧ met a b = some r := by
  unfold somes mets
  rw [List.mem_filterMap]
  constructor
  · rintro ⟨p, hp, e⟩
    obtain ⟨q, hq, rfl⟩ := List.mem_map.mp hp
    rw [Option.map_eq_some_iff] at e
    obtain ⟨r', e1, e2⟩ := e
    cases e2
    exact ⟨q.2.1, q.2.2, hq, e1⟩
  · rintro ⟨a, b, h, e⟩
    exact ⟨(x, met a b), List.mem_map.mpr ⟨(x, a, b), h, rfl⟩, by simp [e]⟩
theorem kids_apart {c : Bool} {fs gs : List (Str × Kd)} (h1 : Apart fs) (h2 : Apart gs) : ((kids (mk c fs) (mk c gs)).map (·.1)).Nodup := by
  cases c with
  | false =>
    have : (kids (.rcd fs) (.rcd gs)).map (·.1) = (fs.filter fun p => (lookK gs p.1).isSome).map (·.1) := by
      simp only [kids]
      clear h1
      induction fs with
      | nil => rfl
      | cons p fs ih =>
        rw [List.filterMap_cons, List.filter_cons]
        cases e : lookK gs p.1 with
        | none => simpa [e] using ih
        | some o => simp only [Option.map_some, Option.isSome_some, if_true, List.map_cons, ih]
    show ((kids (.rcd fs) (.rcd gs)).map (·.1)).Nodup
    rw [this]
    exact (List.filter_sublist.map _).nodup h1
  | true =>
    have : (kids (.cho fs) (.cho gs)).map (·.1) = fs.map (·.1) ++ (gs.filter fun p => (lookK fs p.1).isNone).map (·.1) := by
      simp only [kids, List.map_append, List.map_map]
      rfl
    show ((kids (.cho fs) (.cho gs)).map (·.1)).Nodup
    rw [this, List.nodup_append]
    refine ⟨h1, (List.filter_sublist.map _).nodup h2, ?_⟩
    intro x hx y hy e
    subst e
    obtain ⟨p, hp, rfl⟩ := List.mem_map.mp hx
    obtain ⟨q, hq, e⟩ := List.mem_map.mp hy
    obtain ⟨_, hq2⟩ := List.mem_filter.mp hq
    have : lookK fs q.1 = some p.2 := by rw [e]; exact lookK_of h1 hp
    rw [this] at hq2
    cases hq2
theorem somes_apart {c : Bool} {fs gs : List (Str × Kd)} (h1 : Apart fs) (h2 : Apart gs) : Apart (somes (mets (mk c fs) (mk c gs))) := by
  have h := kids_apart (c := c) h1 h2
  have gen : ∀ l : List (Str × Kd × Kd), (l.map (·.1)).Nodup → ((somes (l.map fun q => (q.1, met q.2.1 q.2.2))).map (·.1)).Nodup ∧ ∀ x ∈ (somes (l.map fun q => (q.1, met q.2.1 q.2.2))).map (·.1), x ∈ l.map (·.1) := by
    intro l
    induction l with
    | nil => intro _; exact ⟨List.nodup_nil, fun _ h => nomatch h⟩
    | cons q l ih =>
      intro h
      rw [List.map_cons, List.nodup_cons] at h
      obtain ⟨i1, i2⟩ := ih h.2
      unfold somes at i1 i2 ⊢
      rw [List.map_cons, List.filterMap_cons]
      cases e : met q.2.1 q.2.2 with
      | none =>
        simp only [e, Option.map_none]
        exact ⟨i1, fun x hx => List.mem_cons_of_mem _ (i2 x hx)⟩
      | some r =>
        simp only [e, Option.map_some, List.map_cons]
        refine ⟨List.nodup_cons.mpr ⟨fun hm => h.1 (i2 _ hm), i1⟩, fun x hx => ?_⟩
        rcases List.mem_cons.mp hx with rfl | hx
        · exact List.mem_cons_self
        · exact List.mem_cons_of_mem _ (i2 x hx)
  exact (gen _ h).1
theorem lk_mem {gs : List (Str × Kd)} {x : Str} {o : Kd} (e : lookK gs x = some o) : (x, o) ∈ gs := by
  unfold lookK at e
  rw [Option.map_eq_some_iff] at e
  obtain ⟨p, hp, rfl⟩ := e
  have h1 := List.mem_of_find?_eq_some hp
  have h2 : p.1 = x := by simpa using List.find?_some hp
  exact h2 ▸ h1
/-- both ways round -/
theorem kids_sym {c : Bool} {fs gs : List (Str × Kd)} (h1 : Apart fs) (h2 : Apart gs) {x : Str} {a b : Kd} (h : (x, a, b) ∈ kids (mk c fs) (mk c gs)) : (x, b, a) ∈ kids (mk c gs) (mk c fs) := by
  obtain ⟨c', fs', gs', e1, e2, hh⟩ := kids_from h
  cases c with
  | false =>
    cases c' with
    | true => cases e1
    | false =>
      cases e1; cases e2
      rcases hh with ⟨m1, m2, m3⟩ | ⟨z, _⟩ | ⟨z, _⟩
      · show (x, b, a) ∈ kids (.rcd gs) (.rcd fs)
        simp only [kids]
        refine List.mem_filterMap.mpr ⟨(x, b), m2, ?_⟩
        rw [show lookK fs x = some a from lookK_of h1 m1]
        rfl
      · cases z
      · cases z
  | true =>
    cases c' with
    | false => cases e1
    | true =>
      cases e1; cases e2
      show (x, b, a) ∈ kids (.cho gs) (.cho fs)
      simp only [kids]
      rw [List.mem_append]
      rcases hh with ⟨m1, m2, m3⟩ | ⟨_, m1, m2, e⟩ | ⟨_, m1, m2, e⟩
      · refine .inl (List.mem_map.mpr ⟨(x, b), m2, ?_⟩)
        rw [show lookK fs x = some a from lookK_of h1 m1]
        rfl
      · have e : b = a := e
        subst e
        exact .inr (List.mem_map.mpr ⟨(x, b), List.mem_filter.mpr ⟨m1, by show (lookK gs x).isNone = true; rw [show lookK gs x = none from m2]; rfl⟩, rfl⟩)
      · have e : a = b := e
        subst e
        refine .inl (List.mem_map.mpr ⟨(x, a), m1, ?_⟩)
        rw [show lookK fs x = none from m2]
        rfl
/-- both fit their meeting -/
theorem met_fits : ∀ (m : Nat) (k o r : Kd), max (dep k) (dep o) ≤ m → Kok k → Kok o → met k o = some r → fit k r = true ∧ fit o r = true := by
  intro m
  induction m with
  | zero =>
    intro k o r hd hk ho h
    cases hk with
    | num => cases o <;> (rw [met_eq] at h; cases h); exact ⟨rfl, rfl⟩
    | truth => cases o <;> (rw [met_eq] at h; cases h); exact ⟨rfl, rfl⟩
    | rcd fs _ _ _ => rw [dep] at hd; omega
    | cho fs _ _ _ => rw [dep] at hd; omega
  | succ m ih =>
    intro k o r hd hk ho h
    have kok : ∀ {c fs gs x a b}, k = mk c fs → o = mk c gs → (x, a, b) ∈ kids k o → Kok a ∧ Kok b := by
      intro c fs gs x a b e1 e2 hq
      have A := (apart_of hk).2.2
      have B := (apart_of ho).2.2
      subst e1 e2
      have pf : ∀ fs, ptOf (mk c fs) = fs := fun fs => by cases c <;> rfl
      rw [pf] at A B
      obtain ⟨c', fs', gs', e1, e2, hh⟩ := kids_from hq
      have e1' := congrArg ptOf e1
      have e2' := congrArg ptOf e2
      have pf' : ∀ fs, ptOf (mk c' fs) = fs := fun fs => by cases c' <;> rfl
      rw [pf, pf'] at e1' e2'
      subst e1' e2'
      rcases hh with ⟨m1, m2, _⟩ | ⟨_, m1, _, e⟩ | ⟨_, m1, _, e⟩
      · exact ⟨A _ m1, B _ m2⟩
      · have e : b = a := e
        subst e
        exact ⟨A _ m1, A _ m1⟩
      · have e : a = b := e
        subst e
        exact ⟨B _ m1, B _ m1⟩
    cases hk0 : k with
    | num => subst hk0; cases o <;> (rw [met_eq] at h; cases h); exact ⟨rfl, rfl⟩
    | truth => subst hk0; cases o <;> (rw [met_eq] at h; cases h); exact ⟨rfl, rfl⟩
    | rcd fs =>
      cases ho0 : o with
      | rcd gs =>
        subst hk0 ho0
        have a1 := (apart_of hk).1
        have c1 := (apart_of ho).1
        rw [met_rcd] at h
        cases h
        rw [fit_rcd, fit_rcd]
        refine ⟨List.all_eq_true.mpr fun p hp => ?_, List.all_eq_true.mpr fun p hp => ?_⟩
        all_goals
          obtain ⟨a, b, hq, e⟩ := mem_somes.mp (show (p.1, p.2) ∈ _ from hp)
          obtain ⟨ka, kb⟩ := kok (c := false) rfl rfl hq
          have hdp := kids_dep hq
          obtain ⟨f1, f2⟩ := ih a b p.2 (by show max (dep a) (dep b) ≤ m; have : max (dep a) (dep b) < max (dep (.rcd fs)) (dep (.rcd gs)) := hdp; omega) ka kb e
          obtain ⟨c', fs', gs', e1, e2, hh⟩ := kids_from hq
          cases c' with
          | true => cases e1
          | false =>
            cases e1; cases e2
            rcases hh with ⟨m1, m2, m3⟩ | ⟨z, _⟩ | ⟨z, _⟩
            · have q1 : lookK fs p.1 = some a := lookK_of a1 m1
              have q2 : lookK gs p.1 = some b := m3
              first
                | (rw [q1]; exact f1)
                | (rw [q2]; exact f2)
            · cases z
            · cases z
      | _ => subst hk0 ho0; rw [met_eq] at h; cases h
    | cho fs =>
      cases ho0 : o with
      | cho gs =>
        subst hk0 ho0
        have a1 : Apart fs := (apart_of hk).1
        have c1 : Apart gs := (apart_of ho).1
        rw [met_cho] at h
        split at h
        · rename_i hall
          cases h
          have got : ∀ {x a b}, (x, a, b) ∈ kids (.cho fs) (.cho gs) → ∃ r, lookK (somes (mets (.cho fs) (.cho gs))) x = some r ∧ fit a r = true ∧ fit b r = true := by
            intro x a b hq
            have hs : (met a b).isSome = true := List.all_eq_true.mp hall (x, met a b) (List.mem_map.mpr ⟨(x, a, b), hq, rfl⟩)
            obtain ⟨r, hr⟩ := Option.isSome_iff_exists.mp hs
            obtain ⟨ka, kb⟩ := kok (c := true) rfl rfl hq
            have hdp := kids_dep hq
            obtain ⟨f1, f2⟩ := ih a b r (by have : max (dep a) (dep b) < max (dep (.cho fs)) (dep (.cho gs)) := hdp; omega) ka kb hr
            exact ⟨r, lookK_of (somes_apart (c := true) a1 c1) (p := (x, r)) (mem_somes.mpr ⟨a, b, hq, hr⟩), f1, f2⟩
          rw [fit_cho, fit_cho]
          refine ⟨List.all_eq_true.mpr fun p hp => ?_, List.all_eq_true.mpr fun p hp => ?_⟩
          · obtain ⟨r, e, f1, _⟩ := got (x := p.1) (a := p.2) (b := (lookK gs p.1).getD p.2) (by simp only [kids]; exact List.mem_append.mpr (.inl (List.mem_map.mpr ⟨p, hp, rfl⟩)))
            rw [e]
            exact f1
          · cases e0 : lookK fs p.1 with
            | none =>
              obtain ⟨r, e, f1, _⟩ := got (x := p.1) (a := p.2) (b := p.2) (by simp only [kids]; exact List.mem_append.mpr (.inr (List.mem_map.mpr ⟨p, List.mem_filter.mpr ⟨hp, by simp [e0]⟩, rfl⟩)))
              rw [e]
              exact f1
            | some a =>
              obtain ⟨r, e, _, f2⟩ := got (x := p.1) (a := a) (b := p.2) (by
                simp only [kids]
                refine List.mem_append.mpr (.inl (List.mem_map.mpr ⟨(p.1, a), lk_mem e0, ?_⟩))
                rw [show lookK gs p.1 = some p.2 from lookK_of c1 hp]
                rfl)
              rw [e]
              exact f2
        · cases h
      | _ => subst hk0 ho0; rw [met_eq] at h; cases h
end K03

namespace K03
open PySem PySem.Spec L2 Pi
theorem nodup_len {α : Type} [DecidableEq α] : ∀ (xs ys : List α), xs.Nodup → (∀ x ∈ xs, x ∈ ys) → xs.length ≤ ys.length
  | [], _, _, _ => Nat.zero_le _
  | x :: xs, ys, hn, h => by
    rw [List.nodup_cons] at hn
    have hx : x ∈ ys := h x List.mem_cons_self
    have ih := nodup_len xs (ys.erase x) hn.2 fun y hy => by
      have hne : y ≠ x := fun e => hn.1 (e ▸ hy)
      exact (List.mem_erase_of_ne hne).mpr (h y (List.mem_cons_of_mem _ hy))
    rw [List.length_erase_of_mem hx] at ih
    have := List.length_pos_of_mem hx
    rw [List.length_cons]
    omega
theorem eqdK_of (ys : List (Str × D)) : ∀ l : List (Str × D), (∀ p ∈ l, ∃ u, dget ys p.1 = some u ∧ eqd p.2 u = some true) → eqdK l ys = some true
  | [], _ => rfl
  | p :: l, h => by
    obtain ⟨u, h1, h2⟩ := h p List.mem_cons_self
    rw [eqdK, h1]
    simp only [h2, eqdK_of ys l fun q hq => h q (List.mem_cons_of_mem _ hq), Bool.and_self]
theorem eqd_mk {c : Bool} {fs gs : List (Str × Kd)} (h : ∀ p ∈ fs, ∃ u, lookK gs p.1 = some u ∧ eqd (kd p.2) (kd u) = some true) (hl : fs.length = gs.length) : eqd (kd (mk c fs)) (kd (mk c gs)) = some true := by
  rw [kd_mk, kd_mk]
  have hd : eqd (.dic (kdL fs)) (.dic (kdL gs)) = some true := by
    rw [eqd, eqdK_of (kdL gs) (kdL fs) (fun p hp => by
      rw [kdL_map] at hp
      obtain ⟨q, hq, rfl⟩ := List.mem_map.mp hp
      obtain ⟨u, h1, h2⟩ := h q hq
      exact ⟨kd u, by rw [dget_kdL, h1]; rfl, h2⟩)]
    rw [kdL_map, kdL_map, List.length_map, List.length_map, hl]
    simp
  rw [eqd]
  simp only [eqdL, hd]
  simp [eqd]
theorem eqd_refl : ∀ {k : Kd}, Kok k → eqd (kd k) (kd k) = some true := by
  intro k h
  induction h with
  | num => rw [kd]; simp [eqd]
  | truth => rw [kd]; simp [eqd]
  | rcd fs h1 h2 h3 ih => exact eqd_mk (c := false) (fun p hp => ⟨p.2, lookK_of h1 hp, ih p hp⟩) rfl
  | cho fs h1 h2 h3 ih => exact eqd_mk (c := true) (fun p hp => ⟨p.2, lookK_of h1 hp, ih p hp⟩) rfl
/-- what is within two kinds is as they are -/
theorem kids_kg {b : Nat} {k o : Kd} (hk : Kg b k) (ho : Kg b o) {q : Str × Kd × Kd} (h : q ∈ kids k o) : Nam q.1 ∧ Kg b q.2.1 ∧ Kg b q.2.2 := by
  obtain ⟨c, fs, gs, rfl, rfl, hh⟩ := kids_from h
  have A : (∀ p ∈ fs, Nam p.1) ∧ ∀ p ∈ fs, Kg b p.2 := by
    cases c with
    | false => cases hk with | rcd _ _ _ h3 h4 => exact ⟨h3, h4⟩
    | true => cases hk with | cho _ _ _ _ h3 h4 => exact ⟨h3, h4⟩
  have B : (∀ p ∈ gs, Nam p.1) ∧ ∀ p ∈ gs, Kg b p.2 := by
    cases c with
    | false => cases ho with | rcd _ _ _ h3 h4 => exact ⟨h3, h4⟩
    | true => cases ho with | cho _ _ _ _ h3 h4 => exact ⟨h3, h4⟩
  rcases hh with ⟨m1, m2, _⟩ | ⟨_, m1, _, e⟩ | ⟨_, m1, _, e⟩
  · exact ⟨A.1 _ m1, A.2 _ m1, B.2 _ m2⟩
  · rw [e]; exact ⟨A.1 _ m1, A.2 _ m1, A.2 _ m1⟩
  · rw [e]; exact ⟨B.1 _ m1, B.2 _ m1, B.2 _ m1⟩
theorem kids_len (c : Bool) (fs gs : List (Str × Kd)) : (kids (mk c fs) (mk c gs)).length ≤ fs.length + gs.length := by
  cases c with
  | false =>
    show (kids (.rcd fs) (.rcd gs)).length ≤ _
    simp only [kids]
    have := List.length_filterMap_le (fun p : Str × Kd => (lookK gs p.1).map fun o => (p.1, p.2, o)) fs
    omega
  | true =>
    show (kids (.cho fs) (.cho gs)).length ≤ _
    simp only [kids, List.length_append, List.length_map]
    have := List.length_filter_le (fun p : Str × Kd => (lookK fs p.1).isNone) gs
    omega
theorem split_kg {b : Nat} {c : Bool} {fs : List (Str × Kd)} (h : Kg b (mk c fs)) : Apart fs ∧ fs.length ≤ b ∧ (c = true → fs ≠ []) := by
  cases c with
  | false => cases h with | rcd _ h1 h2 _ _ => exact ⟨h1, h2, fun h => nomatch h⟩
  | true => cases h with | cho _ h1 h2 h3 _ _ => exact ⟨h1, h2, fun _ => h3⟩
theorem met_mk {c : Bool} {fs gs : List (Str × Kd)} {r : Kd} (h : met (mk c fs) (mk c gs) = some r) : r = mk c (somes (mets (mk c fs) (mk c gs))) ∧ (c = true → ∀ q ∈ kids (mk c fs) (mk c gs), (met q.2.1 q.2.2).isSome = true) := by
  cases c with
  | false =>
    have h' := h
    rw [show mk false fs = .rcd fs from rfl, show mk false gs = .rcd gs from rfl, met_rcd] at h'
    cases h'
    exact ⟨rfl, fun h => nomatch h⟩
  | true =>
    have h' := h
    rw [show mk true fs = .cho fs from rfl, show mk true gs = .cho gs from rfl, met_cho] at h'
    split at h'
    · rename_i hall
      cases h'
      exact ⟨rfl, fun _ q hq => List.all_eq_true.mp hall (q.1, met q.2.1 q.2.2) (List.mem_map.mpr ⟨q, hq, rfl⟩)⟩
    · cases h'
theorem met_make {k o : Kd} {c : Bool} {fs : List (Str × Kd)} {r : Kd} (e : k = mk c fs) (h : met k o = some r) : ∃ gs, o = mk c gs := by
  subst e
  rw [met_eq] at h
  cases c <;> cases o <;> first | exact ⟨_, rfl⟩ | cases h
theorem met_kg (b : Nat) : ∀ (m : Nat) (k o r : Kd), max (dep k) (dep o) ≤ m → Kg b k → Kg b o → met k o = some r → Kg (b + b) r ∧ dep r ≤ m := by
  intro m
  induction m with
  | zero =>
    intro k o r hd hk ho h
    rcases hk.split with (rfl | rfl) | ⟨c, fs, rfl, _⟩
    · cases o <;> (rw [met_eq] at h; cases h); exact ⟨.num, Nat.le_refl _⟩
    · cases o <;> (rw [met_eq] at h; cases h); exact ⟨.truth, Nat.le_refl _⟩
    · rw [dep_mk] at hd; omega
  | succ m ih =>
    intro k o r hd hk ho h
    rcases hk.split with (rfl | rfl) | ⟨c, fs, rfl, a1, a2, a3, _, _⟩
    · cases o <;> (rw [met_eq] at h; cases h); exact ⟨.num, Nat.zero_le _⟩
    · cases o <;> (rw [met_eq] at h; cases h); exact ⟨.truth, Nat.zero_le _⟩
    · obtain ⟨gs, rfl⟩ := met_make rfl h
      obtain ⟨c1, c2, c3⟩ := split_kg ho
      obtain ⟨rfl, hall⟩ := met_mk h
      have sub : ∀ p ∈ somes (mets (mk c fs) (mk c gs)), Nam p.1 ∧ Kg (b + b) p.2 ∧ dep p.2 ≤ m := by
        intro p hp
        obtain ⟨x, y, hq, e⟩ := mem_somes.mp (show (p.1, p.2) ∈ _ from hp)
        obtain ⟨q1, q2, q3⟩ := kids_kg hk ho hq
        have hdp : max (dep x) (dep y) < max (dep (mk c fs)) (dep (mk c gs)) := kids_dep hq
        obtain ⟨f1, f2⟩ := ih x y p.2 (by omega) q2 q3 e
        exact ⟨q1, f1, f2⟩
      refine ⟨Kg.mk (somes_apart a1 c1) ?_ ?_ (fun p hp => (sub p hp).1) (fun p hp => (sub p hp).2.1), ?_⟩
      · have h1 : (somes (mets (mk c fs) (mk c gs))).length ≤ (mets (mk c fs) (mk c gs)).length := List.length_filterMap_le _ _
        have h2 : (mets (mk c fs) (mk c gs)).length = (kids (mk c fs) (mk c gs)).length := by unfold mets; rw [List.length_map]
        have h3 := kids_len c fs gs
        omega
      · intro hc hnil
        subst hc
        cases hf : fs with
        | nil => exact a3 rfl hf
        | cons p l =>
          have hq : (p.1, p.2, (lookK gs p.1).getD p.2) ∈ kids (mk true fs) (mk true gs) := by
            show _ ∈ kids (.cho fs) (.cho gs)
            simp only [kids]
            exact List.mem_append.mpr (.inl (List.mem_map.mpr ⟨p, by rw [hf]; exact List.mem_cons_self, rfl⟩))
          obtain ⟨r, hr⟩ := Option.isSome_iff_exists.mp (hall rfl _ hq)
          have : (p.1, r) ∈ somes (mets (mk true fs) (mk true gs)) := mem_somes.mpr ⟨_, _, hq, hr⟩
          rw [hnil] at this
          cases this
      · rw [dep_mk]
        have := depL_le _ fun p hp => (sub p hp).2.2
        omega
/-- from either side -/
theorem met_sym (b : Nat) : ∀ (m : Nat) (k o : Kd), max (dep k) (dep o) ≤ m → Kg b k → Kg b o → (met k o = none ∧ met o k = none) ∨ ∃ r r', met k o = some r ∧ met o k = some r' ∧ eqd (kd r) (kd r') = some true := by
  intro m
  induction m with
  | zero =>
    intro k o hd hk ho
    rcases hk.split with (rfl | rfl) | ⟨c, fs, rfl, _⟩
    · cases o with
      | num => exact .inr ⟨.num, .num, by rw [met_eq]; rfl, by rw [met_eq]; rfl, eqd_refl .num⟩
      | _ => exact .inl ⟨by rw [met_eq]; rfl, by rw [met_eq]; rfl⟩
    · cases o with
      | truth => exact .inr ⟨.truth, .truth, by rw [met_eq]; rfl, by rw [met_eq]; rfl, eqd_refl .truth⟩
      | _ => exact .inl ⟨by rw [met_eq]; rfl, by rw [met_eq]; rfl⟩
    · rw [dep_mk] at hd; omega
  | succ m ih =>
    intro k o hd hk ho
    rcases hk.split with (rfl | rfl) | ⟨c, fs, rfl, a1, a2, a3, _, _⟩
    · cases o with
      | num => exact .inr ⟨.num, .num, by rw [met_eq]; rfl, by rw [met_eq]; rfl, eqd_refl .num⟩
      | _ => exact .inl ⟨by rw [met_eq]; rfl, by rw [met_eq]; rfl⟩
    · cases o with
      | truth => exact .inr ⟨.truth, .truth, by rw [met_eq]; rfl, by rw [met_eq]; rfl, eqd_refl .truth⟩
      | _ => exact .inl ⟨by rw [met_eq]; rfl, by rw [met_eq]; rfl⟩
    · by_cases hm : ∃ gs, o = mk c gs
      · obtain ⟨gs, rfl⟩ := hm
        obtain ⟨c1, c2, c3⟩ := split_kg ho
        have one : ∀ {fs gs : List (Str × Kd)}, Apart fs → Apart gs → Kg b (mk c fs) → Kg b (mk c gs) → max (dep (mk c fs)) (dep (mk c gs)) ≤ m + 1 → ∀ {x : Str} {u v : Kd}, (x, u, v) ∈ kids (mk c fs) (mk c gs) → (met u v = none ∧ met v u = none) ∨ ∃ r r', met u v = some r ∧ met v u = some r' ∧ eqd (kd r) (kd r') = some true := by
          intro fs gs _ _ hk ho hd x u v hq
          obtain ⟨_, q2, q3⟩ := kids_kg hk ho hq
          have hdp : max (dep u) (dep v) < max (dep (mk c fs)) (dep (mk c gs)) := kids_dep hq
          exact ih u v (by omega) q2 q3
        have hd' : max (dep (mk c gs)) (dep (mk c fs)) ≤ m + 1 := by omega
        have fin : eqd (kd (mk c (somes (mets (mk c fs) (mk c gs))))) (kd (mk c (somes (mets (mk c gs) (mk c fs))))) = some true := by
          have sub : ∀ {fs gs : List (Str × Kd)}, Apart fs → Apart gs → Kg b (mk c fs) → Kg b (mk c gs) → max (dep (mk c fs)) (dep (mk c gs)) ≤ m + 1 → ∀ p ∈ somes (mets (mk c fs) (mk c gs)), ∃ u, lookK (somes (mets (mk c gs) (mk c fs))) p.1 = some u ∧ eqd (kd p.2) (kd u) = some true := by
            intro fs gs a1 c1 hk ho hd p hp
            obtain ⟨u, v, hq, e⟩ := mem_somes.mp (show (p.1, p.2) ∈ _ from hp)
            rcases one a1 c1 hk ho hd hq with ⟨z, _⟩ | ⟨r, r', e1, e2, e3⟩
            · rw [z] at e; cases e
            · rw [e1] at e
              cases e
              exact ⟨r', lookK_of (somes_apart c1 a1) (p := (p.1, r')) (mem_somes.mpr ⟨v, u, kids_sym a1 c1 hq, e2⟩), e3⟩
          have le : ∀ {fs gs : List (Str × Kd)}, Apart fs → Apart gs → Kg b (mk c fs) → Kg b (mk c gs) → max (dep (mk c fs)) (dep (mk c gs)) ≤ m + 1 → (somes (mets (mk c fs) (mk c gs))).length ≤ (somes (mets (mk c gs) (mk c fs))).length := by
            intro fs gs a1 c1 hk ho hd
            have := nodup_len ((somes (mets (mk c fs) (mk c gs))).map (·.1)) ((somes (mets (mk c gs) (mk c fs))).map (·.1)) (show ((somes (mets (mk c fs) (mk c gs))).map (·.1)).Nodup from somes_apart a1 c1) fun x hx => by
              obtain ⟨p, hp, rfl⟩ := List.mem_map.mp hx
              obtain ⟨u, hu, _⟩ := sub a1 c1 hk ho hd p hp
              exact List.mem_map.mpr ⟨(p.1, u), lk_mem hu, rfl⟩
            rwa [List.length_map, List.length_map] at this
          exact eqd_mk (sub a1 c1 hk ho hd) (Nat.le_antisymm (le a1 c1 hk ho hd) (le c1 a1 ho hk hd'))
        cases c with
        | false =>
          exact .inr ⟨_, _, met_rcd fs gs, met_rcd gs fs, fin⟩
        | true =>
          by_cases hall : ((mets (.cho fs) (.cho gs)).all fun p => p.2.isSome) = true
          · have hall' : ((mets (.cho gs) (.cho fs)).all fun p => p.2.isSome) = true := by
              refine List.all_eq_true.mpr fun p hp => ?_
              obtain ⟨q, hq, rfl⟩ := List.mem_map.mp hp
              have hq' := kids_sym (c := true) c1 a1 (show (q.1, q.2.1, q.2.2) ∈ kids (mk true gs) (mk true fs) from hq)
              have h1 : (met q.2.2 q.2.1).isSome = true := List.all_eq_true.mp hall (q.1, met q.2.2 q.2.1) (List.mem_map.mpr ⟨(q.1, q.2.2, q.2.1), hq', rfl⟩)
              rcases one a1 c1 hk ho hd hq' with ⟨z, _⟩ | ⟨r, r', e1, e2, e3⟩
              · rw [z] at h1; cases h1
              · show (met q.2.1 q.2.2).isSome = true
                rw [e2]; rfl
            refine .inr ⟨_, _, (met_cho fs gs).trans (if_pos hall), (met_cho gs fs).trans (if_pos hall'), fin⟩
          · have hall' : ¬ ((mets (.cho gs) (.cho fs)).all fun p => p.2.isSome) = true := by
              intro h'
              refine hall (List.all_eq_true.mpr fun p hp => ?_)
              obtain ⟨q, hq, rfl⟩ := List.mem_map.mp hp
              have hq' := kids_sym (c := true) a1 c1 (show (q.1, q.2.1, q.2.2) ∈ kids (mk true fs) (mk true gs) from hq)
              have h1 : (met q.2.2 q.2.1).isSome = true := List.all_eq_true.mp h' (q.1, met q.2.2 q.2.1) (List.mem_map.mpr ⟨(q.1, q.2.2, q.2.1), hq', rfl⟩)
              rcases one a1 c1 hk ho hd hq with ⟨_, z⟩ | ⟨r, r', e1, e2, e3⟩
              · rw [z] at h1; cases h1
              · show (met q.2.1 q.2.2).isSome = true
                rw [e1]; rfl
            exact .inl ⟨(met_cho fs gs).trans (if_neg hall), (met_cho gs fs).trans (if_neg hall')⟩
      · have n1 : met (mk c fs) o = none := by
          cases e : met (mk c fs) o with
          | none => rfl
          | some r => exact absurd (met_make rfl e) hm
        have n2 : met o (mk c fs) = none := by
          rcases ho.split with (rfl | rfl) | ⟨d, gs, rfl, _⟩
          · rw [met_eq]; cases c <;> rfl
          · rw [met_eq]; cases c <;> rfl
          · have hcd : c ≠ d := fun e => hm ⟨gs, by rw [e]⟩
            rw [met_eq]
            cases c <;> cases d <;> first | rfl | exact absurd rfl hcd
        exact .inl ⟨n1, n2⟩
/-- a kind meets itself in itself -/
theorem met_self (b : Nat) : ∀ (m : Nat) (k : Kd), dep k ≤ m → Kg b k → met k k = some k := by
  intro m
  induction m with
  | zero =>
    intro k hd hk
    rcases hk.split with (rfl | rfl) | ⟨c, fs, rfl, _⟩
    · rw [met_eq]; rfl
    · rw [met_eq]; rfl
    · rw [dep_mk] at hd; omega
  | succ m ih =>
    intro k hd hk
    rcases hk.split with (rfl | rfl) | ⟨c, fs, rfl, a1, a2, a3, a4, a5⟩
    · rw [met_eq]; rfl
    · rw [met_eq]; rfl
    · rw [dep_mk] at hd
      have hkids : kids (mk c fs) (mk c fs) = fs.map fun p => (p.1, p.2, p.2) := by
        cases c with
        | false =>
          show kids (.rcd fs) (.rcd fs) = _
          simp only [kids]
          have gen : ∀ l : List (Str × Kd), (∀ p ∈ l, lookK fs p.1 = some p.2) → l.filterMap (fun p => (lookK fs p.1).map fun o => (p.1, p.2, o)) = l.map fun p => (p.1, p.2, p.2) := by
            intro l
            induction l with
            | nil => intro _; rfl
            | cons p l ih =>
              intro h
              rw [List.filterMap_cons, h p List.mem_cons_self]
              simp only [Option.map_some, List.map_cons, ih fun q hq => h q (List.mem_cons_of_mem _ hq)]
          exact gen fs fun p hp => lookK_of a1 hp
        | true =>
          show kids (.cho fs) (.cho fs) = _
          simp only [kids]
          have h1 : fs.map (fun p => (p.1, p.2, (lookK fs p.1).getD p.2)) = fs.map fun p => (p.1, p.2, p.2) := by
            refine List.map_congr_left fun p hp => ?_
            rw [show lookK fs p.1 = some p.2 from lookK_of a1 hp]
            rfl
          have h2 : (fs.filter fun p => (lookK fs p.1).isNone) = [] := by
            rw [List.filter_eq_nil_iff]
            intro p hp
            rw [show lookK fs p.1 = some p.2 from lookK_of a1 hp]
            simp
          rw [h1, h2]
          simp
      have hmets : mets (mk c fs) (mk c fs) = fs.map fun p => (p.1, some p.2) := by
        unfold mets
        rw [hkids, List.map_map]
        refine List.map_congr_left fun p hp => ?_
        show (p.1, met p.2 p.2) = _
        rw [ih p.2 (by have := dep_mem hp; omega) (a5 p hp)]
      have hs : somes (mets (mk c fs) (mk c fs)) = fs := by
        rw [hmets]
        unfold somes
        rw [List.filterMap_map]
        clear hmets hkids a1 a2 a3 a4 a5 hk hd
        induction fs with
        | nil => rfl
        | cons p l ih => rw [List.filterMap_cons]; simp only [Function.comp, Option.map_some]; rw [show l.filterMap ((fun p : Str × Option Kd => p.2.map fun k => (p.1, k)) ∘ fun p : Str × Kd => (p.1, some p.2)) = l from ih]
      cases c with
      | false =>
        rw [show mk false fs = .rcd fs from rfl] at hs ⊢
        rw [met_rcd, hs]
      | true =>
        rw [show mk true fs = .cho fs from rfl] at hs hmets ⊢
        rw [met_cho, if_pos ?_, hs]
        rw [hmets, List.all_map]
        exact List.all_eq_true.mpr fun p hp => rfl
end K03

namespace K03
open PySem PySem.Spec L2 Pi
theorem lookK_kput (fs : List (Str × Kd)) (x y : Str) (k : Kd) : lookK (kput fs x k) y = if x = y then some k else lookK fs y := by
  have kinj : ∀ (a b : Option Kd), a.map (fun k => k) = b.map (fun k => k) → a = b := fun a b h => by cases a <;> cases b <;> simp_all
  unfold kput
  split
  · rename_i h
    unfold lookK
    induction fs with
    | nil => simp at h
    | cons p r ih =>
      rw [List.map_cons, List.find?_cons, List.find?_cons]
      by_cases e : p.1 = x
      · simp only [e, if_true]
        by_cases e2 : x = y
        · simp [e2]
        · simp only [e2, decide_false, if_false]
          by_cases h2 : (r.any fun p => decide (p.1 = x)) = true
          · have := ih h2
            rw [if_neg e2] at this
            exact this
          · have hm : r.map (fun p => if p.1 = x then (p.1, k) else p) = r := by
              refine (List.map_congr_left fun q hq => ?_).trans (List.map_id r)
              have : ¬ q.1 = x := fun hx => h2 (List.any_eq_true.mpr ⟨q, hq, by simpa using hx⟩)
              simp [this]
            rw [hm]
      · simp only [e, if_false]
        have h2 : (r.any fun p => decide (p.1 = x)) = true := by simpa [e] using h
        by_cases e3 : p.1 = y
        · have : ¬ x = y := fun hx => e (e3.trans hx.symm)
          simp [e3, this]
        · simp only [e3, decide_false]
          exact ih h2
  · rename_i h
    unfold lookK
    rw [List.find?_append]
    by_cases e : x = y
    · subst e
      have : fs.find? (fun p => decide (p.1 = x)) = none := by
        rw [List.find?_eq_none]
        intro q hq hx
        exact h (List.any_eq_true.mpr ⟨q, hq, hx⟩)
      simp [this]
    · simp [e]
theorem fit_refl (b : Nat) : ∀ (m : Nat) (k : Kd), dep k ≤ m → Kg b k → b ≤ sizeLine → fit k k = true := fun m k hd hk hb => (met_fits m k k k (by omega) (hk.ok hb) (hk.ok hb) (met_self b m k hd hk)).1
/-! ### loosened -/
def lb14 : SL := (.cons (.frz [1] (.asg (.nm 1) (.call 8 (.cons (.var 1) .nil))))
 (.cons (.ite (.or (.e (.cmp .eq (.sub (.var 0) (.int (0))) (.str "choice"))) (.e (.cmp .gt (.bin .mod (.bin .fdiv (.var 1) (.int (5))) (.int (3))) (.int (0)))))
 (.cons (.frz [3, 3, 1] (.setk 2 (.var 3) (.call 14 (.cons (.sub (.sub (.var 0) (.int (1))) (.var 3)) (.cons (.var 1) .nil)))))
 .nil)
 .nil)
 .nil))
def fr14 : Pi.S := (.frz [1] (.ite (.and (.e (.cmp .eq (.sub (.var 0) (.int (0))) (.str "choice"))) (.e (.cmp .nin (.call 9 (.cons (.var 1) .nil)) (.var 2))))
 (.cons (.frz [1, 1] (.setk 2 (.call 9 (.cons (.var 1) .nil)) (.call 10 (.cons (.var 1) (.cons (.int (1)) .nil)))))
 .nil)
 .nil))
theorem b14 : b__law_loosened = (.cons (.frz [1] (.asg (.nm 1) (.call 8 (.cons (.var 1) .nil))))
 (.cons (.ite (.e (.isi (.var 0) [.str]))
 (.cons (.frz [0] (.ret (.var 0)))
 .nil)
 .nil)
 (.cons (.asg (.nm 2) (.dct .nil))
 (.cons (.for (.nm 3) (.over (.sub (.var 0) (.int (1)))) lb14)
 (.cons fr14
 (.cons (.frz [2] (.ret (.tup (.cons (.sub (.var 0) (.int (0))) (.cons (.var 2) .nil)))))
 .nil)))))) := rfl
/-- what the loosened parts keep: each is looser than the kind's own; of a choice all -/
structure Ls (b m : Nat) (c : Bool) (fs : List (Str × Kd)) (j : Nat) (gs : List (Str × Kd)) : Prop where
  ps : Ps b m j gs
  lo : ∀ p ∈ gs, ∃ k, lookK fs p.1 = some k ∧ fit k p.2 = true
  al : c = true → ∀ i (hi : i < fs.length), i < j → ∃ l, lookK gs (fs[i]).1 = some l ∧ fit (fs[i]).2 l = true
theorem loosened_ok (b : Nat) (hb4 : 3 ≤ b) (hb : b + 1 < sizeLine) : ∀ (m n : Nat) (k : Kd) (s : Int) (S : Sto), Kg b k → dep k ≤ m → ∃ l, Kg (b + 1) l ∧ dep l ≤ m + 1 ∧ fit k l = true ∧ (ph (n + m + 5)).call 14 [kd k, .int s] S = .ok (kd l) S := by
  intro m
  have start : ∀ (n : Nat) (k : Kd) (s : Int) (S : Sto), exL (ph (n + 1)) b__law_loosened [some (.v (kd k)), some (.v (.int s)), none, none] S = exL (ph (n + 1)) (.cons (.ite (.e (.isi (.var 0) [.str]))
 (.cons (.frz [0] (.ret (.var 0)))
 .nil)
 .nil)
 (.cons (.asg (.nm 2) (.dct .nil))
 (.cons (.for (.nm 3) (.over (.sub (.var 0) (.int (1)))) lb14)
 (.cons fr14
 (.cons (.frz [2] (.ret (.tup (.cons (.sub (.var 0) (.int (0))) (.cons (.var 2) .nil)))))
 .nil))))) [some (.v (kd k)), some (.v (.int (nxt s))), none, none] S := by
    intro n k s S
    rw [b14]
    refine (stp (ex_frz.trans (ex_set (d := .int (nxt s)) (S' := S) (r' := [some (.v (kd k)), some (.v (.int (nxt s))), none, none]) ?_ rfl))).trans rfl
    exact ev_call (evL_cons (ev_var rfl) evL_nil) (next_ok n s S)
  have base : ∀ (n : Nat) (k : Kd) (s : Int) (S : Sto), (k = .num ∨ k = .truth) → (ph (n + 2)).call 14 [kd k, .int s] S = .ok (kd k) S := by
    intro n k s S hk
    rw [call_at rfl rfl]
    refine Eq.trans (congrArg SO.out ((start n k s S).trans ?_)) out_rt
    refine stp_rt ((ex_if_t (S' := S) ?_).trans (stp_rt (ex_frz.trans (ex_ret (ev_var rfl)))))
    rcases hk with rfl | rfl <;> exact evT_e (rd_isi (ev_isi (rd_var rfl) rfl)) rfl
  induction m with
  | zero =>
    intro n k s S hk hd
    have hf := fit_refl b 0 k hd hk (by omega)
    rcases hk.split with h | ⟨c, fs, rfl, _⟩
    · exact ⟨k, hk.up (Nat.le_succ b), by omega, hf, base (n + 3) k s S h⟩
    · rw [dep_mk] at hd; omega
  | succ m ih =>
    intro n k s S hk hd
    have hf := fit_refl b (m + 1) k hd hk (by omega)
    rcases hk.split with h | ⟨c, fs, rfl, h1, h2, h3, h4, h5⟩
    · exact ⟨k, hk.up (Nat.le_succ b), by omega, hf, base (n + m + 4) k s S h⟩
    · have s2 : 2 ≤ sizeLine := by decide
      rw [dep_mk] at hd
      have hkd := kd_mk c fs
      generalize hK : kd (K03.mk c fs) = K at *
      have k0 : ∀ (S : Sto) (r : Rho), r[0]? = some (some (.v K)) → ev (ph (n + m + 5)) (.cmp .eq (.sub (.var 0) (.int (0))) (.str "choice")) r S = .ok (.bl c) S := by
        intro S r h
        refine ev_cmp (rd_sub (ev_sub (rd_var (d := K) (by simp only [look, h])) ev_int (d := .str (mkw c)) (by rw [hkd]; rfl))) rd_str ?_
        show eqq _ _ = _
        cases c
        · simp [eqq, D.deep, eqd, mkw, w_record_choice]
        · simp [eqq, D.deep, eqd, mkw]
      obtain ⟨r', S', el, hI⟩ := forS_inv (f := forB (ph (n + m + 5)) (.nm 3) lb14) (xs := keysD (kdL fs)) (fun j r S' => S' = S ∧ ∃ s' gs o', r = [some (.v K), some (.v (.int s')), some (.od (kdL gs)), o'] ∧ Ls (b + 1) (m + 1) c fs j gs) (by
        rintro i x r S1 hx ⟨rfl, s', gs, o', rfl, hP⟩
        have hi : i < fs.length := by
          have := (List.getElem?_eq_some_iff.mp hx).1
          rwa [keys_len] at this
        rw [keys_get fs hi] at hx
        have ex' : x = .str (fs[i]).1 := (Option.some.inj hx).symm
        subst ex'
        have hm : fs[i] ∈ fs := List.getElem_mem hi
        have hl := lookK_of h1 hm
        obtain ⟨k', hk', hd', hfk, ek'⟩ := ih n (fs[i]).2 (nxt s') S1 (h5 _ hm) (by have := dep_mem hm; omega)
        have hlk : (kdL gs).length < sizeLine := by rw [kdL_map, List.length_map]; have := hP.ps.len; omega
        have eN : ex (ph (n + m + 5)) (.frz [1] (.asg (.nm 1) (.call 8 (.cons (.var 1) .nil)))) [some (.v K), some (.v (.int s')), some (.od (kdL gs)), some (.v (.str (fs[i]).1))] S1 = .nx [some (.v K), some (.v (.int (nxt s'))), some (.od (kdL gs)), some (.v (.str (fs[i]).1))] S1 :=
          ex_frz.trans (ex_set (ev_call (evL_cons (ev_var rfl) evL_nil) (next_ok (n + m + 4) s' S1)) rfl)
        have eC : evT (ph (n + m + 5)) (.or (.e (.cmp .eq (.sub (.var 0) (.int (0))) (.str "choice"))) (.e (.cmp .gt (.bin .mod (.bin .fdiv (.var 1) (.int (5))) (.int (3))) (.int (0))))) [some (.v K), some (.v (.int (nxt s'))), some (.od (kdL gs)), some (.v (.str (fs[i]).1))] S1 = .ok (c || decide (0 < ((nxt s').fdiv 5).fmod 3)) S1 := by
          have e1 := k0 S1 [some (.v K), some (.v (.int (nxt s'))), some (.od (kdL gs)), some (.v (.str (fs[i]).1))] rfl
          cases c with
          | true => exact evT_or_t (evT_e (rd_cmp e1) rfl)
          | false =>
            refine (evT_or_f (evT_e (rd_cmp e1) rfl) (evT_e (k := decide (0 < ((nxt s').fdiv 5).fmod 3)) (rd_cmp (ev_cmp (rd_bin (ev_bin (rd_bin (ev_bin (d := .int ((nxt s').fdiv 5)) (rd_var rfl) rd_int rfl)) rd_int rfl)) rd_int rfl)) rfl)).trans ?_
            rfl
        have eb : exL (ph (n + m + 5)) lb14 [some (.v K), some (.v (.int s')), some (.od (kdL gs)), some (.v (.str (fs[i]).1))] S1 = .nx [some (.v K), some (.v (.int (nxt s'))), some (.od (kdL (if (c || decide (0 < ((nxt s').fdiv 5).fmod 3)) = true then kput gs (fs[i]).1 k' else gs))), some (.v (.str (fs[i]).1))] S1 := by
          unfold lb14
          refine (stp eN).trans ?_
          by_cases hc : (c || decide (0 < ((nxt s').fdiv 5).fmod 3)) = true
          · rw [hc] at eC
            rw [if_pos hc]
            refine (stp ((ex_if_t eC).trans (stp (ex_frz.trans (ex_setk (d := kd k') (S' := S1) (S'' := S1) (i := 2) (kvs := kdL gs) (x := (fs[i]).1) ?_ rfl (ev_var rfl) hlk))))).trans ?_
            · refine ev_call (evL_cons (ev_sub (rd_sub (ev_sub (rd_var (d := K) rfl) ev_int (by rw [hkd]; rfl))) (ev_var rfl) (d := kd (fs[i]).2) ?_) (evL_cons (ev_var rfl) evL_nil)) ek'
              show dget _ _ = _
              rw [dget_kdL, hl]
              rfl
            · rw [exL_nil, dput_kdL]
              rfl
          · have hcf := Bool.eq_false_iff.mpr hc
            rw [hcf] at eC
            rw [if_neg hc]
            exact (stp ((ex_if_f eC).trans exL_nil)).trans exL_nil
        refine ⟨_, S1, eb, rfl, _, _, _, rfl, ?_⟩
        split
        · refine ⟨hP.ps.put (h4 _ hm) hk' hd', kput_all (P := fun p => ∃ k, lookK fs p.1 = some k ∧ fit k p.2 = true) hP.lo ⟨_, hl, hfk⟩, fun hc j hj hij => ?_⟩
          rw [lookK_kput]
          by_cases e : i = j
          · subst e
            exact ⟨k', if_pos rfl, hfk⟩
          · have hne : ¬ (fs[i]).1 = (fs[j]).1 := by
              intro hx'
              have hnd : (fs.map (·.1)).Nodup := h1
              have := List.pairwise_iff_getElem.mp hnd j i (by simpa using hj) (by simpa using hi) (by omega)
              exact this (by simpa using hx'.symm)
            rw [if_neg hne]
            exact hP.al hc j hj (by omega)
        · rename_i hc
          refine ⟨hP.ps.up (Nat.le_succ i), hP.lo, fun hct => absurd (by rw [hct]; rfl) hc⟩) 0 (Nat.zero_le _) (r := [some (.v K), some (.v (.int (nxt s))), some (.od []), none]) (S := S) ⟨rfl, nxt s, [], none, by rw [kdL], Ps.nil, (fun _ h => nomatch h), fun _ i _ h => absurd h (Nat.not_lt_zero i)⟩
      obtain ⟨rfl, s', gs, o', rfl, hP⟩ := hI
      rw [keys_len] at hP
      have hPb := hP.ps.up h2
      have fitC : ∀ gs2 : List (Str × Kd), (∀ x l, lookK gs x = some l → lookK gs2 x = some l) → c = true → fit (K03.mk c fs) (K03.mk c gs2) = true := by
        intro gs2 hx hc
        subst hc
        show fit (.cho fs) (.cho gs2) = true
        rw [fit_cho]
        refine List.all_eq_true.mpr fun p hp => ?_
        obtain ⟨i, hi, rfl⟩ := List.mem_iff_getElem.mp hp
        obtain ⟨l, e1, e2⟩ := hP.al rfl i hi hi
        rw [hx _ _ e1]
        exact e2
      have hfr : ∃ gs2, Ps (b + 1) (m + 1) (b + 1) gs2 ∧ fit (K03.mk c fs) (K03.mk c gs2) = true ∧ ex (ph (n + m + 5)) fr14 [some (.v K), some (.v (.int s')), some (.od (kdL gs)), o'] S' = .nx [some (.v K), some (.v (.int s')), some (.od (kdL gs2)), o'] S' := by
        have e1 := k0 S' [some (.v K), some (.v (.int s')), some (.od (kdL gs)), o'] rfl
        have hfz : ∀ s : Pi.S, ex (ph (n + m + 5)) (.frz [1] s) [some (.v K), some (.v (.int s')), some (.od (kdL gs)), o'] S' = ex (ph (n + m + 5)) s [some (.v K), some (.v (.int s')), some (.od (kdL gs)), o'] S' := fun s => ex_frz
        unfold fr14
        cases hc : c with
        | false =>
          rw [hc] at e1
          refine ⟨gs, hPb.up (Nat.le_succ b), ?_, (hfz _).trans ((ex_if_f (evT_and_f (evT_e (rd_cmp e1) rfl))).trans exL_nil)⟩
          show fit (.rcd fs) (.rcd gs) = true
          rw [fit_rcd]
          refine List.all_eq_true.mpr fun p hp => ?_
          obtain ⟨k, q1, q2⟩ := hP.lo p hp
          rw [q1]
          exact q2
        | true =>
          rw [hc] at e1
          obtain ⟨y, hy, ey⟩ := name_ok (n + m + 3) s' S'
          obtain ⟨k1, hk1, hd1, ek1⟩ := kind_by_ok (b + 1) (by omega) 1 (n + m + 1) s' S'
          have hlk : (kdL gs).length < sizeLine := by rw [kdL_map, List.length_map]; have := hPb.len; omega
          have eI : ev (ph (n + m + 5)) (.cmp .nin (.call 9 (.cons (.var 1) .nil)) (.var 2)) [some (.v K), some (.v (.int s')), some (.od (kdL gs)), o'] S' = .ok (.bl (!(lookK gs y).isSome)) S' := by
            refine ev_cmp (rd_call (ev_call (evL_cons (ev_var rfl) evL_nil) ey)) (rd_var rfl) ?_
            show (some (dget (kdL gs) y).isSome).map _ = _
            rw [dget_kdL, Option.isSome_map]
            rfl
          cases hs : lookK gs y with
          | some l =>
            rw [hs] at eI
            refine ⟨gs, hPb.up (Nat.le_succ b), ?_, (hfz _).trans ((ex_if_f (evT_and_t (evT_e (rd_cmp e1) rfl) (evT_e (rd_cmp eI) rfl))).trans exL_nil)⟩
            have := fitC gs (fun _ _ h => h) hc
            rwa [hc] at this
          | none =>
            rw [hs] at eI
            refine ⟨kput gs y k1, hPb.put hy hk1 (by omega), ?_, (hfz _).trans ((ex_if_t (evT_and_t (evT_e (rd_cmp e1) rfl) (evT_e (rd_cmp eI) rfl))).trans ((stp (r' := [some (.v K), some (.v (.int s')), some (.od (kdL (kput gs y k1))), o']) (S' := S') ?_).trans exL_nil))⟩
            · have := fitC (kput gs y k1) (fun x l h => by
                rw [lookK_kput, if_neg ?_]
                · exact h
                · rintro rfl
                  rw [hs] at h
                  cases h) hc
              rwa [hc] at this
            · refine (ex_frz.trans (ex_setk (d := kd k1) (S' := S') (S'' := S') (i := 2) (kvs := kdL gs) (x := y) (ev_call (evL_cons (ev_var rfl) (evL_cons ev_int evL_nil)) ek1) rfl (ev_call (evL_cons (ev_var rfl) evL_nil) ey) hlk)).trans ?_
              rw [dput_kdL]
              rfl
      obtain ⟨gs2, hP2, hft, efr⟩ := hfr
      refine ⟨K03.mk c gs2, Kg.mk hP2.ap hP2.len (fun hc => ?_) hP2.nam hP2.kg, ?_, hft, ?_⟩
      · subst hc
        intro hnil
        subst hnil
        have hft' : fit (.cho fs) (.cho []) = true := hft
        rw [fit_cho] at hft'
        cases hfs : fs with
        | nil => exact h3 rfl hfs
        | cons p l =>
          have := List.all_eq_true.mp hft' p (by rw [hfs]; exact List.mem_cons_self)
          cases this
      · rw [dep_mk]
        have := depL_le gs2 hP2.dp
        omega
      · rw [call_at rfl rfl]
        have st := start (n + m + 4) (K03.mk c fs) s S'
        rw [hK] at st
        refine Eq.trans (congrArg SO.out (st.trans ?_)) out_rt
        refine (stp ((ex_if_f (S' := S') (evT_e (rd_isi (ev_isi (x := K) (k := false) (rd_var rfl) (by rw [hkd]; rfl))) rfl)).trans exL_nil)).trans ?_
        refine (stp (ex_set (d := .dic []) (S' := S') (r' := [some (.v K), some (.v (.int (nxt s))), some (.od []), none]) (by rw [ev, evD]) rfl)).trans ?_
        have eo : evI (ph (n + m + 5)) (.over (.sub (.var 0) (.int (1)))) [some (.v K), some (.v (.int (nxt s))), some (.od []), none] S' = .ok (keysD (kdL fs)) S' := by
          have : ev (ph (n + m + 5)) (.sub (.var 0) (.int (1))) [some (.v K), some (.v (.int (nxt s))), some (.od []), none] S' = .ok (.dic (kdL fs)) S' := ev_sub (rd_var (d := K) rfl) ev_int (by rw [hkd]; rfl)
          rw [evI, this, bnd_ok]
        rw [List.drop_zero] at el
        refine (stp (ex_loop eo el)).trans ?_
        refine (stp efr).trans ?_
        rw [kd_mk c gs2]
        refine stp_rt (ex_frz.trans (ex_ret (ev_tup (ds := [.str (mkw c), .dic (kdL gs2)]) (evL_cons (S1 := S') ?_ (evL_cons (S1 := S') ?_ evL_nil)) s2)))
        · exact ev_sub (rd_var (d := K) rfl) ev_int (by rw [hkd]; rfl)
        · exact ev_var rfl
end K03

namespace K03
open PySem PySem.Spec L2 Pi
/-! ### the law's own meeting -/
def mD : Option Kd → D
  | some k => kd k
  | none => .non
def preOf (c : Bool) (gs : List (Str × Kd)) (p : Str × Kd) : Option (Str × Kd) := match lookK gs p.1 with
  | some o => (met p.2 o).map fun k => (p.1, k)
  | none => if c = true then some (p.1, p.2) else none
def postOf (c : Bool) (fs : List (Str × Kd)) (p : Str × Kd) : Option (Str × Kd) := if c = true ∧ (lookK fs p.1).isNone = true then some (p.1, p.2) else none
def pre (c : Bool) (gs l : List (Str × Kd)) : List (Str × Kd) := l.filterMap (preOf c gs)
def post (c : Bool) (fs l : List (Str × Kd)) : List (Str × Kd) := l.filterMap (postOf c fs)
def okP (c : Bool) (gs : List (Str × Kd)) (p : Str × Kd) : Bool := match lookK gs p.1 with
  | some o => (met p.2 o).isSome || !c
  | none => true
theorem somes_pre {b : Nat} {c : Bool} {fs gs : List (Str × Kd)} (hk : Kg b (mk c fs)) (ho : Kg b (mk c gs)) : somes (mets (mk c fs) (mk c gs)) = pre c gs fs ++ post c fs gs := by
  have A : ∀ p ∈ fs, Kg b p.2 := by cases c with
    | false => cases hk with | rcd _ _ _ _ h => exact h
    | true => cases hk with | cho _ _ _ _ _ h => exact h
  have B : ∀ p ∈ gs, Kg b p.2 := by cases c with
    | false => cases ho with | rcd _ _ _ _ h => exact h
    | true => cases ho with | cho _ _ _ _ _ h => exact h
  cases c with
  | false =>
    have h2 : post false fs gs = [] := by
      unfold post
      rw [List.filterMap_eq_nil_iff]
      intro p _
      unfold postOf
      rw [if_neg (fun h => nomatch h.1)]
    rw [h2, List.append_nil]
    show somes (mets (.rcd fs) (.rcd gs)) = _
    unfold mets somes pre
    simp only [kids]
    rw [List.filterMap_map, List.filterMap_filterMap]
    congr 1
    funext p
    unfold preOf
    cases lookK gs p.1 with
    | none => rfl
    | some o => rfl
  | true =>
    show somes (mets (.cho fs) (.cho gs)) = _
    unfold mets somes pre post
    simp only [kids]
    rw [List.filterMap_map, List.filterMap_append, List.filterMap_map, List.filterMap_map]
    have h1 : ∀ l : List (Str × Kd), (∀ p ∈ l, Kg b p.2) → l.filterMap (((fun p : Str × Option Kd => p.2.map fun k => (p.1, k)) ∘ fun q : Str × Kd × Kd => (q.1, met q.2.1 q.2.2)) ∘ fun p : Str × Kd => (p.1, p.2, (lookK gs p.1).getD p.2)) = l.filterMap (preOf true gs) := by
      intro l
      induction l with
      | nil => intro _; rfl
      | cons p l ih =>
        intro h
        have i := ih fun q hq => h q (List.mem_cons_of_mem _ hq)
        have one : (((fun p : Str × Option Kd => p.2.map fun k => (p.1, k)) ∘ fun q : Str × Kd × Kd => (q.1, met q.2.1 q.2.2)) ∘ fun p : Str × Kd => (p.1, p.2, (lookK gs p.1).getD p.2)) p = preOf true gs p := by
          unfold preOf
          show (met p.2 ((lookK gs p.1).getD p.2)).map (fun k => (p.1, k)) = _
          cases lookK gs p.1 with
          | none => show (met p.2 p.2).map (fun k => (p.1, k)) = _; rw [met_self b _ p.2 (Nat.le_refl _) (h p List.mem_cons_self)]; rfl
          | some o => rfl
        rw [List.filterMap_cons, List.filterMap_cons, one, i]
    have h2 : ∀ l : List (Str × Kd), (∀ p ∈ l, Kg b p.2) → (l.filter fun p => (lookK fs p.1).isNone).filterMap (((fun p : Str × Option Kd => p.2.map fun k => (p.1, k)) ∘ fun q : Str × Kd × Kd => (q.1, met q.2.1 q.2.2)) ∘ fun p : Str × Kd => (p.1, p.2, p.2)) = l.filterMap (postOf true fs) := by
      intro l
      induction l with
      | nil => intro _; rfl
      | cons p l ih =>
        intro h
        have i := ih fun q hq => h q (List.mem_cons_of_mem _ hq)
        rw [List.filter_cons, List.filterMap_cons]
        by_cases hn : (lookK fs p.1).isNone = true
        · have one : (((fun p : Str × Option Kd => p.2.map fun k => (p.1, k)) ∘ fun q : Str × Kd × Kd => (q.1, met q.2.1 q.2.2)) ∘ fun p : Str × Kd => (p.1, p.2, p.2)) p = some (p.1, p.2) := by
            show (met p.2 p.2).map (fun k => (p.1, k)) = _
            rw [met_self b _ p.2 (Nat.le_refl _) (h p List.mem_cons_self)]
            rfl
          have two : postOf true fs p = some (p.1, p.2) := if_pos ⟨rfl, hn⟩
          rw [if_pos hn, List.filterMap_cons, one, two]
          simp only
          rw [i]
        · have two : postOf true fs p = none := if_neg (fun h => hn h.2)
          rw [if_neg hn, two]
          simp only
          rw [i]
    rw [h1 fs A, h2 gs B]
theorem forS_cons_nx {f : D → Rho → Sto → SO} {x : D} {xs : List D} {r r' : Rho} {S S' : Sto} (h : f x r S = .nx r' S') : forS f (x :: xs) r S = forS f xs r' S' := by rw [forS, h]
theorem forS_cons_rt {f : D → Rho → Sto → SO} {x : D} {xs : List D} {r : Rho} {S S' : Sto} {d : D} (h : f x r S = .rt d S') : forS f (x :: xs) r S = .rt d S' := by rw [forS, h]
def lb12m : SL := (.cons (.ite (.and (.e (.cmp .inn (.var 3) (.sub (.var 0) (.int (1))))) (.e (.cmp .inn (.var 3) (.sub (.var 1) (.int (1))))))
 (.cons (.frz [3, 3] (.asg (.nm 4) (.call 12 (.cons (.sub (.sub (.var 0) (.int (1))) (.var 3)) (.cons (.sub (.sub (.var 1) (.int (1))) (.var 3)) .nil)))))
 (.cons (.ite (.e (.notN (.var 4)))
 (.cons (.frz [3, 4] (.setk 2 (.var 3) (.var 4)))
 .nil)
 (.cons (.ite (.e (.cmp .eq (.sub (.var 0) (.int (0))) (.str "choice")))
 (.cons (.ret .non)
 .nil)
 .nil)
 .nil))
 .nil))
 (.cons (.ite (.e (.cmp .eq (.sub (.var 0) (.int (0))) (.str "choice")))
 (.cons (.frz [3, 3, 3] (.setk 2 (.var 3) (.get2 (.sub (.var 0) (.int (1))) (.var 3) (.get1 (.sub (.var 1) (.int (1))) (.var 3)))))
 .nil)
 .nil)
 .nil))
 .nil)
theorem b12m : b__law_met = (.cons (.ite (.or (.e (.isi (.var 0) [.str])) (.e (.isi (.var 1) [.str])))
 (.cons (.frz [0] (.ret (.sub (.lst (.cons .non (.cons (.var 0) .nil))) (.bi .int (.cmp .eq (.var 0) (.var 1))))))
 .nil)
 .nil)
 (.cons (.ite (.e (.cmp .ne (.sub (.var 0) (.int (0))) (.sub (.var 1) (.int (0)))))
 (.cons (.ret .non)
 .nil)
 .nil)
 (.cons (.asg (.nm 2) (.dct .nil))
 (.cons (.for (.nm 3) (.over (.bin .add (.bi .list (.sub (.var 0) (.int (1)))) (.bi .list (.sub (.var 1) (.int (1)))))) lb12m)
 (.cons (.frz [2] (.ret (.tup (.cons (.sub (.var 0) (.int (0))) (.cons (.var 2) .nil)))))
 .nil))))) := rfl
theorem kput_new {fs : List (Str × Kd)} {x : Str} {k : Kd} (h : x ∉ fs.map (·.1)) : kput fs x k = fs ++ [(x, k)] := by
  unfold kput
  rw [if_neg]
  intro hh
  obtain ⟨p, hp, e⟩ := List.any_eq_true.mp hh
  exact h (List.mem_map.mpr ⟨p, hp, by simpa using e⟩)
theorem kput_same {fs : List (Str × Kd)} {x : Str} {k : Kd} (ha : Apart fs) (h : (x, k) ∈ fs) : kput fs x k = fs := by
  unfold kput
  rw [if_pos (List.any_eq_true.mpr ⟨(x, k), h, by simp⟩)]
  refine (List.map_congr_left fun q hq => ?_).trans (List.map_id fs)
  by_cases e : q.1 = x
  · have h1 := lookK_of ha hq
    have h2 := lookK_of ha h
    rw [e] at h1
    rw [h1] at h2
    cases h2
    simp only [e, if_true]
    exact Prod.ext e.symm rfl
  · simp only [e, if_false]
    rfl
theorem pre_names (c : Bool) (gs : List (Str × Kd)) : ∀ l : List (Str × Kd), ∀ x ∈ (pre c gs l).map (·.1), x ∈ l.map (·.1) := by
  intro l x hx
  obtain ⟨q, hq, rfl⟩ := List.mem_map.mp hx
  obtain ⟨p, hp, e⟩ := List.mem_filterMap.mp hq
  refine List.mem_map.mpr ⟨p, hp, ?_⟩
  unfold preOf at e
  split at e
  · rw [Option.map_eq_some_iff] at e
    obtain ⟨k, _, rfl⟩ := e
    rfl
  · split at e
    · cases e; rfl
    · cases e
theorem post_names (c : Bool) (fs : List (Str × Kd)) : ∀ l : List (Str × Kd), ∀ x ∈ (post c fs l).map (·.1), x ∈ l.map (·.1) ∧ lookK fs x = none := by
  intro l x hx
  obtain ⟨q, hq, rfl⟩ := List.mem_map.mp hx
  obtain ⟨p, hp, e⟩ := List.mem_filterMap.mp hq
  unfold postOf at e
  split at e
  · rename_i h
    cases e
    exact ⟨List.mem_map.mpr ⟨p, hp, rfl⟩, by simpa using h.2⟩
  · cases e
theorem law_met (b : Nat) (hb : b + b < sizeLine) : ∀ (m : Nat) (n : Nat) (k o : Kd) (S : Sto), max (dep k) (dep o) ≤ m → m ≤ n → Kg b k → Kg b o → (ph (n + 1)).call 12 [kd k, kd o] S = .ok (mD (met k o)) S := by
  have s2 : 2 ≤ sizeLine := by decide
  have one : ∀ (n : Nat) (k o : Kd) (S : Sto), (isS k || isS o) = true → (ph (n + 1)).call 12 [kd k, kd o] S = .ok (mD (met k o)) S := by
    intro n k o S h
    rw [call_at rfl rfl]
    refine Eq.trans (congrArg SO.out (?_ : exL (ph n) b__law_met [some (.v (kd k)), some (.v (kd o)), none, none, none] S = .rt (mD (met k o)) S)) out_rt
    rw [b12m]
    have e1 : evT (ph n) (.e (.isi (.var 0) [.str])) [some (.v (kd k)), some (.v (kd o)), none, none, none] S = .ok (isS k) S := evT_e (rd_isi (ev_isi (rd_var rfl) (isi_str k))) rfl
    have e2 : evT (ph n) (.e (.isi (.var 1) [.str])) [some (.v (kd k)), some (.v (kd o)), none, none, none] S = .ok (isS o) S := evT_e (rd_isi (ev_isi (rd_var rfl) (isi_str o))) rfl
    have ec : evT (ph n) (.or (.e (.isi (.var 0) [.str])) (.e (.isi (.var 1) [.str]))) [some (.v (kd k)), some (.v (kd o)), none, none, none] S = .ok true S := by
      cases hk : isS k with
      | true => rw [hk] at e1; exact evT_or_t e1
      | false =>
        rw [hk] at e1 h
        have ho : isS o = true := by simpa using h
        rw [ho] at e2
        exact evT_or_f e1 e2
    refine stp_rt ((ex_if_t ec).trans (stp_rt (ex_frz.trans (ex_ret ?_))))
    refine ev_sub (rd_lst (ev_lst (ds := [.non, kd k]) (evL_cons ev_non (evL_cons (ev_var rfl) evL_nil)) s2)) (ev_bi (d := .int (if fit k o = true then 1 else 0)) (rd_cmp (ev_cmp (rd_var rfl) (rd_var rfl) (eq_one k o h))) (by show some (D.int (if fit k o = true then 1 else 0)) = _; rfl)) ?_
    have hfit : mD (met k o) = if fit k o = true then kd k else .non := by
      rw [met_eq]
      cases k <;> cases o <;> first | (cases h; done) | (simp [metOf, mD, fit, dep, fitF]; done)
    rw [hfit]
    cases fit k o <;> rfl
  intro m
  induction m with
  | zero =>
    intro n k o S h1 h2 hk ho
    rcases hk.split with (rfl | rfl) | ⟨c, fs, rfl, _⟩
    · exact one n _ o S rfl
    · exact one n _ o S rfl
    · rw [dep_mk] at h1; omega
  | succ m ih =>
    intro n k o S h1 h2 hk ho
    by_cases hs : (isS k || isS o) = true
    · exact one n k o S hs
    · obtain ⟨n, rfl⟩ : ∃ j, n = j + 1 := ⟨n - 1, by omega⟩
      obtain ⟨c, fs, rfl⟩ : ∃ c fs, k = mk c fs := by
        cases k with
        | rcd fs => exact ⟨false, fs, rfl⟩
        | cho fs => exact ⟨true, fs, rfl⟩
        | _ => exact absurd rfl hs
      obtain ⟨d, gs, rfl⟩ : ∃ d gs, o = mk d gs := by
        cases o with
        | rcd fs => exact ⟨false, fs, rfl⟩
        | cho fs => exact ⟨true, fs, rfl⟩
        | _ => exact absurd (Bool.or_true _) hs
      obtain ⟨a1, a2, _⟩ := split_kg hk
      obtain ⟨c1, c2, _⟩ := split_kg ho
      have hkd := kd_mk c fs
      have hod := kd_mk d gs
      have hsk : isiD (kd (mk c fs)) [.str] = some false := by rw [hkd]; rfl
      have hso : isiD (kd (mk d gs)) [.str] = some false := by rw [hod]; rfl
      generalize hK : kd (mk c fs) = K at *
      generalize hO : kd (mk d gs) = O at *
      rw [call_at rfl rfl]
      refine Eq.trans (congrArg SO.out (?_ : exL (ph (n + 1)) b__law_met [some (.v K), some (.v O), none, none, none] S = .rt (mD (met (mk c fs) (mk d gs))) S)) out_rt
      rw [b12m]
      have e1 : evT (ph (n + 1)) (.or (.e (.isi (.var 0) [.str])) (.e (.isi (.var 1) [.str]))) [some (.v K), some (.v O), none, none, none] S = .ok false S :=
        evT_or_f (evT_e (rd_isi (ev_isi (rd_var rfl) hsk)) rfl) (evT_e (rd_isi (ev_isi (rd_var rfl) hso)) rfl)
      have k0 : ∀ r : Rho, r[0]? = some (some (.v K)) → ev (ph (n + 1)) (.sub (.var 0) (.int (0))) r S = .ok (.str (mkw c)) S := fun r h => ev_sub (rd_var (d := K) (by simp only [look, h])) ev_int (by rw [hkd]; rfl)
      have o0 : ∀ r : Rho, r[1]? = some (some (.v O)) → ev (ph (n + 1)) (.sub (.var 1) (.int (0))) r S = .ok (.str (mkw d)) S := fun r h => ev_sub (rd_var (d := O) (by simp only [look, h])) ev_int (by rw [hod]; rfl)
      have k1 : ∀ r : Rho, r[0]? = some (some (.v K)) → ev (ph (n + 1)) (.sub (.var 0) (.int (1))) r S = .ok (.dic (kdL fs)) S := fun r h => ev_sub (rd_var (d := K) (by simp only [look, h])) ev_int (by rw [hkd]; rfl)
      have o1 : ∀ r : Rho, r[1]? = some (some (.v O)) → ev (ph (n + 1)) (.sub (.var 1) (.int (1))) r S = .ok (.dic (kdL gs)) S := fun r h => ev_sub (rd_var (d := O) (by simp only [look, h])) ev_int (by rw [hod]; rfl)
      have e2 : evT (ph (n + 1)) (.e (.cmp .ne (.sub (.var 0) (.int (0))) (.sub (.var 1) (.int (0))))) [some (.v K), some (.v O), none, none, none] S = .ok (!decide (c = d)) S := by
        refine evT_e (rd_cmp (ev_cmp (k := !decide (c = d)) (rd_sub (k0 _ rfl)) (rd_sub (o0 _ rfl)) ?_)) rfl
        cases c <;> cases d <;> simp [cmD, eqq, D.deep, eqd, mkw, w_record_choice, w_choice_record]
      refine (stp ((ex_if_f e1).trans exL_nil)).trans ?_
      by_cases hcd : c = d
      · rw [decide_eq_true hcd] at e2
        refine (stp ((ex_if_f e2).trans exL_nil)).trans ?_
        subst hcd
        let st : List (Str × Kd) → Option Sl → Option Sl → Rho := fun acc o3 o4 => [some (.v K), some (.v O), some (.od (kdL acc)), o3, o4]
        have hstd : ∀ acc o3 o4, st acc o3 o4 = [some (.v K), some (.v O), some (.od (kdL acc)), o3, o4] := fun _ _ _ => rfl
        have echo : ∀ (r : Rho), r[0]? = some (some (.v K)) → evT (ph (n + 1)) (.e (.cmp .eq (.sub (.var 0) (.int (0))) (.str "choice"))) r S = .ok c S := by
          intro r h
          refine evT_e (rd_cmp (ev_cmp (k := c) (rd_sub (k0 _ h)) rd_str ?_)) rfl
          cases c <;> simp [cmD, eqq, D.deep, eqd, mkw, w_record_choice]
        -- a turn
        have hstart : ∀ (x : Str) acc o3 o4, forB (ph (n + 1)) (.nm 3) lb12m (.str x) (st acc o3 o4) S = exL (ph (n + 1)) lb12m (st acc (some (.v (.str x))) o4) S := fun _ _ _ _ => rfl
        have einn : ∀ (x : Str) (acc : List (Str × Kd)) (o4 : Option Sl), evT (ph (n + 1)) (.and (.e (.cmp .inn (.var 3) (.sub (.var 0) (.int (1))))) (.e (.cmp .inn (.var 3) (.sub (.var 1) (.int (1)))))) (st acc (some (.v (.str x))) o4) S = .ok ((lookK fs x).isSome && (lookK gs x).isSome) S := by
          intro x acc o4
          have n1 : evT (ph (n + 1)) (.e (.cmp .inn (.var 3) (.sub (.var 0) (.int (1))))) (st acc (some (.v (.str x))) o4) S = .ok (lookK fs x).isSome S := by
            refine evT_e (rd_cmp (ev_cmp (k := (lookK fs x).isSome) (rd_var rfl) (rd_sub (k1 _ rfl)) ?_)) rfl
            simp only [cmD, innD, dget_kdL, Option.isSome_map]
          have n2 : evT (ph (n + 1)) (.e (.cmp .inn (.var 3) (.sub (.var 1) (.int (1))))) (st acc (some (.v (.str x))) o4) S = .ok (lookK gs x).isSome S := by
            refine evT_e (rd_cmp (ev_cmp (k := (lookK gs x).isSome) (rd_var rfl) (rd_sub (o1 _ rfl)) ?_)) rfl
            simp only [cmD, innD, dget_kdL, Option.isSome_map]
          cases hx : (lookK fs x).isSome with
          | false => rw [hx] at n1; exact evT_and_f n1
          | true => rw [hx] at n1; exact (evT_and_t n1 n2).trans (by rw [Bool.true_and])
        -- both have it
        have both : ∀ (x : Str) (u v : Kd) (acc : List (Str × Kd)) (o3 o4 : Option Sl), lookK fs x = some u → lookK gs x = some v → acc.length < sizeLine → forB (ph (n + 1)) (.nm 3) lb12m (.str x) (st acc o3 o4) S = (match met u v with
            | some r => .nx (st (kput acc x r) (some (.v (.str x))) (some (.v (kd r)))) S
            | none => if c = true then .rt .non S else .nx (st acc (some (.v (.str x))) (some (.v .non))) S) := by
          intro x u v acc o3 o4 hu hv hl
          have hi := einn x acc o4
          rw [hu, hv] at hi
          have hq : (x, u, v) ∈ kids (mk c fs) (mk c gs) := by
            cases c with
            | false =>
              show _ ∈ kids (.rcd fs) (.rcd gs)
              simp only [kids]
              exact List.mem_filterMap.mpr ⟨(x, u), lk_mem hu, by simp [hv]⟩
            | true =>
              show _ ∈ kids (.cho fs) (.cho gs)
              simp only [kids]
              exact List.mem_append.mpr (.inl (List.mem_map.mpr ⟨(x, u), lk_mem hu, by simp [hv]⟩))
          obtain ⟨_, q2, q3⟩ := kids_kg hk ho hq
          have hdp : max (dep u) (dep v) < max (dep (mk c fs)) (dep (mk c gs)) := kids_dep hq
          have hr := ih n u v S (by omega) (by omega) q2 q3
          have ecall : ev (ph (n + 1)) (.call 12 (.cons (.sub (.sub (.var 0) (.int (1))) (.var 3)) (.cons (.sub (.sub (.var 1) (.int (1))) (.var 3)) .nil))) (st acc (some (.v (.str x))) o4) S = .ok (mD (met u v)) S := by
            refine ev_call (evL_cons (ev_sub (rd_sub (k1 _ rfl)) (ev_var rfl) (d := kd u) ?_) (evL_cons (ev_sub (rd_sub (o1 _ rfl)) (ev_var rfl) (d := kd v) ?_) evL_nil)) hr
            · show dget _ _ = _
              rw [dget_kdL, hu]; rfl
            · show dget _ _ = _
              rw [dget_kdL, hv]; rfl
          rw [hstart]
          unfold lb12m
          have eset : ex (ph (n + 1)) (.frz [3, 3] (.asg (.nm 4) (.call 12 (.cons (.sub (.sub (.var 0) (.int (1))) (.var 3)) (.cons (.sub (.sub (.var 1) (.int (1))) (.var 3)) .nil))))) (st acc (some (.v (.str x))) o4) S = .nx (st acc (some (.v (.str x))) (some (.v (mD (met u v))))) S :=
            ex_frz.trans (ex_set ecall rfl)
          cases hm : met u v with
          | some r =>
            rw [hm] at eset
            have en : evT (ph (n + 1)) (.e (.notN (.var 4))) (st acc (some (.v (.str x))) (some (.v (kd r)))) S = .ok true S := by
              have : ev (ph (n + 1)) (.notN (.var 4)) (st acc (some (.v (.str x))) (some (.v (kd r)))) S = .ok (.bl true) S := by
                rw [ev]
                show (lift (some (kd r)) S).bnd _ = _
                rw [lift_some, bnd_ok]
                cases r <;> simp [kd]
              rw [evT]
              show (ev _ _ _ _).bnd _ = _
              rw [this]
              rfl
            have hlk : (kdL acc).length < sizeLine := by rw [kdL_map, List.length_map]; exact hl
            refine (stp ((ex_if_t hi).trans ((stp eset).trans ((stp ((ex_if_t en).trans ((stp (r' := st (kput acc x r) (some (.v (.str x))) (some (.v (kd r)))) (S' := S) ?_).trans exL_nil))).trans exL_nil)))).trans exL_nil
            refine (ex_frz.trans (ex_setk (d := kd r) (S' := S) (S'' := S) (i := 2) (kvs := kdL acc) (x := x) (ev_var rfl) rfl (ev_var rfl) hlk)).trans ?_
            rw [dput_kdL]
            rfl
          | none =>
            rw [hm] at eset
            have en : evT (ph (n + 1)) (.e (.notN (.var 4))) (st acc (some (.v (.str x))) (some (.v .non))) S = .ok false S := by
              have : ev (ph (n + 1)) (.notN (.var 4)) (st acc (some (.v (.str x))) (some (.v .non))) S = .ok (.bl false) S := by
                rw [ev]
                rfl
              rw [evT]
              show (ev _ _ _ _).bnd _ = _
              rw [this]
              rfl
            have ec := echo (st acc (some (.v (.str x))) (some (.v .non))) rfl
            cases c with
            | true =>
              exact stp_rt ((ex_if_t hi).trans ((stp eset).trans (stp_rt ((ex_if_f en).trans (stp_rt ((ex_if_t ec).trans (stp_rt (ex_ret ev_non))))))))
            | false =>
              exact (stp ((ex_if_t hi).trans ((stp eset).trans ((stp ((ex_if_f en).trans ((stp ((ex_if_f ec).trans exL_nil)).trans exL_nil))).trans exL_nil)))).trans exL_nil
        -- one has it
        have alone : ∀ (x : Str) (w : Kd) (acc : List (Str × Kd)) (o3 o4 : Option Sl), (lookK fs x = some w ∧ lookK gs x = none ∨ lookK fs x = none ∧ lookK gs x = some w) → acc.length < sizeLine → forB (ph (n + 1)) (.nm 3) lb12m (.str x) (st acc o3 o4) S = .nx (st (if c = true then kput acc x w else acc) (some (.v (.str x))) o4) S := by
          intro x w acc o3 o4 hw hl
          have hi := einn x acc o4
          have hf : ((lookK fs x).isSome && (lookK gs x).isSome) = false := by rcases hw with ⟨h1, h2⟩ | ⟨h1, h2⟩ <;> rw [h1, h2] <;> rfl
          rw [hf] at hi
          rw [hstart]
          unfold lb12m
          have ec := echo (st acc (some (.v (.str x))) o4) rfl
          have hlk : (kdL acc).length < sizeLine := by rw [kdL_map, List.length_map]; exact hl
          cases hc : c with
          | false =>
            rw [hc] at ec
            exact (stp ((ex_if_f hi).trans ((stp ((ex_if_f ec).trans exL_nil)).trans exL_nil))).trans exL_nil
          | true =>
            rw [hc] at ec
            refine (stp ((ex_if_f hi).trans ((stp ((ex_if_t ec).trans ((stp (r' := st (kput acc x w) (some (.v (.str x))) o4) (S' := S) ?_).trans exL_nil))).trans exL_nil))).trans exL_nil
            refine (ex_frz.trans (ex_setk (d := kd w) (S' := S) (S'' := S) (i := 2) (kvs := kdL acc) (x := x) ?_ rfl (ev_var rfl) hlk)).trans ?_
            · show ev (ph (n + 1)) (.get2 (.sub (.var 0) (.int (1))) (.var 3) (.get1 (.sub (.var 1) (.int (1))) (.var 3))) (st acc (some (.v (.str x))) o4) S = _
              rw [ev]
              show (ev _ (.sub (.var 0) (.int (1))) _ _).bnd _ = _
              rw [k1 _ rfl, bnd_ok]
              simp only
              rw [ev_var (d := .str x) rfl, bnd_ok, ev]
              show ((ev _ (.sub (.var 1) (.int (1))) _ _).bnd _).bnd _ = _
              rw [o1 _ rfl, bnd_ok]
              simp only
              rw [ev_var (d := .str x) rfl, bnd_ok]
              simp only [bnd_ok, dget_kdL]
              rcases hw with ⟨h1, h2⟩ | ⟨h1, h2⟩ <;> rw [h1, h2] <;> rfl
            · rw [dput_kdL]
              rfl
        -- first the one's parts
        have hlen : ∀ l : List (Str × Kd), (pre c gs l).length ≤ l.length := fun l => List.length_filterMap_le _ _
        have hlen2 : ∀ l : List (Str × Kd), (post c fs l).length ≤ l.length := fun l => List.length_filterMap_le _ _
        have phase1 : ∀ (l pref : List (Str × Kd)) (xs : List D) (o3 o4 : Option Sl), fs = pref ++ l →
            ((l.all (okP c gs)) = true → ∃ o3' o4', forS (forB (ph (n + 1)) (.nm 3) lb12m) (keysD (kdL l) ++ xs) (st (pre c gs pref) o3 o4) S = forS (forB (ph (n + 1)) (.nm 3) lb12m) xs (st (pre c gs fs) o3' o4') S) ∧
            ((l.all (okP c gs)) = false → forS (forB (ph (n + 1)) (.nm 3) lb12m) (keysD (kdL l) ++ xs) (st (pre c gs pref) o3 o4) S = .rt .non S) := by
          intro l
          induction l with
          | nil =>
            intro pref xs o3 o4 e
            rw [List.append_nil] at e
            subst e
            refine ⟨fun _ => ⟨o3, o4, ?_⟩, fun h => nomatch h⟩
            rw [kdL]
            rfl
          | cons p l ihl =>
            intro pref xs o3 o4 e
            have hp : p ∈ fs := by rw [e]; exact List.mem_append.mpr (.inr List.mem_cons_self)
            have hu := lookK_of a1 hp
            have hnp : p.1 ∉ (pre c gs pref).map (·.1) := by
              intro hx
              have := pre_names c gs pref p.1 hx
              have hnd : (fs.map (·.1)).Nodup := a1
              rw [e, List.map_append, List.map_cons, List.nodup_append] at hnd
              exact hnd.2.2 p.1 this p.1 List.mem_cons_self rfl
            have hll : (pre c gs pref).length < sizeLine := by
              have h1 := hlen pref
              have h2 : pref.length ≤ fs.length := by rw [e, List.length_append]; omega
              omega
            have hk' : keysD (kdL (p :: l)) ++ xs = .str p.1 :: (keysD (kdL l) ++ xs) := by rw [kdL]; rfl
            have hpre : pre c gs (pref ++ [p]) = pre c gs pref ++ (preOf c gs p).toList := by
              unfold pre
              rw [List.filterMap_append]
              congr 1
            have nxt' := ihl (pref ++ [p]) xs
            rw [hk', List.all_cons]
            cases hv : lookK gs p.1 with
            | none =>
              have hok : okP c gs p = true := by unfold okP; rw [hv]
              have t := alone p.1 p.2 (pre c gs pref) o3 o4 (.inl ⟨hu, hv⟩) hll
              have hst : (if c = true then kput (pre c gs pref) p.1 p.2 else pre c gs pref) = pre c gs (pref ++ [p]) := by
                rw [hpre]
                unfold preOf
                rw [hv]
                by_cases hc : c = true
                · simp only [if_pos hc]; rw [kput_new hnp]; (try rfl)
                · simp only [if_neg hc]; (try simp)
              rw [hst] at t
              rw [forS_cons_nx t, hok, Bool.true_and]
              exact nxt' _ _ (by rw [e]; simp)
            | some v =>
              have t := both p.1 p.2 v (pre c gs pref) o3 o4 hu hv hll
              cases hm : met p.2 v with
              | some r =>
                rw [hm] at t
                have hok : okP c gs p = true := by unfold okP; rw [hv]; simp [hm]
                have hst : kput (pre c gs pref) p.1 r = pre c gs (pref ++ [p]) := by
                  rw [hpre]
                  unfold preOf
                  rw [hv]
                  simp only [hm]
                  rw [kput_new hnp]
                  rfl
                have t' : forB (ph (n + 1)) (.nm 3) lb12m (.str p.1) (st (pre c gs pref) o3 o4) S = .nx (st (kput (pre c gs pref) p.1 r) (some (.v (.str p.1))) (some (.v (kd r)))) S := t
                rw [hst] at t'
                rw [forS_cons_nx t', hok, Bool.true_and]
                exact nxt' _ _ (by rw [e]; simp)
              | none =>
                rw [hm] at t
                cases hc : c with
                | true =>
                  have hok : okP true gs p = false := by unfold okP; rw [hv]; simp [hm]
                  rw [hok]
                  subst hc
                  refine ⟨fun h => (by cases h), fun _ => forS_cons_rt t⟩
                | false =>
                  subst hc
                  have hok : okP false gs p = true := by unfold okP; rw [hv]; simp [hm]
                  have hst : pre false gs pref = pre false gs (pref ++ [p]) := by
                    rw [hpre]
                    unfold preOf
                    rw [hv]
                    simp [hm]
                  have t' : forB (ph (n + 1)) (.nm 3) lb12m (.str p.1) (st (pre false gs pref) o3 o4) S = .nx (st (pre false gs pref) (some (.v (.str p.1))) (some (.v .non))) S := t
                  rw [forS_cons_nx t', hok, Bool.true_and, hst]
                  exact nxt' _ _ (by rw [e]; simp)
        have hsp := somes_pre hk ho
        have phase2 : (fs.all (okP c gs)) = true → ∀ (l pref : List (Str × Kd)) (o3 o4 : Option Sl), gs = pref ++ l → ∃ o3' o4', forS (forB (ph (n + 1)) (.nm 3) lb12m) (keysD (kdL l)) (st (pre c gs fs ++ post c fs pref) o3 o4) S = .nx (st (pre c gs fs ++ post c fs gs) o3' o4') S := by
          intro hall l
          induction l with
          | nil =>
            intro pref o3 o4 e
            rw [List.append_nil] at e
            subst e
            exact ⟨o3, o4, by rw [kdL]; rfl⟩
          | cons p l ihl =>
            intro pref o3 o4 e
            have hp : p ∈ gs := by rw [e]; exact List.mem_append.mpr (.inr List.mem_cons_self)
            have hv := lookK_of c1 hp
            have hk' : keysD (kdL (p :: l)) = .str p.1 :: keysD (kdL l) := by rw [kdL]; rfl
            have hpl : pref.length ≤ gs.length := by rw [e, List.length_append]; omega
            have hll : (pre c gs fs ++ post c fs pref).length < sizeLine := by
              rw [List.length_append]
              have h1 := hlen fs
              have h2 := hlen2 pref
              omega
            have hpost : post c fs (pref ++ [p]) = post c fs pref ++ (postOf c fs p).toList := by
              unfold post
              rw [List.filterMap_append]
              congr 1
            have nxt' := ihl (pref ++ [p])
            rw [hk']
            cases hu : lookK fs p.1 with
            | none =>
              have hnp : p.1 ∉ (pre c gs fs ++ post c fs pref).map (·.1) := by
                rw [List.map_append, List.mem_append]
                rintro (hx | hx)
                · obtain ⟨q, hq, eq⟩ := List.mem_map.mp (pre_names c gs fs p.1 hx)
                  have := lookK_of a1 hq
                  rw [eq, hu] at this
                  cases this
                · have := (post_names c fs pref p.1 hx).1
                  have hnd : (gs.map (·.1)).Nodup := c1
                  rw [e, List.map_append, List.map_cons, List.nodup_append] at hnd
                  exact hnd.2.2 p.1 this p.1 List.mem_cons_self rfl
              have t := alone p.1 p.2 (pre c gs fs ++ post c fs pref) o3 o4 (.inr ⟨hu, hv⟩) hll
              have hst : (if c = true then kput (pre c gs fs ++ post c fs pref) p.1 p.2 else pre c gs fs ++ post c fs pref) = pre c gs fs ++ post c fs (pref ++ [p]) := by
                rw [hpost]
                unfold postOf
                rw [hu]
                by_cases hc : c = true
                · rw [if_pos hc, kput_new hnp, if_pos ⟨hc, rfl⟩, List.append_assoc]; rfl
                · rw [if_neg hc, if_neg (fun h => hc h.1)]; simp
              rw [hst] at t
              rw [forS_cons_nx t]
              exact nxt' _ _ (by rw [e]; simp)
            | some u =>
              have t := both p.1 u p.2 (pre c gs fs ++ post c fs pref) o3 o4 hu hv hll
              have hst : pre c gs fs ++ post c fs (pref ++ [p]) = pre c gs fs ++ post c fs pref := by
                rw [hpost]
                unfold postOf
                rw [hu]
                simp
              cases hm : met u p.2 with
              | some r =>
                rw [hm] at t
                have hin : (p.1, r) ∈ pre c gs fs := by
                  refine List.mem_filterMap.mpr ⟨(p.1, u), lk_mem hu, ?_⟩
                  unfold preOf
                  rw [show lookK gs p.1 = some p.2 from hv]
                  simp [hm]
                have hap : Apart (pre c gs fs ++ post c fs pref) := by
                  show ((pre c gs fs ++ post c fs pref).map (·.1)).Nodup
                  rw [List.map_append, List.nodup_append]
                  have hall' : Apart (pre c gs fs ++ post c fs gs) := by rw [← hsp]; exact somes_apart a1 c1
                  have h' : ((pre c gs fs ++ post c fs gs).map (·.1)).Nodup := hall'
                  rw [List.map_append, List.nodup_append] at h'
                  have hsub : post c fs gs = post c fs pref ++ post c fs (p :: l) := by
                    unfold post
                    rw [← List.filterMap_append, ← e]
                  refine ⟨h'.1, ?_, fun x hx y hy => h'.2.2 x hx y ?_⟩
                  · have := h'.2.1
                    rw [hsub, List.map_append, List.nodup_append] at this
                    exact this.1
                  · rw [hsub, List.map_append]
                    exact List.mem_append.mpr (.inl hy)
                have hks : kput (pre c gs fs ++ post c fs pref) p.1 r = pre c gs fs ++ post c fs pref := kput_same hap (List.mem_append.mpr (.inl hin))
                have t' : forB (ph (n + 1)) (.nm 3) lb12m (.str p.1) (st (pre c gs fs ++ post c fs pref) o3 o4) S = .nx (st (kput (pre c gs fs ++ post c fs pref) p.1 r) (some (.v (.str p.1))) (some (.v (kd r)))) S := t
                rw [hks] at t'
                rw [forS_cons_nx t', ← hst]
                exact nxt' _ _ (by rw [e]; simp)
              | none =>
                rw [hm] at t
                have hcf : c = false := by
                  have h1 := List.all_eq_true.mp hall (p.1, u) (lk_mem hu)
                  unfold okP at h1
                  rw [show lookK gs (p.1, u).1 = some p.2 from hv] at h1
                  simp only [hm] at h1
                  simpa using h1
                have t' : forB (ph (n + 1)) (.nm 3) lb12m (.str p.1) (st (pre c gs fs ++ post c fs pref) o3 o4) S = .nx (st (pre c gs fs ++ post c fs pref) (some (.v (.str p.1))) (some (.v .non))) S := by
                  exact t.trans (if_neg (by rw [hcf]; decide))
                rw [forS_cons_nx t', ← hst]
                exact nxt' _ _ (by rw [e]; simp)
        refine (stp (ex_set (d := .dic []) (S' := S) (r' := st [] none none) (by rw [ev, evD]) (by rw [hstd, kdL]; rfl))).trans ?_
        have eo : evI (ph (n + 1)) (.over (.bin .add (.bi .list (.sub (.var 0) (.int (1)))) (.bi .list (.sub (.var 1) (.int (1)))))) (st [] none none) S = .ok (keysD (kdL fs) ++ keysD (kdL gs)) S := by
          have q1 : ev (ph (n + 1)) (.bi .list (.sub (.var 0) (.int (1)))) (st [] none none) S = .ok (.lst (keysD (kdL fs))) S := ev_bi (rd_sub (k1 _ rfl)) rfl
          have q2 : ev (ph (n + 1)) (.bi .list (.sub (.var 1) (.int (1)))) (st [] none none) S = .ok (.lst (keysD (kdL gs))) S := ev_bi (rd_sub (o1 _ rfl)) rfl
          have q3 : ev (ph (n + 1)) (.bin .add (.bi .list (.sub (.var 0) (.int (1)))) (.bi .list (.sub (.var 1) (.int (1))))) (st [] none none) S = .ok (.lst (keysD (kdL fs) ++ keysD (kdL gs))) S := by
            refine ev_bin (rd_bi q1) (rd_bi q2) ?_
            show (if _ then _ else _) = _
            rw [if_pos (by rw [keys_len, keys_len]; omega)]
          rw [evI, q3, bnd_ok]
        obtain ⟨p1, p2⟩ := phase1 fs [] (keysD (kdL gs)) none none rfl
        have hmet : ((fs.all (okP c gs)) = true → met (mk c fs) (mk c gs) = some (mk c (pre c gs fs ++ post c fs gs))) ∧ ((fs.all (okP c gs)) = false → met (mk c fs) (mk c gs) = none) := by
          cases hc : c with
          | false =>
            subst hc
            refine ⟨fun _ => ?_, fun h => ?_⟩
            · rw [← hsp]; exact met_rcd fs gs
            · have : (fs.all (okP false gs)) = true := List.all_eq_true.mpr fun p _ => by unfold okP; cases lookK gs p.1 <;> simp
              rw [this] at h; cases h
          | true =>
            subst hc
            have hiff : ((mets (.cho fs) (.cho gs)).all fun p => p.2.isSome) = fs.all (okP true gs) := by
              have A : ∀ p ∈ fs, Kg b p.2 := by cases hk with | cho _ _ _ _ _ h => exact h
              have B : ∀ p ∈ gs, Kg b p.2 := by cases ho with | cho _ _ _ _ _ h => exact h
              unfold mets
              simp only [kids]
              rw [List.all_map, List.all_append, List.all_map, List.all_map]
              have h2 : ((gs.filter fun p => (lookK fs p.1).isNone).all (((fun p : Str × Option Kd => p.2.isSome) ∘ fun q : Str × Kd × Kd => (q.1, met q.2.1 q.2.2)) ∘ fun p : Str × Kd => (p.1, p.2, p.2))) = true := by
                refine List.all_eq_true.mpr fun p hp => ?_
                show (met p.2 p.2).isSome = true
                rw [met_self b _ p.2 (Nat.le_refl _) (B p (List.mem_filter.mp hp).1)]
                rfl
              rw [h2, Bool.and_true]
              refine all_congr' fun p hp => ?_
              show (met p.2 ((lookK gs p.1).getD p.2)).isSome = okP true gs p
              unfold okP
              cases lookK gs p.1 with
              | none => show (met p.2 p.2).isSome = true; rw [met_self b _ p.2 (Nat.le_refl _) (A p hp)]; rfl
              | some o => simp
            refine ⟨fun h => ?_, fun h => ?_⟩
            · rw [← hsp]
              exact (met_cho fs gs).trans (if_pos (by rw [hiff]; exact h))
            · exact (met_cho fs gs).trans (if_neg (by rw [hiff, h]; decide))
        cases hall : fs.all (okP c gs) with
        | false =>
          rw [hmet.2 hall]
          exact stp_rt (ex_loop eo (p2 hall))
        | true =>
          rw [hmet.1 hall]
          obtain ⟨o3, o4, q1⟩ := p1 hall
          obtain ⟨o3', o4', q2⟩ := phase2 hall gs [] o3 o4 rfl
          have hnil : pre c gs fs ++ post c fs [] = pre c gs fs := by unfold post; simp
          rw [hnil] at q2
          refine (stp (ex_loop eo (q1.trans q2))).trans ?_
          show _ = SO.rt (kd (mk c _)) S
          rw [kd_mk c (pre c gs fs ++ post c fs gs)]
          refine stp_rt (ex_frz.trans (ex_ret (ev_tup (ds := [.str (mkw c), .dic (kdL (pre c gs fs ++ post c fs gs))]) (evL_cons (S1 := S) ?_ (evL_cons (S1 := S) ?_ evL_nil)) s2)))
          · exact k0 _ rfl
          · exact ev_var rfl
      · rw [decide_eq_false hcd] at e2
        have hn : met (mk c fs) (mk d gs) = none := by
          rw [met_eq]
          cases c <;> cases d <;> first | rfl | exact absurd rfl hcd
        rw [hn]
        exact stp_rt ((ex_if_t e2).trans (stp_rt (ex_ret ev_non)))
end K03

namespace K03
open PySem PySem.Spec L2 Pi
/-! ### pairs, as instances -/
def pob (k o : Kd) (w : List (Str × D)) (m : D) : Ob := ⟨0, [("kind", kd k), ("other", kd o), ("within", .dic w), ("met", m)]⟩
theorem ex_attr {Φ : Phi} {a e : E} {f : Str} {d : D} {i : Nat} {r : Rho} {S S1 S2 : Sto} {o : Ob} (he : ev Φ e r S = .ok d S1) (ha : ev Φ a r S1 = .ok (.obj i) S2) (ho : S2[i]? = some o) (hl : o.fs.length < 1000) : ex Φ (.attr a f e) r S = .nx r (S2.set i ⟨o.cls, fput f d o.fs⟩) := by
  rw [ex, he, st_ok, ha, st_ok]
  simp only [ho]
  exact if_pos hl
theorem ev_attr {Φ : Phi} {a : E} {f : Str} {d : D} {i : Nat} {r : Rho} {S S1 : Sto} {o : Ob} (ha : ev Φ a r S = .ok (.obj i) S1) (ho : S1[i]? = some o) (hf : dget o.fs f = some d) : ev Φ (.attr a f) r S = .ok d S1 := by
  rw [ev, ha, bnd_ok]
  simp only [ho, Option.bind_some, hf, lift_some]
theorem set_last (S : Sto) (a b : Ob) : (S ++ [a]).set S.length b = S ++ [b] := by
  rw [List.set_append_right _ _ (Nat.le_refl _), Nat.sub_self]
  rfl
theorem get_last (S : Sto) (a : Ob) : (S ++ [a])[S.length]? = some a := by simp
theorem init_ok (n : Nat) (d1 d2 : D) (S : Sto) : (ph (n + 1)).call 3 [.obj S.length, d1, d2] (S ++ [⟨0, []⟩]) = .ok .non (S ++ [⟨0, [("kind", d1), ("other", d2), ("within", .dic []), ("met", .non)]⟩]) := by
  rw [call_at rfl rfl]
  refine Eq.trans (congrArg SO.out (?_ : exL (ph n) b_Pair_init [some (.v (.obj S.length)), some (.v d1), some (.v d2)] (S ++ [⟨0, []⟩]) = .nx [some (.v (.obj S.length)), some (.v d1), some (.v d2)] (S ++ [⟨0, [("kind", d1), ("other", d2), ("within", .dic []), ("met", .non)]⟩]))) out_nx
  unfold b_Pair_init
  have z : ∀ a b c d e f : Str, True := fun _ _ _ _ _ _ => trivial
  refine (stp ((ex_frz.trans (ex_attr (d := d1) (i := S.length) (o := ⟨0, []⟩) (ev_var rfl) (ev_var rfl) (get_last S _) (by decide))).trans (by rw [set_last]))).trans ?_
  refine (stp ((ex_frz.trans (ex_attr (d := d2) (i := S.length) (o := ⟨0, [("kind", d1)]⟩) (ev_var rfl) (ev_var rfl) (get_last S _) (by decide : (1 : Nat) < 1000))).trans (by rw [set_last]))).trans ?_
  refine (stp ((ex_frz.trans (ex_attr (d := .dic []) (i := S.length) (o := ⟨0, [("kind", d1), ("other", d2)]⟩) (by rw [ev, evD]) (ev_var rfl) (by exact get_last S _) (by decide : (2 : Nat) < 1000))).trans (by rw [set_last]))).trans ?_
  refine (stp ((ex_frz.trans (ex_attr (d := .non) (i := S.length) (o := ⟨0, [("kind", d1), ("other", d2), ("within", .dic [])]⟩) ev_non (ev_var rfl) (by exact get_last S _) (by decide : (3 : Nat) < 1000))).trans (by rw [set_last]))).trans ?_
  rw [exL_nil]
  rfl
theorem new_ok (n : Nat) {ea eb : E} {k o : Kd} {r : Rho} {S : Sto} (ha : ev (ph (n + 1)) ea r S = .ok (kd k) S) (hb : ev (ph (n + 1)) eb r S = .ok (kd o) S) : ev (ph (n + 1)) (.new 0 (.cons ea (.cons eb .nil))) r S = .ok (.obj S.length) (S ++ [pob k o [] .non]) := by
  rw [ev, evL_cons ha (evL_cons hb evL_nil), bnd_ok]
  have : (ph (n + 1)).ini 0 = 3 := rfl
  rw [this, init_ok]
  rfl
/-! ### the pairs within -/
def kmrg (fs gs : List (Str × Kd)) : List (Str × Kd) := gs.foldl (fun acc p => kput acc p.1 p.2) fs
theorem mrgK_kdL : ∀ (gs fs : List (Str × Kd)), mrgK (kdL fs) (kdL gs) = kdL (kmrg fs gs)
  | [], fs => by rw [kdL]; rfl
  | p :: gs, fs => by
    rw [kdL]
    show mrgK (dput (kdL fs) p.1 (kd p.2)) (kdL gs) = kdL (kmrg (kput fs p.1 p.2) gs)
    rw [dput_kdL]
    exact mrgK_kdL gs _
theorem kmrg_apart : ∀ (gs : List (Str × Kd)) {fs : List (Str × Kd)}, Apart fs → Apart (kmrg fs gs)
  | [], _, h => h
  | p :: gs, _, h => kmrg_apart gs (fs := kput _ p.1 p.2) (kput_apart h)
theorem kmrg_look : ∀ (gs fs : List (Str × Kd)) (x : Str), Apart gs → lookK (kmrg fs gs) x = match lookK gs x with | some o => some o | none => lookK fs x
  | [], fs, x, _ => rfl
  | p :: gs, fs, x, h => by
    have h' : p.1 ∉ gs.map (·.1) ∧ (gs.map (·.1)).Nodup := by
      have : ((p :: gs).map (·.1)).Nodup := h
      rwa [List.map_cons, List.nodup_cons] at this
    have ih := kmrg_look gs (kput fs p.1 p.2) x h'.2
    show lookK (kmrg (kput fs p.1 p.2) gs) x = _
    rw [ih, lookK_kput]
    have hc : lookK (p :: gs) x = if p.1 = x then some p.2 else lookK gs x := by
      unfold lookK
      rw [List.find?_cons]
      by_cases e : p.1 = x <;> simp [e]
    rw [hc]
    by_cases e : p.1 = x
    · rw [if_pos e, if_pos e]
      have : lookK gs x = none := by
        cases hl : lookK gs x with
        | none => rfl
        | some o =>
          have := lk_mem hl
          exact absurd (List.mem_map.mpr ⟨(x, o), this, e.symm⟩) h'.1
      rw [this]
    · rw [if_neg e, if_neg e]
theorem kmrg_names : ∀ (gs fs : List (Str × Kd)), Apart gs → (kmrg fs gs).map (·.1) = fs.map (·.1) ++ (gs.filter fun p => (lookK fs p.1).isNone).map (·.1)
  | [], fs, _ => by show fs.map (·.1) = _; simp
  | p :: gs, fs, h => by
    have h' : p.1 ∉ gs.map (·.1) ∧ (gs.map (·.1)).Nodup := by
      have : ((p :: gs).map (·.1)).Nodup := h
      rwa [List.map_cons, List.nodup_cons] at this
    show (kmrg (kput fs p.1 p.2) gs).map (·.1) = _
    rw [kmrg_names gs (kput fs p.1 p.2) h'.2, kput_keys]
    have hf : (gs.filter fun q => (lookK (kput fs p.1 p.2) q.1).isNone) = gs.filter fun q => (lookK fs q.1).isNone := by
      refine List.filter_congr fun q hq => ?_
      rw [lookK_kput, if_neg (fun e => h'.1 (List.mem_map.mpr ⟨q, hq, e.symm⟩))]
    rw [hf, List.filter_cons]
    have hany : (fs.any fun q => decide (q.1 = p.1)) = (lookK fs p.1).isSome := by
      unfold lookK
      rw [Option.isSome_map]
      clear h h' hf
      induction fs with
      | nil => rfl
      | cons q qs ihq => by_cases e : q.1 = p.1 <;> simp_all [List.any_cons, List.find?_cons]
    rw [hany]
    cases hl : lookK fs p.1 with
    | none => simp
    | some o => simp
end K03

namespace K03
open PySem PySem.Spec L2 Pi
/-! ### the pairs within -/
theorem fm_congr {α β : Type} {f g : α → Option β} : ∀ {l : List α}, (∀ x ∈ l, f x = g x) → l.filterMap f = l.filterMap g
  | [], _ => rfl
  | x :: l, h => by rw [List.filterMap_cons, List.filterMap_cons, h x List.mem_cons_self, fm_congr fun y hy => h y (List.mem_cons_of_mem _ hy)]
theorem dput_new {kvs : List (Str × D)} {x : Str} {d : D} (h : x ∉ kvs.map (·.1)) : dput kvs x d = kvs ++ [(x, d)] := by
  unfold dput
  rw [if_neg]
  intro hh
  obtain ⟨p, hp, e⟩ := List.any_eq_true.mp hh
  exact h (List.mem_map.mpr ⟨p, hp, by simpa using e⟩)
theorem loopK_map {f : D → Sto → Out (Option (Str × D))} {g : D → Option (Str × D)} {S : Sto} : ∀ {xs : List D} {acc : List (Str × D)}, (∀ x ∈ xs, f x S = .ok (g x) S) → ((acc ++ xs.filterMap g).map (·.1)).Nodup → loopK f xs acc S = .ok (acc ++ xs.filterMap g) S
  | [], acc, _, _ => by rw [loopK, List.filterMap_nil, List.append_nil]
  | x :: xs, acc, h, hn => by
    have ih := fun (acc : List (Str × D)) => loopK_map (f := f) (g := g) (S := S) (xs := xs) (acc := acc) (fun y hy => h y (List.mem_cons_of_mem _ hy))
    rw [loopK, h x List.mem_cons_self, bnd_ok]
    rw [List.filterMap_cons] at hn ⊢
    cases hg : g x with
    | none =>
      rw [hg] at hn
      exact ih acc hn
    | some p =>
      rw [hg] at hn
      simp only at hn ⊢
      have hp : p.1 ∉ acc.map (·.1) := by
        intro hm
        rw [List.map_append, List.nodup_append] at hn
        exact hn.2.2 _ hm p.1 (by simp) rfl
      rw [dput_new hp]
      have e : acc ++ p :: xs.filterMap g = (acc ++ [(p.1, p.2)]) ++ xs.filterMap g := by simp
      rw [e] at hn ⊢
      exact ih _ hn
def prt : Kd → List (Str × Kd)
  | .rcd fs => fs
  | .cho fs => fs
  | _ => []
def mkn : Kd → Str
  | .num => "num"
  | .truth => "truth"
  | .rcd _ => "record"
  | .cho _ => "choice"
theorem prt_ok (n : Nat) (k : Kd) (S : Sto) : (ph (n + 1)).call 2 [kd k] S = .ok (.dic (kdL (prt k))) S := by
  cases k with
  | num => exact parts_of_str n _ S
  | truth => exact parts_of_str n _ S
  | rcd fs => exact parts_of_tup n _ _ S
  | cho fs => exact parts_of_tup n _ _ S
theorem mkn_ok (n : Nat) (k : Kd) (S : Sto) : (ph (n + 1)).call 1 [kd k] S = .ok (.str (mkn k)) S := by
  cases k with
  | num => exact make_of_str n _ S
  | truth => exact make_of_str n _ S
  | rcd fs => exact make_of_tup n _ _ S
  | cho fs => exact make_of_tup n _ _ S
theorem prt_kg {b : Nat} {k : Kd} (h : Kg b k) : Apart (prt k) ∧ (prt k).length ≤ b := by
  cases h with
  | num => exact ⟨List.nodup_nil, Nat.zero_le _⟩
  | truth => exact ⟨List.nodup_nil, Nat.zero_le _⟩
  | rcd fs a l _ _ => exact ⟨a, l⟩
  | cho fs a l _ _ _ => exact ⟨a, l⟩
theorem kmrg_nil (fs : List (Str × Kd)) (h : Apart fs) : kmrg [] fs = fs := by
  have : ∀ (fs acc : List (Str × Kd)), Apart (acc ++ fs) → kmrg acc fs = acc ++ fs := by
    intro fs
    induction fs with
    | nil => intro acc _; show acc = _; simp
    | cons p fs ih =>
      intro acc h
      show kmrg (kput acc p.1 p.2) fs = _
      have hp : p.1 ∉ acc.map (·.1) := by
        intro hm
        have h' : ((acc ++ p :: fs).map (·.1)).Nodup := h
        rw [List.map_append, List.nodup_append] at h'
        exact h'.2.2 _ hm p.1 (by simp) rfl
      rw [kput_new hp]
      have e : acc ++ p :: fs = (acc ++ [(p.1, p.2)]) ++ fs := by simp
      rw [e] at h ⊢
      exact ih _ h
  exact this fs [] h
theorem mrg_ok {fs gs : List (Str × Kd)} (h : Apart fs) (hl : fs.length + gs.length ≤ sizeLine) : mrgD (kdL fs) (.dic (kdL gs)) = some (.dic (kdL (kmrg fs gs))) := by
  unfold mrgD
  simp only
  rw [if_pos (by rw [kdL_map, kdL_map, List.length_map, List.length_map]; exact hl)]
  have : mrgK [] (kdL fs) = kdL fs := by
    have e : mrgK (kdL []) (kdL fs) = kdL (kmrg [] fs) := mrgK_kdL fs []
    rw [kmrg_nil fs h] at e
    exact e
  rw [this, mrgK_kdL]
def two (q : Str × Kd × Kd) : Str × D := (q.1, .tup [kd q.2.1, kd q.2.2])
theorem keysD_kdL (fs : List (Str × Kd)) : keysD (kdL fs) = fs.map fun p => D.str p.1 := by
  rw [kdL_map]
  unfold keysD
  rw [List.map_map]
  rfl
theorem kids_cho (fs gs : List (Str × Kd)) (h1 : Apart fs) (h2 : Apart gs) : (kmrg fs gs).filterMap (fun p => match lookK (kmrg gs fs) p.1, lookK (kmrg fs gs) p.1 with | some a, some b => some (p.1, a, b) | _, _ => none) = kids (.cho fs) (.cho gs) := by
  have e : ∀ l : List (Str × Kd), l.filterMap (fun p => match lookK (kmrg gs fs) p.1, lookK (kmrg fs gs) p.1 with | some a, some b => some (p.1, a, b) | _, _ => none) = (l.map (·.1)).filterMap (fun x => match lookK (kmrg gs fs) x, lookK (kmrg fs gs) x with | some a, some b => some (x, a, b) | _, _ => none) := by
    intro l; rw [List.filterMap_map]; rfl
  rw [e, kmrg_names gs fs h2, List.filterMap_append, List.filterMap_map, List.filterMap_map]
  simp only [kids]
  congr 1
  · rw [← List.filterMap_eq_map]
    refine fm_congr fun p hp => ?_
    simp only [Function.comp]
    rw [kmrg_look fs gs _ h1, kmrg_look gs fs _ h2, lookK_of h1 hp]
    cases lookK gs p.1 with
    | none => rfl
    | some o => rfl
  · rw [← List.filterMap_eq_map]
    refine fm_congr fun p hp => ?_
    obtain ⟨hp, hn⟩ := List.mem_filter.mp hp
    simp only [Function.comp]
    rw [kmrg_look fs gs _ h1, kmrg_look gs fs _ h2, lookK_of h2 hp]
    have : lookK fs p.1 = none := by simpa using hn
    rw [this]
theorem dget_some {fs : List (Str × Kd)} {x : Str} {k : Kd} (h : lookK fs x = some k) : dget (kdL fs) x = some (kd k) := by rw [dget_kdL, h]; rfl
theorem dget_none {fs : List (Str × Kd)} {x : Str} (h : lookK fs x = none) : dget (kdL fs) x = none := by rw [dget_kdL, h]; rfl
/-- one turn: a record's -/
def b5l (c : T) (a b : Nat) (it : Nat) : E := .dc (.var 6) (.tup (.cons (.sub (.var a) (.var 6)) (.cons (.sub (.var b) (.var 6)) .nil))) (.nm 6) (.over (.var it)) c [6]
theorem b5 : b_pairs_within = (.cons (.frz [0] (.asg (.nm 2) (.call 2 (.cons (.var 0) .nil))))
 (.cons (.frz [1] (.asg (.nm 3) (.call 2 (.cons (.var 1) .nil))))
 (.cons (.frz [0, 1] (.ite (.e (.cmp .ne (.call 1 (.cons (.var 0) .nil)) (.call 1 (.cons (.var 1) .nil))))
 (.cons (.ret (.dct .nil))
 .nil)
 .nil))
 (.cons (.frz [0] (.ite (.e (.cmp .eq (.call 1 (.cons (.var 0) .nil)) (.str "record")))
 (.cons (.frz [6, 6, 6, 2] (.ret (b5l (.e (.cmp .inn (.var 6) (.var 3))) 2 3 2)))
 .nil)
 .nil))
 (.cons (.frz [3, 2] (.asg (.nm 4) (.mrg (.var 3) (.var 2))))
 (.cons (.frz [2, 3] (.asg (.nm 5) (.mrg (.var 2) (.var 3))))
 (.cons (.frz [6, 6, 6, 5] (.ret (b5l .yes 4 5 5)))
 .nil))))))) := rfl
theorem turn5 {Φ : Phi} {c : T} {a b : Nat} {r : Rho} {S : Sto} {fs gs : List (Str × Kd)} {x : Str} (hr : r.length = 7) (h6 : a ≠ 6) (h6' : b ≠ 6) (ha : look a r = some (.dic (kdL fs))) (hb : look b r = some (.dic (kdL gs))) (k : Bool)
    (hc : evT Φ c (r.set 6 (some (.v (.str x)))) S = .ok k S) (hk : k = true → (lookK fs x).isSome = true ∧ (lookK gs x).isSome = true) :
    dcStep (.nm 6) [6] r (fun r S => evT Φ c r S) (fun r S => ev Φ (.var 6) r S) (fun r S => ev Φ (.tup (.cons (.sub (.var a) (.var 6)) (.cons (.sub (.var b) (.var 6)) .nil))) r S) (.str x) S = .ok (if k = true then (match lookK fs x, lookK gs x with | some a, some b => some (two (x, a, b)) | _, _ => none) else none) S := by
  have hb6 : bindT (.nm 6) (.str x) (wipeR r [6]) = some (r.set 6 (some (.v (.str x)))) := by
    show (if 6 < (r.set 6 none).length then some ((r.set 6 none).set 6 (some (.v (.str x)))) else none) = _
    rw [if_pos (by rw [List.length_set, hr]; decide), List.set_set]
  unfold dcStep
  simp only [hb6, hc, bnd_ok]
  cases k with
  | false => rfl
  | true =>
    obtain ⟨h1, h2⟩ := hk rfl
    obtain ⟨ka, hka⟩ := Option.isSome_iff_exists.mp h1
    obtain ⟨kb, hkb⟩ := Option.isSome_iff_exists.mp h2
    have e6 : (r.set 6 (some (.v (.str x))))[6]? = some (some (.v (.str x))) := by rw [List.getElem?_set_self (by rw [hr]; decide)]
    have ea : look a (r.set 6 (some (.v (.str x)))) = some (.dic (kdL fs)) := by rw [← ha]; unfold look; rw [List.getElem?_set_ne (Ne.symm h6)]
    have eb : look b (r.set 6 (some (.v (.str x)))) = some (.dic (kdL gs)) := by rw [← hb]; unfold look; rw [List.getElem?_set_ne (Ne.symm h6')]
    have s1 : ev Φ (.sub (.var a) (.var 6)) (r.set 6 (some (.v (.str x)))) S = .ok (kd ka) S := ev_sub (rd_var ea) (ev_var e6) (by show dget (kdL fs) x = _; exact dget_some hka)
    have s2 : ev Φ (.sub (.var b) (.var 6)) (r.set 6 (some (.v (.str x)))) S = .ok (kd kb) S := ev_sub (rd_var eb) (ev_var e6) (by show dget (kdL gs) x = _; exact dget_some hkb)
    simp only [if_true, ev_var e6, bnd_ok, ev_tup (evL_cons s1 (evL_cons s2 evL_nil)) (by decide : 2 ≤ sizeLine), hka, hkb]
    rfl
theorem dc5 {Φ : Phi} {c : T} {a b it : Nat} {r : Rho} {S : Sto} {fs gs hs : List (Str × Kd)} (hr : r.length = 7) (h6 : a ≠ 6) (h6' : b ≠ 6) (ha : look a r = some (.dic (kdL fs))) (hb : look b r = some (.dic (kdL gs))) (hi : r[it]? = some (some (.v (.dic (kdL hs))))) (hh : Apart hs) (hl : hs.length ≤ sizeLine) (k : Str → Bool)
    (hc : ∀ p ∈ hs, evT Φ c (r.set 6 (some (.v (.str p.1)))) S = .ok (k p.1) S) (hk : ∀ p ∈ hs, k p.1 = true → (lookK fs p.1).isSome = true ∧ (lookK gs p.1).isSome = true) :
    ev Φ (b5l c a b it) r S = .ok (.dic (hs.filterMap fun p => if k p.1 = true then (match lookK fs p.1, lookK gs p.1 with | some a, some b => some (two (p.1, a, b)) | _, _ => none) else none)) S := by
  unfold b5l
  rw [ev, evI, ev_var hi, bnd_ok]
  simp only [bnd_ok]
  rw [keysD_kdL]
  have e := loopK_map (f := dcStep (.nm 6) [6] r (fun r S => evT Φ c r S) (fun r S => ev Φ (.var 6) r S) (fun r S => ev Φ (.tup (.cons (.sub (.var a) (.var 6)) (.cons (.sub (.var b) (.var 6)) .nil))) r S))
    (g := fun d => match d with | .str x => if k x = true then (match lookK fs x, lookK gs x with | some a, some b => some (two (x, a, b)) | _, _ => none) else none | _ => none) (S := S) (xs := hs.map fun p => D.str p.1) (acc := []) (fun d hd => by
      obtain ⟨p, hp, rfl⟩ := List.mem_map.mp hd
      exact turn5 hr h6 h6' ha hb (k p.1) (hc p hp) (hk p hp)) (by
      rw [List.nil_append, List.filterMap_map]
      have hh' : (hs.map (·.1)).Nodup := hh
      refine List.Sublist.nodup ?_ hh'
      clear hc hk hh hh' hi hl
      induction hs with
      | nil => exact List.Sublist.refl _
      | cons p hs ih =>
        rw [List.filterMap_cons, List.map_cons]
        simp only [Function.comp]
        split
        · exact List.Sublist.cons _ ih
        · rename_i q hq
          have : q.1 = p.1 := by
            split at hq
            · split at hq
              · cases hq; rfl
              · cases hq
            · cases hq
          rw [List.map_cons, this]
          exact List.Sublist.cons₂ _ ih)
  rw [e, bnd_ok, if_pos (by rw [List.length_map]; exact hl), List.nil_append, List.filterMap_map]
  rfl
theorem map_fm {α β γ : Type} (f : α → Option β) (g : β → γ) : ∀ l : List α, (l.filterMap f).map g = l.filterMap fun x => (f x).map g
  | [] => rfl
  | x :: l => by
    rw [List.filterMap_cons, List.filterMap_cons]
    cases f x with
    | none => exact map_fm f g l
    | some y => simp only [List.map_cons, Option.map_some]; rw [map_fm f g l]
end K03

namespace K03
open PySem PySem.Spec L2 Pi
theorem pw_ok {b : Nat} (hb : b + b ≤ sizeLine) (n : Nat) {k o : Kd} (hk : Kg b k) (ho : Kg b o) (S : Sto) : (ph (n + 2)).call 5 [kd k, kd o] S = .ok (.dic ((kids k o).map two)) S := by
  rw [call_at rfl rfl]
  refine Eq.trans (congrArg SO.out (?_ : exL (ph (n + 1)) b_pairs_within [some (.v (kd k)), some (.v (kd o)), none, none, none, none, none] S = .rt (.dic ((kids k o).map two)) S)) out_rt
  rw [b5]
  obtain ⟨a1, l1⟩ := prt_kg hk
  obtain ⟨a2, l2⟩ := prt_kg ho
  refine (stp (ex_frz.trans (ex_set (ev_call (evL_cons (ev_var rfl) evL_nil) (prt_ok n k S)) rfl))).trans ?_
  refine (stp (ex_frz.trans (ex_set (ev_call (evL_cons (ev_var rfl) evL_nil) (prt_ok n o S)) rfl))).trans ?_
  change exL (ph (n + 1)) _ [some (.v (kd k)), some (.v (kd o)), some (.v (.dic (kdL (prt k)))), some (.v (.dic (kdL (prt o)))), none, none, none] S = _
  have cm : ∀ r : Rho, r[0]? = some (some (.v (kd k))) → r[1]? = some (some (.v (kd o))) → evT (ph (n + 1)) (.e (.cmp .ne (.call 1 (.cons (.var 0) .nil)) (.call 1 (.cons (.var 1) .nil)))) r S = .ok (!decide (mkn k = mkn o)) S := by
    intro r h0 h1
    refine evT_e (rd_cmp (ev_cmp (rd_call (ev_call (evL_cons (ev_var h0) evL_nil) (mkn_ok n k S))) (rd_call (ev_call (evL_cons (ev_var h1) evL_nil) (mkn_ok n o S))) ?_)) rfl
    show (eqd (.str (mkn k)) (.str (mkn o))).map (!·) = _
    rw [eqd]; rfl
  by_cases hm : mkn k = mkn o
  case neg =>
    have : kids k o = [] := by
      cases k <;> cases o <;> first | rfl | exact absurd rfl hm
    rw [this]
    refine stp_rt (ex_frz.trans ((ex_if_t (Eq.trans (cm _ ?_ ?_) (by rw [decide_eq_false hm]; rfl))).trans (stp_rt (ex_ret ?_))))
    · rfl
    · rfl
    · rw [ev, evD]; rfl
  refine (stp (ex_frz.trans ((ex_if_f (Eq.trans (cm _ ?_ ?_) (by rw [decide_eq_true hm]; rfl))).trans exL_nil))).trans ?_
  · rfl
  · rfl
  have cr : ∀ r : Rho, r[0]? = some (some (.v (kd k))) → evT (ph (n + 1)) (.e (.cmp .eq (.call 1 (.cons (.var 0) .nil)) (.str "record"))) r S = .ok (decide (mkn k = "record")) S := by
    intro r h0
    refine evT_e (rd_cmp (ev_cmp (rd_call (ev_call (evL_cons (ev_var h0) evL_nil) (mkn_ok n k S))) rd_str ?_)) rfl
    rfl
  change exL (ph (n + 1)) _ [some (.v (kd k)), some (.v (kd o)), some (.v (.dic (kdL (prt k)))), some (.v (.dic (kdL (prt o)))), none, none, none] S = _
  by_cases hr : mkn k = "record"
  · obtain ⟨fs, rfl⟩ : ∃ fs, k = .rcd fs := by
      cases k with
      | rcd fs => exact ⟨fs, rfl⟩
      | num => exact absurd (show Str.ofString "num" = Str.ofString "record" from hr) (by decide)
      | truth => exact absurd (show Str.ofString "truth" = Str.ofString "record" from hr) (by decide)
      | cho fs => exact absurd (show Str.ofString "choice" = Str.ofString "record" from hr) (by decide)
    obtain ⟨gs, rfl⟩ : ∃ gs, o = .rcd gs := by
      cases o with
      | rcd fs => exact ⟨fs, rfl⟩
      | num => exact absurd (show Str.ofString "record" = Str.ofString "num" from hm) (by decide)
      | truth => exact absurd (show Str.ofString "record" = Str.ofString "truth" from hm) (by decide)
      | cho fs => exact absurd (show Str.ofString "record" = Str.ofString "choice" from hm) (by decide)
    have a1 : Apart fs := a1
    have l1 : fs.length ≤ b := l1
    refine stp_rt (ex_frz.trans ((ex_if_t (Eq.trans (cr _ ?_) (by rw [decide_eq_true hr]))).trans (stp_rt (ex_frz.trans (ex_ret ?_)))))
    · rfl
    change ev (ph (n + 1)) _ [some (.v (kd (.rcd fs))), some (.v (kd (.rcd gs))), some (.v (.dic (kdL fs))), some (.v (.dic (kdL gs))), none, none, none] S = _
    refine Eq.trans (dc5 (fs := fs) (gs := gs) (hs := fs) (k := fun x => (lookK gs x).isSome) (hr := ?_) (h6 := ?_) (h6' := ?_) (ha := ?_) (hb := ?_) (hi := ?_) a1 (Nat.le_trans l1 (by omega)) (hc := fun p hp => ?_) (hk := fun p hp h => ?_)) ?_
    · rfl
    · decide
    · decide
    · rfl
    · rfl
    · rfl
    · refine evT_e (rd_cmp (ev_cmp (rd_var rfl) (rd_var rfl) ?_)) rfl
      show some (dget (kdL gs) p.1).isSome = _
      rw [dget_kdL, Option.isSome_map]
    · rw [lookK_of a1 hp]; exact ⟨rfl, h⟩
    · congr 2
      simp only [kids]
      rw [map_fm]
      refine fm_congr fun p hp => ?_
      rw [lookK_of a1 hp]
      cases lookK gs p.1 with
      | none => rfl
      | some o => rfl
  · refine (stp (ex_frz.trans ((ex_if_f (Eq.trans (cr _ ?_) (by rw [decide_eq_false hr]))).trans exL_nil))).trans ?_
    · rfl
    change exL (ph (n + 1)) _ [some (.v (kd k)), some (.v (kd o)), some (.v (.dic (kdL (prt k)))), some (.v (.dic (kdL (prt o)))), none, none, none] S = _
    have em : ∀ {r : Rho} {i j : Nat} {fs gs : List (Str × Kd)}, r[i]? = some (some (.v (.dic (kdL fs)))) → r[j]? = some (some (.v (.dic (kdL gs)))) → Apart fs → fs.length + gs.length ≤ sizeLine → ev (ph (n + 1)) (.mrg (.var i) (.var j)) r S = .ok (.dic (kdL (kmrg fs gs))) S := by
      intro r i j fs gs h1 h2 ha hl
      rw [ev, ev_var h1, bnd_ok]
      simp only
      rw [ev_var h2, bnd_ok, mrg_ok ha hl, lift_some]
    refine (stp (ex_frz.trans (ex_set (em (fs := prt o) (gs := prt k) rfl rfl a2 (by omega)) rfl))).trans ?_
    change exL (ph (n + 1)) _ [some (.v (kd k)), some (.v (kd o)), some (.v (.dic (kdL (prt k)))), some (.v (.dic (kdL (prt o)))), some (.od (kdL (kmrg (prt o) (prt k)))), none, none] S = _
    refine (stp (ex_frz.trans (ex_set (em (fs := prt k) (gs := prt o) rfl rfl a1 (by omega)) rfl))).trans ?_
    change exL (ph (n + 1)) _ [some (.v (kd k)), some (.v (kd o)), some (.v (.dic (kdL (prt k)))), some (.v (.dic (kdL (prt o)))), some (.od (kdL (kmrg (prt o) (prt k)))), some (.od (kdL (kmrg (prt k) (prt o)))), none] S = _
    refine stp_rt (ex_frz.trans (ex_ret ?_))
    change ev (ph (n + 1)) _ [some (.v (kd k)), some (.v (kd o)), some (.v (.dic (kdL (prt k)))), some (.v (.dic (kdL (prt o)))), some (.od (kdL (kmrg (prt o) (prt k)))), some (.v (.dic (kdL (kmrg (prt k) (prt o))))), none] S = _
    have hlen : (kmrg (prt k) (prt o)).length ≤ sizeLine := by
      have := congrArg List.length (kmrg_names (prt o) (prt k) a2)
      rw [List.length_map, List.length_append, List.length_map, List.length_map] at this
      have h2 := List.length_filter_le (fun p : Str × Kd => (lookK (prt k) p.1).isNone) (prt o)
      omega
    refine Eq.trans (dc5 (fs := kmrg (prt o) (prt k)) (gs := kmrg (prt k) (prt o)) (hs := kmrg (prt k) (prt o)) (k := fun _ => true) (hr := ?_) (h6 := ?_) (h6' := ?_) (ha := ?_) (hb := ?_) (hi := ?_) (kmrg_apart _ a1) hlen (hc := fun p hp => ?_) (hk := fun p hp _ => ?_)) ?_
    · rfl
    · decide
    · decide
    · rfl
    · rfl
    · rfl
    · rw [evT]
    · have h1 := lookK_of (kmrg_apart (prt o) a1) hp
      refine ⟨?_, by rw [h1]; rfl⟩
      rw [kmrg_look _ _ _ a2] at h1
      rw [kmrg_look _ _ _ a1]
      cases e : lookK (prt k) p.1 with
      | some a => rfl
      | none =>
        rw [e] at h1
        cases e2 : lookK (prt o) p.1 with
        | some a => rfl
        | none => rw [e2] at h1; cases h1
    · congr 2
      have hc : kids k o = kids (.cho (prt k)) (.cho (prt o)) := by
        cases k <;> cases o <;> first | rfl | exact absurd rfl hr | (simp only [mkn] at hm; exact absurd hm (by decide))
      rw [hc, ← kids_cho (prt k) (prt o) a1 a2, map_fm]
      refine fm_congr fun p hp => ?_
      simp only [if_true]
      cases lookK (kmrg (prt o) (prt k)) p.1 <;> cases lookK (kmrg (prt k) (prt o)) p.1 <;> rfl
end K03

namespace K03
open PySem PySem.Spec L2 Pi
/-! ### what the parts come to -/
def msD (ms : List (Str × Option Kd)) : List (Str × D) := ms.map fun p => (p.1, mD p.2)
def gm : D → Option (Str × D)
  | .tup [.str x, .non] => none
  | .tup [.str x, d] => some (x, d)
  | _ => none
theorem gm_ok (x : Str) (m : Option Kd) : gm (.tup [.str x, mD m]) = m.map fun k => (x, kd k) := by
  cases m with
  | none => rfl
  | some k => cases k <;> rfl
theorem notN_ok {Φ : Phi} {r : Rho} {S : Sto} {i : Nat} (m : Option Kd) (h : look i r = some (mD m)) : evT Φ (.e (.notN (.var i))) r S = .ok m.isSome S := by
  rw [evT]
  show (ev Φ (.notN (.var i)) r S).bnd _ = _
  rw [ev, rd_var h, bnd_ok, bnd_ok]
  cases m with
  | none => rfl
  | some k => cases k <;> rfl
theorem isN_ok {Φ : Phi} {r : Rho} {S : Sto} {i : Nat} (m : Option Kd) (h : look i r = some (mD m)) : evT Φ (.e (.isN (.var i))) r S = .ok m.isNone S := by
  rw [evT]
  show (ev Φ (.isN (.var i)) r S).bnd _ = _
  rw [ev, rd_var h, bnd_ok, bnd_ok]
  cases m with
  | none => rfl
  | some k => cases k <;> rfl
theorem somes_sub (ms : List (Str × Option Kd)) : List.Sublist ((somes ms).map (·.1)) (ms.map (·.1)) := by
  induction ms with
  | nil => exact List.Sublist.refl _
  | cons p ms ih =>
    unfold somes at ih ⊢
    rw [List.filterMap_cons, List.map_cons]
    cases h : p.2 with
    | none => exact List.Sublist.cons _ ih
    | some k => exact List.Sublist.cons₂ _ ih
theorem somes_len (ms : List (Str × Option Kd)) : (ms.all fun p => p.2.isSome) = !decide ((somes ms).length < ms.length) := by
  induction ms with
  | nil => rfl
  | cons p ms ih =>
    have hl : (somes ms).length ≤ ms.length := List.length_filterMap_le _ _
    rw [List.all_cons, ih]
    unfold somes at hl ⊢
    rw [List.filterMap_cons]
    cases h : p.2 with
    | none =>
      simp only [Option.isSome_none, Bool.false_and, Option.map_none, List.length_cons]
      rw [decide_eq_true (by omega)]; rfl
    | some k =>
      simp only [Option.isSome_some, Bool.true_and, Option.map_some, List.length_cons, Nat.add_lt_add_iff_right]
theorem gm_list (ms : List (Str × Option Kd)) : ((msD ms).map fun p => D.tup [.str p.1, p.2]).filterMap gm = kdL (somes ms) := by
  rw [kdL_map]
  unfold msD somes
  rw [List.map_map, List.filterMap_map, map_fm]
  refine fm_congr fun p _ => ?_
  show gm (.tup [.str p.1, mD p.2]) = _
  rw [gm_ok]
  cases p.2 <;> rfl
def b6l : E := .dc (.var 5) (.var 6) (.tup [5, 6]) (.items (.var 2)) (.e (.notN (.var 6))) [5, 6]
theorem dc6 {Φ : Phi} {r : Rho} {S : Sto} {ms : List (Str × Option Kd)} (hr : r.length = 7) (h2 : r[2]? = some (some (.v (.dic (msD ms))))) (hn : (ms.map (·.1)).Nodup) (hl : ms.length ≤ sizeLine) : ev Φ b6l r S = .ok (.dic (kdL (somes ms))) S := by
  unfold b6l
  rw [ev, evI, ev_var h2, bnd_ok]
  simp only [bnd_ok]
  have e := loopK_map (f := dcStep (.tup [5, 6]) [5, 6] r (fun r S => evT Φ (.e (.notN (.var 6))) r S) (fun r S => ev Φ (.var 5) r S) (fun r S => ev Φ (.var 6) r S)) (g := gm) (S := S) (xs := (msD ms).map fun p => D.tup [.str p.1, p.2]) (acc := []) (fun d hd => by
    obtain ⟨q, hq, rfl⟩ := List.mem_map.mp hd
    obtain ⟨p, hp, rfl⟩ := List.mem_map.mp hq
    have hb6 : bindT (.tup [5, 6]) (.tup [.str p.1, mD p.2]) (wipeR r [5, 6]) = some (((wipeR r [5, 6]).set 5 (some (.v (.str p.1)))).set 6 (some (.v (mD p.2)))) := by
      have l : (wipeR r [5, 6]).length = 7 := by
        show (((r.set 6 none).set 5 none)).length = 7
        rw [List.length_set, List.length_set, hr]
      show bindV [5, 6] [.str p.1, mD p.2] (wipeR r [5, 6]) = _
      rw [bindV, if_pos (by rw [l]; decide), bindV, if_pos (by rw [List.length_set, l]; decide), bindV]
    have l : (wipeR r [5, 6]).length = 7 := by
      show (((r.set 6 none).set 5 none)).length = 7
      rw [List.length_set, List.length_set, hr]
    have e5 : (((wipeR r [5, 6]).set 5 (some (.v (.str p.1)))).set 6 (some (.v (mD p.2))))[5]? = some (some (.v (.str p.1))) := by
      rw [List.getElem?_set_ne (by decide), List.getElem?_set_self (by rw [l]; decide)]
    have e6 : (((wipeR r [5, 6]).set 5 (some (.v (.str p.1)))).set 6 (some (.v (mD p.2))))[6]? = some (some (.v (mD p.2))) := by
      rw [List.getElem?_set_self (by rw [List.length_set, l]; decide)]
    unfold dcStep
    simp only [hb6]
    rw [notN_ok p.2 (by unfold look; rw [e6]), bnd_ok, gm_ok]
    cases hp2 : p.2 with
    | none => rfl
    | some k =>
      simp only [Option.isSome_some, if_true]
      rw [hp2] at e5 e6
      rw [ev_var e5, bnd_ok, ev_var e6, bnd_ok]
      rfl) (by
    rw [List.nil_append, gm_list, kdL_map, List.map_map]
    exact List.Sublist.nodup (somes_sub ms) hn)
  rw [e, bnd_ok, if_pos (by unfold msD; rw [List.length_map, List.length_map]; exact hl), List.nil_append, gm_list]
theorem b6 : b_met_of = (.cons (.frz [0] (.asg (.nm 3) (.call 1 (.cons (.var 0) .nil))))
 (.cons (.frz [1] (.ite (.e (.cmp .ne (.var 3) (.call 1 (.cons (.var 1) .nil))))
 (.cons (.ret .non)
 .nil)
 .nil))
 (.cons (.ite (.or (.e (.cmp .eq (.var 3) (.str "num"))) (.e (.cmp .eq (.var 3) (.str "truth"))))
 (.cons (.frz [3] (.ret (.var 3)))
 .nil)
 .nil)
 (.cons (.frz [5, 6, 2] (.asg (.nm 4) b6l))
 (.cons (.ite (.and (.e (.cmp .eq (.var 3) (.str "choice"))) (.e (.cmp .lt (.bi .len (.var 4)) (.bi .len (.var 2)))))
 (.cons (.ret .non)
 .nil)
 .nil)
 (.cons (.frz [3, 4] (.ret (.tup (.cons (.var 3) (.cons (.var 4) .nil)))))
 .nil)))))) := rfl
theorem eq_str {Φ : Phi} {r : Rho} {S : Sto} {i : Nat} {x y : Str} (h : look i r = some (.str x)) : evT Φ (.e (.cmp .eq (.var i) (.str y))) r S = .ok (decide (x = y)) S := by
  refine evT_e (rd_cmp (ev_cmp (rd_var h) rd_str ?_)) rfl
  rfl
theorem met_of_ok (n : Nat) (k o : Kd) (ms : List (Str × Option Kd)) (hn : (ms.map (·.1)).Nodup) (hl : ms.length ≤ sizeLine) (S : Sto) : (ph (n + 2)).call 6 [kd k, kd o, .dic (msD ms)] S = .ok (mD (metOf k o ms)) S := by
  rw [call_at rfl rfl]
  refine Eq.trans (congrArg SO.out (?_ : exL (ph (n + 1)) b_met_of [some (.v (kd k)), some (.v (kd o)), some (.v (.dic (msD ms))), none, none, none, none] S = .rt (mD (metOf k o ms)) S)) out_rt
  rw [b6]
  refine (stp (ex_frz.trans (ex_set (ev_call (evL_cons (ev_var rfl) evL_nil) (mkn_ok n k S)) rfl))).trans ?_
  change exL (ph (n + 1)) _ [some (.v (kd k)), some (.v (kd o)), some (.v (.dic (msD ms))), some (.v (.str (mkn k))), none, none, none] S = _
  have cm : evT (ph (n + 1)) (.e (.cmp .ne (.var 3) (.call 1 (.cons (.var 1) .nil)))) [some (.v (kd k)), some (.v (kd o)), some (.v (.dic (msD ms))), some (.v (.str (mkn k))), none, none, none] S = .ok (!decide (mkn k = mkn o)) S := by
    refine evT_e (rd_cmp (ev_cmp (rd_var rfl) (rd_call (ev_call (evL_cons (ev_var rfl) evL_nil) (mkn_ok n o S))) ?_)) rfl
    show (eqd (.str (mkn k)) (.str (mkn o))).map (!·) = _
    rw [eqd]; rfl
  by_cases hm : mkn k = mkn o
  case neg =>
    have : metOf k o ms = none := by
      cases k <;> cases o <;> first | rfl | exact absurd rfl hm
    rw [this]
    exact stp_rt (ex_frz.trans ((ex_if_t (cm.trans (by rw [decide_eq_false hm]; rfl))).trans (stp_rt (ex_ret ev_non))))
  refine (stp (ex_frz.trans ((ex_if_f (cm.trans (by rw [decide_eq_true hm]; rfl))).trans exL_nil))).trans ?_
  change exL (ph (n + 1)) _ [some (.v (kd k)), some (.v (kd o)), some (.v (.dic (msD ms))), some (.v (.str (mkn k))), none, none, none] S = _
  have c1 := eq_str (Φ := ph (n + 1)) (S := S) (y := "num") (i := 3) (x := mkn k) (r := [some (.v (kd k)), some (.v (kd o)), some (.v (.dic (msD ms))), some (.v (.str (mkn k))), none, none, none]) rfl
  have c2 := eq_str (Φ := ph (n + 1)) (S := S) (y := "truth") (i := 3) (x := mkn k) (r := [some (.v (kd k)), some (.v (kd o)), some (.v (.dic (msD ms))), some (.v (.str (mkn k))), none, none, none]) rfl
  have leaf : ∀ j : Kd, k = j → (j = .num ∨ j = .truth) → metOf k o ms = some k := by
    intro j e h
    subst e
    rcases h with rfl | rfl <;> cases o <;> first | rfl | (simp only [mkn] at hm; exact absurd hm (by decide))
  have whole : ∀ (c : Bool) (fs : List (Str × Kd)), k = mk c fs → exL (ph (n + 1)) (.cons (.ite (.or (.e (.cmp .eq (.var 3) (.str "num"))) (.e (.cmp .eq (.var 3) (.str "truth"))))
 (.cons (.frz [3] (.ret (.var 3)))
 .nil)
 .nil)
 (.cons (.frz [5, 6, 2] (.asg (.nm 4) b6l))
 (.cons (.ite (.and (.e (.cmp .eq (.var 3) (.str "choice"))) (.e (.cmp .lt (.bi .len (.var 4)) (.bi .len (.var 2)))))
 (.cons (.ret .non)
 .nil)
 .nil)
 (.cons (.frz [3, 4] (.ret (.tup (.cons (.var 3) (.cons (.var 4) .nil)))))
 .nil)))) [some (.v (kd k)), some (.v (kd o)), some (.v (.dic (msD ms))), some (.v (.str (mkn k))), none, none, none] S = .rt (mD (if (c && !(ms.all fun p => p.2.isSome)) = true then none else some (mk c (somes ms)))) S := by
    intro c fs e
    have hne1 : mkn k ≠ "num" := by
      subst e
      cases c
      · exact (by decide : Str.ofString "record" ≠ Str.ofString "num")
      · exact (by decide : Str.ofString "choice" ≠ Str.ofString "num")
    have hne2 : mkn k ≠ "truth" := by
      subst e
      cases c
      · exact (by decide : Str.ofString "record" ≠ Str.ofString "truth")
      · exact (by decide : Str.ofString "choice" ≠ Str.ofString "truth")
    rw [decide_eq_false hne1] at c1
    rw [decide_eq_false hne2] at c2
    refine (stp ((ex_if_f (evT_or_f c1 c2)).trans exL_nil)).trans ?_
    have s4 : ex (ph (n + 1)) (.frz [5, 6, 2] (.asg (.nm 4) b6l)) [some (.v (kd k)), some (.v (kd o)), some (.v (.dic (msD ms))), some (.v (.str (mkn k))), none, none, none] S = .nx [some (.v (kd k)), some (.v (kd o)), some (.v (.dic (msD ms))), some (.v (.str (mkn k))), some (.od (kdL (somes ms))), none, none] S := by
      refine ex_frz.trans (ex_set (d := .dic (kdL (somes ms))) (S' := S) ?_ ?_)
      · exact dc6 (ms := ms) rfl rfl hn hl
      · rfl
    refine (stp s4).trans ?_
    have c3 := eq_str (Φ := ph (n + 1)) (S := S) (y := "choice") (i := 3) (x := mkn k) (r := [some (.v (kd k)), some (.v (kd o)), some (.v (.dic (msD ms))), some (.v (.str (mkn k))), some (.od (kdL (somes ms))), none, none]) rfl
    have c4 : evT (ph (n + 1)) (.e (.cmp .lt (.bi .len (.var 4)) (.bi .len (.var 2)))) [some (.v (kd k)), some (.v (kd o)), some (.v (.dic (msD ms))), some (.v (.str (mkn k))), some (.od (kdL (somes ms))), none, none] S = .ok (decide ((somes ms).length < ms.length)) S := by
      refine evT_e (rd_cmp (ev_cmp (rd_bi (ev_bi (x := .dic (kdL (somes ms))) (d := .int (somes ms).length) (rd_var rfl) ?_)) (rd_bi (ev_bi (x := .dic (msD ms)) (d := .int ms.length) (rd_var rfl) ?_)) (k := decide ((somes ms).length < ms.length)) ?_)) rfl
      · show (lenD (.dic (kdL (somes ms)))).map D.int = _
        show some (D.int ((kdL (somes ms)).length : Int)) = _
        rw [kdL_map, List.length_map]
      · show (lenD (.dic (msD ms))).map D.int = _
        show some (D.int ((msD ms).length : Int)) = _
        unfold msD
        rw [List.length_map]
      · show some (decide (((somes ms).length : Int) < (ms.length : Int))) = _
        congr 1
        exact decide_eq_decide.mpr Int.ofNat_lt
    have last : exL (ph (n + 1)) (.cons (.frz [3, 4] (.ret (.tup (.cons (.var 3) (.cons (.var 4) .nil))))) .nil) [some (.v (kd k)), some (.v (kd o)), some (.v (.dic (msD ms))), some (.v (.str (mkn k))), some (.od (kdL (somes ms))), none, none] S = .rt (kd (mk c (somes ms))) S := by
      refine stp_rt (ex_frz.trans (ex_ret ?_))
      refine Eq.trans (ev_tup (ds := [.str (mkn k), .dic (kdL (somes ms))]) (evL_cons (ev_var rfl) (evL_cons (ev_var rfl) evL_nil)) (show 2 ≤ sizeLine by decide)) ?_
      subst e
      cases c <;> rfl
    rw [somes_len] 
    cases c with
    | false =>
      have : decide (mkn k = "choice") = false := by subst e; rfl
      rw [this] at c3
      exact (stp ((ex_if_f (evT_and_f c3)).trans exL_nil)).trans last
    | true =>
      have : decide (mkn k = "choice") = true := by subst e; rfl
      rw [this] at c3
      cases hd : decide ((somes ms).length < ms.length) with
      | true =>
        rw [hd] at c4
        exact stp_rt ((ex_if_t (evT_and_t c3 c4)).trans (stp_rt (ex_ret ev_non)))
      | false =>
        rw [hd] at c4
        exact (stp ((ex_if_f (evT_and_t c3 c4)).trans exL_nil)).trans last
  cases k with
  | num =>
    rw [leaf .num rfl (Or.inl rfl)]
    exact stp_rt ((ex_if_t (evT_or_t (c1.trans (by rfl)))).trans (stp_rt (ex_frz.trans (ex_ret (ev_var rfl)))))
  | truth =>
    rw [leaf .truth rfl (Or.inr rfl)]
    exact stp_rt ((ex_if_t (evT_or_f (c1.trans (by rfl)) (c2.trans (by rfl)))).trans (stp_rt (ex_frz.trans (ex_ret (ev_var rfl)))))
  | rcd fs =>
    refine (whole false fs rfl).trans ?_
    cases o with
    | rcd gs => rfl
    | _ => (simp only [mkn] at hm; exact absurd hm (by decide))
  | cho fs =>
    refine (whole true fs rfl).trans ?_
    cases o with
    | cho gs =>
      congr 2
      simp only [metOf, Bool.true_and]
      cases (ms.all fun p => p.2.isSome) <;> rfl
    | _ => (simp only [mkn] at hm; exact absurd hm (by decide))
end K03

namespace K03
open PySem PySem.Spec L2 Pi
/-! ### how many pairs there are -/
def cntF : Nat → Kd → Kd → Nat
  | 0, _, _ => 1
  | m + 1, k, o => 1 + ((kids k o).map fun q => cntF m q.2.1 q.2.2).sum
theorem cntF_up : ∀ (m m' : Nat) (k o : Kd), max (dep k) (dep o) ≤ m → max (dep k) (dep o) ≤ m' → cntF m k o = cntF m' k o := by
  have nil : ∀ k o : Kd, max (dep k) (dep o) ≤ 0 → kids k o = [] := by
    intro k o h1
    cases e : kids k o with
    | nil => rfl
    | cons q l =>
      have := kids_dep (k := k) (o := o) (q := q) (by rw [e]; exact List.mem_cons_self)
      omega
  intro m
  induction m with
  | zero =>
    intro m' k o h1 h2
    cases m' with
    | zero => rfl
    | succ m' => simp only [cntF, nil k o h1, List.map_nil, List.sum_nil, Nat.add_zero]
  | succ m ih =>
    intro m' k o h1 h2
    cases m' with
    | zero => simp only [cntF, nil k o h2, List.map_nil, List.sum_nil, Nat.add_zero]
    | succ m' =>
      simp only [cntF]
      congr 2
      refine List.map_congr_left fun q hq => ?_
      have := kids_dep hq
      rw [ih m' q.2.1 q.2.2 (by omega) (by omega)]
def cnt (k o : Kd) : Nat := cntF (max (dep k) (dep o)) k o
theorem cnt_eq (k o : Kd) : cnt k o = 1 + ((kids k o).map fun q => cnt q.2.1 q.2.2).sum := by
  have h : cnt k o = cntF (max (dep k) (dep o) + 1) k o := cntF_up _ _ k o (Nat.le_refl _) (Nat.le_succ _)
  rw [h]
  simp only [cntF]
  congr 2
  refine List.map_congr_left fun q hq => ?_
  have := kids_dep hq
  rw [show cnt q.2.1 q.2.2 = cntF (max (dep k) (dep o)) q.2.1 q.2.2 from cntF_up _ _ _ _ (Nat.le_refl _) (by omega)]
def cntL (l : List (Kd × Kd)) : Nat := (l.map fun q => cnt q.1 q.2).sum
theorem cntL_app (a b : List (Kd × Kd)) : cntL (a ++ b) = cntL a + cntL b := by unfold cntL; rw [List.map_append, List.sum_append]
theorem cnt_kids (k o : Kd) : cnt k o = 1 + cntL ((kids k o).map (·.2)) := by
  rw [cnt_eq]
  unfold cntL
  rw [List.map_map]
  rfl
theorem cntL_len : ∀ l : List (Kd × Kd), l.length ≤ cntL l
  | [] => Nat.zero_le _
  | q :: l => by
    have := cntL_len l
    have h : cntL (q :: l) = cnt q.1 q.2 + cntL l := by unfold cntL; rw [List.map_cons, List.sum_cons]
    have h2 := cnt_kids q.1 q.2
    rw [List.length_cons, h]
    omega
theorem sum_le {α : Type} {f g : α → Nat} : ∀ {l : List α}, (∀ x ∈ l, f x ≤ g x) → (l.map f).sum ≤ (l.map g).sum
  | [], _ => Nat.le_refl _
  | x :: l, h => by
    rw [List.map_cons, List.map_cons, List.sum_cons, List.sum_cons]
    have := h x List.mem_cons_self
    have := sum_le (l := l) fun y hy => h y (List.mem_cons_of_mem _ hy)
    omega
theorem szL_sum : ∀ fs : List (Str × Kd), szL fs = (fs.map fun p => sz p.2).sum
  | [] => by rw [szL]; rfl
  | p :: fs => by rw [szL, szL_sum fs, List.map_cons, List.sum_cons]
theorem kids_self {c : Bool} {fs : List (Str × Kd)} (h : Apart fs) : kids (mk c fs) (mk c fs) = fs.map fun p => (p.1, p.2, p.2) := by
  cases c with
  | false =>
    show kids (.rcd fs) (.rcd fs) = _
    simp only [kids]
    rw [← List.filterMap_eq_map]
    refine fm_congr fun p hp => ?_
    rw [lookK_of h hp]
    rfl
  | true =>
    show kids (.cho fs) (.cho fs) = _
    simp only [kids]
    have e : (fs.filter fun p => (lookK fs p.1).isNone) = [] := by
      rw [List.filter_eq_nil_iff]
      intro p hp
      rw [lookK_of h hp]
      exact Bool.false_ne_true
    rw [e, List.map_nil, List.append_nil]
    refine List.map_congr_left fun p hp => ?_
    rw [lookK_of h hp]
    rfl
theorem cnt_self (b : Nat) : ∀ (m : Nat) (k : Kd), dep k ≤ m → Kg b k → cnt k k ≤ sz k := by
  have leaf : ∀ k : Kd, kids k k = [] → cnt k k ≤ sz k := by
    intro k h
    rw [cnt_eq, h, List.map_nil, List.sum_nil]
    exact sz_pos k
  intro m
  induction m with
  | zero =>
    intro k h1 _
    cases k with
    | num => exact leaf _ rfl
    | truth => exact leaf _ rfl
    | rcd fs => rw [dep] at h1; omega
    | cho fs => rw [dep] at h1; omega
  | succ m ih =>
    intro k h1 hk
    have go : ∀ (c : Bool) (fs : List (Str × Kd)), k = mk c fs → depL fs ≤ m → sz k = szL fs + 1 → (∀ p ∈ fs, Kg b p.2) → cnt k k ≤ sz k := by
      intro c fs e hd hs hg
      subst e
      obtain ⟨ha, _, _⟩ := split_kg hk
      rw [cnt_eq, kids_self ha, hs, szL_sum, List.map_map]
      have := sum_le (l := fs) (f := (fun q : Str × Kd × Kd => cnt q.2.1 q.2.2) ∘ fun p : Str × Kd => (p.1, p.2, p.2)) (g := fun p : Str × Kd => sz p.2) (fun p hp => ih p.2 (Nat.le_trans (dep_mem hp) hd) (hg p hp))
      omega
    cases hk' : k with
    | num => exact leaf _ rfl
    | truth => exact leaf _ rfl
    | rcd fs =>
      subst hk'
      rw [dep] at h1
      cases hk with
      | rcd _ _ _ _ hg => exact go false fs rfl (by omega) (by rw [sz]) hg
    | cho fs =>
      subst hk'
      rw [dep] at h1
      cases hk with
      | cho _ _ _ _ _ hg => exact go true fs rfl (by omega) (by rw [sz]) hg
/-- of the other side: what is matched, and what is not -/
def hit (gs : List (Str × Kd)) (p : Str × Kd) : Nat := match lookK gs p.1 with | some o => sz o | none => 0
theorem sum_drop (x : Str) (o : Kd) (P : Str → Bool) (hx : P x = true) : ∀ gs : List (Str × Kd), (x, o) ∈ gs → ((gs.filter fun q => P q.1 && !decide (q.1 = x)).map fun q => sz q.2).sum + sz o ≤ ((gs.filter fun q => P q.1).map fun q => sz q.2).sum
  | [], h => nomatch h
  | q :: gs, h => by
    have mono : ∀ gs : List (Str × Kd), ((gs.filter fun q => P q.1 && !decide (q.1 = x)).map fun q => sz q.2).sum ≤ ((gs.filter fun q => P q.1).map fun q => sz q.2).sum := by
      intro gs
      induction gs with
      | nil => exact Nat.le_refl _
      | cons q gs ih =>
        rw [List.filter_cons, List.filter_cons]
        cases P q.1
        · simp only [Bool.false_and, Bool.false_eq_true, if_false]; exact ih
        · by_cases e : q.1 = x
          · simp only [e, decide_true, Bool.not_true, Bool.and_false, Bool.false_eq_true, if_false, if_true, List.map_cons, List.sum_cons]
            omega
          · simp only [e, decide_false, Bool.not_false, Bool.and_true, if_true, List.map_cons, List.sum_cons]
            omega
    rw [List.filter_cons, List.filter_cons]
    rcases List.mem_cons.mp h with e | h
    · subst e
      have := mono gs
      simp only [hx, decide_true, Bool.not_true, Bool.and_false, Bool.false_eq_true, if_false, if_true, List.map_cons, List.sum_cons]
      omega
    · have ih := sum_drop x o P hx gs h
      by_cases e : q.1 = x
      · simp only [e, hx, decide_true, Bool.not_true, Bool.and_false, Bool.false_eq_true, if_false, if_true, List.map_cons, List.sum_cons]
        omega
      · simp only [e, decide_false, Bool.not_false, Bool.and_true]
        cases P q.1
        · simp only [Bool.false_eq_true, if_false]; exact ih
        · simp only [if_true, List.map_cons, List.sum_cons]
          omega
theorem hits : ∀ (fs gs : List (Str × Kd)), Apart fs → (fs.map (hit gs)).sum + ((gs.filter fun q => (lookK fs q.1).isNone).map fun q => sz q.2).sum ≤ szL gs
  | [], gs, _ => by
    rw [szL_sum]
    have : (gs.filter fun q => (lookK [] q.1).isNone) = gs := List.filter_eq_self.mpr fun _ _ => rfl
    rw [this, List.map_nil, List.sum_nil, Nat.zero_add]
    exact Nat.le_refl _
  | p :: fs, gs, h => by
    have h' : p.1 ∉ fs.map (·.1) ∧ (fs.map (·.1)).Nodup := by
      have : ((p :: fs).map (·.1)).Nodup := h
      rwa [List.map_cons, List.nodup_cons] at this
    have ih := hits fs gs h'.2
    have hc : ∀ x, (lookK (p :: fs) x).isNone = ((lookK fs x).isNone && !decide (x = p.1)) := by
      intro x
      unfold lookK
      rw [List.find?_cons]
      by_cases e : p.1 = x
      · simp [e]
      · simp [e, Ne.symm e]
    have hf : (gs.filter fun q => (lookK (p :: fs) q.1).isNone) = gs.filter fun q => (lookK fs q.1).isNone && !decide (q.1 = p.1) := List.filter_congr fun q _ => hc q.1
    rw [List.map_cons, List.sum_cons, hf]
    have hn : (lookK fs p.1).isNone = true := by
      cases e : lookK fs p.1 with
      | none => rfl
      | some o => exact absurd (List.mem_map.mpr ⟨(p.1, o), lk_mem e, rfl⟩) h'.1
    unfold hit
    cases e : lookK gs p.1 with
    | none =>
      have e2 : (gs.filter fun q => (lookK fs q.1).isNone && !decide (q.1 = p.1)) = gs.filter fun q => (lookK fs q.1).isNone := by
        refine List.filter_congr fun q hq => ?_
        have : q.1 ≠ p.1 := by
          intro hq'
          unfold lookK at e
          rw [Option.map_eq_none_iff, List.find?_eq_none] at e
          exact e q hq (by simpa using hq')
        rw [decide_eq_false this]
        simp
      rw [e2]
      show 0 + _ + _ ≤ _
      have : (fs.map fun p => match lookK gs p.1 with | some o => sz o | none => 0) = fs.map (hit gs) := rfl
      rw [this]
      omega
    | some o =>
      have := sum_drop p.1 o (fun x => (lookK fs x).isNone) hn gs (lk_mem e)
      have e2 : (fs.map fun p => match lookK gs p.1 with | some o => sz o | none => 0) = fs.map (hit gs) := rfl
      rw [e2]
      show sz o + _ + _ ≤ _
      omega
theorem rcd_sum (gs : List (Str × Kd)) : ∀ fs : List (Str × Kd), ((kids (.rcd fs) (.rcd gs)).map fun q => sz q.2.1 + sz q.2.2).sum ≤ szL fs + (fs.map (hit gs)).sum := by
  intro fs
  simp only [kids]
  induction fs with
  | nil => exact Nat.zero_le _
  | cons p fs ih =>
    rw [List.filterMap_cons, szL, List.map_cons, List.sum_cons]
    have hh : hit gs p = match lookK gs p.1 with | some o => sz o | none => 0 := rfl
    cases e : lookK gs p.1 with
    | none =>
      rw [e] at hh
      simp only [Option.map_none] at hh ⊢
      omega
    | some o =>
      rw [e] at hh
      simp only [Option.map_some, List.map_cons, List.sum_cons] at hh ⊢
      omega
theorem add_sum (gs : List (Str × Kd)) : ∀ fs : List (Str × Kd), (fs.map fun p => sz p.2 + hit gs p).sum = (fs.map fun p => sz p.2).sum + (fs.map (hit gs)).sum
  | [] => rfl
  | p :: fs => by
    have := add_sum gs fs
    simp only [List.map_cons, List.sum_cons]
    omega
theorem cnt_le (b : Nat) : ∀ (m : Nat) (k o : Kd), max (dep k) (dep o) ≤ m → Kg b k → Kg b o → cnt k o ≤ sz k + sz o := by
  have leaf : ∀ k o : Kd, kids k o = [] → cnt k o ≤ sz k + sz o := by
    intro k o h
    rw [cnt_eq, h, List.map_nil, List.sum_nil]
    have := sz_pos k
    omega
  intro m
  induction m with
  | zero =>
    intro k o h1 _ _
    refine leaf k o ?_
    cases e : kids k o with
    | nil => rfl
    | cons q l =>
      have := kids_dep (k := k) (o := o) (q := q) (by rw [e]; exact List.mem_cons_self)
      omega
  | succ m ih =>
    intro k o h1 hk ho
    cases k with
    | num => exact leaf _ _ (by cases o <;> rfl)
    | truth => exact leaf _ _ (by cases o <;> rfl)
    | rcd fs =>
      cases o with
      | rcd gs =>
        have H : ∀ q ∈ kids (.rcd fs) (.rcd gs), cnt q.2.1 q.2.2 ≤ sz q.2.1 + sz q.2.2 := fun q hq => by
          have hd := kids_dep hq
          obtain ⟨_, g1, g2⟩ := kids_kg hk ho hq
          exact ih _ _ (by omega) g1 g2
        obtain ⟨ha, _, _⟩ := split_kg (c := false) hk
        have s1 := sum_le H
        have s2 := rcd_sum gs fs
        have s3 := hits fs gs ha
        rw [cnt_eq, sz, sz]
        omega
      | _ => exact leaf _ _ rfl
    | cho fs =>
      cases o with
      | cho gs =>
        obtain ⟨ha, _, _⟩ := split_kg (c := true) hk
        have A : ∀ p ∈ fs, Kg b p.2 := by cases hk with | cho _ _ _ _ _ h => exact h
        have B : ∀ p ∈ gs, Kg b p.2 := by cases ho with | cho _ _ _ _ _ h => exact h
        have s2 : ((fs.map fun p => (p.1, p.2, (lookK gs p.1).getD p.2)).map fun q : Str × Kd × Kd => cnt q.2.1 q.2.2).sum ≤ szL fs + (fs.map (hit gs)).sum := by
          rw [List.map_map, szL_sum]
          have H := sum_le (l := fs) (f := (fun q : Str × Kd × Kd => cnt q.2.1 q.2.2) ∘ fun p => (p.1, p.2, (lookK gs p.1).getD p.2)) (g := fun p => sz p.2 + hit gs p) (fun p hp => by
            show cnt p.2 ((lookK gs p.1).getD p.2) ≤ _
            unfold hit
            have hd := dep_mem hp
            rw [dep, dep] at h1
            cases e : lookK gs p.1 with
            | none => exact cnt_self b _ p.2 (Nat.le_refl _) (A p hp)
            | some o =>
              have ho' := lk_mem e
              have hd2 := mem_dep ho'
              exact ih _ _ (by show max (dep p.2) (dep o) ≤ m; omega) (A p hp) (B _ ho'))
          have e := add_sum gs fs
          omega
        have s4 : (((gs.filter fun p => (lookK fs p.1).isNone).map fun p => (p.1, p.2, p.2)).map fun q : Str × Kd × Kd => cnt q.2.1 q.2.2).sum ≤ ((gs.filter fun q => (lookK fs q.1).isNone).map fun q => sz q.2).sum := by
          rw [List.map_map]
          exact sum_le fun p hp => cnt_self b _ p.2 (Nat.le_refl _) (B p (List.mem_filter.mp hp).1)
        have s3 := hits fs gs ha
        rw [cnt_eq, sz, sz]
        simp only [kids]
        rw [List.map_append, List.sum_append]
        omega
      | _ => exact leaf _ _ rfl
end K03

namespace K03
open PySem PySem.Spec L2 Pi
/-! ### all pairs, one after another -/
def wd : Nat → List (Str × Kd × Kd) → List (Str × D)
  | _, [] => []
  | b, q :: qs => (q.1, .obj b) :: wd (b + 1) qs
def objs : Nat → Nat → List D
  | _, 0 => []
  | b, n + 1 => .obj b :: objs (b + 1) n
def obN (q : Kd × Kd) : Ob := pob q.1 q.2 [] .non
def obD (t : (Kd × Kd) × Nat) : Ob := pob t.1.1 t.1.2 (wd t.2 (kids t.1.1 t.1.2)) .non
theorem objs_app : ∀ (n m b : Nat), objs b (n + m) = objs b n ++ objs (b + n) m
  | 0, m, b => by rw [Nat.zero_add]; rfl
  | n + 1, m, b => by
    rw [Nat.add_right_comm]
    show D.obj b :: objs (b + 1) (n + m) = D.obj b :: (objs (b + 1) n ++ objs (b + (n + 1)) m)
    rw [objs_app n m (b + 1), Nat.add_right_comm b 1 n, Nat.add_assoc b n 1]
theorem objs_len : ∀ (n b : Nat), (objs b n).length = n
  | 0, _ => rfl
  | n + 1, b => by show (objs (b + 1) n).length + 1 = _; rw [objs_len n]
theorem objs_get : ∀ {n b i : Nat}, i < n → (objs b n)[i]? = some (.obj (b + i))
  | 0, _, i, h => absurd h (Nat.not_lt_zero _)
  | n + 1, b, 0, _ => rfl
  | n + 1, b, i + 1, h => by
    show (objs (b + 1) n)[i]? = _
    rw [objs_get (Nat.lt_of_succ_lt_succ h), Nat.add_right_comm, Nat.add_assoc]
theorem wd_vals : ∀ (qs : List (Str × Kd × Kd)) (b : Nat), (wd b qs).map (·.2) = objs b qs.length
  | [], _ => rfl
  | q :: qs, b => by show D.obj b :: (wd (b + 1) qs).map (·.2) = _; rw [wd_vals qs]; rfl
theorem wd_names : ∀ (qs : List (Str × Kd × Kd)) (b : Nat), (wd b qs).map (·.1) = qs.map (·.1)
  | [], _ => rfl
  | q :: qs, b => by show q.1 :: (wd (b + 1) qs).map (·.1) = _; rw [wd_names qs]; rfl
theorem get_mid {α : Type} (P B : List α) (x : α) : (P ++ x :: B)[P.length]? = some x := by simp
theorem set_mid {α : Type} (P B : List α) (x y : α) : (P ++ x :: B).set P.length y = P ++ y :: B := by
  rw [List.set_append_right _ _ (Nat.le_refl _), Nat.sub_self]
  rfl
def newE : E := .new 0 (.cons (.var 6) (.cons (.var 7) .nil))
theorem new_loop (n : Nat) (x0 x1 x2 x3 x4 x5 x6 x7 : Option Sl) : ∀ (qs : List (Str × Kd × Kd)) (acc : List (Str × D)) (S : Sto), ((acc.map (·.1)) ++ qs.map (·.1)).Nodup →
    loopK (dcStep (.kv 5 [6, 7]) [5, 6, 7] [x0, x1, x2, x3, x4, x5, x6, x7] (fun r S => evT (ph (n + 1)) .yes r S) (fun r S => ev (ph (n + 1)) (.var 5) r S) (fun r S => ev (ph (n + 1)) newE r S)) (qs.map fun q => .tup [.str q.1, .tup [kd q.2.1, kd q.2.2]]) acc S = .ok (acc ++ wd S.length qs) (S ++ qs.map fun q => obN q.2)
  | [], acc, S, _ => by
    rw [List.map_nil, loopK]
    show _ = Out.ok (acc ++ []) (S ++ [])
    rw [List.append_nil, List.append_nil]
  | q :: qs, acc, S, h => by
    rw [List.map_cons, loopK]
    have st : dcStep (.kv 5 [6, 7]) [5, 6, 7] [x0, x1, x2, x3, x4, x5, x6, x7] (fun r S => evT (ph (n + 1)) .yes r S) (fun r S => ev (ph (n + 1)) (.var 5) r S) (fun r S => ev (ph (n + 1)) newE r S) (.tup [.str q.1, .tup [kd q.2.1, kd q.2.2]]) S = .ok (some (q.1, .obj S.length)) (S ++ [obN q.2]) := by
      have hb : bindT (.kv 5 [6, 7]) (.tup [.str q.1, .tup [kd q.2.1, kd q.2.2]]) (wipeR [x0, x1, x2, x3, x4, x5, x6, x7] [5, 6, 7]) = some [x0, x1, x2, x3, x4, some (.v (.str q.1)), some (.v (kd q.2.1)), some (.v (kd q.2.2))] := rfl
      have ey : evT (ph (n + 1)) .yes [x0, x1, x2, x3, x4, some (.v (.str q.1)), some (.v (kd q.2.1)), some (.v (kd q.2.2))] S = .ok true S := by rw [evT]
      have ek : ev (ph (n + 1)) (.var 5) [x0, x1, x2, x3, x4, some (.v (.str q.1)), some (.v (kd q.2.1)), some (.v (kd q.2.2))] S = .ok (.str q.1) S := ev_var rfl
      have en : ev (ph (n + 1)) newE [x0, x1, x2, x3, x4, some (.v (.str q.1)), some (.v (kd q.2.1)), some (.v (kd q.2.2))] S = .ok (.obj S.length) (S ++ [obN q.2]) := new_ok n (k := q.2.1) (o := q.2.2) (ev_var rfl) (ev_var rfl)
      unfold dcStep
      simp only [hb, ey, bnd_ok, ek, en, if_true]
      rfl
    rw [st, bnd_ok]
    have hp : q.1 ∉ acc.map (·.1) := by
      intro hm
      rw [List.map_cons, List.nodup_append] at h
      exact h.2.2 _ hm q.1 List.mem_cons_self rfl
    simp only
    rw [dput_new hp]
    have ih := new_loop n x0 x1 x2 x3 x4 x5 x6 x7 qs (acc ++ [(q.1, .obj S.length)]) (S ++ [obN q.2]) (by
      rw [List.map_append, List.append_assoc]
      exact h)
    rw [ih]
    congr 1
    · rw [List.append_assoc, List.length_append]
      rfl
    · rw [List.append_assoc]
      rfl
def Cl (n0 : Nat) (done : List ((Kd × Kd) × Nat)) (K : List (Kd × Kd)) : Prop := ∀ (i : Nat) (t : (Kd × Kd) × Nat), done[i]? = some t → n0 + i < t.2 ∧ ∀ (j : Nat) (q : Str × Kd × Kd), (kids t.1.1 t.1.2)[j]? = some q → K[t.2 - n0 + j]? = some q.2
def b4l : SL := (.cons (.frz [2] (.asg (.nm 3) (.sub (.var 1) (.var 2))))
 (.cons (.frz [3, 3] (.asg (.nm 4) (.call 5 (.cons (.attr (.var 3) "kind") (.cons (.attr (.var 3) "other") .nil)))))
 (.cons (.frz [3, 5, 6, 7, 4] (.attr (.var 3) "within" (.dc (.var 5) newE (.kv 5 [6, 7]) (.items (.var 4)) .yes [5, 6, 7])))
 (.cons (.frz [3] (.ext 1 (.lvals (.attr (.var 3) "within"))))
 (.cons (.aug 2 .add (.int (1)))
 .nil)))))
def b4t : T := .e (.cmp .lt (.var 2) (.bi .len (.var 1)))
theorem b4 : b_all_pairs = (.cons (.frz [0] (.asg (.nm 1) (.lst (.cons (.var 0) .nil))))
 (.cons (.asg (.nm 2) (.int (0)))
 (.cons (.whl b4t b4l)
 (.cons (.frz [1] (.ret (.var 1)))
 .nil)))) := rfl
theorem turn4 {b : Nat} (hb : b + b ≤ sizeLine) (n n0 : Nat) (S0 : Sto) (hn : S0.length = n0) (k o : Kd) (hk : Kg b k) (ho : Kg b o) (rest : List (Kd × Kd)) (done : List ((Kd × Kd) × Nat)) (hl : done.length + (rest.length + 1) + (kids k o).length ≤ sizeLine) (x0 x3 x4 : Option Sl) :
    exL (ph (n + 2)) b4l [x0, some (.ol (objs n0 (done.length + (rest.length + 1)))), some (.v (.int done.length)), x3, x4, none, none, none] (S0 ++ done.map obD ++ ((k, o) :: rest).map obN)
    = .nx [x0, some (.ol (objs n0 (done.length + 1 + (rest.length + (kids k o).length)))), some (.v (.int (done.length + 1 : Nat))), some (.v (.obj (n0 + done.length))), some (.v (.dic ((kids k o).map two))), none, none, none] (S0 ++ (done ++ [((k, o), n0 + (done.length + (rest.length + 1)))]).map obD ++ (rest ++ (kids k o).map (·.2)).map obN) := by
  have hP : (S0 ++ done.map obD).length = n0 + done.length := by rw [List.length_append, List.length_map, hn]
  have g0 : ∀ B : Sto, (S0 ++ done.map obD ++ obN (k, o) :: B)[n0 + done.length]? = some (obN (k, o)) := by
    intro B; rw [← hP]; exact get_mid _ _ _
  have hnod : ((kids k o).map (·.1)).Nodup := by
    by_cases he : kids k o = []
    · rw [he]; exact List.nodup_nil
    · obtain ⟨q, hq⟩ := List.exists_mem_of_ne_nil _ he
      obtain ⟨c, fs, gs, rfl, rfl, _⟩ := kids_from hq
      exact kids_apart (split_kg hk).1 (split_kg ho).1
  rw [List.map_cons]
  unfold b4l
  have s1 : ex (ph (n + 2)) (.frz [2] (.asg (.nm 3) (.sub (.var 1) (.var 2)))) [x0, some (.ol (objs n0 (done.length + (rest.length + 1)))), some (.v (.int done.length)), x3, x4, none, none, none] (S0 ++ done.map obD ++ obN (k, o) :: rest.map obN) = .nx [x0, some (.ol (objs n0 (done.length + (rest.length + 1)))), some (.v (.int done.length)), some (.v (.obj (n0 + done.length))), x4, none, none, none] (S0 ++ done.map obD ++ obN (k, o) :: rest.map obN) := by
    refine ex_frz.trans (ex_set (d := .obj (n0 + done.length)) (S' := (S0 ++ done.map obD ++ obN (k, o) :: rest.map obN)) ?_ ?_)
    · refine ev_sub (x := .lst (objs n0 (done.length + (rest.length + 1)))) (y := .int done.length) (rd_var rfl) (ev_var rfl) ?_
      show (ixd _ _).bind _ = _
      rw [objs_len, ixd_nat (by omega)]
      exact objs_get (by omega)
    · rfl
  refine (stp s1).trans ?_
  have s2 : ex (ph (n + 2)) (.frz [3, 3] (.asg (.nm 4) (.call 5 (.cons (.attr (.var 3) "kind") (.cons (.attr (.var 3) "other") .nil))))) [x0, some (.ol (objs n0 (done.length + (rest.length + 1)))), some (.v (.int done.length)), some (.v (.obj (n0 + done.length))), x4, none, none, none] (S0 ++ done.map obD ++ obN (k, o) :: rest.map obN) = .nx [x0, some (.ol (objs n0 (done.length + (rest.length + 1)))), some (.v (.int done.length)), some (.v (.obj (n0 + done.length))), some (.v (.dic ((kids k o).map two))), none, none, none] (S0 ++ done.map obD ++ obN (k, o) :: rest.map obN) := by
    refine ex_frz.trans (ex_set (d := .dic ((kids k o).map two)) (S' := (S0 ++ done.map obD ++ obN (k, o) :: rest.map obN)) ?_ ?_)
    · exact ev_call (evL_cons (ev_attr (ev_var rfl) (g0 _) rfl) (evL_cons (ev_attr (ev_var rfl) (g0 _) rfl) evL_nil)) (pw_ok hb n hk ho _)
    · rfl
  refine (stp s2).trans ?_
  have hlen : (S0 ++ done.map obD ++ obN (k, o) :: rest.map obN).length = n0 + (done.length + (rest.length + 1)) := by
    rw [List.length_append, hP, List.length_cons, List.length_map, Nat.add_assoc]
  have s3 : ex (ph (n + 2)) (.frz [3, 5, 6, 7, 4] (.attr (.var 3) "within" (.dc (.var 5) newE (.kv 5 [6, 7]) (.items (.var 4)) .yes [5, 6, 7]))) [x0, some (.ol (objs n0 (done.length + (rest.length + 1)))), some (.v (.int done.length)), some (.v (.obj (n0 + done.length))), some (.v (.dic ((kids k o).map two))), none, none, none] (S0 ++ done.map obD ++ obN (k, o) :: rest.map obN)
      = .nx [x0, some (.ol (objs n0 (done.length + (rest.length + 1)))), some (.v (.int done.length)), some (.v (.obj (n0 + done.length))), some (.v (.dic ((kids k o).map two))), none, none, none] (S0 ++ (done ++ [((k, o), n0 + (done.length + (rest.length + 1)))]).map obD ++ (rest ++ (kids k o).map (·.2)).map obN) := by
    refine ex_frz.trans ((ex_attr (d := .dic (wd (n0 + (done.length + (rest.length + 1))) (kids k o))) (i := n0 + done.length) (o := obN (k, o)) (S1 := S0 ++ done.map obD ++ obN (k, o) :: (rest.map obN ++ (kids k o).map fun q => obN q.2)) (S2 := S0 ++ done.map obD ++ obN (k, o) :: (rest.map obN ++ (kids k o).map fun q => obN q.2)) ?_ ?_ ?_ ?_).trans ?_)
    · change ev (ph (n + 2)) _ [x0, some (.ol (objs n0 (done.length + (rest.length + 1)))), some (.v (.int done.length)), some (.v (.obj (n0 + done.length))), some (.v (.dic ((kids k o).map two))), none, none, none] _ = _
      rw [ev, evI, ev_var rfl, bnd_ok]
      simp only [bnd_ok]
      have hm : ((kids k o).map two).map (fun p => D.tup [.str p.1, p.2]) = (kids k o).map fun q => D.tup [.str q.1, .tup [kd q.2.1, kd q.2.2]] := by
        rw [List.map_map]; rfl
      rw [hm, new_loop (n + 1) _ _ _ _ _ _ _ _ (kids k o) [] _ (by rw [List.map_nil, List.nil_append]; exact hnod), bnd_ok, if_pos (by rw [List.length_map]; omega), hlen, List.nil_append, List.append_assoc]
      rfl
    · exact ev_var rfl
    · exact g0 _
    · exact (by decide : (4 : Nat) < 1000)
    · rw [← hP, set_mid, hP]
      congr 1
      simp only [List.map_append, List.map_map, List.append_assoc, List.map_cons, List.map_nil, List.cons_append, List.nil_append]
      rfl
  refine (stp s3).trans ?_
  generalize hS : (S0 ++ (done ++ [((k, o), n0 + (done.length + (rest.length + 1)))]).map obD ++ (rest ++ (kids k o).map (·.2)).map obN) = S'
  have g1 : S'[n0 + done.length]? = some (obD ((k, o), n0 + (done.length + (rest.length + 1)))) := by
    rw [← hS, List.map_append, ← List.append_assoc, List.append_assoc (S0 ++ _), ← hP]
    exact get_mid _ _ _
  have s4 : ex (ph (n + 2)) (.frz [3] (.ext 1 (.lvals (.attr (.var 3) "within")))) [x0, some (.ol (objs n0 (done.length + (rest.length + 1)))), some (.v (.int done.length)), some (.v (.obj (n0 + done.length))), some (.v (.dic ((kids k o).map two))), none, none, none] S'
      = .nx [x0, some (.ol (objs n0 (done.length + 1 + (rest.length + (kids k o).length)))), some (.v (.int done.length)), some (.v (.obj (n0 + done.length))), some (.v (.dic ((kids k o).map two))), none, none, none] S' := by
    refine ex_frz.trans ?_
    change ex (ph (n + 2)) _ [x0, some (.ol (objs n0 (done.length + (rest.length + 1)))), some (.v (.int done.length)), some (.v (.obj (n0 + done.length))), some (.v (.dic ((kids k o).map two))), none, none, none] S' = _
    rw [ex]
    simp only [List.getElem?_cons_succ, List.getElem?_cons_zero]
    have e : ev (ph (n + 2)) (.lvals (.attr (.var 3) "within")) [x0, some (.ol (objs n0 (done.length + (rest.length + 1)))), some (.v (.int done.length)), some (.v (.obj (n0 + done.length))), some (.v (.dic ((kids k o).map two))), none, none, none] S' = .ok (.lst (objs (n0 + (done.length + (rest.length + 1))) (kids k o).length)) S' := by
      rw [ev, ev_attr (ev_var rfl) g1 (d := .dic (wd (n0 + (done.length + (rest.length + 1))) (kids k o))) rfl, bnd_ok]
      simp only
      rw [wd_vals]
    rw [e, st_ok]
    simp only
    rw [if_pos (by rw [objs_len, objs_len]; exact hl), ← objs_app]
    have : done.length + (rest.length + 1) + (kids k o).length = done.length + 1 + (rest.length + (kids k o).length) := by omega
    rw [this]
    rfl
  refine (stp s4).trans ?_
  have s5 : ex (ph (n + 2)) (.aug 2 .add (.int (1))) [x0, some (.ol (objs n0 (done.length + 1 + (rest.length + (kids k o).length)))), some (.v (.int done.length)), some (.v (.obj (n0 + done.length))), some (.v (.dic ((kids k o).map two))), none, none, none] S'
      = .nx [x0, some (.ol (objs n0 (done.length + 1 + (rest.length + (kids k o).length)))), some (.v (.int (done.length + 1 : Nat))), some (.v (.obj (n0 + done.length))), some (.v (.dic ((kids k o).map two))), none, none, none] S' := by
    rw [ex]
    simp only [List.getElem?_cons_succ, List.getElem?_cons_zero]
    rw [ev_int, st_ok]
    rfl
  exact (stp s5).trans exL_nil
theorem bfs {b : Nat} (hb : b + b ≤ sizeLine) (n n0 : Nat) (S0 : Sto) (hn : S0.length = n0) (x0 : Option Sl) : ∀ (W : Nat) (todo : List (Kd × Kd)) (done : List ((Kd × Kd) × Nat)) (x3 x4 : Option Sl), cntL todo = W → (∀ q ∈ todo, Kg b q.1 ∧ Kg b q.2) → (∀ t ∈ done, Kg b t.1.1 ∧ Kg b t.1.2) → Cl n0 done (done.map (·.1) ++ todo) → done.length + W ≤ sizeLine →
    ∃ (L : List ((Kd × Kd) × Nat)) (r : Rho), wh (evT (ph (n + 2)) b4t) (exL (ph (n + 2)) b4l) (W + 1) [x0, some (.ol (objs n0 (done.length + todo.length))), some (.v (.int done.length)), x3, x4, none, none, none] (S0 ++ done.map obD ++ todo.map obN) = .nx r (S0 ++ L.map obD) ∧
      r[1]? = some (some (.ol (objs n0 L.length))) ∧ Cl n0 L (L.map (·.1)) ∧ (∀ t ∈ L, Kg b t.1.1 ∧ Kg b t.1.2) ∧ L.map (·.1) = (done.map (·.1) ++ todo) ++ (L.map (·.1)).drop (done.map (·.1) ++ todo).length ∧ L.length ≤ sizeLine := by
  have test : ∀ (done : List ((Kd × Kd) × Nat)) (todo : List (Kd × Kd)) (x3 x4 : Option Sl) (S : Sto), evT (ph (n + 2)) b4t [x0, some (.ol (objs n0 (done.length + todo.length))), some (.v (.int done.length)), x3, x4, none, none, none] S = .ok (decide (0 < todo.length)) S := by
    intro done todo x3 x4 S
    refine evT_e (rd_cmp (ev_cmp (x := .int done.length) (y := .int (done.length + todo.length : Nat)) (k := decide (0 < todo.length)) (rd_var rfl) (rd_bi (ev_bi (x := .lst (objs n0 (done.length + todo.length))) (rd_var rfl) ?_)) ?_)) rfl
    · show some (D.int ((objs n0 (done.length + todo.length)).length : Int)) = _
      rw [objs_len]
    · show some (decide ((done.length : Int) < ((done.length + todo.length : Nat) : Int))) = _
      congr 1
      exact decide_eq_decide.mpr ⟨fun h => by omega, fun h => by omega⟩
  intro W
  induction W with
  | zero =>
    intro todo done x3 x4 hW _ hk hC hs
    have : todo = [] := by
      have := cntL_len todo
      exact List.length_eq_zero_iff.mp (by omega)
    subst this
    refine ⟨done, [x0, some (.ol (objs n0 done.length)), some (.v (.int done.length)), x3, x4, none, none, none], ?_, rfl, ?_, hk, ?_, by omega⟩
    · rw [wh, test, st_ok, List.map_nil, List.append_nil]
      rfl
    · rw [List.append_nil] at hC; exact hC
    · rw [List.append_nil, List.drop_length, List.append_nil]
  | succ W ih =>
    intro todo done x3 x4 hW ht hk hC hs
    cases todo with
    | nil => cases hW
    | cons q rest =>
      obtain ⟨k, o⟩ := q
      have hc : cnt k o + cntL rest = W + 1 := by rw [← hW]; unfold cntL; rw [List.map_cons, List.sum_cons]
      rw [cnt_kids] at hc
      have hkl := cntL_len ((kids k o).map (·.2))
      have hrl := cntL_len rest
      rw [List.length_map] at hkl
      obtain ⟨h1, h2⟩ := ht _ List.mem_cons_self
      have hW' : cntL (rest ++ (kids k o).map (·.2)) = W := by rw [cntL_app]; omega
      have hnew : ∀ q ∈ rest ++ (kids k o).map (·.2), Kg b q.1 ∧ Kg b q.2 := by
        intro q hq
        rcases List.mem_append.mp hq with hq | hq
        · exact ht q (List.mem_cons_of_mem _ hq)
        · obtain ⟨p, hp, rfl⟩ := List.mem_map.mp hq
          exact (kids_kg h1 h2 hp).2
      have hold : ∀ t ∈ done ++ [((k, o), n0 + (done.length + (rest.length + 1)))], Kg b t.1.1 ∧ Kg b t.1.2 := by
        intro t ht'
        rcases List.mem_append.mp ht' with h | h
        · exact hk t h
        · rw [List.mem_singleton] at h
          subst h
          exact ⟨h1, h2⟩
      have hK : (done ++ [((k, o), n0 + (done.length + (rest.length + 1)))]).map (·.1) ++ (rest ++ (kids k o).map (·.2)) = (done.map (·.1) ++ (k, o) :: rest) ++ (kids k o).map (·.2) := by simp
      have hC' : Cl n0 (done ++ [((k, o), n0 + (done.length + (rest.length + 1)))]) ((done ++ [((k, o), n0 + (done.length + (rest.length + 1)))]).map (·.1) ++ (rest ++ (kids k o).map (·.2))) := by
        rw [hK]
        intro i t hi
        by_cases hlt : i < done.length
        · rw [List.getElem?_append_left hlt] at hi
          obtain ⟨a1, a2⟩ := hC i t hi
          refine ⟨a1, fun j q hj => ?_⟩
          have := a2 j q hj
          rw [List.getElem?_append_left (List.getElem?_eq_some_iff.mp this).1]
          exact this
        · have hi' := (List.getElem?_eq_some_iff.mp hi).1
          rw [List.length_append, List.length_singleton] at hi'
          have : i = done.length := by omega
          subst this
          rw [get_mid] at hi
          cases hi
          refine ⟨by show n0 + done.length < n0 + (done.length + (rest.length + 1)); omega, fun j q hj => ?_⟩
          show ((done.map (·.1) ++ (k, o) :: rest) ++ (kids k o).map (·.2))[n0 + (done.length + (rest.length + 1)) - n0 + j]? = _
          have hl : (done.map (·.1) ++ (k, o) :: rest).length = done.length + (rest.length + 1) := by rw [List.length_append, List.length_map, List.length_cons]
          rw [Nat.add_sub_cancel_left, ← hl, List.getElem?_append_right (Nat.le_add_right _ _), Nat.add_sub_cancel_left, List.getElem?_map, hj]
          rfl
      have st := turn4 hb n n0 S0 hn k o h1 h2 rest done (by omega) x0 x3 x4
      obtain ⟨L, r, e1, e2, e3, e4, e5, e6⟩ := ih (rest ++ (kids k o).map (·.2)) (done ++ [((k, o), n0 + (done.length + (rest.length + 1)))]) (some (.v (.obj (n0 + done.length)))) (some (.v (.dic ((kids k o).map two)))) hW' hnew hold hC' (by rw [List.length_append, List.length_singleton]; omega)
      refine ⟨L, r, ?_, e2, e3, e4, ?_, e6⟩
      · rw [wh, test, st_ok, if_pos (by rw [List.length_cons]; exact decide_eq_true (Nat.succ_pos _)), List.length_cons, st]
        simp only
        rw [List.length_append, List.length_singleton, List.length_append, List.length_map] at e1
        exact e1
      · rw [hK] at e5
        generalize hA : done.map (·.1) ++ (k, o) :: rest = A at e5 ⊢
        have : A = (L.map (·.1)).take A.length := by
          rw [e5, List.append_assoc, List.take_left]
        conv => lhs; rw [← List.take_append_drop A.length (L.map (·.1))]
        rw [← this]
theorem all_pairs_ok {b : Nat} (hb : b + b ≤ sizeLine) (n : Nat) (S0 : Sto) (k o : Kd) (hk : Kg b k) (ho : Kg b o) (hs : sz k + sz o ≤ sizeLine) :
    ∃ L : List ((Kd × Kd) × Nat), (ph (n + 3)).call 4 [.obj S0.length] (S0 ++ [pob k o [] .non]) = .ok (.lst (objs S0.length L.length)) (S0 ++ L.map obD) ∧ Cl S0.length L (L.map (·.1)) ∧ (∀ t ∈ L, Kg b t.1.1 ∧ Kg b t.1.2) ∧ (L.map (·.1))[0]? = some (k, o) ∧ L.length ≤ sizeLine := by
  have hc := cnt_le b _ k o (Nat.le_refl _) hk ho
  have hW : cntL [(k, o)] = cnt k o := by unfold cntL; simp
  obtain ⟨L, r, e1, e2, e3, e4, e5, e6⟩ := bfs hb n S0.length S0 rfl (some (.v (.obj S0.length))) (cnt k o) [(k, o)] [] none none hW (fun q hq => by
    rw [List.mem_singleton] at hq
    subst hq
    exact ⟨hk, ho⟩) (fun t ht => nomatch ht) (fun i t hi => by cases hi) (by rw [List.length_nil]; omega)
  refine ⟨L, ?_, e3, e4, ?_, e6⟩
  · rw [call_at rfl rfl]
    refine Eq.trans (congrArg SO.out (?_ : exL (ph (n + 2)) b_all_pairs [some (.v (.obj S0.length)), none, none, none, none, none, none, none] (S0 ++ [pob k o [] .non]) = .rt (.lst (objs S0.length L.length)) (S0 ++ L.map obD))) out_rt
    rw [b4]
    refine (stp (ex_frz.trans (ex_set (ev_lst (evL_cons (ev_var rfl) evL_nil) (show 1 ≤ sizeLine by decide)) rfl))).trans ?_
    refine (stp (ex_set ev_int rfl)).trans ?_
    change exL (ph (n + 2)) _ [some (.v (.obj S0.length)), some (.ol [.obj S0.length]), some (.v (.int 0)), none, none, none, none, none] _ = _
    have w : ex (ph (n + 2)) (.whl b4t b4l) [some (.v (.obj S0.length)), some (.ol [.obj S0.length]), some (.v (.int 0)), none, none, none, none, none] (S0 ++ [pob k o [] .non]) = .nx r (S0 ++ L.map obD) := by
      rw [ex]
      refine whS_of (n := cnt k o + 1) ?_ (by intro h; cases h)
      rw [List.map_nil, List.append_nil] at e1
      exact e1
    refine (stp w).trans ?_
    refine stp_rt (ex_frz.trans (ex_ret (ev_var ?_)))
    unfold frzR
    rw [e2]
    simp only
    unfold frzR
    rw [List.getElem?_set_self (List.getElem?_eq_some_iff.mp e2).1]
    rfl
  · rw [e5]
    rfl
end K03

namespace K03
open PySem PySem.Spec L2 Pi
/-! ### the meeting, of the program -/
def obM (t : (Kd × Kd) × Nat) : Ob := pob t.1.1 t.1.2 (wd t.2 (kids t.1.1 t.1.2)) (mD (met t.1.1 t.1.2))
theorem objs_last (n b : Nat) : objs b (n + 1) = objs b n ++ [.obj (b + n)] := objs_app n 1 b
def b0l : E := .dc (.var 5) (.attr (.var 6) "met") (.tup [5, 6]) (.items (.attr (.var 4) "within")) .yes [5, 6]
def b0b : SL := (.cons (.frz [4, 4, 4, 5, 6, 4] (.attr (.var 4) "met" (.call 6 (.cons (.attr (.var 4) "kind") (.cons (.attr (.var 4) "other") (.cons b0l .nil)))))) .nil)
theorem b0 : b_meeting = (.cons (.frz [0, 1] (.asg (.nm 2) (.new 0 (.cons (.var 0) (.cons (.var 1) .nil)))))
 (.cons (.frz [2] (.asg (.nm 3) (.call 4 (.cons (.var 2) .nil))))
 (.cons (.frz [3] (.for (.nm 4) (.rev (.var 3)) b0b))
 (.cons (.frz [2] (.ite (.e (.isN (.attr (.var 2) "met")))
 (.cons (.raise 2 (.cons (.str "these two kinds have no meeting") .nil))
 .nil)
 .nil))
 (.cons (.frz [2] (.ret (.attr (.var 2) "met")))
 .nil))))) := rfl
theorem met_loop {Φ : Phi} (x0 x1 x2 x3 x4 x5 x6 : Option Sl) (S : Sto) : ∀ (qs : List (Str × Kd × Kd)) (a : Nat) (acc : List (Str × D)), (∀ j q, qs[j]? = some q → ∃ ob, S[a + j]? = some ob ∧ dget ob.fs "met" = some (mD (met q.2.1 q.2.2))) → ((acc.map (·.1)) ++ qs.map (·.1)).Nodup →
    loopK (dcStep (.tup [5, 6]) [5, 6] [x0, x1, x2, x3, x4, x5, x6] (fun r S => evT Φ .yes r S) (fun r S => ev Φ (.var 5) r S) (fun r S => ev Φ (.attr (.var 6) "met") r S)) ((wd a qs).map fun p => .tup [.str p.1, p.2]) acc S = .ok (acc ++ msD (qs.map fun q => (q.1, met q.2.1 q.2.2))) S
  | [], a, acc, _, _ => by
    show loopK _ [] acc S = Out.ok (acc ++ []) S
    rw [loopK, List.append_nil]
  | q :: qs, a, acc, hq, h => by
    show loopK _ (.tup [.str q.1, .obj a] :: (wd (a + 1) qs).map fun p => .tup [.str p.1, p.2]) acc S = _
    rw [loopK]
    obtain ⟨ob, h1, h2⟩ := hq 0 q rfl
    rw [Nat.add_zero] at h1
    have st : dcStep (.tup [5, 6]) [5, 6] [x0, x1, x2, x3, x4, x5, x6] (fun r S => evT Φ .yes r S) (fun r S => ev Φ (.var 5) r S) (fun r S => ev Φ (.attr (.var 6) "met") r S) (.tup [.str q.1, .obj a]) S = .ok (some (q.1, mD (met q.2.1 q.2.2))) S := by
      have hb : bindT (.tup [5, 6]) (.tup [.str q.1, .obj a]) (wipeR [x0, x1, x2, x3, x4, x5, x6] [5, 6]) = some [x0, x1, x2, x3, x4, some (.v (.str q.1)), some (.v (.obj a))] := rfl
      have ey : evT Φ .yes [x0, x1, x2, x3, x4, some (.v (.str q.1)), some (.v (.obj a))] S = .ok true S := by rw [evT]
      have ek : ev Φ (.var 5) [x0, x1, x2, x3, x4, some (.v (.str q.1)), some (.v (.obj a))] S = .ok (.str q.1) S := ev_var rfl
      have en : ev Φ (.attr (.var 6) "met") [x0, x1, x2, x3, x4, some (.v (.str q.1)), some (.v (.obj a))] S = .ok (mD (met q.2.1 q.2.2)) S := ev_attr (ev_var rfl) h1 h2
      unfold dcStep
      simp only [hb, ey, bnd_ok, ek, en, if_true]
      rfl
    rw [st, bnd_ok]
    have hp : q.1 ∉ acc.map (·.1) := by
      intro hm
      rw [List.map_cons, List.nodup_append] at h
      exact h.2.2 _ hm q.1 List.mem_cons_self rfl
    simp only
    rw [dput_new hp]
    have ih := met_loop (Φ := Φ) x0 x1 x2 x3 x4 x5 x6 S qs (a + 1) (acc ++ [(q.1, mD (met q.2.1 q.2.2))]) (fun j p hj => by
      have := hq (j + 1) p hj
      rwa [Nat.add_comm j 1, ← Nat.add_assoc] at this) (by
      rw [List.map_append, List.append_assoc]
      exact h)
    rw [ih, List.append_assoc]
    rfl
theorem kids_nodup {b : Nat} {k o : Kd} (hk : Kg b k) (ho : Kg b o) : ((kids k o).map (·.1)).Nodup := by
  by_cases he : kids k o = []
  · rw [he]; exact List.nodup_nil
  · obtain ⟨q, hq⟩ := List.exists_mem_of_ne_nil _ he
    obtain ⟨c, fs, gs, rfl, rfl, _⟩ := kids_from hq
    exact kids_apart (split_kg hk).1 (split_kg ho).1
theorem kids_le {b : Nat} {k o : Kd} (hk : Kg b k) (ho : Kg b o) : (kids k o).length ≤ b + b := by
  by_cases he : kids k o = []
  · rw [he]; exact Nat.zero_le _
  · obtain ⟨q, hq⟩ := List.exists_mem_of_ne_nil _ he
    obtain ⟨c, fs, gs, rfl, rfl, _⟩ := kids_from hq
    have := kids_len c fs gs
    have := (split_kg hk).2.1
    have := (split_kg ho).2.1
    omega
theorem turn0 {b : Nat} (hb : b + b ≤ sizeLine) (n : Nat) (S0 : Sto) (L : List ((Kd × Kd) × Nat)) (hC : Cl S0.length L (L.map (·.1))) (hL : ∀ t ∈ L, Kg b t.1.1 ∧ Kg b t.1.2) (x0 x1 x2 x3 x4 : Option Sl) : ∀ i, i ≤ L.length → ∃ x4' : Option Sl, forS (forB (ph (n + 2)) (.nm 4) b0b) (objs S0.length i).reverse [x0, x1, x2, x3, x4, none, none] (S0 ++ ((L.take i).map obD ++ (L.drop i).map obM)) = .nx [x0, x1, x2, x3, x4', none, none] (S0 ++ L.map obM) := by
  intro i
  induction i generalizing x4 with
  | zero =>
    intro _
    refine ⟨x4, ?_⟩
    show forS _ [] _ _ = _
    rw [forS, List.take_zero, List.map_nil, List.nil_append, List.drop_zero]
  | succ i ih =>
    intro hi
    obtain ⟨x4', e⟩ := ih (some (.v (.obj (S0.length + i)))) (Nat.le_of_succ_le hi)
    refine ⟨x4', ?_⟩
    rw [objs_last, List.reverse_append]
    have hget : L[i]? = some L[i] := List.getElem?_eq_getElem hi
    generalize hT : L[i] = t at hget
    obtain ⟨h1, h2⟩ := hC i t hget
    obtain ⟨hk, ho⟩ := hL t (List.mem_of_getElem? hget)
    have htake : L.take (i + 1) = L.take i ++ [t] := by rw [List.take_succ, hget]; rfl
    have hdrop : L.drop i = t :: L.drop (i + 1) := by rw [List.drop_eq_getElem_cons hi, hT]
    have hlen : (S0 ++ (L.take i).map obD).length = S0.length + i := by
      rw [List.length_append, List.length_map, List.length_take, Nat.min_eq_left (Nat.le_of_succ_le hi)]
    have hS : S0 ++ ((L.take (i + 1)).map obD ++ (L.drop (i + 1)).map obM) = (S0 ++ (L.take i).map obD) ++ obD t :: (L.drop (i + 1)).map obM := by
      rw [htake, List.map_append, List.append_assoc, List.append_assoc]
      rfl
    have g0 : (S0 ++ ((L.take (i + 1)).map obD ++ (L.drop (i + 1)).map obM))[S0.length + i]? = some (obD t) := by
      rw [hS, ← hlen]
      exact get_mid _ _ _
    have child : ∀ j q, (kids t.1.1 t.1.2)[j]? = some q → ∃ ob, (S0 ++ ((L.take (i + 1)).map obD ++ (L.drop (i + 1)).map obM))[t.2 + j]? = some ob ∧ dget ob.fs "met" = some (mD (met q.2.1 q.2.2)) := by
      intro j q hj
      have hq := h2 j q hj
      rw [List.getElem?_map, Option.map_eq_some_iff] at hq
      obtain ⟨t', ht', e'⟩ := hq
      refine ⟨obM t', ?_, by rw [← e']; rfl⟩
      have hlt := (List.getElem?_eq_some_iff.mp ht').1
      have l2 : (S0 ++ (L.take (i + 1)).map obD).length = S0.length + (i + 1) := by
        rw [List.length_append, List.length_map, List.length_take, Nat.min_eq_left hi]
      rw [← List.append_assoc, List.getElem?_append_right (by rw [l2]; omega), l2, List.getElem?_map, List.getElem?_drop]
      have : i + 1 + (t.2 + j - (S0.length + (i + 1))) = t.2 - S0.length + j := by omega
      rw [this, ht']
      rfl
    show forS _ (.obj (S0.length + i) :: (objs S0.length i).reverse) _ _ = _
    refine (forS_cons_nx (r' := [x0, x1, x2, x3, some (.v (.obj (S0.length + i))), none, none]) (S' := S0 ++ ((L.take i).map obD ++ (L.drop i).map obM)) ?_).trans e
    show exL (ph (n + 2)) b0b [x0, x1, x2, x3, some (.v (.obj (S0.length + i))), none, none] _ = _
    have st : ex (ph (n + 2)) (.frz [4, 4, 4, 5, 6, 4] (.attr (.var 4) "met" (.call 6 (.cons (.attr (.var 4) "kind") (.cons (.attr (.var 4) "other") (.cons b0l .nil)))))) [x0, x1, x2, x3, some (.v (.obj (S0.length + i))), none, none] (S0 ++ ((L.take (i + 1)).map obD ++ (L.drop (i + 1)).map obM)) = .nx [x0, x1, x2, x3, some (.v (.obj (S0.length + i))), none, none] (S0 ++ ((L.take i).map obD ++ (L.drop i).map obM)) := by
      refine ex_frz.trans ((ex_attr (d := mD (met t.1.1 t.1.2)) (i := S0.length + i) (o := obD t) (S1 := S0 ++ ((L.take (i + 1)).map obD ++ (L.drop (i + 1)).map obM)) (S2 := S0 ++ ((L.take (i + 1)).map obD ++ (L.drop (i + 1)).map obM)) ?_ ?_ ?_ ?_).trans ?_)
      · change ev (ph (n + 2)) _ [x0, x1, x2, x3, some (.v (.obj (S0.length + i))), none, none] _ = _
        have ed : ev (ph (n + 2)) b0l [x0, x1, x2, x3, some (.v (.obj (S0.length + i))), none, none] (S0 ++ ((L.take (i + 1)).map obD ++ (L.drop (i + 1)).map obM)) = .ok (.dic (msD (mets t.1.1 t.1.2))) (S0 ++ ((L.take (i + 1)).map obD ++ (L.drop (i + 1)).map obM)) := by
          unfold b0l
          rw [ev, evI, ev_attr (ev_var rfl) g0 (d := .dic (wd t.2 (kids t.1.1 t.1.2))) rfl, bnd_ok]
          simp only [bnd_ok]
          have lw : (wd t.2 (kids t.1.1 t.1.2)).length = (kids t.1.1 t.1.2).length := by
            rw [← List.length_map (f := (·.1)), wd_names, List.length_map]
          have := kids_le hk ho
          rw [met_loop _ _ _ _ _ _ _ _ (kids t.1.1 t.1.2) t.2 [] child (by rw [List.map_nil, List.nil_append]; exact kids_nodup hk ho), bnd_ok, if_pos (by rw [List.length_map, lw]; omega)]
          rfl
        have := kids_le hk ho
        refine ev_call (evL_cons (ev_attr (ev_var rfl) g0 rfl) (evL_cons (ev_attr (ev_var rfl) g0 rfl) (evL_cons ed evL_nil))) ?_
        rw [met_eq]
        refine met_of_ok n t.1.1 t.1.2 (mets t.1.1 t.1.2) ?_ ?_ _
        · unfold mets
          rw [List.map_map]
          exact kids_nodup hk ho
        · unfold mets
          rw [List.length_map]
          omega
      · exact ev_var rfl
      · exact g0
      · exact (by decide : (4 : Nat) < 1000)
      · rw [hS, hdrop, ← hlen, set_mid, hlen, List.append_assoc]
        rfl
    exact (stp st).trans exL_nil
theorem meeting_ok {b : Nat} (hb : b + b ≤ sizeLine) (n : Nat) (S0 : Sto) (k o : Kd) (hk : Kg b k) (ho : Kg b o) (hs : sz k + sz o ≤ sizeLine) : ∃ S', (ph (n + 4)).call 0 [kd k, kd o] S0 = match met k o with | some r => .ok (kd r) S' | none => .exc 2 S' := by
  obtain ⟨L, e1, e2, e3, e4, e5⟩ := all_pairs_ok hb n S0 k o hk ho hs
  refine ⟨S0 ++ L.map obM, ?_⟩
  rw [call_at rfl rfl]
  change (exL (ph (n + 3)) b_meeting [some (.v (kd k)), some (.v (kd o)), none, none, none, none, none] S0).out = _
  rw [b0]
  have s1 : ex (ph (n + 3)) (.frz [0, 1] (.asg (.nm 2) (.new 0 (.cons (.var 0) (.cons (.var 1) .nil))))) [some (.v (kd k)), some (.v (kd o)), none, none, none, none, none] S0 = .nx [some (.v (kd k)), some (.v (kd o)), some (.v (.obj S0.length)), none, none, none, none] (S0 ++ [pob k o [] .non]) :=
    ex_frz.trans (ex_set (new_ok (n + 2) (ev_var rfl) (ev_var rfl)) rfl)
  have s2 : ex (ph (n + 3)) (.frz [2] (.asg (.nm 3) (.call 4 (.cons (.var 2) .nil)))) [some (.v (kd k)), some (.v (kd o)), some (.v (.obj S0.length)), none, none, none, none] (S0 ++ [pob k o [] .non]) = .nx [some (.v (kd k)), some (.v (kd o)), some (.v (.obj S0.length)), some (.v (.lst (objs S0.length L.length))), none, none, none] (S0 ++ L.map obD) :=
    ex_frz.trans (ex_set (ev_call (evL_cons (ev_var rfl) evL_nil) e1) rfl)
  obtain ⟨x4, e6⟩ := turn0 hb (n + 1) S0 L e2 e3 (some (.v (kd k))) (some (.v (kd o))) (some (.v (.obj S0.length))) (some (.v (.lst (objs S0.length L.length)))) none L.length (Nat.le_refl _)
  rw [List.take_length, List.drop_length, List.map_nil, List.append_nil] at e6
  have s3 : ex (ph (n + 3)) (.frz [3] (.for (.nm 4) (.rev (.var 3)) b0b)) [some (.v (kd k)), some (.v (kd o)), some (.v (.obj S0.length)), some (.v (.lst (objs S0.length L.length))), none, none, none] (S0 ++ L.map obD) = .nx [some (.v (kd k)), some (.v (kd o)), some (.v (.obj S0.length)), some (.v (.lst (objs S0.length L.length))), x4, none, none] (S0 ++ L.map obM) := by
    refine ex_frz.trans (ex_loop (xs := (objs S0.length L.length).reverse) (S' := S0 ++ L.map obD) ?_ e6)
    rw [evI, ev_var rfl, bnd_ok]
  rw [List.getElem?_map, Option.map_eq_some_iff] at e4
  obtain ⟨t, ht, et⟩ := e4
  have g : (S0 ++ L.map obM)[S0.length]? = some (obM t) := by
    rw [List.getElem?_append_right (Nat.le_refl _), Nat.sub_self, List.getElem?_map, ht]
    rfl
  have hm : dget (obM t).fs "met" = some (mD (met k o)) := by
    have : t.1 = (k, o) := et
    show some (mD (met t.1.1 t.1.2)) = _
    rw [this]
  have ea : ∀ r : Rho, r[2]? = some (some (.v (.obj S0.length))) → ev (ph (n + 3)) (.attr (.var 2) "met") r (S0 ++ L.map obM) = .ok (mD (met k o)) (S0 ++ L.map obM) := fun r hr => ev_attr (ev_var hr) g hm
  have et' : ∀ r : Rho, r[2]? = some (some (.v (.obj S0.length))) → evT (ph (n + 3)) (.e (.isN (.attr (.var 2) "met"))) r (S0 ++ L.map obM) = .ok (met k o).isNone (S0 ++ L.map obM) := by
    intro r hr
    rw [evT]
    show (ev (ph (n + 3)) (.isN (.attr (.var 2) "met")) r _).bnd _ = _
    rw [ev]
    show ((ev (ph (n + 3)) (.attr (.var 2) "met") r _).bnd _).bnd _ = _
    rw [ea r hr, bnd_ok, bnd_ok]
    cases met k o with
    | none => rfl
    | some k => cases k <;> rfl
  have s4 := et' [some (.v (kd k)), some (.v (kd o)), some (.v (.obj S0.length)), some (.v (.lst (objs S0.length L.length))), x4, none, none] rfl
  have s5 := ea [some (.v (kd k)), some (.v (kd o)), some (.v (.obj S0.length)), some (.v (.lst (objs S0.length L.length))), x4, none, none] rfl
  rw [stp s1, stp s2, stp s3]
  cases hmet : met k o with
  | none =>
    rw [hmet] at s4
    refine Eq.trans (congrArg SO.out (?_ : _ = SO.xc 2 [some (.v (kd k)), some (.v (kd o)), some (.v (.obj S0.length)), some (.v (.lst (objs S0.length L.length))), x4, none, none] (S0 ++ L.map obM))) out_xc
    refine stp_xc (ex_frz.trans ((ex_if_t s4).trans (stp_xc ?_)))
    rw [ex, evL_cons ev_str evL_nil, st_ok]
    exact if_pos (by decide : 1 ≤ sizeLine)
  | some k' =>
    rw [hmet] at s4 s5
    refine Eq.trans (congrArg SO.out (?_ : _ = SO.rt (kd k') (S0 ++ L.map obM))) out_rt
    refine (stp (ex_frz.trans ((ex_if_f s4).trans exL_nil))).trans ?_
    refine stp_rt (ex_frz.trans (ex_ret ?_))
    exact s5
end K03

namespace K03
open PySem PySem.Spec L2 Pi
/-! ### the law -/
theorem shzL : ∀ fs : List (Str × Kd), (∀ p ∈ fs, Nam p.1) → (∀ p ∈ fs, Sh (kd p.2) (28 * sz p.2 - 14)) → Sh (.dic (kdL fs)) (28 * szL fs) := by
  have gen : ∀ fs : List (Str × Kd), (∀ p ∈ fs, Nam p.1) → (∀ p ∈ fs, Sh (kd p.2) (28 * sz p.2 - 14)) → plainK (kdL fs) = true ∧ PyData.showableKv (pyK (kdL fs)) = true ∧ PyData.leavesShortKv 14 (pyK (kdL fs)) = true ∧ PyData.bulkKv (pyK (kdL fs)) ≤ 28 * szL fs := by
    intro fs
    induction fs with
    | nil => intro _ _; exact ⟨rfl, rfl, rfl, Nat.zero_le _⟩
    | cons p l ih =>
      intro h1 h2
      obtain ⟨a1, a2, a3, a4⟩ := ih (fun q hq => h1 q (List.mem_cons_of_mem _ hq)) (fun q hq => h2 q (List.mem_cons_of_mem _ hq))
      have g := h2 p List.mem_cons_self
      have gn := h1 p List.mem_cons_self
      have e12 : p.1.cps.size ≤ 12 := gn.len
      have hz := sz_pos p.2
      rw [kdL]
      refine ⟨by simp only [plainK, g.pl, a1, Bool.and_self], ?_, ?_, ?_⟩
      · simp only [pyK, PyData.showableKv, PyData.showable, g.sh, a2, Bool.and_self]
      · have : (PyData.str p.1).leavesShort 14 = true := by
          simp only [PyData.leavesShort, List.all_eq_true, decide_eq_true_eq]
          exact gn.cps
        simp only [pyK, PyData.leavesShortKv, this, g.lv, a3, Bool.and_self]
      · have := g.bk
        simp only [pyK, PyData.bulkKv, PyData.bulk]
        rw [szL]
        omega
  intro fs hn h
  obtain ⟨a1, a2, a3, a4⟩ := gen fs hn h
  refine ⟨by simpa only [D.plain] using a1, by simpa only [D.py, PyData.showable] using a2, by simpa only [D.py, PyData.leavesShort] using a3, ?_⟩
  simp only [D.py, PyData.bulk]
  exact a4
theorem Kg.shz {b : Nat} {k : Kd} (h : Kg b k) : Sh (kd k) (28 * K03.sz k - 14) := by
  induction h with
  | num => rw [kd, K03.sz]; exact (Sh.nam nam_num).up (by decide)
  | truth => rw [kd, K03.sz]; exact (Sh.nam nam_truth).up (by decide)
  | rcd fs _ _ hn _ ih =>
    rw [kd, K03.sz]
    exact (Sh.tup nam_record (shzL fs hn ih)).up (by omega)
  | cho fs _ _ _ hn _ ih =>
    rw [kd, K03.sz]
    exact (Sh.tup nam_choice (shzL fs hn ih)).up (by omega)
theorem sub22 : sub 2 2 = some true := by decide
theorem sub20 : sub 2 0 = some true := by decide
theorem sub21 : sub 2 1 = some true := by decide
theorem told_ok {b : Nat} (hb : b + b ≤ sizeLine) (n : Nat) (S0 : Sto) (k o : Kd) (p : Int) (hk : Kg b k) (ho : Kg b o) (hs : sz k + sz o ≤ sizeLine) : ∃ S', (ph (n + 5)).call 15 [kd k, kd o, .int p] S0 = .ok (mD (met k o)) S' := by
  obtain ⟨S1, e1⟩ := meeting_ok hb n S0 k o hk ho hs
  obtain ⟨S2, e2⟩ := meeting_ok hb n S1 k o hk ho hs
  have body : ∀ {S S' : Sto} {q : Out D}, (ph (n + 4)).call 0 [kd k, kd o] S = q → ev (ph (n + 4)) (.call 0 (.cons (.var 0) (.cons (.var 1) .nil))) [some (.v (kd k)), some (.v (kd o)), some (.v (.int p)), none] S = q :=
    fun h => ev_call (evL_cons (ev_var rfl) (evL_cons (ev_var rfl) evL_nil)) h
  have fr : frzR [some (.v (kd k)), some (.v (kd o)), some (.v (.int p)), none] [0, 1] = [some (.v (kd k)), some (.v (kd o)), some (.v (.int p)), none] := rfl
  cases hm : met k o with
  | some r =>
    refine ⟨S1, ?_⟩
    rw [hm] at e1
    rw [call_at rfl rfl]
    refine Eq.trans (congrArg SO.out (?_ : exL (ph (n + 4)) b__law_told [some (.v (kd k)), some (.v (kd o)), some (.v (.int p)), none] S0 = .rt (kd r) S1)) out_rt
    unfold b__law_told
    refine stp_rt ?_
    have t : exL (ph (n + 4)) (.cons (.frz [0, 1] (.ret (.call 0 (.cons (.var 0) (.cons (.var 1) .nil))))) .nil) [some (.v (kd k)), some (.v (kd o)), some (.v (.int p)), none] S0 = .rt (kd r) S1 := by
      refine stp_rt ((ex_frz.trans (by rw [fr])).trans (ex_ret (body (S' := S1) e1)))
    rw [ex, t]
  | none =>
    rw [hm] at e1 e2
    have t1 : exL (ph (n + 4)) (.cons (.frz [0, 1] (.ret (.call 0 (.cons (.var 0) (.cons (.var 1) .nil))))) .nil) [some (.v (kd k)), some (.v (kd o)), some (.v (.int p)), none] S0 = .xc 2 [some (.v (kd k)), some (.v (kd o)), some (.v (.int p)), none] S1 := by
      refine stp_xc ((ex_frz.trans (by rw [fr])).trans ?_)
      rw [ex, body (S' := S1) e1, st_exc]
    have t2 : exL (ph (n + 4)) (.cons (.frz [0, 1] (.ex (.call 0 (.cons (.var 0) (.cons (.var 1) .nil))))) .nil) [some (.v (kd k)), some (.v (kd o)), some (.v (.int p)), none] S1 = .xc 2 [some (.v (kd k)), some (.v (kd o)), some (.v (.int p)), none] S2 := by
      refine stp_xc ((ex_frz.trans (by rw [fr])).trans ?_)
      rw [ex, body (S' := S2) e2, st_exc]
    have sb : (ph (n + 4)).sub = sub := rfl
    by_cases hp : p = 0
    · refine ⟨S1, ?_⟩
      rw [call_at rfl rfl]
      refine Eq.trans (congrArg SO.out (?_ : exL (ph (n + 4)) b__law_told [some (.v (kd k)), some (.v (kd o)), some (.v (.int p)), none] S0 = .rt .non S1)) out_rt
      unfold b__law_told
      refine stp_rt ?_
      rw [ex, t1]
      simp only [sb, exHs, sub22, xiS]
      exact if_pos hp
    · refine ⟨S2, ?_⟩
      rw [call_at rfl rfl]
      refine Eq.trans (congrArg SO.out (?_ : exL (ph (n + 4)) b__law_told [some (.v (kd k)), some (.v (kd o)), some (.v (.int p)), none] S0 = .rt .non S2)) out_rt
      unfold b__law_told
      refine (stp (r' := [some (.v (kd k)), some (.v (kd o)), some (.v (.int p)), none]) (S' := S1) ?_).trans (stp_rt ?_)
      · rw [ex, t1]
        simp only [sb, exHs, sub22, xiS]
        exact if_neg hp
      · rw [ex, t2]
        simp only [sb, sub20, List.length_cons, List.length_nil, xiS, xAll, sub21]
        rfl
theorem cellE (n : Nat) (ns : List Int) (j : Nat) (r : Rho) (S : Sto) (h : r[0]? = some (some (.v (.lst (ns.map D.int))))) : ev (ph (n + 1)) (.call 7 (.cons (.var 0) (.cons (.int j) .nil))) r S = .ok (.int (cellAt ns j)) S := by
  simp only [ev, evL, h, bnd_ok, cell_ok]
abbrev Scr (ns : List Int) : Option Sl := some (.v (.lst (ns.map D.int)))
def p1 : Pi.S := (.frz [0, 0] (.asg (.nm 1) (.call 10 (.cons (.call 7 (.cons (.var 0) (.cons (.int (0)) .nil))) (.cons (.bin .add (.int (1)) (.bin .mod (.call 7 (.cons (.var 0) (.cons (.int (1)) .nil))) (.int (4)))) .nil)))))
def p2 : Pi.S := (.frz [0] (.ite (.e (.cmp .eq (.bin .mod (.bin .fdiv (.call 7 (.cons (.var 0) (.cons (.int (4)) .nil))) (.int (2))) (.int (8))) (.int (3))))
 (.cons (.frz [0] (.asg (.nm 1) (.call 16 (.cons (.call 7 (.cons (.var 0) (.cons (.int (0)) .nil))) .nil))))
 .nil)
 .nil))
def p3 : Pi.S := (.frz [1, 0] (.asg (.nm 2) (.call 11 (.cons (.var 1) (.cons (.call 7 (.cons (.var 0) (.cons (.int (3)) .nil))) .nil)))))
def p4 : Pi.S := (.frz [0] (.ite (.e (.cmp .eq (.bin .mod (.call 7 (.cons (.var 0) (.cons (.int (2)) .nil))) (.int (3))) (.int (0))))
 (.cons (.frz [0, 0] (.asg (.nm 2) (.call 10 (.cons (.call 7 (.cons (.var 0) (.cons (.int (3)) .nil))) (.cons (.bin .add (.int (1)) (.bin .mod (.bin .fdiv (.call 7 (.cons (.var 0) (.cons (.int (1)) .nil))) (.int (4))) (.int (4)))) .nil)))))
 .nil)
 .nil))
def fi17 : SL := (.cons (.asg (.nm 3) (.lst (.cons (.bi .repr (.var 1)) (.cons (.bi .repr (.var 2)) .nil))))
 (.cons (.frz [1, 2] (.asg (.nm 4) (.call 12 (.cons (.var 1) (.cons (.var 2) .nil)))))
 (.cons (.frz [1, 2, 0] (.asg (.nm 5) (.call 15 (.cons (.var 1) (.cons (.var 2) (.cons (.bin .mod (.call 7 (.cons (.var 0) (.cons (.int (4)) .nil))) (.int (2))) .nil))))))
 (.cons (.frz [2, 1] (.asg (.nm 6) (.call 15 (.cons (.var 2) (.cons (.var 1) (.cons (.int (0)) .nil))))))
 (.cons (.ite (.or (.e (.cmp .ne (.lst (.cons (.bi .repr (.var 1)) (.cons (.bi .repr (.var 2)) .nil))) (.var 3))) (.or (.e (.cmp .ne (.var 5) (.var 4))) (.e (.cmp .ne (.var 6) (.var 4)))))
 (.cons (.ret (.bl false))
 .nil)
 .nil)
 (.cons (.ite (.e (.isN (.var 4)))
 (.cons (.ret (.bl true))
 .nil)
 .nil)
 (.cons (.frz [4, 0] (.asg (.nm 7) (.call 14 (.cons (.var 4) (.cons (.call 7 (.cons (.var 0) (.cons (.int (5)) .nil))) .nil)))))
 (.cons (.frz [1, 5, 2, 5, 5, 7] (.ret (.and (.call 13 (.cons (.var 1) (.cons (.var 5) .nil))) (.and (.call 13 (.cons (.var 2) (.cons (.var 5) .nil))) (.and (.bl true) (.call 13 (.cons (.var 5) (.cons (.var 7) .nil))))))))
 .nil))))))))
theorem b17 : b_law = (.cons p1 (.cons p2 (.cons p3 (.cons p4 fi17)))) := rfl
theorem law_kinds (ns : List Int) (S : Sto) : ∃ k o, Kg 61 k ∧ dep k ≤ 4 ∧ sz k ≤ 3661 ∧ Kg 61 o ∧ dep o ≤ 5 ∧ sz o ≤ 21966 ∧
    exL (ph 13) b_law [Scr ns, none, none, none, none, none, none, none] S = exL (ph 13) fi17 [Scr ns, some (.v (kd k)), some (.v (kd o)), none, none, none, none, none] S := by
  obtain ⟨m, hm, em⟩ : ∃ m : Nat, m ≤ 4 ∧ 1 + (cellAt ns 1).fmod 4 = (m : Int) := by
    have a0 : 0 ≤ (cellAt ns 1).fmod 4 := Int.fmod_nonneg_of_pos _ (by decide)
    have a1 : (cellAt ns 1).fmod 4 < 4 := Int.fmod_lt_of_pos _ (by decide)
    exact ⟨(1 + (cellAt ns 1).fmod 4).toNat, by omega, by omega⟩
  obtain ⟨m2, hm2, em2⟩ : ∃ m : Nat, m ≤ 4 ∧ 1 + ((cellAt ns 1).fdiv 4).fmod 4 = (m : Int) := by
    have a0 : 0 ≤ ((cellAt ns 1).fdiv 4).fmod 4 := Int.fmod_nonneg_of_pos _ (by decide)
    have a1 : ((cellAt ns 1).fdiv 4).fmod 4 < 4 := Int.fmod_lt_of_pos _ (by decide)
    exact ⟨(1 + ((cellAt ns 1).fdiv 4).fmod 4).toNat, by omega, by omega⟩
  obtain ⟨k1, hk1, hd1, ek1⟩ := kind_by_ok 4 (Nat.le_refl 4) m (13 - m - 3) (cellAt ns 0) S
  rw [show 13 - m - 3 + m + 3 = 13 by omega] at ek1
  obtain ⟨k2, hk2, hd2, ek2⟩ := kind_by_ok 4 (Nat.le_refl 4) m2 (13 - m2 - 3) (cellAt ns 3) S
  rw [show 13 - m2 - 3 + m2 + 3 = 13 by omega] at ek2
  obtain ⟨k3, hk3, hd3, ek3⟩ := wide_ok 8 (cellAt ns 0) S
  have c : ∀ (j : Nat) (r : Rho), r[0]? = some (Scr ns) → ev (ph 13) (.call 7 (.cons (.var 0) (.cons (.int j) .nil))) r S = .ok (.int (cellAt ns j)) S := fun j r h => cellE 12 ns j r S h
  have e1 : ex (ph 13) p1 [Scr ns, none, none, none, none, none, none, none] S = .nx [Scr ns, some (.v (kd k1)), none, none, none, none, none, none] S := by
    refine ex_frz.trans (ex_set (d := kd k1) (S' := S) ?_ rfl)
    refine ev_call (evL_cons (c 0 _ rfl) (evL_cons (x := .int m) (ev_bin rd_int (rd_bin (ev_bin (d := .int ((cellAt ns 1).fmod 4)) (rd_call (c 1 _ rfl)) rd_int rfl)) ?_) evL_nil)) ek1
    rw [← em]
    rfl
  have h2 : ∃ k, Kg 60 k ∧ dep k ≤ 4 ∧ sz k ≤ 3661 ∧ ex (ph 13) p2 [Scr ns, some (.v (kd k1)), none, none, none, none, none, none] S = .nx [Scr ns, some (.v (kd k)), none, none, none, none, none, none] S := by
    have q : evT (ph 13) (.e (.cmp .eq (.bin .mod (.bin .fdiv (.call 7 (.cons (.var 0) (.cons (.int (4)) .nil))) (.int (2))) (.int (8))) (.int (3)))) [Scr ns, some (.v (kd k1)), none, none, none, none, none, none] S = .ok (decide (((cellAt ns 4).fdiv 2).fmod 8 = 3)) S :=
      evT_e (rd_cmp (ev_cmp (rd_bin (ev_bin (d := .int (((cellAt ns 4).fdiv 2).fmod 8)) (rd_bin (ev_bin (d := .int ((cellAt ns 4).fdiv 2)) (rd_call (c 4 _ rfl)) rd_int rfl)) rd_int rfl)) rd_int rfl)) rfl
    by_cases h : ((cellAt ns 4).fdiv 2).fmod 8 = 3
    · rw [decide_eq_true h] at q
      refine ⟨k3, hk3, by omega, Nat.le_trans (hk3.sz 2 hd3) (by decide), ex_frz.trans ((ex_if_t q).trans ((stp (ex_frz.trans (ex_set (d := kd k3) (S' := S) (ev_call (evL_cons (c 0 _ rfl) evL_nil) ek3) rfl))).trans exL_nil))⟩
    · rw [decide_eq_false h] at q
      refine ⟨k1, hk1.up (by decide), by omega, Nat.le_trans (hk1.sz 4 (by omega)) (by decide), ex_frz.trans ((ex_if_f q).trans exL_nil)⟩
  obtain ⟨k, hk, hd, hz, e2⟩ := h2
  obtain ⟨o, ho, hdo, hzo, eo⟩ := mixed_ok 60 (by decide) (by decide) 4 4 k (cellAt ns 3) S hk hd
  have e3 : ex (ph 13) p3 [Scr ns, some (.v (kd k)), none, none, none, none, none, none] S = .nx [Scr ns, some (.v (kd k)), some (.v (kd o)), none, none, none, none, none] S :=
    ex_frz.trans (ex_set (d := kd o) (S' := S) (ev_call (evL_cons (ev_var rfl) (evL_cons (c 3 _ rfl) evL_nil)) eo) rfl)
  have q4 : evT (ph 13) (.e (.cmp .eq (.bin .mod (.call 7 (.cons (.var 0) (.cons (.int (2)) .nil))) (.int (3))) (.int (0)))) [Scr ns, some (.v (kd k)), some (.v (kd o)), none, none, none, none, none] S = .ok (decide ((cellAt ns 2).fmod 3 = 0)) S :=
    evT_e (rd_cmp (ev_cmp (rd_bin (ev_bin (d := .int ((cellAt ns 2).fmod 3)) (rd_call (c 2 _ rfl)) rd_int rfl)) rd_int rfl)) rfl
  rw [b17]
  by_cases h : (cellAt ns 2).fmod 3 = 0
  · rw [decide_eq_true h] at q4
    refine ⟨k, k2, hk.up (by decide), hd, hz, hk2.up (by decide), by omega, Nat.le_trans (hk2.sz 4 (by omega)) (by decide), (stp e1).trans ((stp e2).trans ((stp e3).trans (stp ?_)))⟩
    refine ex_frz.trans ((ex_if_t q4).trans ((stp (r' := [Scr ns, some (.v (kd k)), some (.v (kd k2)), none, none, none, none, none]) (S' := S) ?_).trans exL_nil))
    refine ex_frz.trans (ex_set (d := kd k2) (S' := S) (ev_call (evL_cons (c 3 _ rfl) (evL_cons (x := .int m2) (ev_bin rd_int (rd_bin (ev_bin (d := .int (((cellAt ns 1).fdiv 4).fmod 4)) (rd_bin (ev_bin (d := .int ((cellAt ns 1).fdiv 4)) (rd_call (c 1 _ rfl)) rd_int rfl)) rd_int rfl)) ?_) evL_nil)) ek2) rfl)
    rw [← em2]
    rfl
  · rw [decide_eq_false h] at q4
    exact ⟨k, o, hk.up (by decide), hd, hz, ho, hdo, by omega, (stp e1).trans ((stp e2).trans ((stp e3).trans (stp (ex_frz.trans ((ex_if_f q4).trans exL_nil)))))⟩
theorem ev_and_t {Φ : Phi} {a b : E} {r : Rho} {S S1 : Sto} {q : Out D} (h : ev Φ a r S = .ok (.bl true) S1) (h2 : ev Φ b r S1 = q) : ev Φ (.and a b) r S = q := by
  rw [ev, h, bnd_ok]
  show ev Φ b r S1 = q
  exact h2
theorem ne_ok {a b : D} (h : eqd a b = some true) (hd : a.deep ≤ 100) : cmD .ne a b = some false := by
  have : eqq a b = some true := by
    unfold eqq
    rw [if_pos (Nat.le_trans (Nat.min_le_left _ _) hd), h]
  simp only [cmD, this, Option.map_some, Bool.not_true]
theorem law_ok (ns : List Int) (S : Sto) : ∃ S', (ph 14).call 17 [.lst (ns.map D.int)] S = .ok (.bl true) S' := by
  obtain ⟨k, o, hk, hd, hz, ho, hdo, hzo, e⟩ := law_kinds ns S
  have hb : 61 + 61 ≤ sizeLine := by decide
  have hs1 : sz k + sz o ≤ sizeLine := Nat.le_trans (Nat.add_le_add hz hzo) (by decide)
  have hs2 : sz o + sz k ≤ sizeLine := by omega
  obtain ⟨S1, t1⟩ := told_ok hb 8 S k o ((cellAt ns 4).fmod 2) hk ho hs1
  obtain ⟨S2, t2⟩ := told_ok hb 8 S1 o k 0 ho hk hs2
  refine ⟨S2, ?_⟩
  rw [call_at rfl rfl]
  refine Eq.trans (congrArg SO.out (?_ : exL (ph 13) b_law [Scr ns, none, none, none, none, none, none, none] S = .rt (.bl true) S2)) out_rt
  refine e.trans ?_
  have s2 : 2 ≤ sizeLine := by decide
  have hkr : biD .repr (kd k) = some (.str (kd k).py.shown) := repr_ok hk.shz (by omega) (by have := (hk.sh 4 hd).2; omega)
  have hor : biD .repr (kd o) = some (.str (kd o).py.shown) := repr_ok ho.shz (by omega) (by have := (ho.sh 5 hdo).2; omega)
  have hkok : Kok k := hk.ok (by decide)
  have hook : Kok o := ho.ok (by decide)
  have i2 := law_met 61 (by decide) 5 12 k o S (by omega) (by decide) hk ho
  unfold fi17
  generalize hA : (D.str (kd k).py.shown) = A at *
  generalize hB : (D.str (kd o).py.shown) = B at *
  have eR : ∀ (r : Rho) (S : Sto), r[1]? = some (some (.v (kd k))) → r[2]? = some (some (.v (kd o))) → ev (ph 13) (.lst (.cons (.bi .repr (.var 1)) (.cons (.bi .repr (.var 2)) .nil))) r S = .ok (.lst [A, B]) S := by
    intro r S h1 h2
    exact ev_lst (evL_cons (ev_bi (rd_var (by simp only [look, h1])) hkr) (evL_cons (ev_bi (rd_var (by simp only [look, h2])) hor) evL_nil)) s2
  refine (stp (ex_set (r' := [Scr ns, some (.v (kd k)), some (.v (kd o)), some (.ol [A, B]), none, none, none, none]) (eR _ _ rfl rfl) rfl)).trans ?_
  refine (stp (ex_frz.trans (ex_set (d := mD (met k o)) (S' := S) (r' := [Scr ns, some (.v (kd k)), some (.v (kd o)), some (.ol [A, B]), some (.v (mD (met k o))), none, none, none]) (ev_call (evL_cons (ev_var rfl) (evL_cons (ev_var rfl) evL_nil)) i2) rfl))).trans ?_
  have c4 : ∀ (r : Rho) (S : Sto), r[0]? = some (Scr ns) → ev (ph 13) (.bin .mod (.call 7 (.cons (.var 0) (.cons (.int (4)) .nil))) (.int (2))) r S = .ok (.int ((cellAt ns 4).fmod 2)) S := fun r S h => ev_bin (rd_call (cellE 12 ns 4 r S h)) rd_int rfl
  refine (stp (ex_frz.trans (ex_set (d := mD (met k o)) (S' := S1) (r' := [Scr ns, some (.v (kd k)), some (.v (kd o)), some (.ol [A, B]), some (.v (mD (met k o))), some (.v (mD (met k o))), none, none]) (ev_call (evL_cons (ev_var rfl) (evL_cons (ev_var rfl) (evL_cons (c4 _ _ rfl) evL_nil))) t1) rfl))).trans ?_
  refine (stp (ex_frz.trans (ex_set (d := mD (met o k)) (S' := S2) (r' := [Scr ns, some (.v (kd k)), some (.v (kd o)), some (.ol [A, B]), some (.v (mD (met k o))), some (.v (mD (met k o))), some (.v (mD (met o k))), none]) (ev_call (evL_cons (ev_var rfl) (evL_cons (ev_var rfl) (evL_cons ev_int evL_nil))) t2) rfl))).trans ?_
  have eN : cmD .ne (.lst [A, B]) (.lst [A, B]) = some false := by
    have hq : eqq (.lst [A, B]) (.lst [A, B]) = some true := by
      rw [← hA, ← hB]
      simp [eqq, D.deep, deepL, eqd, eqdL]
    simp only [cmD, hq, Option.map_some, Bool.not_true]
  have mk : ∀ r, met k o = some r → Kg 122 r ∧ dep r ≤ 5 := fun r h => met_kg 61 5 k o r (by omega) hk ho h
  have mk' : ∀ r, met o k = some r → Kg 122 r ∧ dep r ≤ 5 := fun r h => met_kg 61 5 o k r (by omega) ho hk h
  have eM : cmD .ne (mD (met k o)) (mD (met k o)) = some false := by
    cases hm : met k o with
    | none => rfl
    | some r =>
      obtain ⟨g, d⟩ := mk r hm
      exact ne_ok (eqd_refl (g.ok (by decide))) (by have := (g.sh 5 d).2; show (kd r).deep ≤ 100; omega)
  have eT : cmD .ne (mD (met o k)) (mD (met k o)) = some false := by
    rcases met_sym 61 5 o k (by omega) ho hk with ⟨h1, h2⟩ | ⟨r, r', h1, h2, h3⟩
    · rw [h1, h2]; rfl
    · rw [h1, h2]
      obtain ⟨g, d⟩ := mk' r h1
      exact ne_ok h3 (by have := (g.sh 5 d).2; show (kd r).deep ≤ 100; omega)
  refine (stp ((ex_if_f (S' := S2) (evT_or_f (evT_e (rd_cmp (ev_cmp (rd_lst (eR _ _ rfl rfl)) (rd_var rfl) eN)) rfl) (evT_or_f (evT_e (rd_cmp (ev_cmp (x := mD (met k o)) (y := mD (met k o)) (rd_var rfl) (rd_var rfl) eM)) rfl) (evT_e (rd_cmp (ev_cmp (x := mD (met o k)) (y := mD (met k o)) (rd_var rfl) (rd_var rfl) eT)) rfl)))).trans exL_nil)).trans ?_
  have eI := isN_ok (Φ := ph 13) (S := S2) (i := 4) (met k o) (r := [Scr ns, some (.v (kd k)), some (.v (kd o)), some (.ol [A, B]), some (.v (mD (met k o))), some (.v (mD (met k o))), some (.v (mD (met o k))), none]) rfl
  cases hm : met k o with
  | none =>
    rw [hm] at eI
    exact stp_rt ((ex_if_t eI).trans (stp_rt (ex_ret ev_bl)))
  | some r =>
    rw [hm] at eI
    refine (stp ((ex_if_f eI).trans exL_nil)).trans ?_
    obtain ⟨g, d⟩ := mk r hm
    obtain ⟨l, hl, hdl, hfl, el⟩ := loosened_ok 122 (by decide) (by decide) 5 3 r (cellAt ns 5) S2 g d
    obtain ⟨f1, f2⟩ := met_fits 5 k o r (by omega) hkok hook hm
    have hrok : Kok r := g.ok (by decide)
    have c5 : ∀ (r : Rho), r[0]? = some (Scr ns) → ev (ph 13) (.call 7 (.cons (.var 0) (.cons (.int (5)) .nil))) r S2 = .ok (.int (cellAt ns 5)) S2 := fun r h => cellE 12 ns 5 r S2 h
    refine (stp (ex_frz.trans (ex_set (d := kd l) (S' := S2) (r' := [Scr ns, some (.v (kd k)), some (.v (kd o)), some (.ol [A, B]), some (.v (kd r)), some (.v (kd r)), some (.v (mD (met o k))), some (.v (kd l))]) (ev_call (evL_cons (ev_var rfl) (evL_cons (c5 _ rfl) evL_nil)) el) rfl))).trans ?_
    have j1 := law_fits 5 12 k r S2 (by omega) (by decide) hkok hrok
    have j2 := law_fits 5 12 o r S2 (by omega) (by decide) hook hrok
    have j3 := law_fits 5 12 r l S2 (by omega) (by decide) hrok (hl.ok (by decide))
    rw [f1] at j1
    rw [f2] at j2
    rw [hfl] at j3
    refine stp_rt (ex_frz.trans (ex_ret ?_))
    exact ev_and_t (ev_call (evL_cons (ev_var rfl) (evL_cons (ev_var rfl) evL_nil)) j1) (ev_and_t (ev_call (evL_cons (ev_var rfl) (evL_cons (ev_var rfl) evL_nil)) j2) (ev_and_t ev_bl (ev_call (evL_cons (ev_var rfl) (evL_cons (ev_var rfl) evL_nil)) j3)))
theorem done : PySem.Challenge.rw_kindsure_k03_where_two_meet.Holds := holds_of fun ns _ _ => law_ok ns []
end K03
theorem PySem.Challenge.cw_kindsure_k03_where_two_meet_holds : PySem.Challenge.rw_kindsure_k03_where_two_meet.Holds := by
  exact K03.done
