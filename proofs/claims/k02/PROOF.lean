import PyProof.Rows.All
import Wide.All
import OpenK.AllK
import Wide.FinOn
import HandS.ForMost
import HandS.ForExc
import HandS.IsInst
import HandS.Wide
import HandS.Star
import HandS.Zip
import HandS.TupAny
import HandS.TupMul
import HandS.Flow
import HandS.Style
import HandS.TupLe
import HandS.DictComp
import HandS.SortInts
import PyProof.Rows.SortShellAny
import HandS.NoneIn
import KE.GoesMore
import HandS.Conv
import HandS.StrMore
import HandS.Set
import HandS.SetFor
import HandS.Strs
import HandS.Deep
import HandS.ExcInit
import HandS.ExcField
import HandS.TryMany
import HandS.ExcIs
import KE.KExcIs
import KE.KDictZip
import HandS.Defaults
import PySem.Challenge.RW_atanywrite_k02_parts_of_rows
set_option Elab.async false
set_option linter.all false
set_option maxRecDepth 100000
/-! Values as trees, and how a heap bears them. -/
namespace AI
open PySem PySem.Spec L2
open PyProof.Rows hiding St
/-- a value as a tree -/
inductive D where
  | non | bl (b : Bool) | int (i : Int) | str (s : Str) | tup (ds : List D) | lst (ds : List D) | dct (ks : List Key) (ds : List D) | fn (j : Nat) | ro (ds : List D)
  deriving Inhabited
/-- what nobody else holds: a list, a dict -/
inductive Ob where
  | l (ds : List D) | d (ks : List Key) (ds : List D)
def Ob.dd : Ob → D
  | .l ds => .lst ds
  | .d ks ds => .dct ks ds
/-- a place of the frame -/
inductive Sl where
  | no | v (d : D) | o (b : Ob)
abbrev As := List Sl
/-- what an expression gives: a value that stands still, or a new object of its own -/
inductive R where
  | v (d : D) | o (b : Ob)
def R.dd : R → D
  | .v d => d
  | .o b => b.dd
/-- the written part, and where the defs stand -/
structure Zt where
  K : PySem.W.Frag
  fa : Nat → Addr
  ca : Nat → Addr
def Sub (G H : Hp) : Prop := ∀ a o, G a = some o → H a = some o
theorem Sub.refl (G : Hp) : Sub G G := fun _ _ h => h
theorem Sub.trans {G H I : Hp} (a : Sub G H) (b : Sub H I) : Sub G I := fun c o h => b c o (a c o h)
theorem Sub.rd {G H : Hp} (s : Sub G H) {a : Addr} {u : HO} (r : Rd G a u) : Rd H a u := by
  rcases r with r | ⟨o, r⟩
  · exact .inl (s _ _ r)
  · exact .inr ⟨o, s _ _ r⟩
theorem Sub.sql {K : PySem.W.Frag} {G H : Hp} (s : Sub G H) {a : Addr} {xs : List V} (h : SqL K G a xs) : SqL K H a xs := by
  rcases h with h | h
  · exact .inl (s.rd h)
  · exact .inr h
theorem Sub.sqt {K : PySem.W.Frag} {G H : Hp} (s : Sub G H) {a : Addr} {xs : List V} (h : SqT K G a xs) : SqT K H a xs := by
  rcases h with h | h
  · exact .inl (s.rd h)
  · exact .inr h
theorem Sub.none {G H : Hp} (s : Sub G H) {a : Addr} (h : H a = none) : G a = none := by
  cases q : G a with
  | none => rfl
  | some o => rw [s a o q] at h; cases h
mutual
def Rep (Z : Zt) (G : Hp) : D → V → Prop
  | .non, v => v = .non
  | .bl b, v => v = .bl b
  | .int i, v => v = .int i
  | .str s, v => v = .str s
  | .tup ds, v => ∃ a xs, v = .ref a ∧ SqT Z.K G a xs ∧ Reps Z G ds xs
  | .lst ds, v => ∃ a xs, v = .ref a ∧ G a = some (.lst xs) ∧ Reps Z G ds xs
  | .ro ds, v => ∃ a xs, v = .ref a ∧ SqL Z.K G a xs ∧ Reps Z G ds xs
  | .dct ks ds, v => ∃ (a : Addr) (kvs : List (Key × V)), v = .ref a ∧ G a = some (.dK kvs) ∧ kvs.map (·.1) = ks ∧ Reps Z G ds (kvs.map (·.2))
  | .fn j, v => v = .ref (Z.fa j) ∧ PySem.W.keepIn Z.K (.ref (Z.fa j)) = true
def Reps (Z : Zt) (G : Hp) : List D → List V → Prop
  | [], xs => xs = []
  | d :: ds, xs => ∃ v vs, xs = v :: vs ∧ Rep Z G d v ∧ Reps Z G ds vs
end
section
variable {Z : Zt} {G G' H H' : Hp}
mutual
theorem Rep.mono (s : Sub G G') : ∀ {d : D} {v : V}, Rep Z G d v → Rep Z G' d v
  | .non, _, h => h
  | .bl _, _, h => h
  | .int _, _, h => h
  | .str _, _, h => h
  | .fn _, _, h => h
  | .tup ds, _, h => by
    unfold Rep at h ⊢
    obtain ⟨a, xs, e, q, r⟩ := h
    exact ⟨a, xs, e, s.sqt q, Reps.mono s r⟩
  | .lst ds, _, h => by
    unfold Rep at h ⊢
    obtain ⟨a, xs, e, q, r⟩ := h
    exact ⟨a, xs, e, s _ _ q, Reps.mono s r⟩
  | .ro ds, _, h => by
    unfold Rep at h ⊢
    obtain ⟨a, xs, e, q, r⟩ := h
    exact ⟨a, xs, e, s.sql q, Reps.mono s r⟩
  | .dct ks ds, _, h => by
    unfold Rep at h ⊢
    obtain ⟨a, kvs, e, q, w, r⟩ := h
    exact ⟨a, kvs, e, s _ _ q, w, Reps.mono s r⟩
theorem Reps.mono (s : Sub G G') : ∀ {ds : List D} {xs : List V}, Reps Z G ds xs → Reps Z G' ds xs
  | [], _, h => h
  | d :: ds, _, h => by
    unfold Reps at h ⊢
    obtain ⟨v, vs, e, r, q⟩ := h
    exact ⟨v, vs, e, Rep.mono s r, Reps.mono s q⟩
end
theorem Reps.nil : Reps Z G [] [] := by unfold Reps; rfl
theorem Reps.cons {d : D} {ds : List D} {v : V} {vs : List V} (h : Rep Z G d v) (t : Reps Z G ds vs) : Reps Z G (d :: ds) (v :: vs) := by unfold Reps; exact ⟨v, vs, rfl, h, t⟩
theorem Reps.inv {d : D} {ds : List D} {xs : List V} (h : Reps Z G (d :: ds) xs) : ∃ v vs, xs = v :: vs ∧ Rep Z G d v ∧ Reps Z G ds vs := by unfold Reps at h; exact h
theorem Reps.inv0 {xs : List V} (h : Reps Z G [] xs) : xs = [] := by unfold Reps at h; exact h
theorem Reps.len : ∀ {ds : List D} {xs : List V}, Reps Z G ds xs → xs.length = ds.length
  | [], xs, h => by rw [h.inv0]; rfl
  | d :: ds, xs, h => by
    obtain ⟨v, vs, rfl, _, q⟩ := h.inv
    rw [List.length_cons, List.length_cons, Reps.len q]
theorem Reps.get : ∀ {ds : List D} {xs : List V} {i : Nat} {d : D}, Reps Z G ds xs → ds[i]? = some d → ∃ v, xs[i]? = some v ∧ Rep Z G d v
  | [], _, _, _, _, e => by simp at e
  | d :: ds, xs, 0, d', h, e => by
    obtain ⟨v, vs, rfl, r, _⟩ := h.inv
    have e' : d = d' := by simpa using e
    exact ⟨v, rfl, e' ▸ r⟩
  | d :: ds, xs, i + 1, d', h, e => by
    obtain ⟨v, vs, rfl, _, q⟩ := h.inv
    obtain ⟨w, h1, h2⟩ := Reps.get (i := i) q (by simpa using e)
    exact ⟨w, by simpa using h1, h2⟩
theorem Reps.getV : ∀ {ds : List D} {xs : List V} {i : Nat} {v : V}, Reps Z G ds xs → xs[i]? = some v → ∃ d, ds[i]? = some d ∧ Rep Z G d v
  | [], _, _, _, h, e => by rw [h.inv0] at e; simp at e
  | d :: ds, xs, 0, v', h, e => by
    obtain ⟨v, vs, rfl, r, _⟩ := h.inv
    have e' : v = v' := by simpa using e
    exact ⟨d, rfl, e' ▸ r⟩
  | d :: ds, xs, i + 1, v', h, e => by
    obtain ⟨v, vs, rfl, _, q⟩ := h.inv
    obtain ⟨w, h1, h2⟩ := Reps.getV (i := i) q (by simpa using e)
    exact ⟨w, by simpa using h1, h2⟩
theorem Reps.append : ∀ {ds es : List D} {xs ys : List V}, Reps Z G ds xs → Reps Z G es ys → Reps Z G (ds ++ es) (xs ++ ys)
  | [], _, xs, _, h, t => by rw [h.inv0]; exact t
  | d :: ds, _, xs, _, h, t => by
    obtain ⟨v, vs, rfl, r, q⟩ := h.inv
    exact .cons r (Reps.append q t)
theorem Reps.take : ∀ {ds : List D} {xs : List V} (n : Nat), Reps Z G ds xs → Reps Z G (ds.take n) (xs.take n)
  | _, _, 0, _ => .nil
  | [], xs, n + 1, h => by rw [h.inv0]; exact .nil
  | d :: ds, xs, n + 1, h => by
    obtain ⟨v, vs, rfl, r, q⟩ := h.inv
    exact .cons r (Reps.take n q)
theorem Reps.drop : ∀ {ds : List D} {xs : List V} (n : Nat), Reps Z G ds xs → Reps Z G (ds.drop n) (xs.drop n)
  | _, _, 0, h => h
  | [], xs, n + 1, h => by rw [h.inv0]; exact .nil
  | d :: ds, xs, n + 1, h => by
    obtain ⟨v, vs, rfl, r, q⟩ := h.inv
    exact Reps.drop n q
theorem Reps.set : ∀ {ds : List D} {xs : List V} (n : Nat) {d : D} {v : V}, Reps Z G ds xs → Rep Z G d v → Reps Z G (ds.set n d) (xs.set n v)
  | [], xs, n, _, _, h, _ => by rw [h.inv0]; exact .nil
  | d :: ds, xs, 0, _, _, h, t => by
    obtain ⟨v, vs, rfl, r, q⟩ := h.inv
    exact .cons t q
  | d :: ds, xs, n + 1, _, _, h, t => by
    obtain ⟨v, vs, rfl, r, q⟩ := h.inv
    exact .cons r (Reps.set n q t)
theorem Reps.eraseIdx : ∀ {ds : List D} {xs : List V} (n : Nat), Reps Z G ds xs → Reps Z G (ds.eraseIdx n) (xs.eraseIdx n)
  | [], xs, n, h => by rw [h.inv0]; exact .nil
  | d :: ds, xs, 0, h => by
    obtain ⟨v, vs, rfl, r, q⟩ := h.inv
    exact q
  | d :: ds, xs, n + 1, h => by
    obtain ⟨v, vs, rfl, r, q⟩ := h.inv
    exact .cons r (Reps.eraseIdx n q)
theorem Reps.one {d : D} {v : V} (h : Rep Z G d v) : Reps Z G [d] [v] := .cons h .nil
/-- an own object's content -/
def OR (Z : Zt) (G : Hp) : Ob → HO → Prop
  | .l ds, o => ∃ xs, o = .lst xs ∧ Reps Z G ds xs
  | .d ks ds, o => ∃ kvs, o = .dK kvs ∧ kvs.map (·.1) = ks ∧ Reps Z G ds (kvs.map (·.2))
theorem OR.mono (s : Sub G G') {b : Ob} {o : HO} (h : OR Z G b o) : OR Z G' b o := by
  cases b with
  | l ds => obtain ⟨xs, e, r⟩ := h; exact ⟨xs, e, r.mono s⟩
  | d ks ds => obtain ⟨kvs, e, q, r⟩ := h; exact ⟨kvs, e, q, r.mono s⟩
/-- an object comes to stand still -/
theorem sub_upd {p : Addr} {o : HO} (h : G p = none) : Sub G (upd G p o) := fun b u e => by
  rw [upd_ne (ne_of_none e h)]; exact e
theorem OR.rep {b : Ob} {o : HO} {p : Addr} (h : OR Z G b o) (hp : G p = none) : Rep Z (upd G p o) b.dd (.ref p) := by
  cases b with
  | l ds =>
    obtain ⟨xs, rfl, r⟩ := h
    show Rep Z _ (.lst ds) _
    unfold Rep
    exact ⟨p, xs, rfl, upd_same, r.mono (sub_upd hp)⟩
  | d ks ds =>
    obtain ⟨kvs, rfl, q, r⟩ := h
    show Rep Z _ (.dct ks ds) _
    unfold Rep
    exact ⟨p, kvs, rfl, upd_same, q, r.mono (sub_upd hp)⟩
end
end AI
/-! A small interpreter over trees. -/
namespace AI
open PySem PySem.Spec L2
open PyProof.Rows hiding St
/-- an end of an expression: a value; an error of class c with its fields -/
inductive Rs (α : Type) where
  | ok (a : α) (A : As) | ex (c : Nat) (fs : List (Str × D)) (A : As)
/-- an end of a call -/
inductive Rc where
  | ok (r : R) (back : As) | ex (c : Nat) (fs : List (Str × D)) (back : As)
inductive Ty where
  | tInt | tBool | tStr | tList | tTuple
  deriving DecidableEq
inductive Bi where
  | abs | int | len | tuple | list | sorted | all | any | str | sum | min2 | max2 | min1 | max1
  deriving DecidableEq
inductive Sm where
  | isascii | isalpha | islower
  deriving DecidableEq
inductive Tg where
  | n (i : Nat) | t (ts : List Tg)
mutual
inductive Ex where
  | var (i : Nat)
  | lit (d : D)
  | glo (j : Nat)
  | op (o : Operator) (a b : Ex)
  | cmp (o : CmpOp) (a b : Ex)
  | chn (o p : CmpOp) (a b c : Ex)
  | not (a : Ex)
  | neg (a : Ex)
  | bo (o : BoolOp) (es : Exs)
  | orv (a b : Ex)
  | ite (c a b : Ex)
  | tup (es : Exs)
  | lst (es : Exs)
  | call (j : Nat) (es : Exs)
  | call0 (j : Nat)
  | callk (j : Nat) (es ks : Exs) (perm : List Nat)
  | bi (b : Bi) (es : Exs)
  | isi (a : Ex) (ts : List Ty)
  | lset (a : Ex)
  | sset (a : Ex)
  | ix (a b : Ex)
  | ixv (i : Nat) (b : Ex)
  | sl (a : Ex) (lo hi : Exo)
  | app (i : Nat) (e : Ex)
  | popv (i : Nat) (e : Ex)
  | popl (i : Nat)
  | ext (i : Nat) (e : Ex)
  | sm (m : Sm) (a : Ex) (es : Exs)
  | comp (elt : Ex) (tg : Tg) (it : It) (c : Exo) (own : List Nat)
  | comp2 (elt : Ex) (tg : Tg) (it : It) (c : Exo) (tg1 : Tg) (it1 : It) (c1 : Exo) (own own1 : List Nat)
  | fnv (j : Nat)
  | fz (e : Ex)
  | dnew
  | dix (i : Nat) (b : Ex)
  | dmk (a : Ex)
  | isiv (i : Nat) (ts : List Ty)
  | slv (i : Nat) (lo hi : Exo)
  | ind (neg : Bool) (a b : Ex)
  | dget (o k x : Ex)
  | dgetv (i : Nat) (k x : Ex)
  | callx (f : Ex) (es : Exs)
  | dcomp (k v : Ex) (tg : Tg) (it : It) (own : List Nat)
  | lrng (a : Ex)
  | tzip (a b : Ex)
  | rev (a : Ex)
inductive Exs where
  | nil | cons (star : Bool) (e : Ex) (r : Exs)
inductive Exo where
  | none | some (e : Ex)
inductive It where
  | e (e : Ex) | zip (a b : Ex) | enum (a : Ex) | rng1 (a : Ex) | rng2 (a b : Ex)
end
/-- what a handler's list holds: a constant, a field of the error, what isinstance says of it -/
inductive Hi where
  | lit (d : D) | fld (f : Str) | isi (x : Str) (b : Bool)
/-- a handler: its class, the place of its name, the place of its list (none: it is returned) -/
structure Hd where
  c : Nat
  i : Option Nat
  t : Option Nat
  its : List Hi
mutual
inductive Sm' where
  | asg (tg : Tg) (e : Ex)
  | par (is : List Nat) (es : Exs)
  | setix (i : Nat) (b e : Ex)
  | dels (i : Nat) (e : Ex)
  | dput (i : Nat) (b e : Ex)
  | ret (e : Ex)
  | retn
  | ife (c : Ex) (a b : Sms)
  | for (tg : Tg) (it : It) (b : Sms)
  | whl (c : Ex) (b : Sms)
  | expr (e : Ex)
  | pass | brk | cont
  | rse (c : Nat) (f : Option Str) (es : Exs)
  | tri (n : Nat) (b : Sms) (hs : List Hd)
inductive Sms where
  | nil | cons (s : Sm') (r : Sms)
end
structure Df where
  nm : Str
  ps : List Str
  N : List Str
  nb : List Nat
  body : Sms
  kws : List (Nat × List Str × List Nat) := []
structure Pm where
  orc : Nat → List R → Option Rc
  gl : Nat → Option D

/-! ### on values -/
def ltL : List Nat → List Nat → Bool
  | _, [] => false
  | [], _ :: _ => true
  | a :: l, b :: r => if a < b then true else if a = b then ltL l r else false
def ltS (a b : Str) : Bool := ltL a.cps.toList b.cps.toList
mutual
def toPD : D → Option PyData
  | .non => some .none
  | .bl b => some (.bool b)
  | .int i => some (.int i)
  | .str s => some (.str s)
  | .tup ds => (toPDs ds).map .tuple
  | .lst ds => (toPDs ds).map .list
  | .dct _ _ => none
  | .fn _ => none
  | .ro _ => none
def toPDs : List D → Option (List PyData)
  | [] => some []
  | d :: ds => match toPD d, toPDs ds with
    | some x, some xs => some (x :: xs)
    | _, _ => none
end
/-- == where both are data -/
def eqD (a b : D) : Option Bool :=
  match toPD a, toPD b with
  | some x, some y => if SeqAt.shaped x && SeqAt.shaped y then some (PyData.eqv x y) else none
  | _, _ => none
/-- among data of any depth -/
def inDeep (x y : D) : Option Bool :=
  match toPD x, toPD y with
  | some d, some (.list ds) => if SeqAt.shaped d && SeqAt.shaped (.list ds) then some (ds.any fun z => PyData.eqv z d) else none
  | some d, some (.tuple ds) => if SeqAt.shaped d && SeqAt.shaped (.tuple ds) then some (ds.any fun z => PyData.eqv z d) else none
  | _, _ => none
def inDeepN (neg : Bool) (x y : D) : Option Bool := if neg then (inDeep x y).map (!·) else inDeep x y
def flatD : D → Bool
  | .non => true
  | .bl _ => true
  | .int _ => true
  | .str _ => true
  | _ => false
def eqF : D → D → Bool
  | .non, .non => true
  | .bl a, .bl b => a == b
  | .bl a, .int b => (if a then 1 else 0) == b
  | .int a, .bl b => a == (if b then 1 else 0)
  | .int a, .int b => a == b
  | .str a, .str b => decide (a = b)
  | _, _ => false
def most : Nat := 1000000
def shortS (s : Str) : Bool := decide (s.length ≤ most)
def short (ds : List D) : Bool := decide (ds.length ≤ most)
def okI (i : Int) : Bool := decide (-(2 ^ 62) ≤ i ∧ i < 2 ^ 62)
def doOp : Operator → D → D → Option R
  | .Add, .int i, .int j => some (.v (.int (i + j)))
  | .Add, .str a, .str b => if shortS a && shortS b then some (.v (.str (a ++ b))) else none
  | .Add, .tup a, .tup b => if short a && short b then some (.v (.tup (a ++ b))) else none
  | .Add, .lst a, .lst b => if short a && short b then some (.o (.l (a ++ b))) else none
  | .Sub, .int i, .int j => some (.v (.int (i - j)))
  | .Mult, .int i, .int j => if decide (-(2 ^ 64) < i ∧ i < 2 ^ 64) || decide (-(2 ^ 64) < j ∧ j < 2 ^ 64) then some (.v (.int (i * j))) else none
  | .Mult, .lst a, .int k => if decide (0 ≤ k) && decide (k ≤ 1000) && decide (a.length ≤ 1000) then some (.o (.l (List.replicate k.toNat a).flatten)) else none
  | .Mult, .tup a, .int k => if decide (2 ≤ k) && decide (k ≤ 1000) && decide (a.length ≤ 1000) && decide (1 ≤ a.length) then some (.v (.tup (List.replicate k.toNat a).flatten)) else none
  | .Mod, .int i, .int j => if decide (j ≠ 0) then some (.v (.int (i.fmod j))) else none
  | .FloorDiv, .int i, .int j => if decide (j ≠ 0) && decide (j.natAbs < 1073741824) then some (.v (.int (i.fdiv j))) else none
  | .Pow, .int i, .int j => if decide (0 ≤ j ∧ j ≤ 1000000) && decide (i.natAbs < 2 ^ 64) then some (.v (.int (i ^ j.toNat))) else none
  | _, _, _ => none
def inSeq (x : D) (ds : List D) : Option Bool := if flatD x && ds.all flatD then some (ds.any fun y => eqF y x) else none
def keyD : D → Option Key
  | .int i => some (.inl i)
  | .str s => some (.inr s)
  | _ => none
def doIn (x : D) : D → Option Bool
  | .lst ds => inSeq x ds
  | .tup ds => inSeq x ds
  | .dct ks _ => match keyD x with
    | some k => some (ks.any fun x => decide (x = k))
    | none => none
  | .str s => match x with
    | .str c => if c.length = 1 then some (s.cps.toList.any fun y => decide (c.cps.toList = [y])) else none
    | _ => none
  | _ => none
def isNon : D → Bool
  | .non => true
  | _ => false
def doCmp : CmpOp → D → D → Option Bool
  | .Eq, a, b => eqD a b
  | .NotEq, a, b => (eqD a b).map (!·)
  | .Lt, .int i, .int j => some (decide (i < j))
  | .LtE, .int i, .int j => some (decide (i ≤ j))
  | .Gt, .int i, .int j => some (decide (j < i))
  | .GtE, .int i, .int j => some (decide (j ≤ i))
  | .Lt, .str a, .str b => some (ltS a b)
  | .In, x, c => doIn x c
  | .NotIn, x, c => (doIn x c).map (!·)
  | .Is, a, .non => some (isNon a)
  | .IsNot, a, .non => some (!isNon a)
  | .Is, .bl a, .bl b => some (decide (a = b))
  | .IsNot, .bl a, .bl b => some (!decide (a = b))
  | _, _, _ => none
def isTy : D → Ty → Bool
  | .bl _, .tBool => true
  | .bl _, .tInt => true
  | .int _, .tInt => true
  | .str _, .tStr => true
  | .lst _, .tList => true
  | .tup _, .tTuple => true
  | _, _ => false
/-- values of which isinstance is asked -/
def isAtom : D → Bool
  | .fn _ => false
  | .dct _ _ => false
  | .ro _ => false
  | _ => true
def intsD : List D → Option (List Int)
  | [] => some []
  | .int i :: r => (intsD r).map (i :: ·)
  | _ => none
def strsD : List D → Option (List Str)
  | [] => some []
  | .str i :: r => (strsD r).map (i :: ·)
  | _ => none
def bls : List D → Option (List Bool)
  | [] => some []
  | .bl i :: r => (bls r).map (i :: ·)
  | _ => none
def insI (x : Int) : List Int → List Int
  | [] => [x]
  | y :: r => if x ≤ y then x :: y :: r else y :: insI x r
def sortI : List Int → List Int
  | [] => []
  | x :: r => insI x (sortI r)
def insS (x : Str) : List Str → List Str
  | [] => [x]
  | y :: r => if ltS y x then y :: insS x r else x :: y :: r
def sortS : List Str → List Str
  | [] => []
  | x :: r => insS x (sortS r)
def sortD (ds : List D) : Option (List D) :=
  if ds.length < 64 then
    match intsD ds with
    | some is => some ((sortI is).map .int)
    | none => match strsD ds with
      | some ss => some ((sortS ss).map .str)
      | none => none
  else none
def dedupI : List Int → List Int
  | [] => []
  | x :: r => if x ∈ r then dedupI r else x :: dedupI r
def dedupS : List Str → List Str
  | [] => []
  | x :: r => if x ∈ r then dedupS r else x :: dedupS r
def seqD : D → Option (List D)
  | .lst ds => some ds
  | .tup ds => some ds
  | _ => none
def leastI : Int → List Int → Int
  | m, [] => m
  | m, y :: r => leastI (if y < m then y else m) r
def mostI : Int → List Int → Int
  | m, [] => m
  | m, y :: r => mostI (if m < y then y else m) r
def doBi : Bi → List D → Option R
  | .abs, [.int i] => some (.v (.int (if i < 0 then -i else i)))
  | .int, [.int i] => some (.v (.int i))
  | .int, [.bl b] => some (.v (.int (if b then 1 else 0)))
  | .len, [.lst ds] => some (.v (.int ds.length))
  | .len, [.ro ds] => some (.v (.int ds.length))
  | .len, [.tup ds] => some (.v (.int ds.length))
  | .len, [.str s] => if shortS s then some (.v (.int s.length)) else none
  | .tuple, [.lst ds] => some (.v (.tup ds))
  | .tuple, [.tup ds] => some (.v (.tup ds))
  | .list, [.lst ds] => some (.o (.l ds))
  | .list, [.tup ds] => some (.o (.l ds))
  | .sorted, [.lst ds] => (sortD ds).map fun r => .o (.l r)
  | .sorted, [.tup ds] => (sortD ds).map fun r => .o (.l r)
  | .all, [.lst ds] => (bls ds).map fun bs => .v (.bl (bs.all id))
  | .any, [.lst ds] => (bls ds).map fun bs => .v (.bl (bs.any id))
  | .min2, [.int i, .int j] => some (.v (.int (if j < i then j else i)))
  | .max2, [.int i, .int j] => some (.v (.int (if j > i then j else i)))
  | .sum, [.lst ds] => (intsD ds).map fun is => .v (.int is.sum)
  | .min1, [.lst ds] => match intsD ds with
    | some (i :: is) => some (.v (.int (leastI i is)))
    | _ => none
  | .max1, [.lst ds] => match intsD ds with
    | some (i :: is) => some (.v (.int (mostI i is)))
    | _ => none
  | _, _ => none
def doIx : D → D → Option D
  | .lst ds, .int i => atI ds i
  | .ro ds, .int i => atI ds i
  | .tup ds, .int i => atI ds i
  | .str s, .int i => if shortS s then (atI s.cps.toList i).map fun c => .str ⟨#[c]⟩ else none
  | _, _ => none
def cutD (ds : List D) (lo hi : Option Int) : List D := (ds.drop (HT.sIx ds.length 0 lo)).take (HT.sIx ds.length ds.length hi - HT.sIx ds.length 0 lo)
def doSl : D → Option Int → Option Int → Option R
  | .lst ds, lo, hi => some (.o (.l (cutD ds lo hi)))
  | .ro ds, lo, hi => some (.o (.l (cutD ds lo hi)))
  | .tup ds, lo, hi => some (.v (.tup (cutD ds lo hi)))
  | .str s, lo, hi => if shortS s then some (.v (.str (cutS s lo hi))) else none
  | _, _, _ => none
def truD : D → Option Bool
  | .non => some false
  | .bl b => some b
  | .int i => some (i != 0)
  | .str s => if shortS s then some (s.length != 0) else none
  | .lst ds => some (!ds.isEmpty)
  | .tup ds => some (!ds.isEmpty)
  | _ => none
def doSm : Sm → D → List D → Option R
  | .isascii, .str s, [] => some (.v (.bl (Txt.isascii s)))
  | .isalpha, .str s, [] => some (.v (.bl (Txt.isalpha s)))
  | .islower, .str s, [] => some (.v (.bl (Txt.islower s)))
  | _, _, _ => none
def R.sl : R → Sl
  | .v d => .v d
  | .o b => .o b
/-- frozen -/
def frz : Option (Rs R) → Option (Rs D)
  | some (.ok r A) => some (.ok r.dd A)
  | some (.ex c fs A) => some (.ex c fs A)
  | none => none
def Rs.bind {α β : Type} (x : Option (Rs α)) (f : α → As → Option (Rs β)) : Option (Rs β) :=
  match x with
  | some (.ok a A) => f a A
  | some (.ex c fs A) => some (.ex c fs A)
  | none => none
def toR (A : As) : Option R → Option (Rs R)
  | some r => some (.ok r A)
  | none => none
def toV (A : As) : Option D → Option (Rs R)
  | some d => some (.ok (.v d) A)
  | none => none
def toB (A : As) : Option Bool → Option (Rs R)
  | some b => some (.ok (.v (.bl b)) A)
  | none => none
/-- stores by a target; Bs must not be stored -/
def store (Bs : List Nat) (i : Nat) (x : Sl) (A : As) : Option As := if i ∈ Bs then none else if i < A.length then some (A.set i x) else none
mutual
def asgT (Bs : List Nat) : Tg → D → As → Option As
  | .n i, d, A => store Bs i (.v d) A
  | .t ts, d, A => match d with
    | .tup ds => asgTs Bs ts ds A
    | .lst ds => asgTs Bs ts ds A
    | _ => none
def asgTs (Bs : List Nat) : List Tg → List D → As → Option As
  | [], [], A => some A
  | t :: ts, d :: ds, A => match asgT Bs t d A with
    | some A' => asgTs Bs ts ds A'
    | none => none
  | _, _, _ => none
end
def wipeA (A : As) : List Nat → As
  | [] => A
  | v :: vs => (wipeA A vs).set v .no
/-- the places vs as they stood in A0 -/
def unwipe (A0 A : As) : List Nat → As
  | [] => A
  | v :: vs => match A0[v]? with
    | some x => (unwipe A0 A vs).set v x
    | none => unwipe A0 A vs
def zipD : List D → List D → List D
  | a :: l, b :: r => .tup [a, b] :: zipD l r
  | _, _ => []
def enumD : Nat → List D → List D
  | _, [] => []
  | k, a :: l => .tup [.int k, a] :: enumD (k + 1) l
def rngD (lo : Int) : Nat → List D
  | 0 => []
  | n + 1 => .int lo :: rngD (lo + 1) n
def charsD : List Nat → List D
  | [] => []
  | c :: r => .str ⟨#[c]⟩ :: charsD r
def itD : D → Option (List D)
  | .lst ds => some ds
  | .tup ds => some ds
  | .str s => some (charsD s.cps.toList)
  | _ => none
/-- a call's arguments: places whose own object is lent, values -/
inductive Ar where
  | r (r : R) | s (i : Nat)
def arR (A : As) : Ar → Option R
  | .r r => some r
  | .s i => match A[i]? with
    | some (.v d) => some (.v d)
    | some (.o b) => some (.o b)
    | _ => none
def arRs (A : As) : List Ar → Option (List R)
  | [] => some []
  | a :: l => match arR A a, arRs A l with
    | some r, some rs => some (r :: rs)
    | _, _ => none
def slots : List Ar → List Nat
  | [] => []
  | .s i :: l => i :: slots l
  | _ :: l => slots l
def nodup : List Nat → Bool
  | [] => true
  | a :: l => decide (a ∉ l) && nodup l
/-- what was lent comes back -/
def giveBack (A : As) : List Ar → As → As
  | .s i :: l, x :: b => match A[i]? with
    | some (.o _) => (giveBack A l b).set i x
    | _ => giveBack A l b
  | .r _ :: l, _ :: b => giveBack A l b
  | _, _ => A
def doCall (P : Pm) (j : Nat) (as : List Ar) (A : As) : Option (Rs R) :=
  if nodup (slots as) then
    match arRs A as with
    | some rs => match P.orc j rs with
      | some (.ok r back) => some (.ok r (giveBack A as back))
      | some (.ex c fs back) => some (.ex c fs (giveBack A as back))
      | none => none
    | none => none
  else none
/-- a comprehension's turns -/
def turns (tg : D → As → Option As) (test : As → Option (Rs Bool)) (elt : As → Option (Rs D)) (wp : As → As) : List D → List D → As → Option (Rs (List D))
  | [], acc, A => some (.ok acc A)
  | d :: ds, acc, A =>
    match tg d (wp A) with
    | none => none
    | some A1 => match test A1 with
      | some (.ok b A2) =>
        if b then
          match elt A2 with
          | some (.ok y A3) => if decide (acc.length < most) then turns tg test elt wp ds (acc ++ [y]) A3 else none
          | _ => none
        else turns tg test elt wp ds acc A2
      | _ => none
def optI : Option (Rs (Option D)) → Option (Rs (Option Int))
  | some (.ok none A) => some (.ok none A)
  | some (.ok (some (.int i)) A) => if okI i then some (.ok (some i) A) else none
  | some (.ok _ _) => none
  | some (.ex c fs A) => some (.ex c fs A)
  | none => none
def isVar : Ex → Option Nat
  | .var i => some i
  | _ => none
def peekA (A : As) (i : Nat) : Option (Rs D) := match A[i]? with
  | some (.v d) => some (.ok d A)
  | some (.o b) => some (.ok b.dd A)
  | _ => none
def setA (A : As) (i : Nat) : Bool := match A[i]? with
  | some (.v _) => true
  | some (.o _) => true
  | _ => false
/-- an expression: its value, its test -/
structure E2 where
  v : As → Option (Rs R)
  t : As → Option (Rs Bool)
def mkE (v : As → Option (Rs R)) : E2 := ⟨v, fun A => Rs.bind (v A) fun x A1 => match truD x.dd with
    | some b => some (.ok b A1)
    | none => none⟩
/-- a value that stands still -/
def E2.d (e : E2) (A : As) : Option (Rs D) := frz (e.v A)
/-- an argument: starred, a name's place, the expression -/
structure A2 where
  st : Bool
  nm : Option Nat
  e : E2
/-- and, or as values: all but the last are truth values -/
def evb (o : BoolOp) : List A2 → As → Option (Rs R)
  | [], _ => none
  | [a], A => a.e.v A
  | a :: r, A => Rs.bind (a.e.d A) fun x A1 => match x with
    | .bl b => (match o with
      | .And => if b then evb o r A1 else some (.ok (.v (.bl false)) A1)
      | .Or => if b then some (.ok (.v (.bl true)) A1) else evb o r A1)
    | _ => none
def evbt (o : BoolOp) : List A2 → As → Option (Rs Bool)
  | [], _ => none
  | [a], A => a.e.t A
  | a :: r, A => Rs.bind (a.e.t A) fun b A1 => match o with
      | .And => if b then evbt o r A1 else some (.ok false A1)
      | .Or => if b then some (.ok true A1) else evbt o r A1
/-- displays' items, stars laid out -/
def evs : List A2 → As → Option (Rs (List D))
  | [], A => some (.ok [] A)
  | a :: r, A => Rs.bind (a.e.d A) fun x A1 =>
    if a.st then (match seqD x with
      | some ys => Rs.bind (evs r A1) fun xs A2 => some (.ok (ys ++ xs) A2)
      | none => none)
    else Rs.bind (evs r A1) fun xs A2 => some (.ok (x :: xs) A2)
/-- the arguments of a builtin: a name's own object is only looked at, where it comes last -/
def evp : List A2 → As → Option (Rs (List D))
  | [], A => some (.ok [] A)
  | [a], A => (match a.nm with
    | some i => Rs.bind (peekA A i) fun x A1 => some (.ok [x] A1)
    | none => Rs.bind (a.e.d A) fun x A1 => some (.ok [x] A1))
  | a :: r, A => Rs.bind (a.e.d A) fun x A1 => Rs.bind (evp r A1) fun xs A2 => some (.ok (x :: xs) A2)
/-- the arguments of a def -/
def eva : List A2 → As → Option (Rs (List Ar))
  | [], A => some (.ok [] A)
  | a :: r, A => (match a.nm with
    | some i => if setA A i then Rs.bind (eva r A) fun xs A2 => some (.ok (.s i :: xs) A2) else none
    | none => Rs.bind (a.e.v A) fun x A1 => Rs.bind (eva r A1) fun xs A2 => some (.ok (.r x :: xs) A2))
def evo : Option E2 → As → Option (Rs (Option D))
  | none, A => some (.ok none A)
  | some e, A => Rs.bind (e.d A) fun x A1 => some (.ok (some x) A1)
/-- a comprehension's condition -/
def evc : Option E2 → As → Option (Rs Bool)
  | none, A => some (.ok true A)
  | some e, A => e.t A
def asInt : D → Option Int
  | .int i => some i
  | _ => none
def lsetD (x : D) : Option R := match seqD x with
  | some ds => if ds.length ≤ 4000 then (match intsD ds with
    | some is => some (.v (.int (dedupI is).length))
    | none => (match strsD ds with
      | some ss => some (.v (.int (dedupS ss).length))
      | none => none)) else none
  | none => none
def ssetD (x : D) : Option R := match seqD x with
  | some ds => if ds.length < 64 then (match intsD ds with
    | some is => some (.o (.l ((sortI (dedupI is)).map .int)))
    | none => (match strsD ds with
      | some ss => some (.o (.l ((sortS (dedupS ss)).map .str)))
      | none => none)) else none
  | none => none
def appA (i : Nat) (y : D) (A : As) : Option (Rs R) := match A[i]? with
  | some (.o (.l ds)) => if short ds then some (.ok (.v .non) (A.set i (.o (.l (ds ++ [y]))))) else none
  | _ => none
def popA (i : Nat) (y : D) (A : As) : Option (Rs R) := match A[i]?, y with
  | some (.o (.l ds)), .int k => if 0 ≤ k ∧ k < ds.length ∧ k < 2 ^ 62 then (match ds[k.toNat]? with
    | some d => some (.ok (.v d) (A.set i (.o (.l (ds.eraseIdx k.toNat)))))
    | none => none) else none
  | _, _ => none
def poplA (i : Nat) (A : As) : Option (Rs R) := match A[i]? with
  | some (.o (.l ds)) => (match ds[ds.length - 1]? with
    | some d => some (.ok (.v d) (A.set i (.o (.l ds.dropLast))))
    | none => none)
  | _ => none
def extA (i : Nat) (y : D) (A : As) : Option (Rs R) := match A[i]?, y with
  | some (.o (.l ds)), .lst es => if short ds && short es then some (.ok (.v .non) (A.set i (.o (.l (ds ++ es))))) else none
  | _, _ => none
def ownL (A : As) (i : Nat) : Bool := match A[i]? with
  | some (.o (.l _)) => true
  | _ => false
def varA (i : Nat) (A : As) : Option (Rs R) := match A[i]? with
  | some (.v d) => some (.ok (.v d) A)
  | some (.o b) => some (.ok (.v b.dd) (A.set i (.v b.dd)))
  | _ => none
def zipI : D → D → Option (List D)
  | .lst l, .lst r => some (zipD l r)
  | .tup l, .tup r => some (zipD l r)
  | _, _ => none
def enumI : D → Option (List D)
  | .lst l => some (enumD 0 l)
  | .tup l => some (enumD 0 l)
  | _ => none
def rng1I : D → Option (List D)
  | .int i => if okI i then some (rngD 0 i.toNat) else none
  | _ => none
def rng2I : D → D → Option (List D)
  | .int i, .int j => if okI i && okI j then some (rngD i (j - i).toNat) else none
  | _, _ => none
def toL (A : As) : Option (List D) → Option (Rs (List D))
  | some ds => some (.ok ds A)
  | none => none
def compA (src : As → Option (Rs (List D))) (tg : Tg) (elt : E2) (c : Option E2) (own : List Nat) (A : As) : Option (Rs R) :=
  Rs.bind (src A) fun ds A1 =>
    Rs.bind (turns (asgT [] tg) (evc c) elt.d (fun B => wipeA B own) ds [] (wipeA A1 own)) fun r A2 => some (.ok (.o (.l r)) (unwipe A1 A2 own))
/-- a comprehension over two: the second's turns within the first's -/
def turns2 (tg : D → As → Option As) (test : As → Option (Rs Bool)) (src1 : As → Option (Rs (List D))) (inner : List D → List D → As → Option (Rs (List D))) (wp : As → As) : List D → List D → As → Option (Rs (List D))
  | [], acc, A => some (.ok acc A)
  | d :: ds, acc, A =>
    match tg d (wp A) with
    | none => none
    | some A1 => match test A1 with
      | some (.ok b A2) =>
        if b then
          match src1 A2 with
          | some (.ok es A3) => (match inner es acc A3 with
            | some (.ok acc' A4) => turns2 tg test src1 inner wp ds acc' A4
            | _ => none)
          | _ => none
        else turns2 tg test src1 inner wp ds acc A2
      | _ => none
def comp2A (src : As → Option (Rs (List D))) (tg : Tg) (c : Option E2) (src1 : As → Option (Rs (List D))) (tg1 : Tg) (c1 : Option E2) (elt : E2) (own own1 : List Nat) (A : As) : Option (Rs R) :=
  Rs.bind (src A) fun ds A1 =>
    Rs.bind (turns2 (asgT [] tg) (evc c) src1 (turns (asgT [] tg1) (evc c1) elt.d (fun B => wipeA B own1)) (fun B => wipeA B own) ds [] (wipeA A1 own)) fun r A2 => some (.ok (.o (.l r)) (unwipe A1 A2 own))
/-- d[k] = v upon keys and values -/
def putV (k : Key) (y : D) : List Key → List D → List D
  | a :: ks, d :: ds => (if a = k then y else d) :: putV k y ks ds
  | _, ds => ds
def putK (k : Key) (y : D) (ks : List Key) (ds : List D) : List Key × List D :=
  if ks.any fun x => decide (x = k) then (ks, putV k y ks ds) else (ks ++ [k], ds ++ [y])
def lookK (k : Key) : List Key → List D → Option D
  | a :: ks, d :: ds => if a = k then some d else lookK k ks ds
  | _, _ => none
/-- what stands under a key -/
def getD (x y : D) : Option D := match x, keyD y with
  | .dct ks ds, some k => lookK k ks ds
  | _, _ => none
def isDct : D → Bool
  | .dct _ _ => true
  | _ => false
/-- d.get(k, x) -/
def getOr (x y z : D) : Option D := match x, keyD y with
  | .dct ks ds, some k => some ((lookK k ks ds).getD z)
  | _, _ => none
/-- dict(pairs): later ones win -/
def pairsD : List D → List Key → List D → Option (List Key × List D)
  | [], ks, vs => some (ks, vs)
  | .tup [a, b] :: r, ks, vs => match keyD a with
    | some k => pairsD r (putK k b ks vs).1 (putK k b ks vs).2
    | none => none
  | _ :: _, _, _ => none
def dmkD : D → Option R
  | .lst ds => match pairsD ds [] [] with
    | some (ks, vs) => some (.o (.d ks vs))
    | none => none
  | _ => none
def ownD (A : As) (i : Nat) : Bool := match A[i]? with
  | some (.o (.d _ _)) => true
  | _ => false
/-- a dict's comprehension, turn by turn -/
def dturns (tg : D → As → Option As) (ke ve : As → Option (Rs D)) (wp : As → As) : List D → List Key → List D → As → Option (Rs (List Key × List D))
  | [], ks, vs, A => some (.ok (ks, vs) A)
  | d :: ds, ks, vs, A =>
    match tg d (wp A) with
    | none => none
    | some A1 => match ke A1 with
      | some (.ok x A2) => (match ve A2, keyD x with
        | some (.ok y A3), some k => if decide (ks.length < most) then dturns tg ke ve wp ds (putK k y ks vs).1 (putK k y ks vs).2 A3 else none
        | _, _ => none)
      | _ => none
def dcompA (src : As → Option (Rs (List D))) (tg : Tg) (ke ve : E2) (own : List Nat) (A : As) : Option (Rs R) :=
  Rs.bind (src A) fun ds A1 =>
    Rs.bind (dturns (asgT [] tg) ke.d ve.d (fun B => wipeA B own) ds [] [] (wipeA A1 own)) fun r A2 => some (.ok (.o (.d r.1 r.2)) (unwipe A1 A2 own))
/-- by these places -/
def permD (l : List D) : List Nat → Option (List D)
  | [] => some []
  | i :: r => match l[i]?, permD l r with
    | some d, some ds => some (d :: ds)
    | _, _ => none
/-- two tuples zipped, as one -/
def tzipD : D → D → Option D
  | .tup l, .tup r => if short l && short r then some (.tup (zipD l r)) else none
  | _, _ => none
def revD : D → Option R
  | .lst ds => some (.o (.l ds.reverse))
  | .tup ds => some (.v (.tup ds.reverse))
  | _ => none
mutual
def ev (P : Pm) : Ex → E2
  | .var i => ⟨varA i, fun A => Rs.bind (peekA A i) fun x A1 => match truD x with
    | some b => some (.ok b A1)
    | none => none⟩
  | .lit d => mkE fun A => some (.ok (.v d) A)
  | .glo j => mkE fun A => toV A (P.gl j)
  | .op o a b => mkE fun A => Rs.bind ((ev P a).d A) fun x A1 => Rs.bind ((ev P b).d A1) fun y A2 => toR A2 (doOp o x y)
  | .cmp o a b => mkE fun A => Rs.bind ((ev P a).d A) fun x A1 => Rs.bind ((ev P b).d A1) fun y A2 => toB A2 (doCmp o x y)
  | .chn o p a b c => mkE fun A => Rs.bind ((ev P a).d A) fun x A1 => Rs.bind ((ev P b).d A1) fun y A2 => match doCmp o x y with
    | some true => Rs.bind ((ev P c).d A2) fun z A3 => toB A3 (doCmp p y z)
    | some false => some (.ok (.v (.bl false)) A2)
    | none => none
  | .not a => ⟨fun A => Rs.bind ((ev P a).d A) fun x A1 => match x with
      | .bl b => some (.ok (.v (.bl (!b))) A1)
      | _ => none,
    fun A => Rs.bind ((ev P a).t A) fun b A1 => some (.ok (!b) A1)⟩
  | .neg a => mkE fun A => Rs.bind ((ev P a).d A) fun x A1 => match x with
    | .int i => some (.ok (.v (.int (-i))) A1)
    | _ => none
  | .bo o es => ⟨evb o (evL P es), evbt o (evL P es)⟩
  | .orv a b => ⟨fun A => Rs.bind ((ev P a).v A) fun x A1 => match truD x.dd with
    | some true => some (.ok x A1)
    | some false => (ev P b).v A1
    | none => none, fun _ => none⟩
  | .ite c a b => ⟨fun A => Rs.bind ((ev P c).t A) fun t A1 => if t then (ev P a).v A1 else (ev P b).v A1, fun _ => none⟩
  | .tup es => mkE fun A => Rs.bind (evs (evL P es) A) fun ds A1 => if short ds then some (.ok (.v (.tup ds)) A1) else none
  | .lst es => mkE fun A => Rs.bind (evs (evL P es) A) fun ds A1 => if short ds then some (.ok (.o (.l ds)) A1) else none
  | .call j es => mkE fun A => Rs.bind (eva (evL P es) A) fun as A1 => doCall P j as A1
  | .call0 j => mkE fun A => match P.orc j [] with
    | some (.ok r _) => some (.ok r A)
    | _ => none
  | .callk j es ks perm => mkE fun A => Rs.bind (evs (evL P es) A) fun xs A1 => Rs.bind (evs (evL P ks) A1) fun ys A2 => match permD (xs ++ ys) perm with
    | some zs => doCall P j (zs.map fun d => .r (.v d)) A2
    | none => none
  | .bi b es => mkE fun A => Rs.bind (evp (evL P es) A) fun ds A1 => toR A1 (doBi b ds)
  | .isi a ts => mkE fun A => Rs.bind ((ev P a).d A) fun x A1 => if isAtom x then some (.ok (.v (.bl (ts.any (isTy x)))) A1) else none
  | .lset a => mkE fun A => Rs.bind ((ev P a).d A) fun x A1 => toR A1 (lsetD x)
  | .sset a => mkE fun A => Rs.bind ((ev P a).d A) fun x A1 => toR A1 (ssetD x)
  | .ix a b => mkE fun A => Rs.bind ((ev P a).d A) fun x A1 => Rs.bind ((ev P b).d A1) fun y A2 => toV A2 (doIx x y)
  | .ixv i b => mkE fun A => if setA A i then Rs.bind ((ev P b).d A) fun y A1 => Rs.bind (peekA A1 i) fun x A2 => toV A2 (doIx x y) else none
  | .sl a lo hi => mkE fun A => Rs.bind ((ev P a).d A) fun x A1 => Rs.bind (optI (evo (evO P lo) A1)) fun l A2 => Rs.bind (optI (evo (evO P hi) A2)) fun h A3 => toR A3 (doSl x l h)
  | .app i e => mkE fun A => if ownL A i then Rs.bind ((ev P e).d A) fun y A1 => appA i y A1 else none
  | .popv i e => mkE fun A => if ownL A i then Rs.bind ((ev P e).d A) fun y A1 => popA i y A1 else none
  | .popl i => mkE (poplA i)
  | .ext i e => mkE fun A => if ownL A i then Rs.bind ((ev P e).d A) fun y A1 => extA i y A1 else none
  | .sm m a es => mkE fun A => Rs.bind ((ev P a).d A) fun x A1 => Rs.bind (evs (evL P es) A1) fun ys A2 => toR A2 (doSm m x ys)
  | .ind neg a b => mkE fun A => Rs.bind ((ev P a).d A) fun x A1 => Rs.bind ((ev P b).d A1) fun y A2 => toB A2 (inDeepN neg x y)
  | .isiv i ts => mkE fun A => Rs.bind (peekA A i) fun x A1 => if isAtom x then some (.ok (.v (.bl (ts.any (isTy x)))) A1) else none
  | .slv i lo hi => mkE fun A => if setA A i then Rs.bind (optI (evo (evO P lo) A)) fun l A1 => Rs.bind (optI (evo (evO P hi) A1)) fun h A2 => Rs.bind (peekA A2 i) fun x A3 => toR A3 (doSl x l h) else none
  | .dmk a => mkE fun A => Rs.bind ((ev P a).d A) fun x A1 => toR A1 (dmkD x)
  | .dget o k x => mkE fun A => Rs.bind ((ev P o).d A) fun d A1 => if isDct d then Rs.bind ((ev P k).d A1) fun y A2 => Rs.bind ((ev P x).d A2) fun z A3 => toV A3 (getOr d y z) else none
  | .dgetv i k x => mkE fun A => Rs.bind (peekA A i) fun d0 A0 => if isDct d0 then Rs.bind ((ev P k).d A0) fun y A1 => Rs.bind ((ev P x).d A1) fun z A2 => Rs.bind (peekA A2 i) fun d A3 => toV A3 (getOr d y z) else none
  | .comp elt tg it c own => mkE (compA (evI P it) tg (ev P elt) (evO P c) own)
  | .comp2 elt tg it c tg1 it1 c1 own own1 => mkE (comp2A (evI P it) tg (evO P c) (evI P it1) tg1 (evO P c1) (ev P elt) own own1)
  | .fnv j => mkE fun A => some (.ok (.v (.fn j)) A)
  | .fz e => ⟨fun A => Rs.bind ((ev P e).d A) fun x A1 => some (.ok (.v x) A1), fun _ => none⟩
  | .dnew => mkE fun A => some (.ok (.o (.d [] [])) A)
  | .dix i b => mkE fun A => if setA A i then Rs.bind ((ev P b).d A) fun y A1 => Rs.bind (peekA A1 i) fun x A2 => toV A2 (getD x y) else none
  | .callx f es => mkE fun A => Rs.bind ((ev P f).d A) fun x A1 => match x with
    | .fn j => Rs.bind (eva (evL P es) A1) fun as A2 => doCall P j as A2
    | _ => none
  | .dcomp k v tg it own => mkE (dcompA (evI P it) tg (ev P k) (ev P v) own)
  | .lrng a => mkE fun A => Rs.bind ((ev P a).d A) fun x A1 => toR A1 ((rng1I x).bind fun ds => if short ds then some (.o (.l ds)) else none)
  | .tzip a b => mkE fun A => Rs.bind ((ev P a).d A) fun x A1 => Rs.bind ((ev P b).d A1) fun y A2 => toV A2 (tzipD x y)
  | .rev a => mkE fun A => Rs.bind ((ev P a).d A) fun x A1 => toR A1 (revD x)
def evL (P : Pm) : Exs → List A2
  | .nil => []
  | .cons st e r => ⟨st, isVar e, ev P e⟩ :: evL P r
def evO (P : Pm) : Exo → Option E2
  | .none => none
  | .some e => some (ev P e)
/-- what is gone through -/
def evI (P : Pm) : It → As → Option (Rs (List D))
  | .e e, A => Rs.bind ((ev P e).d A) fun x A1 => toL A1 (itD x)
  | .zip a b, A => Rs.bind ((ev P a).d A) fun x A1 => Rs.bind ((ev P b).d A1) fun y A2 => toL A2 (zipI x y)
  | .enum a, A => Rs.bind ((ev P a).d A) fun x A1 => toL A1 (enumI x)
  | .rng1 a, A => Rs.bind ((ev P a).d A) fun x A1 => toL A1 (rng1I x)
  | .rng2 a b, A => Rs.bind ((ev P a).d A) fun x A1 => Rs.bind ((ev P b).d A1) fun y A2 => toL A2 (rng2I x y)
end
/-! ### statements -/
inductive Ot where
  | nx (A : As) | rt (r : R) (A : As) | bk (A : As) | ct (A : As) | ex (c : Nat) (fs : List (Str × D)) (A : As)
def loop (tg : D → As → Option As) (body : As → Option Ot) : List D → As → Option Ot
  | [], A => some (.nx A)
  | d :: ds, A => match tg d A with
    | none => none
    | some A1 => match body A1 with
      | some (.nx A2) => loop tg body ds A2
      | some (.ct A2) => loop tg body ds A2
      | some (.bk A2) => some (.nx A2)
      | x => x
def Ot.of {α : Type} (x : Option (Rs α)) (f : α → As → Option Ot) : Option Ot :=
  match x with
  | some (.ok a A) => f a A
  | some (.ex c fs A) => some (.ex c fs A)
  | none => none
/-- while -/
def whl (test : As → Option (Rs Bool)) (body : As → Option Ot) : Nat → As → Option Ot
  | 0, _ => none
  | n + 1, A => Ot.of (test A) fun b A1 => if b then (match body A1 with
      | some (.nx A2) => whl test body n A2
      | some (.ct A2) => whl test body n A2
      | some (.bk A2) => some (.nx A2)
      | x => x) else some (.nx A1)
def whlN : Nat := 100000
def nxo : Option As → Option Ot
  | some A => some (.nx A)
  | none => none
/-- an expression that is handed back: a place's own object goes with it -/
def evr (P : Pm) (Bs : List Nat) (e : Ex) (A : As) : Option (Rs R) :=
  match isVar e with
  | some i => match A[i]? with
    | some (.v d) => some (.ok (.v d) A)
    | some (.o b) => if i ∈ Bs then some (.ok (.v b.dd) (A.set i (.v b.dd))) else some (.ok (.o b) (A.set i .no))
    | _ => none
  | none => (ev P e).v A
/-- xs[k] = y, the list a place's own -/
def delA (i : Nat) (y : D) (A : As) : Option Ot := match A[i]?, y with
  | some (.o (.l ds)), .int n => if 0 ≤ n ∧ n ≤ ds.length then some (.nx (A.set i (.o (.l (ds.take n.toNat))))) else none
  | _, _ => none
def putA (i : Nat) (k y : D) (A : As) : Option Ot := match A[i]?, k with
  | some (.o (.l ds)), .int n => (match ixN ds.length n with
    | some m => some (.nx (A.set i (.o (.l (ds.set m y)))))
    | none => none)
  | _, _ => none
def dputA (i : Nat) (k y : D) (A : As) : Option Ot := match A[i]?, keyD k with
  | some (.o (.d ks ds)), some k => if decide (ks.length < most) then some (.nx (A.set i (.o (.d (putK k y ks ds).1 (putK k y ks ds).2)))) else none
  | _, _ => none
/-- what a handler's list holds -/
def hiD (fs : List (Str × D)) : Hi → Option D
  | .lit d => some d
  | .fld f => fs.lookup f
  | .isi _ b => some (.bl b)
def hisD (fs : List (Str × D)) : List Hi → Option (List D)
  | [] => some []
  | h :: r => match hiD fs h, hisD fs r with
    | some d, some ds => some (d :: ds)
    | _, _ => none
/-- the name of a caught error falls away -/
def dropA (Bs : List Nat) (i : Option Nat) (A : As) : Option As := match i with
  | none => some A
  | some i => if i ∈ Bs then none else if i < A.length then some (A.set i .no) else none
/-- the handlers of an error -/
def hdl (Bs : List Nat) (hs : List Hd) (c : Nat) (fs : List (Str × D)) (A : As) : Option Ot :=
  match hs.find? fun h => h.c == c with
  | none => some (.ex c fs A)
  | some h => match hisD fs h.its with
    | none => none
    | some ds => if short ds && !decide (h.i.isSome && h.i = h.t) then (match h.t with
      | some t => (match dropA Bs h.i A with
        | some A0 => nxo (store Bs t (.o (.l ds)) A0)
        | none => none)
      | none => (match dropA Bs h.i A with
        | some A0 => some (.rt (.o (.l ds)) A0)
        | none => none)) else none
mutual
def sx (P : Pm) (Bs : List Nat) : Sm' → As → Option Ot
  | .asg tg e, A => (match tg with
    | .n i => Ot.of ((ev P e).v A) fun r A1 => nxo (store Bs i r.sl A1)
    | .t ts => Ot.of ((ev P e).d A) fun d A1 => nxo (asgT Bs (.t ts) d A1))
  | .par is es, A => (match is, es with
    | [i, j], .cons _ a (.cons _ b .nil) => Ot.of ((ev P a).v A) fun x A1 => Ot.of ((ev P b).v A1) fun y A2 => (match store Bs i x.sl A2 with
      | some A3 => nxo (store Bs j y.sl A3)
      | none => none)
    | [i, j, k], .cons _ a (.cons _ b (.cons _ c .nil)) => Ot.of ((ev P a).v A) fun x A1 => Ot.of ((ev P b).v A1) fun y A2 => Ot.of ((ev P c).v A2) fun z A3 => (match store Bs i x.sl A3 with
      | some A4 => (match store Bs j y.sl A4 with
        | some A5 => nxo (store Bs k z.sl A5)
        | none => none)
      | none => none)
    | _, _ => none)
  | .setix i b e, A => Ot.of ((ev P e).d A) fun y A1 => if ownL A1 i then Ot.of ((ev P b).d A1) fun k A2 => putA i k y A2 else none
  | .dput i b e, A => Ot.of ((ev P e).d A) fun y A1 => if ownD A1 i then Ot.of ((ev P b).d A1) fun k A2 => dputA i k y A2 else none
  | .dels i e, A => if ownL A i then Ot.of ((ev P e).d A) fun y A1 => delA i y A1 else none
  | .ret e, A => Ot.of (evr P Bs e A) fun r A1 => some (.rt r A1)
  | .retn, A => some (.rt (.v .non) A)
  | .ife c a b, A => Ot.of ((ev P c).t A) fun t A1 => if t then sxs P Bs a A1 else sxs P Bs b A1
  | .for tg it b, A => Ot.of (evI P it A) fun ds A1 => loop (asgT Bs tg) (fun B => sxs P Bs b B) ds A1
  | .whl c b, A => whl (ev P c).t (fun B => sxs P Bs b B) whlN A
  | .expr e, A => Ot.of ((ev P e).v A) fun _ A1 => some (.nx A1)
  | .pass, A => some (.nx A)
  | .rse c f es, A => (match f, es with
    | none, .nil => some (.ex c [] A)
    | some f, .cons _ e .nil => Ot.of ((ev P e).d A) fun d A1 => some (.ex c [(f, d)] A1)
    | _, _ => none)
  | .tri n b hs, A => (match sxs P Bs b A with
    | some (.ex c fs A1) => if c < n then hdl Bs hs c fs A1 else none
    | x => x)
  | .brk, A => some (.bk A)
  | .cont, A => some (.ct A)
def sxs (P : Pm) (Bs : List Nat) : Sms → As → Option Ot
  | .nil, A => some (.nx A)
  | .cons s r, A => match sx P Bs s A with
    | some (.nx A1) => sxs P Bs r A1
    | x => x
end
/-! ### defs -/
/-- what is lent at a place that is stored into stands still from the start -/
def entry (nb : List Nat) : Nat → List R → As
  | _, [] => []
  | i, .v d :: r => .v d :: entry nb (i + 1) r
  | i, .o b :: r => (if i ∈ nb then .v b.dd else .o b) :: entry nb (i + 1) r
def lent : Nat → As → List Nat
  | _, [] => []
  | i, .o _ :: r => i :: lent (i + 1) r
  | i, _ :: r => lent (i + 1) r
/-- what comes back of the arguments -/
def backOf : List R → As → As → As
  | .v _ :: r, _ :: e, _ :: A => .no :: backOf r e A
  | .o _ :: r, .o _ :: e, x :: A => x :: backOf r e A
  | .o _ :: r, y :: e, _ :: A => y :: backOf r e A
  | _, _, _ => []
def runD (P : Pm) (f : Df) (rs : List R) : Option Rc :=
  if rs.length = f.ps.length then
    let e := entry f.nb 0 rs
    match sxs P (lent 0 e) f.body (e ++ List.replicate (f.N.length - f.ps.length) .no) with
    | some (.nx A) => some (.ok (.v .non) (backOf rs e A))
    | some (.rt r A) => some (.ok r (backOf rs e A))
    | some (.ex c fs A) => some (.ex c fs (backOf rs e A))
    | _ => none
  else none
def run (T : List Df) (gl : Nat → Option D) : Nat → Nat → List R → Option Rc
  | 0, _, _ => none
  | n + 1, j, rs => match T[j]? with
    | some f => runD ⟨run T gl n, gl⟩ f rs
    | none => none
end AI
/-! How the interpreter's states stand to the heap's. -/
namespace AI
open PySem PySem.Spec L2
open PyProof.Rows hiding St
structure StR (Z : Zt) (G H : Hp) (σ : St) (A : As) : Prop where
  sub : Sub G H
  len : σ.length = A.length
  val : ∀ (i : Nat) (d : D), A[i]? = some (.v d) → ∃ v, σ[i]? = some (some v) ∧ Rep Z G d v
  own : ∀ (i : Nat) (b : Ob), A[i]? = some (.o b) → ∃ p o, σ[i]? = some (some (.ref p)) ∧ G p = none ∧ H p = some o ∧ OR Z G b o
  inj : ∀ (i j : Nat) (b c : Ob) (p : Addr), A[i]? = some (.o b) → A[j]? = some (.o c) → σ[i]? = some (some (.ref p)) → σ[j]? = some (some (.ref p)) → i = j
def Own (σ : St) (A : As) (p : Addr) : Prop := ∃ (i : Nat) (b : Ob), A[i]? = some (.o b) ∧ σ[i]? = some (some (.ref p))
structure Ch (σ : St) (A A' : As) (G H G' H' : Hp) : Prop where
  sub : Sub G G'
  keep : ∀ b o, H b = some o → ¬ Own σ A b → H' b = some o
  own : ∀ b, Own σ A' b → Own σ A b
  dom : ∀ b o, H b = some o → ∃ u, H' b = some u
  lim : ∀ b o, G' b = some o → (∃ u, G b = some u) ∨ H b = none ∨ Own σ A b
  sl : ∀ (i : Nat) (b : Ob), A'[i]? = some (.o b) → ∃ c, A[i]? = some (.o c)
  st : ∀ (i : Nat) (c : Ob) (p : Addr), A[i]? = some (.o c) → σ[i]? = some (some (.ref p)) → (∃ c', A'[i]? = some (.o c')) ∨ ∃ u, G' p = some u
section
variable {Z : Zt} {G H G' H' G1 H1 G2 H2 : Hp} {σ : St} {A A' A1 A2 : As} {p : Addr} {o : HO} {W : WX}
theorem Ch.refl : Ch σ A A G H G H := ⟨.refl _, fun _ _ h _ => h, fun _ h => h, fun _ o h => ⟨o, h⟩, fun _ o h => .inl ⟨o, h⟩, fun _ b h => ⟨b, h⟩, fun _ c _ h _ => .inl ⟨c, h⟩⟩
theorem Ch.trans (a : Ch σ A A1 G H G1 H1) (b : Ch σ A1 A2 G1 H1 G2 H2) : Ch σ A A2 G H G2 H2 where
  sub := a.sub.trans b.sub
  keep := fun c o h n => b.keep c o (a.keep c o h n) fun z => n (a.own c z)
  own := fun c h => a.own c (b.own c h)
  dom := fun c o h => by
    obtain ⟨u, e⟩ := a.dom c o h
    exact b.dom c u e
  lim := fun c o h => by
    rcases b.lim c o h with ⟨u, z⟩ | z | z
    · exact a.lim c u z
    · by_cases q : Own σ A c
      · exact .inr (.inr q)
      · cases e : H c with
        | none => exact .inr (.inl rfl)
        | some u => rw [a.keep c u e q] at z; cases z
    · exact .inr (.inr (a.own c z))
  sl := fun i b' h => by
    obtain ⟨c, e⟩ := b.sl i b' h
    exact a.sl i c e
  st := fun i c p h q => by
    rcases a.st i c p h q with ⟨d, e⟩ | ⟨u, e⟩
    · exact b.st i d p e q
    · exact .inr ⟨u, b.sub p u e⟩
theorem StR.ownH (s : StR Z G H σ A) (h : Own σ A p) : ∃ o, H p = some o ∧ G p = none := by
  obtain ⟨i, b, e, q⟩ := h
  obtain ⟨r, o, e1, g, h1, _⟩ := s.own i b e
  rw [q] at e1
  cases e1
  exact ⟨o, h1, g⟩
theorem StR.notOwn (s : StR Z G H σ A) (h : H p = none) : ¬ Own σ A p := fun z => by
  obtain ⟨o, e, _⟩ := s.ownH z
  rw [h] at e; cases e
theorem StR.freeze (s : StR Z G H σ A) (g : G p = none) (h : H p = some o) (n : ¬ Own σ A p) : StR Z (upd G p o) H σ A where
  sub := fun b u e => by
    by_cases z : b = p
    · subst z; rw [upd_same] at e; cases e; exact h
    · rw [upd_ne z] at e; exact s.sub b u e
  len := s.len
  val := fun i d e => by
    obtain ⟨v, a, r⟩ := s.val i d e
    exact ⟨v, a, r.mono (sub_upd g)⟩
  own := fun i b e => by
    obtain ⟨q, u, a, g1, h1, r⟩ := s.own i b e
    refine ⟨q, u, a, ?_, h1, r.mono (sub_upd g)⟩
    rw [upd_ne (show q ≠ p from fun z => n ⟨i, b, e, by rw [← z]; exact a⟩)]
    exact g1
  inj := s.inj
theorem Ch.freeze (c : Ch σ A A' G H G' H') (g : G' p = none) (h : H p = none ∨ Own σ A p) : Ch σ A A' G H (upd G' p o) H' where
  sub := c.sub.trans (sub_upd g)
  keep := c.keep
  own := c.own
  dom := c.dom
  lim := fun b u e => by
    by_cases z : b = p
    · subst z; exact .inr h
    · rw [upd_ne z] at e; exact c.lim b u e
  sl := c.sl
  st := fun i d q h a => by
    rcases c.st i d q h a with z | ⟨u, z⟩
    · exact .inl z
    · exact .inr ⟨u, sub_upd g q u z⟩
/-- a place's own object comes to stand still -/
theorem StR.freezeAt {i : Nat} {b : Ob} (s : StR Z G H σ A) (e : A[i]? = some (.o b)) : ∃ p G', σ[i]? = some (some (.ref p)) ∧ StR Z G' H σ (A.set i (.v b.dd)) ∧ Ch σ A (A.set i (.v b.dd)) G H G' H ∧ Rep Z G' b.dd (.ref p) := by
  obtain ⟨p, o, a, g, h, r⟩ := s.own i b e
  have hi : i < A.length := (List.getElem?_eq_some_iff.mp e).1
  have rp := r.rep g
  have sb : Sub G (upd G p o) := sub_upd g
  refine ⟨p, upd G p o, a, ⟨fun c u q => ?_, by rw [List.length_set]; exact s.len, fun j d q => ?_, fun j c q => ?_, fun j k c d q e1 e2 a1 a2 => ?_⟩, ⟨sb, fun _ _ q _ => q, fun q ⟨j, c, e1, a1⟩ => ?_, fun _ u q => ⟨u, q⟩, fun c u q => ?_, fun j c q => ?_, fun j c q e1 a1 => ?_⟩, rp⟩
  · by_cases z : c = p
    · subst z; rw [upd_same] at q; cases q; exact h
    · rw [upd_ne z] at q; exact s.sub c u q
  · by_cases z : j = i
    · subst z
      rw [List.getElem?_set_self hi] at q
      cases q
      exact ⟨_, a, rp⟩
    · rw [List.getElem?_set_ne (Ne.symm z)] at q
      obtain ⟨v, a1, r1⟩ := s.val j d q
      exact ⟨v, a1, r1.mono sb⟩
  · have z : j ≠ i := fun z => by
      subst z
      rw [List.getElem?_set_self hi] at q
      cases q
    rw [List.getElem?_set_ne (Ne.symm z)] at q
    obtain ⟨p1, o1, a1, g1, h1, r1⟩ := s.own j c q
    refine ⟨p1, o1, a1, ?_, h1, r1.mono sb⟩
    rw [upd_ne (show p1 ≠ p from fun z2 => z (s.inj j i c b p q e (by rw [← z2]; exact a1) a))]
    exact g1
  · have z : j ≠ i := fun z => by
      subst z
      rw [List.getElem?_set_self hi] at e1
      cases e1
    have z2 : k ≠ i := fun z => by
      subst z
      rw [List.getElem?_set_self hi] at e2
      cases e2
    rw [List.getElem?_set_ne (Ne.symm z)] at e1
    rw [List.getElem?_set_ne (Ne.symm z2)] at e2
    exact s.inj j k c d q e1 e2 a1 a2
  · have z : j ≠ i := fun z => by
      subst z
      rw [List.getElem?_set_self hi] at e1
      cases e1
    rw [List.getElem?_set_ne (Ne.symm z)] at e1
    exact ⟨j, c, e1, a1⟩
  · by_cases z : c = p
    · subst z; exact .inr (.inr ⟨i, b, e, a⟩)
    · rw [upd_ne z] at q; exact .inl ⟨u, q⟩
  · by_cases z : j = i
    · subst z; exact ⟨b, e⟩
    · rw [List.getElem?_set_ne (Ne.symm z)] at q; exact ⟨c, q⟩
  · by_cases z : j = i
    · subst z
      rw [a] at a1
      have a1 := V.ref.inj (Option.some.inj (Option.some.inj a1))
      subst a1
      exact .inr ⟨o, upd_same⟩
    · exact .inl ⟨c, by rw [List.getElem?_set_ne (Ne.symm z)]; exact e1⟩
/-- the heap grows by an object nobody else knows -/
theorem StR.grow (s : StR Z G H σ A) (n : H p = none) : StR Z G (upd H p o) σ A where
  sub := fun b u e => by rw [upd_ne (ne_of_none (s.sub b u e) n)]; exact s.sub b u e
  len := s.len
  val := s.val
  own := fun i b e => by
    obtain ⟨q, u, a, g, h, r⟩ := s.own i b e
    exact ⟨q, u, a, g, by rw [upd_ne (ne_of_none h n)]; exact h, r⟩
  inj := s.inj
theorem Ch.grow (c : Ch σ A A' G H G' H') (n : H' p = none) : Ch σ A A' G H G' (upd H' p o) where
  sub := c.sub
  keep := fun b u e z => by
    have e' := c.keep b u e z
    rw [upd_ne (ne_of_none e' n)]; exact e'
  own := c.own
  dom := fun b u e => by
    obtain ⟨w, e'⟩ := c.dom b u e
    exact ⟨w, by rw [upd_ne (ne_of_none e' n)]; exact e'⟩
  lim := c.lim
  sl := c.sl
  st := c.st
/-- an object is changed that neither stands still nor is a place's -/
theorem StR.write {u : HO} (s : StR Z G H σ A) (g : G p = none) (n : ¬ Own σ A p) : StR Z G (upd H p u) σ A where
  sub := fun b w e => by rw [upd_ne (ne_of_none e g)]; exact s.sub b w e
  len := s.len
  val := s.val
  own := fun i b e => by
    obtain ⟨q, w, a, g1, h, r⟩ := s.own i b e
    exact ⟨q, w, a, g1, by rw [upd_ne (show q ≠ p from fun z => n ⟨i, b, e, by rw [← z]; exact a⟩)]; exact h, r⟩
  inj := s.inj
/-- a place's own object is changed -/
theorem StR.writeAt {i : Nat} {b c : Ob} {u : HO} (s : StR Z G H σ A) (e : A[i]? = some (.o b)) (a : σ[i]? = some (some (.ref p))) (r : OR Z G c u) : StR Z G (upd H p u) σ (A.set i (.o c)) := by
  have hi : i < A.length := (List.getElem?_eq_some_iff.mp e).1
  obtain ⟨p', o', a', g, h, _⟩ := s.own i b e
  rw [a] at a'
  cases a'
  refine ⟨fun d w q => ?_, by rw [List.length_set]; exact s.len, fun j d q => ?_, fun j d q => ?_, fun j k d d' q e1 e2 a1 a2 => ?_⟩
  · rw [upd_ne (ne_of_none q g)]; exact s.sub d w q
  · have z : j ≠ i := fun z => by
      subst z
      rw [List.getElem?_set_self hi] at q
      cases q
    rw [List.getElem?_set_ne (Ne.symm z)] at q
    exact s.val j d q
  · by_cases z : j = i
    · subst z
      rw [List.getElem?_set_self hi] at q
      cases q
      exact ⟨p, u, a, g, upd_same, r⟩
    · rw [List.getElem?_set_ne (Ne.symm z)] at q
      obtain ⟨p1, o1, a1, g1, h1, r1⟩ := s.own j d q
      exact ⟨p1, o1, a1, g1, by rw [upd_ne (show p1 ≠ p from fun z2 => z (s.inj j i d b p q e (by rw [← z2]; exact a1) a))]; exact h1, r1⟩
  · have f : ∀ {m : Nat} {x : Ob}, (A.set i (.o c))[m]? = some (.o x) → ∃ y, A[m]? = some (.o y) := fun {m x} q => by
      by_cases z : m = i
      · subst z; exact ⟨b, e⟩
      · rw [List.getElem?_set_ne (Ne.symm z)] at q; exact ⟨x, q⟩
    obtain ⟨y1, f1⟩ := f e1
    obtain ⟨y2, f2⟩ := f e2
    exact s.inj j k y1 y2 q f1 f2 a1 a2
theorem Ch.writeAt {i : Nat} {b c : Ob} {u : HO} (e : A[i]? = some (.o b)) (a : σ[i]? = some (some (.ref p))) : Ch σ A (A.set i (.o c)) G H G (upd H p u) where
  sub := .refl _
  keep := fun d w h n => by rw [upd_ne (show d ≠ p from fun z => n ⟨i, b, e, by rw [z]; exact a⟩)]; exact h
  own := fun d ⟨j, x, q, a1⟩ => by
    by_cases z : j = i
    · subst z; exact ⟨j, b, e, a1⟩
    · rw [List.getElem?_set_ne (Ne.symm z)] at q; exact ⟨j, x, q, a1⟩
  dom := fun d w h => by
    by_cases z : d = p
    · subst z; exact ⟨_, upd_same⟩
    · exact ⟨w, by rw [upd_ne z]; exact h⟩
  lim := fun d w h => .inl ⟨w, h⟩
  sl := fun j d q => by
    by_cases z : j = i
    · subst z; exact ⟨b, e⟩
    · rw [List.getElem?_set_ne (Ne.symm z)] at q; exact ⟨d, q⟩
  st := fun j d q e1 a1 => by
    by_cases z : j = i
    · subst z
      exact .inl ⟨c, List.getElem?_set_self (List.getElem?_eq_some_iff.mp e).1⟩
    · exact .inl ⟨d, by rw [List.getElem?_set_ne (Ne.symm z)]; exact e1⟩

/-! ### readings -/
/-- an error's own dict -/
def XD (Z : Zt) (G H : Hp) (fs : List (Str × D)) (dx : Option Addr) : Prop :=
  (fs = [] ∧ dx = none) ∨ ∃ (d : Addr) (fv : List (Str × V)), dx = some d ∧ H d = some (.xd fv) ∧ fv.map (·.1) = fs.map (·.1) ∧ Reps Z G (fs.map (·.2)) (fv.map (·.2))
def exW (Z : Zt) (W : WX) (σ : St) (A A' : As) (G H : Hp) (c : Nat) (fs : List (Str × D)) : Prop :=
  ∀ (dx : Option Addr) (G' H' : Hp), StR Z G' H' σ A' → Ch σ A A' G H G' H' → XD Z G' H' fs dx → W (.ref (Z.ca c)) dx σ H'
theorem exW.trans {c : Nat} {fs : List (Str × D)} (k : exW Z W σ A A' G H c fs) (h : Ch σ A A1 G H G1 H1) : exW Z W σ A1 A' G1 H1 c fs := fun dx G' H' s ch x => k dx G' H' s (h.trans ch) x
/-- what is asked of an end x of an evaluation: RT tells how it lies in the heap -/
def tofS {α β : Type} (Z : Zt) (W : WX) (RT : Hp → Hp → Hp → α → β → Prop) (x : Option (Rs α)) (σ : St) (A : As) (G H : Hp) (Q : β → Hp → Prop) : Prop :=
  match x with
  | none => False
  | some (.ok a A') => ∀ v G' H', StR Z G' H' σ A' → Ch σ A A' G H G' H' → RT H G' H' a v → Q v H'
  | some (.ex c fs A') => exW Z W σ A A' G H c fs
def tofG {α β : Type} (Z : Zt) (W : WX) (RT : Hp → Hp → Hp → α → β → Prop) (f : As → Option (Rs α)) : St → Hp → (β → Hp → Prop) → Prop := fun σ H Q =>
  ∃ G A, StR Z G H σ A ∧ tofS Z W RT (f A) σ A G H Q
/-- an end's place does not hang on where the evaluation began, but on what was there already -/
def Shifts {α β : Type} (RT : Hp → Hp → Hp → α → β → Prop) : Prop := ∀ (H H1 G' H' : Hp) (a : α) (v : β), (∀ b o, H b = some o → ∃ u, H1 b = some u) → RT H1 G' H' a v → RT H G' H' a v
section
variable {α β γ δ : Type} {RT : Hp → Hp → Hp → α → β → Prop} {RS : Hp → Hp → Hp → γ → δ → Prop} {x : Option (Rs α)} {Q Q' : β → Hp → Prop}
theorem tofS.mono (h : tofS Z W RT x σ A G H Q) (k : ∀ v H', Q v H' → Q' v H') : tofS Z W RT x σ A G H Q' := by
  cases x with
  | none => exact h
  | some x =>
    cases x with
    | ok a A' => exact fun v G' H' s c r => k _ _ (h v G' H' s c r)
    | ex c fs A' => exact h
theorem tofS.shift (hs : Shifts RT) (h : tofS Z W RT x σ A G H Q) (c : Ch σ A A1 G H G1 H1) : tofS Z W RT x σ A1 G1 H1 Q := by
  cases x with
  | none => exact h
  | some x =>
    cases x with
    | ok a A' => exact fun v G' H' s c' r => h v G' H' s (c.trans c') (hs H H1 G' H' a v c.dom r)
    | ex _ fs A' => exact exW.trans h c
/-- one step, then another -/
theorem tofS.bind {y : Option (Rs γ)} {g : γ → As → Option (Rs α)} {Q1 : δ → Hp → Prop} (hs : Shifts RT) (h : tofS Z W RT (Rs.bind y g) σ A G H Q)
    (k : ∀ (a : γ) (A1 : As) (v : δ) (G1 H1 : Hp), StR Z G1 H1 σ A1 → Ch σ A A1 G H G1 H1 → RS H G1 H1 a v → tofS Z W RT (g a A1) σ A1 G1 H1 Q → Q1 v H1) : tofS Z W RS y σ A G H Q1 := by
  cases y with
  | none => exact h
  | some y =>
    cases y with
    | ok a A' => exact fun v G' H' s c r => k a A' v G' H' s c r (tofS.shift hs h c)
    | ex c fs A' => exact h
theorem tofG.bind {y : As → Option (Rs γ)} {g : γ → As → Option (Rs α)} {Q1 : δ → Hp → Prop} (s : StR Z G H σ A) (hs : Shifts RT) (h : tofS Z W RT (Rs.bind (y A) g) σ A G H Q)
    (k : ∀ (a : γ) (A1 : As) (v : δ) (G1 H1 : Hp), StR Z G1 H1 σ A1 → Ch σ A A1 G H G1 H1 → RS H G1 H1 a v → tofS Z W RT (g a A1) σ A1 G1 H1 Q → Q1 v H1) : tofG Z W RS y σ H Q1 :=
  ⟨G, A, s, h.bind hs k⟩
end
/-- an end with its own object -/
def RR (Z : Zt) : Hp → Hp → Hp → R → V → Prop := fun H G' H' r v => match r with
  | .v d => Rep Z G' d v
  | .o b => ∃ p o, v = .ref p ∧ H p = none ∧ G' p = none ∧ H' p = some o ∧ OR Z G' b o
def RD (Z : Zt) : Hp → Hp → Hp → D → V → Prop := fun _ G' _ d v => Rep Z G' d v
def RB : Hp → Hp → Hp → Bool → Bool → Prop := fun _ _ _ b c => c = b
def RL (Z : Zt) : Hp → Hp → Hp → List D → List V → Prop := fun _ G' _ ds vs => Reps Z G' ds vs
abbrev tof (Z : Zt) (W : WX) (f : As → Option (Rs R)) : TE := tofG Z W (RR Z) f
abbrev tofd (Z : Zt) (W : WX) (f : As → Option (Rs D)) : TE := tofG Z W (RD Z) f
abbrev tofb (Z : Zt) (W : WX) (f : As → Option (Rs Bool)) : TT := tofG Z W RB f
abbrev tofl (Z : Zt) (W : WX) (f : As → Option (Rs (List D))) : TA := tofG Z W (RL Z) f
/-- an end is made to stand still -/
theorem sh_R : Shifts (RR Z) := fun H H1 G' H' a v h r => by
  cases a with
  | v d => exact r
  | o b =>
    obtain ⟨p, o, e, n, r⟩ := r
    refine ⟨p, o, e, ?_, r⟩
    cases q : H p with
    | none => rfl
    | some u =>
      obtain ⟨w, z⟩ := h p u q
      rw [n] at z; cases z
theorem sh_D : Shifts (RD Z) := fun _ _ _ _ _ _ _ r => r
theorem sh_B : Shifts RB := fun _ _ _ _ _ _ _ r => r
theorem sh_L : Shifts (RL Z) := fun _ _ _ _ _ _ _ r => r
theorem frz_of {f : As → Option (Rs R)} {Q : VK} (h : tofd Z W (fun A => frz (f A)) σ H Q) : tof Z W f σ H Q := by
  obtain ⟨G, A, s, h⟩ := h
  refine ⟨G, A, s, ?_⟩
  dsimp only at h
  unfold tofS at h ⊢
  cases e : f A with
  | none => rw [e] at h; exact h
  | some x =>
    rw [e] at h
    cases x with
    | ex c fs A' => exact h
    | ok r A' =>
      cases r with
      | v d => exact h
      | o b =>
        intro v G' H' s' c q
        obtain ⟨p, o, rfl, hp, gp, hp', r⟩ := q
        exact h (.ref p) (upd G' p o) H' (s'.freeze gp hp' fun z => s.notOwn hp (c.own p z)) (c.freeze gp (.inl hp)) (r.rep gp)
theorem pe_any {X : Cx} {e : Expr} {t' : TE} (h : ∀ σ H Q, t' σ H Q → ∃ t, PE X e t ∧ t σ H Q) : PE X e t' := ⟨fun pins s σ H Q I q => by
  obtain ⟨t, p, r⟩ := h σ H Q q
  exact p.run pins s σ H Q I r⟩
theorem pe_imp {X : Cx} {e : Expr} {t t' : TE} (p : PE X e t) (h : ∀ σ H Q, t' σ H Q → t σ H Q) : PE X e t' := pe_any fun σ H Q q => ⟨t, p, h σ H Q q⟩
theorem pt_any {X : Cx} {e : Expr} {t' : TT} (h : ∀ σ H Q, t' σ H Q → ∃ t, PT X e t ∧ t σ H Q) : PT X e t' := ⟨fun pins s σ H Q I q => by
  obtain ⟨t, p, r⟩ := h σ H Q q
  exact p.run pins s σ H Q I r⟩
theorem pt_imp {X : Cx} {e : Expr} {t t' : TT} (p : PT X e t) (h : ∀ σ H Q, t' σ H Q → t σ H Q) : PT X e t' := pt_any fun σ H Q q => ⟨t, p, h σ H Q q⟩
theorem pw_any {X : Cx} {e : Expr} {t' : TT} (h : ∀ σ H Q, t' σ H Q → ∃ t, PW X e t ∧ t σ H Q) : PW X e t' := ⟨fun wh pins s σ H Q I q => by
  obtain ⟨t, p, r⟩ := h σ H Q q
  exact p.run wh pins s σ H Q I r⟩
theorem pw_imp {X : Cx} {e : Expr} {t t' : TT} (p : PW X e t) (h : ∀ σ H Q, t' σ H Q → t σ H Q) : PW X e t' := pw_any fun σ H Q q => ⟨t, p, h σ H Q q⟩
theorem pa_any {X : Cx} {es : List Expr} {t' : TA} (h : ∀ σ H Q, t' σ H Q → ∃ t, PA X es t ∧ t σ H Q) : PA X es t' := ⟨fun pos pins s σ H Q I q => by
  obtain ⟨t, p, r⟩ := h σ H Q q
  exact p.run pos pins s σ H Q I r⟩
theorem pa_imp {X : Cx} {es : List Expr} {t t' : TA} (p : PA X es t) (h : ∀ σ H Q, t' σ H Q → t σ H Q) : PA X es t' := pa_any fun σ H Q q => ⟨t, p, h σ H Q q⟩
theorem ps_any {X : Cx} {st : Stmt} {t' : TS} (h : ∀ D σ H, t' D σ H → ∃ t, PS X st t ∧ t D σ H) : PS X st t' := ⟨fun pins s σ H D I q => by
  obtain ⟨t, p, r⟩ := h D σ H q
  exact p.run pins s σ H D I r⟩
theorem ps_imp {X : Cx} {st : Stmt} {t t' : TS} (p : PS X st t) (h : ∀ D σ H, t' D σ H → t D σ H) : PS X st t' := ps_any fun D σ H q => ⟨t, p, h D σ H q⟩
theorem pss_any {X : Cx} {st : List Stmt} {t' : TS} (h : ∀ D σ H, t' D σ H → ∃ t, PSs X st t ∧ t D σ H) : PSs X st t' := ⟨fun pins s σ H D I q => by
  obtain ⟨t, p, r⟩ := h D σ H q
  exact p.run pins s σ H D I r⟩
theorem pss_imp {X : Cx} {st : List Stmt} {t t' : TS} (p : PSs X st t) (h : ∀ D σ H, t' D σ H → t D σ H) : PSs X st t' := pss_any fun D σ H q => ⟨t, p, h D σ H q⟩
theorem pi_any {X : Cx} {tg it : Expr} {t' : TI} (h : ∀ σ H R, t' σ H R → ∃ t, PI X tg it t ∧ t σ H R) : PI X tg it t' := ⟨fun pins s σ H R I q => by
  obtain ⟨t, p, r⟩ := h σ H R q
  exact p.run pins s σ H R I r⟩
/-- a value of its own, as one that stands still -/
theorem pe_d {X : Cx} {e : Expr} {f : E2} (p : PE X e (tof Z W f.v)) : PE X e (tofd Z W f.d) := pe_imp p fun _ _ _ h => frz_of h
end
end AI
/-! Operators. -/
namespace AI
open PySem PySem.Spec L2
open PyProof.Rows hiding St
section
variable {Z : Zt} {G H : Hp} {v u : V}
theorem rep_non : Rep Z G .non v ↔ v = .non := by unfold Rep; exact Iff.rfl
theorem rep_bl {b : Bool} : Rep Z G (.bl b) v ↔ v = .bl b := by unfold Rep; exact Iff.rfl
theorem rep_int {i : Int} : Rep Z G (.int i) v ↔ v = .int i := by unfold Rep; exact Iff.rfl
theorem rep_str {s : Str} : Rep Z G (.str s) v ↔ v = .str s := by unfold Rep; exact Iff.rfl
theorem rep_tup {ds : List D} : Rep Z G (.tup ds) v ↔ ∃ a xs, v = .ref a ∧ SqT Z.K G a xs ∧ Reps Z G ds xs := by unfold Rep; exact Iff.rfl
theorem rep_lst {ds : List D} : Rep Z G (.lst ds) v ↔ ∃ a xs, v = .ref a ∧ G a = some (.lst xs) ∧ Reps Z G ds xs := by unfold Rep; exact Iff.rfl
theorem rep_ro {ds : List D} : Rep Z G (.ro ds) v ↔ ∃ a xs, v = .ref a ∧ SqL Z.K G a xs ∧ Reps Z G ds xs := by unfold Rep; exact Iff.rfl
theorem rep_dct {ks : List Key} {ds : List D} : Rep Z G (.dct ks ds) v ↔ ∃ (a : Addr) (kvs : List (Key × V)), v = .ref a ∧ G a = some (.dK kvs) ∧ kvs.map (·.1) = ks ∧ Reps Z G ds (kvs.map (·.2)) := by unfold Rep; exact Iff.rfl
theorem rep_fn {j : Nat} : Rep Z G (.fn j) v ↔ v = .ref (Z.fa j) ∧ PySem.W.keepIn Z.K (.ref (Z.fa j)) = true := by unfold Rep; exact Iff.rfl
/-- what is asked behind a step from G, H, A -/
def Fin {α β : Type} (Z : Zt) (σ : St) (A : As) (G H : Hp) (RT : Hp → Hp → Hp → α → β → Prop) (a : α) (Q : β → Hp → Prop) : Prop :=
  ∀ v G' H', StR Z G' H' σ A → Ch σ A A G H G' H' → RT H G' H' a v → Q v H'
variable {σ : St} {A : As} {Q : VK}
theorem Fin.vl {d : D} (k : Fin Z σ A G H (RR Z) (.v d) Q) (s : StR Z G H σ A) {w : V} (r : Rep Z G d w) : Q w H := k w G H s .refl r
/-- a new object that stands still -/
theorem Fin.new {d : D} {o : HO} (k : Fin Z σ A G H (RR Z) (.v d) Q) (s : StR Z G H σ A) {p : Addr} (n : H p = none) (r : Rep Z (upd G p o) d (.ref p)) : Q (.ref p) (upd H p o) := by
  have g : G p = none := s.sub.none n
  exact k (.ref p) (upd G p o) (upd H p o) ((s.grow n).freeze g upd_same fun z => s.notOwn n z) ((Ch.refl.grow n).freeze g (.inl n)) r
theorem Fin.tup {ds : List D} {xs : List V} (k : Fin Z σ A G H (RR Z) (.v (.tup ds)) Q) (s : StR Z G H σ A) (r : Reps Z G ds xs) : ∀ p, H p = none → Q (.ref p) (upd H p (.tup xs)) := fun p n =>
  k.new s n (rep_tup.mpr ⟨p, xs, rfl, .of upd_same, r.mono (sub_upd (s.sub.none n))⟩)
/-- a new object of its own -/
theorem Fin.own {b : Ob} {o : HO} (k : Fin Z σ A G H (RR Z) (.o b) Q) (s : StR Z G H σ A) (r : OR Z G b o) : ∀ p, H p = none → Q (.ref p) (upd H p o) := fun p n =>
  k (.ref p) G (upd H p o) (s.grow n) (Ch.refl.grow n) ⟨p, o, rfl, n, s.sub.none n, upd_same, r⟩
theorem Fin.lst {ds : List D} {xs : List V} (k : Fin Z σ A G H (RR Z) (.o (.l ds)) Q) (s : StR Z G H σ A) (r : Reps Z G ds xs) : ∀ p, H p = none → Q (.ref p) (upd H p (.lst xs)) := k.own s ⟨xs, rfl, r⟩
theorem most_le : most ≤ sizeLine := by decide
theorem two_most : most + most ≤ sizeLine := by decide
theorem short_of {ds : List D} (h : short ds = true) : ds.length ≤ most := of_decide_eq_true h
theorem shortS_of {z : Str} (h : shortS z = true) : z.length ≤ most := of_decide_eq_true h
theorem sum_le {a b : Nat} (h1 : a ≤ most) (h2 : b ≤ most) : a + b ≤ sizeLine := Nat.le_trans (Nat.add_le_add h1 h2) two_most
/-- what an operator does, by the operator's rule -/
def OpOk (X : Cx) (Z : Zt) (f : Value → Value → Sem Value) (x y : D) (r : R) : Prop :=
  ∃ rr : R2, OpR X f rr ∧ ∀ (G H : Hp) (σ : St) (A : As) (v u : V) (Q : VK), StR Z G H σ A → Rep Z G x v → Rep Z G y u → Fin Z σ A G H (RR Z) r Q → rr v u H Q
theorem op_ok {X : Cx} (hK : X.K = Z.K) {o : Operator} {x y : D} {r : R} (h : doOp o x y = some r) : OpOk X Z (binaryOp o) x y r := by
  unfold doOp at h
  split at h
  · cases h
    refine ⟨_, op_add, fun G H σ A v u Q s a b k => ?_⟩
    exact ⟨_, _, rep_int.mp a, rep_int.mp b, k.vl s (rep_int.mpr rfl)⟩
  · split at h
    · rename_i c
      obtain ⟨c1, c2⟩ := Bool.and_eq_true_iff.mp c
      cases h
      refine ⟨_, op_add_str, fun G H σ A v u Q s a b k => ?_⟩
      exact ⟨_, _, rep_str.mp a, rep_str.mp b, sum_le (shortS_of c1) (shortS_of c2), k.vl s (rep_str.mpr rfl)⟩
    · cases h
  · split at h
    · rename_i a' b' c
      obtain ⟨c1, c2⟩ := Bool.and_eq_true_iff.mp c
      cases h
      refine ⟨_, op_catA, fun G H σ A v u Q s a b k => ?_⟩
      obtain ⟨p, xs, rfl, hp, ra⟩ := rep_tup.mp a
      obtain ⟨q, ys, rfl, hq, rb⟩ := rep_tup.mp b
      have l1 := ra.len
      have l2 := rb.len
      rw [hK]
      refine ⟨p, q, xs, ys, rfl, rfl, s.sub.sqt hp, s.sub.sqt hq, by rw [l1, l2]; exact sum_le (short_of c1) (short_of c2), fun e => ?_, fun _ e => ?_, fun _ _ => k.tup s (ra.append rb)⟩
      · subst e
        have e' : a' = [] := List.length_eq_zero_iff.mp l1.symm
        subst e'
        exact k.vl s b
      · subst e
        have e' : b' = [] := List.length_eq_zero_iff.mp l2.symm
        subst e'
        rw [List.append_nil] at k
        exact k.vl s a
    · cases h
  · split at h
    · rename_i a' b' c
      obtain ⟨c1, c2⟩ := Bool.and_eq_true_iff.mp c
      cases h
      refine ⟨_, op_cat, fun G H σ A v u Q s a b k => ?_⟩
      obtain ⟨p, xs, rfl, hp, ra⟩ := rep_lst.mp a
      obtain ⟨q, ys, rfl, hq, rb⟩ := rep_lst.mp b
      exact ⟨p, q, xs, ys, rfl, rfl, s.sub _ _ hp, s.sub _ _ hq, by rw [ra.len, rb.len]; exact sum_le (short_of c1) (short_of c2), k.lst s (ra.append rb)⟩
    · cases h
  · cases h
    refine ⟨_, op_sub, fun G H σ A v u Q s a b k => ?_⟩
    exact ⟨_, _, rep_int.mp a, rep_int.mp b, k.vl s (rep_int.mpr rfl)⟩
  · split at h
    · rename_i c
      cases h
      refine ⟨_, op_mul, fun G H σ A v u Q s a b k => ?_⟩
      refine ⟨_, _, rep_int.mp a, rep_int.mp b, ?_, k.vl s (rep_int.mpr rfl)⟩
      rcases Bool.or_eq_true_iff.mp c with c | c
      · exact .inl (of_decide_eq_true c)
      · exact .inr (of_decide_eq_true c)
    · cases h
  · split at h
    · rename_i a' k' c
      obtain ⟨c12, c3⟩ := Bool.and_eq_true_iff.mp c
      obtain ⟨c1, c2⟩ := Bool.and_eq_true_iff.mp c12
      have c1 := of_decide_eq_true c1
      have c2 := of_decide_eq_true c2
      have c3 := of_decide_eq_true c3
      cases h
      refine ⟨_, op_rep, fun G H σ A v u Q s a b k => ?_⟩
      obtain ⟨p, xs, rfl, hp, ra⟩ := rep_lst.mp a
      have l := ra.len
      have rr : ∀ n : Nat, Reps Z G (List.replicate n a').flatten (List.replicate n xs).flatten := fun n => by
        induction n with
        | zero => exact .nil
        | succ n ih => rw [List.replicate_succ, List.replicate_succ, List.flatten_cons, List.flatten_cons]; exact ra.append ih
      refine ⟨p, _, xs, rfl, rep_int.mp b, s.sub _ _ hp, by omega, by omega, ?_, k.lst s (rr _)⟩
      rw [l]
      have : a'.length * k'.toNat ≤ 1000 * 1000 := Nat.mul_le_mul c3 (by omega)
      exact Nat.le_trans this (by decide)
    · cases h
  · split at h
    · rename_i a' k' c
      obtain ⟨c, c4⟩ := Bool.and_eq_true_iff.mp c
      obtain ⟨c12, c3⟩ := Bool.and_eq_true_iff.mp c
      obtain ⟨c1, c2⟩ := Bool.and_eq_true_iff.mp c12
      have c1 := of_decide_eq_true c1
      have c2 := of_decide_eq_true c2
      have c3 := of_decide_eq_true c3
      have c4 := of_decide_eq_true c4
      cases h
      refine ⟨_, op_repT, fun G H σ A v u Q s a b k => ?_⟩
      obtain ⟨p, xs, rfl, hp, ra⟩ := rep_tup.mp a
      have l := ra.len
      have rr : ∀ n : Nat, Reps Z G (List.replicate n a').flatten (List.replicate n xs).flatten := fun n => by
        induction n with
        | zero => exact .nil
        | succ n ih => rw [List.replicate_succ, List.replicate_succ, List.flatten_cons, List.flatten_cons]; exact ra.append ih
      exact ⟨p, _, xs, rfl, rep_int.mp b, by rw [hK]; exact s.sub.sqt hp, fun z => by rw [z] at l; simp at l; omega, c1, c2, by omega, k.tup s (rr _)⟩
    · cases h
  · split at h
    · rename_i c
      cases h
      refine ⟨_, op_modN, fun G H σ A v u Q s a b k => ?_⟩
      exact ⟨_, _, rep_int.mp a, rep_int.mp b, of_decide_eq_true c, k.vl s (rep_int.mpr rfl)⟩
    · cases h
  · split at h
    · rename_i c
      obtain ⟨c1, c2⟩ := Bool.and_eq_true_iff.mp c
      cases h
      refine ⟨_, op_fdivN, fun G H σ A v u Q s a b k => ?_⟩
      exact ⟨_, _, rep_int.mp a, rep_int.mp b, ⟨of_decide_eq_true c1, of_decide_eq_true c2⟩, k.vl s (rep_int.mpr rfl)⟩
    · cases h
  · split at h
    · rename_i c
      obtain ⟨c1, c2⟩ := Bool.and_eq_true_iff.mp c
      have c1 := of_decide_eq_true c1
      cases h
      refine ⟨_, op_pow, fun G H σ A v u Q s a b k => ?_⟩
      exact ⟨_, _, rep_int.mp a, rep_int.mp b, ⟨c1.1, c1.2, of_decide_eq_true c2⟩, k.vl s (rep_int.mpr rfl)⟩
    · cases h
  · cases h

/-! ### comparisons -/
mutual
theorem dp_of (s : Sub G H) : ∀ {d : D} {x : PyData} {v : V}, toPD d = some x → Rep Z G d v → Dp Z.K H v x
  | .non, x, v, e, r => by
    unfold toPD at e
    cases e; rw [rep_non.mp r]; exact .non
  | .bl b, x, v, e, r => by
    unfold toPD at e
    cases e; rw [rep_bl.mp r]; exact .bl b
  | .int i, x, v, e, r => by
    unfold toPD at e
    cases e; rw [rep_int.mp r]; exact .int i
  | .str i, x, v, e, r => by
    unfold toPD at e
    cases e; rw [rep_str.mp r]; exact .str i
  | .tup ds, x, v, e, r => by
    unfold toPD at e
    obtain ⟨a, xs, rfl, hs, rs⟩ := rep_tup.mp r
    cases q : toPDs ds with
    | none => rw [q] at e; cases e
    | some ys =>
      rw [q] at e
      cases e
      exact .tup (s.sqt hs) (dps_of s q rs)
  | .lst ds, x, v, e, r => by
    unfold toPD at e
    obtain ⟨a, xs, rfl, hs, rs⟩ := rep_lst.mp r
    cases q : toPDs ds with
    | none => rw [q] at e; cases e
    | some ys =>
      rw [q] at e
      cases e
      exact .lst (.of (s _ _ hs)) (dps_of s q rs)
  | .dct _ _, x, v, e, r => by unfold toPD at e; cases e
  | .fn _, x, v, e, r => by unfold toPD at e; cases e
  | .ro _, x, v, e, r => by unfold toPD at e; cases e
theorem dps_of (s : Sub G H) : ∀ {ds : List D} {xs : List PyData} {vs : List V}, toPDs ds = some xs → Reps Z G ds vs → DpAll Z.K H vs xs
  | [], xs, vs, e, r => by
    unfold toPDs at e
    cases e; rw [r.inv0]; exact .nil
  | d :: ds, xs, vs, e, r => by
    unfold toPDs at e
    obtain ⟨w, ws, rfl, r1, r2⟩ := r.inv
    cases q1 : toPD d with
    | none => rw [q1] at e; cases e
    | some y =>
      cases q2 : toPDs ds with
      | none => rw [q1, q2] at e; cases e
      | some ys =>
        rw [q1, q2] at e
        cases e
        exact .cons (dp_of s q1 r1) (dps_of s q2 r2)
end
theorem eqD_inv {a b : D} {k : Bool} (h : eqD a b = some k) : ∃ x y, toPD a = some x ∧ toPD b = some y ∧ SeqAt.shaped x = true ∧ SeqAt.shaped y = true ∧ k = PyData.eqv x y := by
  unfold eqD at h
  split at h
  · rename_i x y e1 e2
    split at h
    · rename_i c
      obtain ⟨c1, c2⟩ := Bool.and_eq_true_iff.mp c
      cases h
      exact ⟨x, y, e1, e2, c1, c2, rfl⟩
    · cases h
  · cases h
theorem flat_rep {d : D} {v : V} (h : flatD d = true) (r : Rep Z G d v) : flatV v = true := by
  unfold flatD at h
  split at h
  · rw [rep_non.mp r]; rfl
  · rw [rep_bl.mp r]; rfl
  · rw [rep_int.mp r]; rfl
  · rw [rep_str.mp r]; rfl
  · cases h
theorem flats_rep : ∀ {ds : List D} {xs : List V}, ds.all flatD = true → Reps Z G ds xs → xs.all flatV = true
  | [], _, _, r => by rw [r.inv0]; rfl
  | d :: ds, _, h, r => by
    obtain ⟨v, vs, rfl, r1, r2⟩ := r.inv
    rw [List.all_cons] at h ⊢
    obtain ⟨h1, h2⟩ := Bool.and_eq_true_iff.mp h
    exact Bool.and_eq_true_iff.mpr ⟨flat_rep h1 r1, flats_rep h2 r2⟩
theorem eqF_rep {x y : D} {v u : V} (hx : flatD x = true) (hy : flatD y = true) (r1 : Rep Z G x v) (r2 : Rep Z G y u) : eqV v u = eqF x y := by
  unfold flatD at hx hy
  split at hx
  all_goals first | cases hx | skip
  all_goals split at hy
  all_goals first | cases hy | skip
  all_goals simp only [rep_non, rep_bl, rep_int, rep_str] at r1 r2
  all_goals subst r1
  all_goals subst r2
  all_goals first | rfl | (unfold eqV eqF; by_cases h : _ = _; first | rfl | simp [h] | simp)
theorem inSeq_rep {x : D} {v : V} (hx : flatD x = true) (r : Rep Z G x v) : ∀ {ds : List D} {xs : List V}, ds.all flatD = true → Reps Z G ds xs → inV v xs = ds.any fun y => eqF y x
  | [], _, _, q => by rw [q.inv0]; rfl
  | d :: ds, _, h, q => by
    obtain ⟨w, ws, rfl, r1, r2⟩ := q.inv
    rw [List.all_cons] at h
    obtain ⟨h1, h2⟩ := Bool.and_eq_true_iff.mp h
    have ih := inSeq_rep hx r h2 r2
    unfold inV at ih ⊢
    rw [List.any_cons, List.any_cons, ih, eqF_rep h1 hx r1 r]
end
end AI
/-! Comparisons, built-ins. -/
namespace AI
open PySem PySem.Spec L2
open PyProof.Rows hiding St
theorem ltL_lt : ∀ a b : List Nat, ltL a b = decide (a < b)
  | [], [] => by simp [ltL]
  | [], _ :: _ => by simp [ltL]
  | _ :: _, [] => by simp [ltL]
  | a :: l, b :: r => by
    unfold ltL
    by_cases h : a < b
    · rw [if_pos h]
      have : (a :: l) < (b :: r) := List.cons_lt_cons_iff.mpr (.inl h)
      exact (decide_eq_true this).symm
    · rw [if_neg h]
      by_cases e : a = b
      · rw [if_pos e, ltL_lt l r]
        subst e
        by_cases q : l < r
        · rw [decide_eq_true q]
          exact (decide_eq_true (List.cons_lt_cons_iff.mpr (.inr ⟨rfl, q⟩))).symm
        · rw [decide_eq_false q]
          refine (decide_eq_false fun z => ?_).symm
          rcases List.cons_lt_cons_iff.mp z with z | z
          · exact h z
          · exact q z.2
      · rw [if_neg e]
        refine (decide_eq_false fun z => ?_).symm
        rcases List.cons_lt_cons_iff.mp z with z | z
        · exact h z
        · exact e z.1
section
variable {Z : Zt} {G H : Hp} {v u : V} {σ : St} {A : As} {Q : VK}
theorem Fin.bl {k k' : Bool} (f : Fin Z σ A G H (RR Z) (.v (.bl k)) Q) (s : StR Z G H σ A) (e : k' = k) : Q (.bl k') H := by
  subst e
  exact f.vl s (rep_bl.mpr rfl)
theorem key_rep {x : D} {k : Key} (h : keyD x = some k) (r : Rep Z G x v) : v = kV k := by
  unfold keyD at h
  split at h
  · cases h; exact rep_int.mp r
  · cases h; exact rep_str.mp r
  · cases h
theorem valV_any {k : Key} : ∀ {kvs : List (Key × V)}, (valV kvs k).isSome = (kvs.map (·.1)).any fun x => decide (x = k)
  | [] => rfl
  | (a, x) :: r => by
    have ih := valV_any (k := k) (kvs := r)
    unfold valV at ih ⊢
    rw [List.find?_cons, List.map_cons, List.any_cons]
    by_cases h : a = k
    · simp [h]
    · simp only [h, decide_false, Bool.false_or]
      exact ih
theorem one_sign {c : Str} (h : c.length = 1) : ∃ n, c = ⟨#[n]⟩ := by
  obtain ⟨⟨l⟩⟩ := c
  have h' : l.length = 1 := h
  match l, h' with
  | [n], _ => exact ⟨n, rfl⟩
theorem in_ok {X : Cx} (hK : X.K = Z.K) (hu : X.A.units + 1 < cLine) {x y : D} {k : Bool} (h : doIn x y = some k) : OpOk X Z (compareOp .In) x y (.v (.bl k)) ∧ OpOk X Z (compareOp .NotIn) x y (.v (.bl (!k))) := by
  have seq : ∀ {ds : List D}, inSeq x ds = some k → (∀ (G H : Hp) (σ : St) (A : As) (u : V), StR Z G H σ A → Rep Z G y u → ∃ p xs, u = .ref p ∧ (SqL X.K H p xs ∨ SqT X.K H p xs) ∧ Reps Z G ds xs) →
      OpOk X Z (compareOp .In) x y (.v (.bl k)) ∧ OpOk X Z (compareOp .NotIn) x y (.v (.bl (!k))) := by
    intro ds e hs
    unfold inSeq at e
    split at e
    · rename_i c
      obtain ⟨c1, c2⟩ := Bool.and_eq_true_iff.mp c
      have e := Option.some.inj e
      refine ⟨⟨_, op_in_seq, fun G H σ A v u Q s a b f => ?_⟩, ⟨_, op_notIn_seq, fun G H σ A v u Q s a b f => ?_⟩⟩
      all_goals
        obtain ⟨p, xs, rfl, hq, rs⟩ := hs G H σ A u s b
        refine ⟨p, xs, rfl, hq, flat_rep c1 a, flats_rep c2 rs, ?_⟩
        have z := inSeq_rep c1 a c2 rs
      · rw [if_neg Bool.false_ne_true]
        exact f.bl s (z.trans e)
      · rw [if_pos rfl]
        exact f.bl s (by rw [z, e])
    · cases e
  unfold doIn at h
  split at h
  · refine seq h fun G H σ A u s r => ?_
    obtain ⟨p, xs, rfl, hp, rs⟩ := rep_lst.mp r
    exact ⟨p, xs, rfl, .inl (.of (s.sub _ _ hp)), rs⟩
  · refine seq h fun G H σ A u s r => ?_
    obtain ⟨p, xs, rfl, hp, rs⟩ := rep_tup.mp r
    exact ⟨p, xs, rfl, .inr (by rw [hK]; exact s.sub.sqt hp), rs⟩
  · split at h
    · rename_i kk hk
      have e := Option.some.inj h
      refine ⟨⟨fun x y H Q => ∃ a o, y = .ref a ∧ DGet H a x o ∧ Q (.bl o.isSome) H, fun pins s σ H x y v u Q I rx ry q => ?_, fun G H σ A v u Q s a b f => ?_⟩,
        ⟨fun x y H Q => ∃ a o, y = .ref a ∧ DGet H a x o ∧ Q (.bl (!o.isSome)) H, fun pins s σ H x y v u Q I rx ry q => ?_, fun G H σ A v u Q s a b f => ?_⟩⟩
      · obtain ⟨a, o, rfl, g, q⟩ := q
        obtain rfl : u = Value.ref a := ry
        exact d_in hu I g rx fun s3 I3 => ⟨.bl o.isSome, H, I3, rfl, q⟩
      · obtain ⟨p, kvs, rfl, hp, hks, rs⟩ := rep_dct.mp b
        have hv := key_rep hk a
        subst hv
        exact ⟨p, _, rfl, DGet.k (s.sub _ _ hp), f.bl s (by rw [valV_any, hks]; exact e)⟩
      · obtain ⟨a, o, rfl, g, q⟩ := q
        obtain rfl : u = Value.ref a := ry
        exact d_notIn hu I g rx fun s3 I3 => ⟨.bl (!o.isSome), H, I3, rfl, q⟩
      · obtain ⟨p, kvs, rfl, hp, hks, rs⟩ := rep_dct.mp b
        have hv := key_rep hk a
        subst hv
        exact ⟨p, _, rfl, DGet.k (s.sub _ _ hp), f.bl s (by rw [valV_any, hks, e])⟩
    · cases h
  · split at h
    · rename_i z _ c
      split at h
      · rename_i hc
        obtain ⟨n, rfl⟩ := one_sign hc
        have e := Option.some.inj h
        have e2 : decide (n ∈ z.cps.toList) = k := by
          rw [← e]
          have : ∀ l : List Nat, decide (n ∈ l) = l.any fun y => decide (((⟨#[n]⟩ : Str).cps.toList) = [y]) := fun l => by
            induction l with
            | nil => rfl
            | cons a r ih =>
              rw [List.any_cons, ← ih]
              by_cases q : n = a
              · subst q; simp
              · have q2 : ¬ (⟨#[n]⟩ : Str).cps.toList = [a] := fun w => q (by simpa using w)
                rw [decide_eq_false q2, Bool.false_or]
                simp [q]
          exact this _
        refine ⟨⟨_, op_in_sign, fun G H σ A v u Q s a b f => ?_⟩, ⟨_, op_notIn_sign, fun G H σ A v u Q s a b f => ?_⟩⟩
        · exact ⟨n, z, rep_str.mp a, rep_str.mp b, f.bl s e2⟩
        · exact ⟨n, z, rep_str.mp a, rep_str.mp b, f.bl s (by rw [e2])⟩
      · cases h
    · cases h
  · cases h
theorem non_dec {a : D} (r : Rep Z G a v) : decide (v = .non) = isNon a := by
  cases a with
  | non => rw [rep_non.mp r]; rfl
  | bl b => rw [rep_bl.mp r]; rfl
  | int i => rw [rep_int.mp r]; rfl
  | str i => rw [rep_str.mp r]; rfl
  | tup ds => obtain ⟨p, xs, rfl, _⟩ := rep_tup.mp r; rfl
  | lst ds => obtain ⟨p, xs, rfl, _⟩ := rep_lst.mp r; rfl
  | ro ds => obtain ⟨p, xs, rfl, _⟩ := rep_ro.mp r; rfl
  | dct ks ds => obtain ⟨p, xs, rfl, _⟩ := rep_dct.mp r; rfl
  | fn j => rw [(rep_fn.mp r).1]; rfl
theorem cmp_ok {X : Cx} (hK : X.K = Z.K) (hu : X.A.units + 64 < cLine) {o : CmpOp} {x y : D} {k : Bool} (h : doCmp o x y = some k) : OpOk X Z (compareOp o) x y (.v (.bl k)) := by
  unfold doCmp at h
  split at h
  · obtain ⟨p, q, e1, e2, s1, s2, rfl⟩ := eqD_inv h
    refine ⟨_, op_eqD hu, fun G H σ A v u Q s a b f => ?_⟩
    rw [hK]
    exact ⟨p, q, dp_of s.sub e1 a, dp_of s.sub e2 b, s1, s2, f.bl s rfl⟩
  · cases e : eqD x y with
    | none => rw [e] at h; cases h
    | some k' =>
      rw [e] at h
      have h := Option.some.inj h
      obtain ⟨p, q, e1, e2, s1, s2, rfl⟩ := eqD_inv e
      refine ⟨_, op_neD hu, fun G H σ A v u Q s a b f => ?_⟩
      rw [hK]
      exact ⟨p, q, dp_of s.sub e1 a, dp_of s.sub e2 b, s1, s2, f.bl s h⟩
  · refine ⟨_, op_lt, fun G H σ A v u Q s a b f => ⟨_, _, rep_int.mp a, rep_int.mp b, f.bl s (Option.some.inj h)⟩⟩
  · refine ⟨_, op_le, fun G H σ A v u Q s a b f => ⟨_, _, rep_int.mp a, rep_int.mp b, f.bl s (Option.some.inj h)⟩⟩
  · refine ⟨_, op_gt, fun G H σ A v u Q s a b f => ⟨_, _, rep_int.mp a, rep_int.mp b, f.bl s (Option.some.inj h)⟩⟩
  · refine ⟨_, op_ge, fun G H σ A v u Q s a b f => ⟨_, _, rep_int.mp a, rep_int.mp b, f.bl s (Option.some.inj h)⟩⟩
  · refine ⟨_, op_lt_str, fun G H σ A v u Q s a b f => ⟨_, _, rep_str.mp a, rep_str.mp b, f.bl s ?_⟩⟩
    rw [← ltL_lt]
    exact Option.some.inj h
  · exact (in_ok hK (by omega) h).1
  · cases e : doIn x y with
    | none => rw [e] at h; cases h
    | some k' =>
      rw [e] at h
      have h := Option.some.inj h
      rw [← h]
      exact (in_ok hK (by omega) e).2
  · refine ⟨_, op_isN, fun G H σ A v u Q s a b f => ⟨rep_non.mp b, f.bl s ?_⟩⟩
    rw [non_dec a]
    exact Option.some.inj h
  · refine ⟨_, op_notN, fun G H σ A v u Q s a b f => ⟨rep_non.mp b, f.bl s ?_⟩⟩
    rw [non_dec a]
    exact Option.some.inj h
  · refine ⟨_, op_isBl, fun G H σ A v u Q s a b f => ⟨_, _, rep_bl.mp a, rep_bl.mp b, f.bl s (Option.some.inj h)⟩⟩
  · refine ⟨_, op_notBl, fun G H σ A v u Q s a b f => ⟨_, _, rep_bl.mp a, rep_bl.mp b, f.bl s (Option.some.inj h)⟩⟩
  · cases h

/-! ### truth -/
theorem tru_ok {d : D} {k : Bool} (h : truD d = some k) (s : Sub G H) (r : Rep Z G d v) : TruV Z.K v H k := by
  unfold truD at h
  split at h
  · rw [rep_non.mp r]; exact (Option.some.inj h).symm
  · rw [rep_bl.mp r]; exact (Option.some.inj h).symm
  · rw [rep_int.mp r]; exact (Option.some.inj h).symm
  · split at h
    · rename_i c
      rw [rep_str.mp r]
      refine ⟨Nat.le_trans (shortS_of c) most_le, ?_⟩
      rw [← Option.some.inj h]
      rename_i z
      cases e : z.length with
      | zero => rfl
      | succ n =>
        have : ((n + 1 : Nat) : Int) ≠ 0 := by omega
        rw [bne_iff_ne.mpr this]
        simp
    · cases h
  · obtain ⟨p, xs, rfl, hp, rs⟩ := rep_lst.mp r
    refine .inl ⟨xs, .of (s _ _ hp), ?_⟩
    rw [← Option.some.inj h]
    rename_i ds
    cases ds with
    | nil => rw [rs.inv0]; rfl
    | cons d ds => obtain ⟨w, ws, rfl, _⟩ := rs.inv; rfl
  · obtain ⟨p, xs, rfl, hp, rs⟩ := rep_tup.mp r
    refine .inr (.inl ⟨xs, s.sqt hp, ?_⟩)
    rw [← Option.some.inj h]
    rename_i ds
    cases ds with
    | nil => rw [rs.inv0]; rfl
    | cons d ds => obtain ⟨w, ws, rfl, _⟩ := rs.inv; rfl
  · cases h

/-! ### isinstance -/
def tyOf : D → String
  | .non => "NoneType"
  | .bl _ => "bool"
  | .int _ => "int"
  | .str _ => "str"
  | .tup _ => "tuple"
  | .lst _ => "list"
  | _ => ""
def Ty.nm : Ty → String
  | .tInt => "int"
  | .tBool => "bool"
  | .tStr => "str"
  | .tList => "list"
  | .tTuple => "tuple"
theorem tyx_of {d : D} (h : isAtom d = true) (s : Sub G H) (r : Rep Z G d v) : TyX Z.K H v (.type (tyOf d)) := by
  cases d with
  | non => rw [rep_non.mp r]; exact .base .non
  | bl b => rw [rep_bl.mp r]; exact .base (.bl b)
  | int i => rw [rep_int.mp r]; exact .base (.int i)
  | str i => rw [rep_str.mp r]; exact .base (.str i)
  | tup ds =>
    obtain ⟨p, xs, rfl, hp, rs⟩ := rep_tup.mp r
    rcases s.sqt hp with (h | ⟨o, h⟩) | ⟨o, its, n, hk, hc, _⟩
    · exact .base (.tup h)
    · exact .fTuple h
    · exact .kTuple hk hc
  | lst ds =>
    obtain ⟨p, xs, rfl, hp, rs⟩ := rep_lst.mp r
    exact .base (.lst (s _ _ hp))
  | ro ds => cases h
  | dct ks ds => cases h
  | fn j => cases h
theorem kit_d {K : PySem.W.Frag} {d : D} (h : isAtom d = true) (t : Ty) : PySem.W.kitOne K (.type (tyOf d)) (.type t.nm) = some (isTy d t) := by
  refine kit_ty ?_
  have e0 : ∀ t : Ty, kitB "NoneType" t.nm = some false := by intro t; cases t <;> decide +kernel
  have e1 : ∀ t : Ty, kitB "bool" t.nm = some (match t with | .tInt => true | .tBool => true | _ => false) := by intro t; cases t <;> decide +kernel
  have e2 : ∀ t : Ty, kitB "int" t.nm = some (match t with | .tInt => true | _ => false) := by intro t; cases t <;> decide +kernel
  have e3 : ∀ t : Ty, kitB "str" t.nm = some (match t with | .tStr => true | _ => false) := by intro t; cases t <;> decide +kernel
  have e4 : ∀ t : Ty, kitB "tuple" t.nm = some (match t with | .tTuple => true | _ => false) := by intro t; cases t <;> decide +kernel
  have e5 : ∀ t : Ty, kitB "list" t.nm = some (match t with | .tList => true | _ => false) := by intro t; cases t <;> decide +kernel
  cases d with
  | ro ds => cases h
  | dct ks ds => cases h
  | fn j => cases h
  | non => exact (e0 t).trans (by cases t <;> rfl)
  | bl b => exact (e1 t).trans (by cases t <;> rfl)
  | int i => exact (e2 t).trans (by cases t <;> rfl)
  | str i => exact (e3 t).trans (by cases t <;> rfl)
  | tup ds => exact (e4 t).trans (by cases t <;> rfl)
  | lst ds => exact (e5 t).trans (by cases t <;> rfl)
theorem kits_d {K : PySem.W.Frag} {d : D} (h : isAtom d = true) : ∀ ts : List Ty, PySem.W.kitAny K (.type (tyOf d)) (ts.map fun t => .type t.nm) = some (ts.any (isTy d))
  | [] => rfl
  | t :: ts => by
    rw [List.map_cons, List.any_cons]
    refine kitAny_cons (kit_d h t) (fun e => ?_) (fun e => ?_)
    · rw [e, Bool.false_or]; exact kits_d h ts
    · rw [e, Bool.true_or]
end
end AI
/-! Built-ins by values. -/
namespace AI
open PySem PySem.Spec L2
open PyProof.Rows hiding St
section
variable {Z : Zt} {G H : Hp} {v u : V} {σ : St} {A : As} {Q : VK}
/-- a value that stands still, or the own object of somebody, only looked at -/
def RP (Z : Zt) (G H : Hp) (d : D) (v : V) : Prop := Rep Z G d v ∨ ∃ p o b, v = .ref p ∧ G p = none ∧ H p = some o ∧ OR Z G b o ∧ d = b.dd
def RPs (Z : Zt) (G H : Hp) : List D → List V → Prop
  | [], xs => xs = []
  | d :: ds, xs => ∃ v vs, xs = v :: vs ∧ RP Z G H d v ∧ RPs Z G H ds vs
theorem RP.of {d : D} (r : Rep Z G d v) : RP Z G H d v := .inl r
theorem RP.bl {b : Bool} (r : RP Z G H (.bl b) v) : v = .bl b := by
  rcases r with r | ⟨p, o, b, _, _, _, _, e⟩
  · exact rep_bl.mp r
  · cases b <;> cases e
theorem RP.int {i : Int} (r : RP Z G H (.int i) v) : v = .int i := by
  rcases r with r | ⟨p, o, b, _, _, _, _, e⟩
  · exact rep_int.mp r
  · cases b <;> cases e
theorem RP.str {i : Str} (r : RP Z G H (.str i) v) : v = .str i := by
  rcases r with r | ⟨p, o, b, _, _, _, _, e⟩
  · exact rep_str.mp r
  · cases b <;> cases e
theorem RP.tup {ds : List D} (r : RP Z G H (.tup ds) v) (s : Sub G H) : ∃ p xs, v = .ref p ∧ SqT Z.K H p xs ∧ SqT Z.K G p xs ∧ Reps Z G ds xs := by
  rcases r with r | ⟨p, o, b, _, _, _, _, e⟩
  · obtain ⟨p, xs, e, h, r⟩ := rep_tup.mp r
    exact ⟨p, xs, e, s.sqt h, h, r⟩
  · cases b <;> cases e
theorem RP.ro {ds : List D} (r : RP Z G H (.ro ds) v) (s : Sub G H) : ∃ p xs, v = .ref p ∧ SqL Z.K H p xs ∧ Reps Z G ds xs := by
  rcases r with r | ⟨p, o, b, _, _, _, _, e⟩
  · obtain ⟨p, xs, e, h, r⟩ := rep_ro.mp r
    exact ⟨p, xs, e, s.sql h, r⟩
  · cases b <;> cases e
theorem RP.lst {ds : List D} (r : RP Z G H (.lst ds) v) (s : Sub G H) : ∃ p xs, v = .ref p ∧ H p = some (.lst xs) ∧ Reps Z G ds xs := by
  rcases r with r | ⟨p, o, b, ev, gp, hp, ro, e⟩
  · obtain ⟨p, xs, e, h, r⟩ := rep_lst.mp r
    exact ⟨p, xs, e, s _ _ h, r⟩
  · cases b with
    | l es =>
      cases e
      obtain ⟨xs, rfl, r⟩ := ro
      exact ⟨p, xs, ev, hp, r⟩
    | d ks es => cases e
theorem RPs.inv {d : D} {ds : List D} {xs : List V} (h : RPs Z G H (d :: ds) xs) : ∃ v vs, xs = v :: vs ∧ RP Z G H d v ∧ RPs Z G H ds vs := h
theorem RPs.one {d : D} {xs : List V} (h : RPs Z G H [d] xs) : ∃ v, xs = [v] ∧ RP Z G H d v := by
  obtain ⟨v, vs, rfl, r, h⟩ := h
  have : vs = [] := h
  subst this
  exact ⟨v, rfl, r⟩
theorem RPs.two {d e : D} {xs : List V} (h : RPs Z G H [d, e] xs) : ∃ v u, xs = [v, u] ∧ RP Z G H d v ∧ RP Z G H e u := by
  obtain ⟨v, vs, rfl, r, h⟩ := h
  obtain ⟨u, us, rfl, r2, h⟩ := h
  have : us = [] := h
  subst this
  exact ⟨v, u, rfl, r, r2⟩
/-! ### lists of one kind -/
theorem ints_rep : ∀ {ds : List D} {is : List Int} {xs : List V}, intsD ds = some is → Reps Z G ds xs → xs = is.map V.int
  | [], is, xs, e, r => by
    unfold intsD at e
    cases e
    rw [r.inv0]; rfl
  | .int i :: ds, is, xs, e, r => by
    unfold intsD at e
    obtain ⟨w, ws, rfl, r1, r2⟩ := r.inv
    cases q : intsD ds with
    | none => rw [q] at e; cases e
    | some js =>
      rw [q] at e
      cases e
      rw [rep_int.mp r1, ints_rep q r2]; rfl
  | .non :: _, _, _, e, _ => by unfold intsD at e; cases e
  | .bl _ :: _, _, _, e, _ => by unfold intsD at e; cases e
  | .str _ :: _, _, _, e, _ => by unfold intsD at e; cases e
  | .tup _ :: _, _, _, e, _ => by unfold intsD at e; cases e
  | .lst _ :: _, _, _, e, _ => by unfold intsD at e; cases e
  | .dct _ _ :: _, _, _, e, _ => by unfold intsD at e; cases e
  | .fn _ :: _, _, _, e, _ => by unfold intsD at e; cases e
  | .ro _ :: _, _, _, e, _ => by unfold intsD at e; cases e
theorem strs_rep : ∀ {ds : List D} {is : List Str} {xs : List V}, strsD ds = some is → Reps Z G ds xs → xs = is.map V.str
  | [], is, xs, e, r => by
    unfold strsD at e
    cases e
    rw [r.inv0]; rfl
  | .str i :: ds, is, xs, e, r => by
    unfold strsD at e
    obtain ⟨w, ws, rfl, r1, r2⟩ := r.inv
    cases q : strsD ds with
    | none => rw [q] at e; cases e
    | some js =>
      rw [q] at e
      cases e
      rw [rep_str.mp r1, strs_rep q r2]; rfl
  | .non :: _, _, _, e, _ => by unfold strsD at e; cases e
  | .bl _ :: _, _, _, e, _ => by unfold strsD at e; cases e
  | .int _ :: _, _, _, e, _ => by unfold strsD at e; cases e
  | .tup _ :: _, _, _, e, _ => by unfold strsD at e; cases e
  | .lst _ :: _, _, _, e, _ => by unfold strsD at e; cases e
  | .dct _ _ :: _, _, _, e, _ => by unfold strsD at e; cases e
  | .fn _ :: _, _, _, e, _ => by unfold strsD at e; cases e
  | .ro _ :: _, _, _, e, _ => by unfold strsD at e; cases e
theorem bls_rep : ∀ {ds : List D} {is : List Bool} {xs : List V}, bls ds = some is → Reps Z G ds xs → xs = is.map V.bl
  | [], is, xs, e, r => by
    unfold bls at e
    cases e
    rw [r.inv0]; rfl
  | .bl i :: ds, is, xs, e, r => by
    unfold bls at e
    obtain ⟨w, ws, rfl, r1, r2⟩ := r.inv
    cases q : bls ds with
    | none => rw [q] at e; cases e
    | some js =>
      rw [q] at e
      cases e
      rw [rep_bl.mp r1, bls_rep q r2]; rfl
  | .non :: _, _, _, e, _ => by unfold bls at e; cases e
  | .str _ :: _, _, _, e, _ => by unfold bls at e; cases e
  | .int _ :: _, _, _, e, _ => by unfold bls at e; cases e
  | .tup _ :: _, _, _, e, _ => by unfold bls at e; cases e
  | .lst _ :: _, _, _, e, _ => by unfold bls at e; cases e
  | .dct _ _ :: _, _, _, e, _ => by unfold bls at e; cases e
  | .fn _ :: _, _, _, e, _ => by unfold bls at e; cases e
  | .ro _ :: _, _, _, e, _ => by unfold bls at e; cases e
theorem reps_int : ∀ is : List Int, Reps Z G (is.map D.int) (is.map V.int)
  | [] => .nil
  | i :: r => .cons (rep_int.mpr rfl) (reps_int r)
theorem reps_str : ∀ is : List Str, Reps Z G (is.map D.str) (is.map V.str)
  | [] => .nil
  | i :: r => .cons (rep_str.mpr rfl) (reps_str r)
/-! ### sorting -/
theorem insI_perm (x : Int) : ∀ l : List Int, (insI x l).Perm (x :: l)
  | [] => .refl _
  | y :: r => by
    unfold insI
    split
    · exact .refl _
    · exact ((insI_perm x r).cons y).trans (.swap x y r)
theorem sortI_perm : ∀ l : List Int, (sortI l).Perm l
  | [] => .refl _
  | x :: r => (insI_perm x _).trans ((sortI_perm r).cons x)
theorem insI_pw (x : Int) : ∀ l : List Int, l.Pairwise (· ≤ ·) → (insI x l).Pairwise (· ≤ ·)
  | [], _ => by unfold insI; simp
  | y :: r, h => by
    unfold insI
    split
    · rename_i c
      refine List.pairwise_cons.mpr ⟨fun z hz => ?_, h⟩
      rcases List.mem_cons.mp hz with rfl | hz
      · exact c
      · exact Int.le_trans c ((List.pairwise_cons.mp h).1 z hz)
    · rename_i c
      refine List.pairwise_cons.mpr ⟨fun z hz => ?_, insI_pw x r (List.pairwise_cons.mp h).2⟩
      rcases List.mem_cons.mp ((insI_perm x r).mem_iff.mp hz) with rfl | hz
      · omega
      · exact (List.pairwise_cons.mp h).1 z hz
theorem sortI_pw : ∀ l : List Int, (sortI l).Pairwise (· ≤ ·)
  | [] => List.Pairwise.nil
  | x :: r => insI_pw x _ (sortI_pw r)
theorem sorted_unique {l r : List Int} (h : l.Perm r) (a : l.Pairwise (· ≤ ·)) (b : r.Pairwise (· ≤ ·)) : l = r :=
  h.eq_of_pairwise (fun x y _ _ h1 h2 => Int.le_antisymm h1 h2) a b
theorem ltL_irr : ∀ a : List Nat, ltL a a = false
  | [] => rfl
  | a :: l => by
    unfold ltL
    rw [if_neg (Nat.lt_irrefl a), if_pos rfl]
    exact ltL_irr l
theorem ltL_asym : ∀ a b : List Nat, ltL a b = true → ltL b a = false
  | _, [], h => by unfold ltL at h; cases ‹List Nat› <;> cases h
  | [], _ :: _, _ => by unfold ltL; rfl
  | a :: l, b :: r, h => by
    unfold ltL at h ⊢
    by_cases c : a < b
    · rw [if_neg (by omega), if_neg (by omega)]
    · rw [if_neg c] at h
      by_cases e : a = b
      · rw [if_pos e] at h
        rw [if_neg (by omega), if_pos e.symm]
        exact ltL_asym l r h
      · rw [if_neg e] at h; cases h
theorem ltL_anti : ∀ a b : List Nat, ltL a b = false → ltL b a = false → a = b
  | [], [], _, _ => rfl
  | [], _ :: _, h, _ => by unfold ltL at h; cases h
  | _ :: _, [], _, h => by unfold ltL at h; cases h
  | a :: l, b :: r, h, k => by
    unfold ltL at h k
    by_cases c : a < b
    · rw [if_pos c] at h; cases h
    · by_cases d : b < a
      · rw [if_pos d] at k; cases k
      · have e : a = b := by omega
        subst e
        rw [if_neg c, if_pos rfl] at h
        rw [if_neg c, if_pos rfl] at k
        rw [ltL_anti l r h k]
theorem ltL_trans' : ∀ a b c : List Nat, ltL b a = false → ltL c b = false → ltL c a = false
  | [], _, [], _, _ => rfl
  | [], _, _ :: _, _, _ => by unfold ltL; rfl
  | _ :: _, [], _, h1, _ => by unfold ltL at h1; cases h1
  | _ :: _, _ :: _, [], _, h => by unfold ltL at h; cases h
  | x :: l, y :: r, z :: c, h1, h2 => by
    unfold ltL at h1 h2 ⊢
    by_cases p : y < x
    · rw [if_pos p] at h1; cases h1
    · rw [if_neg p] at h1
      by_cases q : z < y
      · rw [if_pos q] at h2; cases h2
      · rw [if_neg q] at h2
        rw [if_neg (by omega)]
        by_cases e : z = x
        · have e1 : y = x := by omega
          have e2 : z = y := by omega
          rw [if_pos e]
          rw [if_pos e1] at h1
          rw [if_pos e2] at h2
          exact ltL_trans' l r c h1 h2
        · rw [if_neg e]
theorem str_cps {a b : Str} (h : a.cps.toList = b.cps.toList) : a = b := by
  obtain ⟨⟨x⟩⟩ := a
  obtain ⟨⟨y⟩⟩ := b
  have h' : x = y := h
  rw [h']
def leS (a b : Str) : Prop := ltS b a = false
theorem insS_perm (x : Str) : ∀ l : List Str, (insS x l).Perm (x :: l)
  | [] => .refl _
  | y :: r => by
    unfold insS
    split
    · exact ((insS_perm x r).cons y).trans (.swap x y r)
    · exact .refl _
theorem sortS_perm : ∀ l : List Str, (sortS l).Perm l
  | [] => .refl _
  | x :: r => (insS_perm x _).trans ((sortS_perm r).cons x)
theorem insS_pw (x : Str) : ∀ l : List Str, l.Pairwise leS → (insS x l).Pairwise leS
  | [], _ => by unfold insS; simp
  | y :: r, h => by
    unfold insS
    split
    · rename_i c
      refine List.pairwise_cons.mpr ⟨fun z hz => ?_, insS_pw x r (List.pairwise_cons.mp h).2⟩
      rcases List.mem_cons.mp ((insS_perm x r).mem_iff.mp hz) with rfl | hz
      · exact ltL_asym _ _ c
      · exact (List.pairwise_cons.mp h).1 z hz
    · rename_i c
      refine List.pairwise_cons.mpr ⟨fun z hz => ?_, h⟩
      have c' : ltS y x = false := by
        cases q : ltS y x with
        | false => rfl
        | true => exact absurd q c
      rcases List.mem_cons.mp hz with rfl | hz
      · exact c'
      · exact ltL_trans' _ _ _ c' ((List.pairwise_cons.mp h).1 z hz)
theorem sortS_pw : ∀ l : List Str, (sortS l).Pairwise leS
  | [] => List.Pairwise.nil
  | x :: r => insS_pw x _ (sortS_pw r)
theorem sortedS_uniqueS {l r : List Str} (h : l.Perm r) (a : l.Pairwise leS) (b : r.Pairwise leS) : l = r :=
  h.eq_of_pairwise (fun x y _ _ h1 h2 => str_cps (ltL_anti _ _ h2 h1)) a b
end
end AI
/-! sorted of a tuple. -/
namespace AI
open PySem PySem.Spec L2
open PyProof.Rows hiding St
section
variable {prog : Program} {w : World} {A : Around} {E : Value → Shared → Prop} {s : Shared}
theorem collect_tup {l : Addr} {vs : List Value} {Q : List Value → Shared → Prop} (hl : IsTup s.heap l vs.toArray) (usz : vs.length ≤ sizeLine)
    (h : Q vs { s with heap := (s.heap.push (seqObj "list" #[] 0)).update s.heap.objs.size (Obj.mapSeq (· ++ vs.toArray)) }) : wpAny (model prog w) A (collect (.ref l)) Q E s := by
  obtain ⟨o, uo, hc, n, ud⟩ := id hl
  unfold collect
  refine wpAny_bind (wpAny_runValue (codeAny_builtin entry_proto_collect' (show wpAny _ _ (do again (.builtin "list.__iadd__" ⟨[← newList [], .ref l], []⟩)) _ _ s from
    wpAny_bind (wpAny_newList (wpAny_pure ⟨Code.quiet_builtin _ (by decide +kernel), codeAny_builtin entry_list_iadd' ?_⟩)))))
  show wpAny _ _ (Builtin.List.listExtendWith (.ref s.heap.objs.size) (.ref l) (.ref s.heap.objs.size)) _ _ { s with heap := s.heap.push (seqObj "list" #[] 0) }
  have uo2 : (s.heap.push (seqObj "list" #[] 0)).get? l = some o := Heap.get?_push_of_some _ uo
  unfold Builtin.List.listExtendWith
  refine wpAny_bind (wpAny_typeOf (T := "tuple") ⟨o, uo2, hc⟩ ?_)
  rw [if_pos (by rw [show (Value.type "tuple" == Value.type "tuple") = true from rfl, Bool.or_true])]
  refine wpAny_bind (listItems_at uo2 ud (wpAny_bind (listItems_at (xs := #[]) (n := 0) (Heap.get?_push_size _ rfl) rfl ?_)))
  rw [if_neg (by simp)]
  refine wpAny_bind (listUpdate_at (xs := #[]) (n := 0) (Heap.get?_push_size _ rfl) rfl (wpAny_pure ?_) (Nat.zero_le _) (by show (#[] ++ vs.toArray).size ≤ sizeLine + 1; simp only [Array.size_append, List.size_toArray, List.length_nil]; omega))
  show wpAny (model prog w) A (do
      let o ← load s.heap.objs.size
      match o.data with | .seq xs _ => pure xs.toList | _ => unsupported "internal:collect") Q E { s with heap := (s.heap.push (seqObj "list" #[] 0)).update s.heap.objs.size (Obj.mapSeq (· ++ vs.toArray)) }
  refine wpAny_bind (wpAny_load (get?_update_seq (Heap.get?_push_size _ rfl) _) ?_)
  show wpAny _ _ (pure ((#[] : Array Value) ++ vs.toArray).toList) Q E _
  have e : ((#[] : Array Value) ++ vs.toArray).toList = vs := by simp
  rw [e]
  exact wpAny_pure h
theorem sortedTK {κ : KeyKind} (hO : κ.OneLt) {l : Addr} {vs : List Value} {Q : Value → Shared → Prop} (hl : IsTup s.heap l vs.toArray) (h0 : KeysOf κ (pairsOf vs)) (hkk : ∀ v₁ v₂ rest, vs = v₁ :: v₂ :: rest → keyKind' (v₁ :: v₂ :: rest).toArray = pure oneType') (h64 : vs.length < 64)
    (h : ∀ st' : SortSt, (arrOf st').Perm (pairsOf vs) → SortedToK κ (arrOf st') (pairsOf vs).size → Q (.ref (s.heap.objs.size + 1)) { s with heap := sortedAll s.heap vs ((arrOf st').map (·.2)) }) :
    wpAny (model prog w) A (call (.builtin "sorted") [.ref l]) Q E s := by
  have uz : vs.length ≤ sizeLine := by rw [sizeLine_eq]; omega
  refine Calls.call_function_entry kind_sorted plain_sorted entry_sorted (args_sorted1 _) (show wpAny _ _ (Builtin.«sorted» ⟨[.ref l], []⟩) _ _ s from ?_)
  unfold Builtin.«sorted»
  refine wpAny_bind (m := checkCount "sorted" 1 1 _) (wpAny_pure (wpAny_bind (collect_tup hl uz (wpAny_bind (wpAny_newList ?_)))))
  have us1 : ((s.heap.push (seqObj "list" #[] 0)).update s.heap.objs.size (Obj.mapSeq (· ++ vs.toArray))).objs.size = s.heap.objs.size + 1 := by rw [Heap.size_update, size_push']
  have uoL : (((s.heap.push (seqObj "list" #[] 0)).update s.heap.objs.size (Obj.mapSeq (· ++ vs.toArray))).push (seqObj "list" vs.toArray 0)).get? (s.heap.objs.size + 1) = some (seqObj "list" vs.toArray 0) := by rw [← us1]; exact Heap.get?_push_size _ rfl
  show wpAny _ _ _ _ _ { s with heap := ((s.heap.push (seqObj "list" #[] 0)).update s.heap.objs.size (Obj.mapSeq (· ++ vs.toArray))).push (seqObj "list" vs.toArray 0) }
  rw [us1]
  exact wpAny_bind (wpAny_holding (wpAny_call_entry slot_list_sort ⟨_, uoL, rfl⟩ entry_list_sort (list_sort_treeK hO uoL h0 hkk h64 fun st' a1 a2 => ⟨_, rfl, wpAny_pure ⟨_, rfl, h st' a1 a2⟩⟩) (args_list_sort _)))
theorem sortedT_strs {l : Addr} {vs : List Value} {ss : List Str} {Q : Value → Shared → Prop} (hl : IsTup s.heap l vs.toArray) (uS : StrsAre vs ss) (h64 : vs.length < 64)
    (h : ∀ (out : Array Value) (ss' : List Str), StrsAre out.toList ss' → ss'.Perm ss → sortedS ss' = true → Q (.ref (s.heap.objs.size + 1)) { s with heap := sortedAll s.heap vs out }) : wpAny (model prog w) A (call (.builtin "sorted") [.ref l]) Q E s :=
  sortedTK strKind_oneLt hl uS.keysOf (fun v₁ v₂ rest e => keyKind_strs (by rw [← e]; exact uS)) h64 fun st' hp hs => by
    obtain ⟨ss', h1, h2, h3⟩ := sorted_out_str uS hp hs
    exact h _ ss' h1 h2 h3
theorem sortedT_ints {l : Addr} {vs : List Value} {ns : List Int} {Q : Value → Shared → Prop} (hl : IsTup s.heap l vs.toArray) (hI : IntsAre vs ns) (h64 : vs.length < 64)
    (h : ∀ (out : Array Value) (ns' : List Int), IntsAre out.toList ns' → ns'.Perm ns → ns'.Pairwise (· ≤ ·) → Q (.ref (s.heap.objs.size + 1)) { s with heap := sortedAll s.heap vs out }) : wpAny (model prog w) A (call (.builtin "sorted") [.ref l]) Q E s :=
  sortedTK intKind_oneLt hl hI.keysOfInt (fun v₁ v₂ rest e => keyKind_ints (by rw [← e]; exact hI)) h64 fun st' hp hs => by
    obtain ⟨ns', h1, h2, h3⟩ := sorted_out hI hp (sortedTo_of_int hs)
    exact h _ ns' h1 h2 h3
end
end AI
/-! Calls of built-ins, items, slices. -/
namespace AI
open PySem PySem.Spec L2
open PyProof.Rows hiding St
theorem rising_pw : ∀ (r : List Str) (p : Str), PyProof.Rows.risingS p r = true → (p :: r).Pairwise leS
  | [], p, _ => List.pairwise_singleton ..
  | x :: r, p, h => by
    unfold PyProof.Rows.risingS at h
    obtain ⟨h1, h2⟩ := Bool.and_eq_true_iff.mp h
    have ih := rising_pw r x h2
    have hx : leS p x := by
      rw [ltCps_eq] at h1
      have h1' : decide (x.cps.toList < p.cps.toList) = false := by
        cases q : decide (x.cps.toList < p.cps.toList) with
        | false => rfl
        | true => rw [q] at h1; cases h1
      show ltL _ _ = false
      rw [ltL_lt]
      exact h1'
    refine List.pairwise_cons.mpr ⟨fun z hz => ?_, ih⟩
    rcases List.mem_cons.mp hz with rfl | hz
    · exact hx
    · exact ltL_trans' _ _ _ hx ((List.pairwise_cons.mp ih).1 z hz)
theorem sortedS_pw : ∀ {l : List Str}, PyProof.Rows.sortedS l = true → l.Pairwise leS
  | [], _ => List.Pairwise.nil
  | x :: r, h => rising_pw r x h
section
variable {Z : Zt} {G H : Hp} {v u : V} {σ : St} {A : As} {Q : VK}
def CallOk (X : Cx) (Z : Zt) (f : Value) (ds : List D) (r : R) : Prop :=
  ∃ rr : List V → Hp → VK → Prop, CallR X f rr ∧ ∀ (G H : Hp) (σ : St) (A : As) (vs : List V) (Q : VK), StR Z G H σ A → RPs Z G H ds vs → Fin Z σ A G H (RR Z) r Q → rr vs H Q
/-- the value of a built-in's name -/
def Bi.val : Bi → Value
  | .abs => .builtin "abs"
  | .int => .type "int"
  | .len => .builtin "len"
  | .tuple => .type "tuple"
  | .list => .type "list"
  | .sorted => .builtin "sorted"
  | .all => .builtin "all"
  | .any => .builtin "any"
  | .str => .type "str"
  | .sum => .builtin "sum"
  | .min2 => .builtin "min"
  | .max2 => .builtin "max"
  | .min1 => .builtin "min"
  | .max1 => .builtin "max"
def Bi.nm : Bi → Str
  | .abs => "abs"
  | .int => "int"
  | .len => "len"
  | .tuple => "tuple"
  | .list => "list"
  | .sorted => "sorted"
  | .all => "all"
  | .any => "any"
  | .str => "str"
  | .sum => "sum"
  | .min2 => "min"
  | .max2 => "max"
  | .min1 => "min"
  | .max1 => "max"
theorem Bi.boot (b : Bi) : bootBuiltins b.nm = some b.val := by cases b <;> decide +kernel
theorem Bi.ne1 (b : Bi) : b.nm ≠ "__name__" := by cases b <;> decide +kernel
theorem Bi.ne2 (b : Bi) : (b.nm == ("__debug__" : Str)) = false := by cases b <;> decide +kernel
/-- sorted of a tuple of texts, of ints -/
def rSortedT (K : PySem.W.Frag) : List V → Hp → VK → Prop := fun vs H Q => ∃ (a : Addr) (ds : List D) (xs : List V) (rs : List D), vs = [V.ref a] ∧ SqT K H a xs ∧ sortD ds = some rs ∧
  ((∃ is, intsD ds = some is ∧ xs = is.map V.int ∧ ∀ p, H p = none → Q (.ref p) (upd H p (.lst ((sortI is).map V.int)))) ∨
   (∃ ss, strsD ds = some ss ∧ xs = ss.map V.str ∧ ∀ p, H p = none → Q (.ref p) (upd H p (.lst ((sortS ss).map V.str)))))
theorem intsD_len : ∀ {ds : List D} {is : List Int}, intsD ds = some is → is.length = ds.length
  | [], _, h => by cases h; rfl
  | d :: ds, is, h => by
    cases d <;> first | (unfold intsD at h; cases h; done) | skip
    unfold intsD at h
    cases q : intsD ds with
    | none => rw [q] at h; cases h
    | some z => rw [q] at h; cases h; rw [List.length_cons, List.length_cons, intsD_len q]
theorem strsD_len : ∀ {ds : List D} {is : List Str}, strsD ds = some is → is.length = ds.length
  | [], _, h => by cases h; rfl
  | d :: ds, is, h => by
    cases d <;> first | (unfold strsD at h; cases h; done) | skip
    unfold strsD at h
    cases q : strsD ds with
    | none => rw [q] at h; cases h
    | some z => rw [q] at h; cases h; rw [List.length_cons, List.length_cons, strsD_len q]
theorem cr_sortedT {X : Cx} : CallR X (.builtin "sorted") (rSortedT X.K) := by
  intro pins s σ H vs us Q I r h
  obtain ⟨a, ds, xs, rs, rfl, hs, hd, h⟩ := h
  have h64 : ds.length < 64 := by
    unfold sortD at hd
    split at hd
    · assumption
    · cases hd
  obtain ⟨its, rv, hl, _⟩ := I.tuple hs
  rw [Vals.ref1 r]
  rcases h with ⟨is, e1, rfl, q⟩ | ⟨is, e1, rfl, q⟩
  · have hi := rv.ints
    refine sortedT_ints hl hi (by rw [hi.length, intsD_len e1]; exact h64) fun out ns' h1 h2 h3 => ?_
    obtain ⟨ep, he'⟩ := PyProof.Rows.sortedAll_at s.heap its out
    have e : ns' = sortI is := sorted_unique (h2.trans (sortI_perm is).symm) h3 (sortI_pw is)
    subst e
    have hlen : ((sortI is).map V.int).length ≤ sizeLine := by rw [List.length_map, h2.length_eq, intsD_len e1]; exact small64 h64
    exact ⟨.ref _, upd H (s.heap.objs.size + 1) (.lst ((sortI is).map V.int)), I.laid (t' := s.toks) (fun _ _ => PyProof.Rows.sortedAll_old) (Nat.le_succ _) ⟨hlen, out.toList, ep, vals_of_ints h1, he'⟩, rfl, q _ (I.hok.fresh (Nat.le_succ _))⟩
  · have hlen0 := rv.length
    rw [List.length_map] at hlen0
    refine sortedT_strs hl rv.strs (by rw [← hlen0, strsD_len e1]; exact h64) fun out ys h1 h2 h3 => ?_
    obtain ⟨ep, he'⟩ := PyProof.Rows.sortedAll_at s.heap its out
    have e : ys = sortS is := sortedS_uniqueS (h2.trans (sortS_perm is).symm) (sortedS_pw h3) (sortS_pw is)
    subst e
    have hlen : ((sortS is).map V.str).length ≤ sizeLine := by rw [List.length_map, h2.length_eq, strsD_len e1]; exact small64 h64
    exact ⟨.ref _, upd H (s.heap.objs.size + 1) (.lst ((sortS is).map V.str)), I.laid (t' := s.toks) (fun _ _ => PyProof.Rows.sortedAll_old) (Nat.le_succ _) ⟨hlen, out.toList, ep, vals_of_strs h1, he'⟩, rfl, q _ (I.hok.fresh (Nat.le_succ _))⟩
theorem sort_fin {is : List Int} {ns : List Int} (h : ns.Perm is) (p : ns.Pairwise (· ≤ ·)) : ns = sortI is := sorted_unique (h.trans (sortI_perm is).symm) p (sortI_pw is)
theorem sort_finS {is : List Str} {ns : List Str} (h : ns.Perm is) (p : ns.Pairwise leS) : ns = sortS is := sortedS_uniqueS (h.trans (sortS_perm is).symm) p (sortS_pw is)
theorem least_le : ∀ {is : List Int} {m : Int}, leastI m is ≤ m ∧ (∀ y, y ∈ is → leastI m is ≤ y) ∧ (leastI m is = m ∨ leastI m is ∈ is)
  | [], m => ⟨Int.le_refl _, fun y h => (by cases h), .inl rfl⟩
  | y :: r, m => by
    obtain ⟨h1, h2, h3⟩ := least_le (is := r) (m := if y < m then y else m)
    have e : leastI m (y :: r) = leastI (if y < m then y else m) r := rfl
    rw [e]
    by_cases p : y < m
    · rw [if_pos p] at h1 h2 h3 ⊢
      refine ⟨by omega, fun z q => ?_, ?_⟩
      · rcases List.mem_cons.mp q with q | q
        · subst q; exact h1
        · exact h2 z q
      · rcases h3 with h3 | h3
        · rw [h3]; exact .inr List.mem_cons_self
        · exact .inr (List.mem_cons_of_mem _ h3)
    · rw [if_neg p] at h1 h2 h3 ⊢
      refine ⟨h1, fun z q => ?_, ?_⟩
      · rcases List.mem_cons.mp q with q | q
        · subst q; omega
        · exact h2 z q
      · rcases h3 with h3 | h3
        · exact .inl h3
        · exact .inr (List.mem_cons_of_mem _ h3)
theorem least_is {i : Int} {is : List Int} {m : Int} (hm : m ∈ i :: is) (hle : ∀ y, y ∈ i :: is → m ≤ y) : m = leastI i is := by
  obtain ⟨h1, h2, h3⟩ := least_le (is := is) (m := i)
  have a : leastI i is ∈ i :: is := by
    rcases h3 with h3 | h3
    · rw [h3]; exact List.mem_cons_self
    · exact List.mem_cons_of_mem _ h3
  have b : leastI i is ≤ m := by
    rcases List.mem_cons.mp hm with q | q
    · subst q; exact h1
    · exact h2 _ q
  have := hle _ a
  omega
theorem most_le' : ∀ {is : List Int} {m : Int}, m ≤ mostI m is ∧ (∀ y, y ∈ is → y ≤ mostI m is) ∧ (mostI m is = m ∨ mostI m is ∈ is)
  | [], m => ⟨Int.le_refl _, fun y h => (by cases h), .inl rfl⟩
  | y :: r, m => by
    obtain ⟨h1, h2, h3⟩ := most_le' (is := r) (m := if m < y then y else m)
    have e : mostI m (y :: r) = mostI (if m < y then y else m) r := rfl
    rw [e]
    by_cases p : m < y
    · rw [if_pos p] at h1 h2 h3 ⊢
      refine ⟨by omega, fun z q => ?_, ?_⟩
      · rcases List.mem_cons.mp q with q | q
        · subst q; exact h1
        · exact h2 z q
      · rcases h3 with h3 | h3
        · rw [h3]; exact .inr List.mem_cons_self
        · exact .inr (List.mem_cons_of_mem _ h3)
    · rw [if_neg p] at h1 h2 h3 ⊢
      refine ⟨h1, fun z q => ?_, ?_⟩
      · rcases List.mem_cons.mp q with q | q
        · subst q; omega
        · exact h2 z q
      · rcases h3 with h3 | h3
        · exact .inl h3
        · exact .inr (List.mem_cons_of_mem _ h3)
theorem most_is {i : Int} {is : List Int} {m : Int} (hm : m ∈ i :: is) (hle : ∀ y, y ∈ i :: is → y ≤ m) : m = mostI i is := by
  obtain ⟨h1, h2, h3⟩ := most_le' (is := is) (m := i)
  have a : mostI i is ∈ i :: is := by
    rcases h3 with h3 | h3
    · rw [h3]; exact List.mem_cons_self
    · exact List.mem_cons_of_mem _ h3
  have b : m ≤ mostI i is := by
    rcases List.mem_cons.mp hm with q | q
    · subst q; exact h1
    · exact h2 _ q
  have := hle _ a
  omega
theorem bi_ok {X : Cx} (hK : X.K = Z.K) (hc : X.calm = true) {b : Bi} {ds : List D} {r : R} (h : doBi b ds = some r) : CallOk X Z b.val ds r := by
  unfold doBi at h
  split at h
  · -- abs
    cases h
    refine ⟨_, call_abs, fun G H σ A vs Q s a f => ?_⟩
    obtain ⟨v, rfl, r⟩ := a.one
    rw [r.int]
    exact ⟨_, rfl, f.vl s (rep_int.mpr rfl)⟩
  · -- int
    cases h
    refine ⟨_, call_int1, fun G H σ A vs Q s a f => ?_⟩
    obtain ⟨v, rfl, r⟩ := a.one
    rw [r.int]
    exact .inl ⟨_, rfl, f.vl s (rep_int.mpr rfl)⟩
  · cases h
    refine ⟨_, call_int1, fun G H σ A vs Q s a f => ?_⟩
    obtain ⟨v, rfl, r⟩ := a.one
    rw [r.bl]
    exact .inr ⟨_, rfl, f.vl s (rep_int.mpr rfl)⟩
  · -- len
    cases h
    refine ⟨_, call_len_seq, fun G H σ A vs Q s a f => ?_⟩
    obtain ⟨v, rfl, r⟩ := a.one
    obtain ⟨p, xs, rfl, hp, rs⟩ := r.lst s.sub
    exact ⟨p, xs, rfl, .inl (.of hp), by rw [rs.len]; exact f.vl s (rep_int.mpr rfl)⟩
  · cases h
    refine ⟨_, call_len_seq, fun G H σ A vs Q s a f => ?_⟩
    obtain ⟨v, rfl, r⟩ := a.one
    obtain ⟨p, xs, rfl, hp, rs⟩ := r.ro s.sub
    exact ⟨p, xs, rfl, .inl (by rw [hK]; exact hp), by rw [rs.len]; exact f.vl s (rep_int.mpr rfl)⟩
  · cases h
    refine ⟨_, call_len_seq, fun G H σ A vs Q s a f => ?_⟩
    obtain ⟨v, rfl, r⟩ := a.one
    obtain ⟨p, xs, rfl, hp, _, rs⟩ := r.tup s.sub
    exact ⟨p, xs, rfl, .inr (by rw [hK]; exact hp), by rw [rs.len]; exact f.vl s (rep_int.mpr rfl)⟩
  · split at h
    · rename_i c
      cases h
      refine ⟨_, call_len_str, fun G H σ A vs Q s a f => ?_⟩
      obtain ⟨v, rfl, r⟩ := a.one
      rw [r.str]
      exact ⟨_, rfl, Nat.le_trans (shortS_of c) most_le, f.vl s (rep_int.mpr rfl)⟩
    · cases h
  · -- tuple
    cases h
    refine ⟨_, call_tuple_of, fun G H σ A vs Q s a f => ?_⟩
    obtain ⟨v, rfl, r⟩ := a.one
    obtain ⟨p, xs, rfl, hp, rs⟩ := r.lst s.sub
    exact ⟨p, xs, rfl, .inl ⟨.of hp, f.tup s rs⟩⟩
  · cases h
    refine ⟨_, call_tuple_of, fun G H σ A vs Q s a f => ?_⟩
    obtain ⟨v, rfl, r⟩ := a.one
    obtain ⟨p, xs, rfl, hp, hg, rs⟩ := r.tup s.sub
    exact ⟨p, xs, rfl, .inr ⟨by rw [hK]; exact hp, f.vl s (rep_tup.mpr ⟨p, xs, rfl, hg, rs⟩)⟩⟩
  · -- list
    cases h
    refine ⟨_, call_list_of, fun G H σ A vs Q s a f => ?_⟩
    obtain ⟨v, rfl, r⟩ := a.one
    obtain ⟨p, xs, rfl, hp, rs⟩ := r.lst s.sub
    exact ⟨p, xs, rfl, .inl (.of hp), f.lst s rs⟩
  · cases h
    refine ⟨_, call_list_of, fun G H σ A vs Q s a f => ?_⟩
    obtain ⟨v, rfl, r⟩ := a.one
    obtain ⟨p, xs, rfl, hp, hg, rs⟩ := r.tup s.sub
    exact ⟨p, xs, rfl, .inr (by rw [hK]; exact hp), f.lst s rs⟩
  · -- sorted
    rename_i ds'
    unfold sortD at h
    split at h
    · rename_i c
      split at h
      · rename_i is e
        cases h
        refine ⟨_, cr_sorted, fun G H σ A vs Q s a f => ?_⟩
        obtain ⟨v, rfl, r⟩ := a.one
        obtain ⟨p, xs, rfl, hp, rs⟩ := r.lst s.sub
        have ex := ints_rep e rs
        have l := rs.len
        rw [ex, List.length_map] at l
        refine ⟨p, is, rfl, .of (by rw [← ex]; exact hp), by omega, fun ns q h1 h2 => ?_⟩
        rw [sort_fin h1 h2]
        exact f.lst s (reps_int _) q
      · split at h
        · rename_i ss e
          cases h
          refine ⟨_, cr_sortedS, fun G H σ A vs Q s a f => ?_⟩
          obtain ⟨v, rfl, r⟩ := a.one
          obtain ⟨p, xs, rfl, hp, rs⟩ := r.lst s.sub
          have ex := strs_rep e rs
          have l := rs.len
          rw [ex, List.length_map] at l
          refine ⟨p, ss, rfl, .of (by rw [← ex]; exact hp), by omega, fun ns q h1 h2 => ?_⟩
          rw [sort_finS h1 (sortedS_pw h2)]
          exact f.lst s (reps_str _) q
        · cases h
    · cases h
  · -- sorted of a tuple
    rename_i ds'
    cases e0 : sortD ds' with
    | none => rw [e0] at h; cases h
    | some rs' =>
      rw [e0] at h
      cases h
      refine ⟨_, cr_sortedT, fun G H σ A vs Q s a f => ?_⟩
      obtain ⟨v, rfl, r⟩ := a.one
      obtain ⟨p, xs, rfl, hp, hg, rs⟩ := r.tup s.sub
      refine ⟨p, ds', xs, rs', rfl, by rw [hK]; exact hp, e0, ?_⟩
      unfold sortD at e0
      split at e0
      · split at e0
        · rename_i is e
          have e0 := Option.some.inj e0
          subst e0
          exact .inl ⟨is, e, ints_rep e rs, f.lst s (reps_int _)⟩
        · split at e0
          · rename_i ss e
            have e0 := Option.some.inj e0
            subst e0
            exact .inr ⟨ss, e, strs_rep e rs, f.lst s (reps_str _)⟩
          · cases e0
      · cases e0
  · -- all
    rename_i ds'
    cases e : bls ds' with
    | none => rw [e] at h; cases h
    | some bs =>
      rw [e] at h
      cases h
      refine ⟨_, cr_all hc, fun G H σ A vs Q s a f => ?_⟩
      obtain ⟨v, rfl, r⟩ := a.one
      obtain ⟨p, xs, rfl, hp, rs⟩ := r.lst s.sub
      have ex := bls_rep e rs
      exact ⟨p, bs, rfl, .of (by rw [← ex]; exact hp), f.bl s rfl⟩
  · rename_i ds'
    cases e : bls ds' with
    | none => rw [e] at h; cases h
    | some bs =>
      rw [e] at h
      cases h
      refine ⟨_, cr_any hc, fun G H σ A vs Q s a f => ?_⟩
      obtain ⟨v, rfl, r⟩ := a.one
      obtain ⟨p, xs, rfl, hp, rs⟩ := r.lst s.sub
      have ex := bls_rep e rs
      exact ⟨p, bs, rfl, .of (by rw [← ex]; exact hp), f.bl s rfl⟩
  · cases h
    refine ⟨_, call_min2 hc, fun G H σ A vs Q s a f => ?_⟩
    obtain ⟨v, u, rfl, r1, r2⟩ := a.two
    rw [r1.int, r2.int]
    exact ⟨_, _, rfl, f.vl s (rep_int.mpr rfl)⟩
  · cases h
    refine ⟨_, call_max2 hc, fun G H σ A vs Q s a f => ?_⟩
    obtain ⟨v, u, rfl, r1, r2⟩ := a.two
    rw [r1.int, r2.int]
    exact ⟨_, _, rfl, f.vl s (rep_int.mpr rfl)⟩
  · rename_i ds'
    cases e : intsD ds' with
    | none => rw [e] at h; cases h
    | some bs =>
      rw [e] at h
      cases h
      refine ⟨_, cr_sum hc, fun G H σ A vs Q s a f => ?_⟩
      obtain ⟨v, rfl, r⟩ := a.one
      obtain ⟨p, xs, rfl, hp, rs⟩ := r.lst s.sub
      have ex := ints_rep e rs
      exact ⟨p, bs, rfl, .of (by rw [← ex]; exact hp), f.vl s (rep_int.mpr rfl)⟩
  · rename_i ds'
    split at h
    · rename_i i is e
      cases h
      refine ⟨_, cr_min hc, fun G H σ A vs Q s a f => ?_⟩
      obtain ⟨v, rfl, r⟩ := a.one
      obtain ⟨p, xs, rfl, hp, rs⟩ := r.lst s.sub
      have ex := ints_rep e rs
      refine ⟨p, i :: is, rfl, .of (by rw [← ex]; exact hp), Nat.succ_pos _, fun m hm hle => ?_⟩
      rw [least_is hm hle]
      exact f.vl s (rep_int.mpr rfl)
    · cases h
  · rename_i ds'
    split at h
    · rename_i i is e
      cases h
      refine ⟨_, cr_max hc, fun G H σ A vs Q s a f => ?_⟩
      obtain ⟨v, rfl, r⟩ := a.one
      obtain ⟨p, xs, rfl, hp, rs⟩ := r.lst s.sub
      have ex := ints_rep e rs
      refine ⟨p, i :: is, rfl, .of (by rw [← ex]; exact hp), Nat.succ_pos _, fun m hm hle => ?_⟩
      rw [most_is hm hle]
      exact f.vl s (rep_int.mpr rfl)
    · cases h
  · cases h
/-! ### items -/
theorem atI_rep {ds : List D} {xs : List V} {i : Int} {d : D} (r : Reps Z G ds xs) (h : atI ds i = some d) : ∃ v, atI xs i = some v ∧ Rep Z G d v := by
  unfold atI at h ⊢
  rw [r.len]
  cases e : ixN ds.length i with
  | none => rw [e] at h; cases h
  | some j =>
    rw [e] at h
    exact r.get h
def IxOk (X : Cx) (Z : Zt) (x y d : D) : Prop :=
  ∃ rr : R2, IxR X rr ∧ ∀ (G H : Hp) (v u : V) (Q : VK), Sub G H → RP Z G H x v → RP Z G H y u → (∀ w, Rep Z G d w → Q w H) → rr v u H Q
theorem ix_ok {X : Cx} (hK : X.K = Z.K) {x y d : D} (h : doIx x y = some d) : IxOk X Z x y d := by
  unfold doIx at h
  split at h
  · refine ⟨_, ix_list, fun G H v u Q s a b f => ?_⟩
    obtain ⟨p, xs, rfl, hp, rs⟩ := a.lst s
    obtain ⟨w, e, r⟩ := atI_rep rs h
    exact ⟨p, xs, _, w, rfl, b.int, .of hp, e, f w r⟩
  · refine ⟨_, ix_list, fun G H v u Q s a b f => ?_⟩
    obtain ⟨p, xs, rfl, hp, rs⟩ := a.ro s
    obtain ⟨w, e, r⟩ := atI_rep rs h
    exact ⟨p, xs, _, w, rfl, b.int, by rw [hK]; exact hp, e, f w r⟩
  · refine ⟨_, ix_tup, fun G H v u Q s a b f => ?_⟩
    obtain ⟨p, xs, rfl, hp, _, rs⟩ := a.tup s
    obtain ⟨w, e, r⟩ := atI_rep rs h
    exact ⟨p, xs, _, w, rfl, b.int, by rw [hK]; exact hp, e, f w r⟩
  · split at h
    · rename_i z i c
      cases e : atI z.cps.toList i with
      | none => rw [e] at h; cases h
      | some n =>
        rw [e] at h
        cases h
        refine ⟨_, ix_str, fun G H v u Q s a b f => ?_⟩
        exact ⟨z, _, n, a.str, b.int, Nat.le_trans (shortS_of c) most_le, e, f _ (rep_str.mpr rfl)⟩
    · cases h
  · cases h
/-! ### slices -/
theorem cut_rep {ds : List D} {xs : List V} {lo hi : Option Int} (r : Reps Z G ds xs) : Reps Z G (cutD ds lo hi) (cutV xs lo hi) := by
  unfold cutD cutV
  rw [r.len]
  exact (r.drop _).take _
def SlOk (X : Cx) (Z : Zt) (x : D) (lo hi : Option Int) (r : R) : Prop :=
  ∃ rr : V → Option Int → Option Int → Hp → VK → Prop, SlR X rr ∧ ∀ (G H : Hp) (σ : St) (A : As) (v : V) (Q : VK), StR Z G H σ A → Rep Z G x v → Fin Z σ A G H (RR Z) r Q → rr v lo hi H Q
theorem sl_ok {X : Cx} (hK : X.K = Z.K) {x : D} {lo hi : Option Int} {r : R} (h : doSl x lo hi = some r) : SlOk X Z x lo hi r := by
  unfold doSl at h
  split at h
  · cases h
    refine ⟨_, sl_list, fun G H σ A v Q s a f => ?_⟩
    obtain ⟨p, xs, rfl, hp, rs⟩ := rep_lst.mp a
    exact ⟨p, xs, rfl, .of (s.sub _ _ hp), f.lst s (cut_rep rs)⟩
  · cases h
    refine ⟨_, sl_list, fun G H σ A v Q s a f => ?_⟩
    obtain ⟨p, xs, rfl, hp, rs⟩ := rep_ro.mp a
    exact ⟨p, xs, rfl, by rw [hK]; exact s.sub.sql hp, f.lst s (cut_rep rs)⟩
  · cases h
    rename_i ds
    refine ⟨_, sl_tupA, fun G H σ A v Q s a f => ?_⟩
    obtain ⟨p, xs, rfl, hp, rs⟩ := rep_tup.mp a
    refine ⟨p, xs, rfl, by rw [hK]; exact s.sub.sqt hp, fun e => ?_, fun e => f.tup s (cut_rep rs)⟩
    have e2 : cutD ds lo hi = ds := by
      unfold cutD
      rw [← rs.len, e.1, e.2, List.drop_zero, Nat.sub_zero, rs.len, List.take_length]
    rw [e2] at f
    exact f.vl s a
  · split at h
    · rename_i c
      cases h
      refine ⟨_, sl_str, fun G H σ A v Q s a f => ?_⟩
      exact ⟨_, rep_str.mp a, Nat.le_trans (shortS_of c) most_le, f.vl s (rep_str.mpr rfl)⟩
    · cases h
  · cases h
end
end AI
/-! Expressions. -/
namespace AI
open PySem PySem.Spec L2
open PyProof.Rows hiding St
section
variable {Z : Zt} {W : WX} {X : Cx}
/-! ### all rules of an operator at once -/
def uniOp (X : Cx) (f : Value → Value → Sem Value) : R2 := fun x y H Q => ∃ rr, OpR X f rr ∧ rr x y H Q
theorem or_uni {f : Value → Value → Sem Value} : OpR X f (uniOp X f) := fun pins s σ H x y v u Q I rx ry ⟨rr, o, h⟩ => o pins s σ H x y v u Q I rx ry h
def uniCall (X : Cx) (f : Value) : List V → Hp → VK → Prop := fun xs H Q => ∃ rr, CallR X f rr ∧ rr xs H Q
theorem cr_uni {f : Value} : CallR X f (uniCall X f) := fun pins s σ H xs us Q I r ⟨rr, o, h⟩ => o pins s σ H xs us Q I r h
def uniIx (X : Cx) : R2 := fun x y H Q => ∃ rr, IxR X rr ∧ rr x y H Q
theorem ix_uni : IxR X (uniIx X) := fun va sl pins s σ H x y v u Q I rx ry ⟨rr, o, h⟩ q => o va sl pins s σ H x y v u Q I rx ry h q
def uniSl (X : Cx) : V → Option Int → Option Int → Hp → VK → Prop := fun x lo hi H Q => ∃ rr, SlR X rr ∧ rr x lo hi H Q
theorem sl_uni : SlR X (uniSl X) := fun pins s σ H x v vl vu lo hi sl Q I rx hs pl pu ⟨rr, o, h⟩ => o pins s σ H x v vl vu lo hi sl Q I rx hs pl pu h
/-- every reading of an expression at once -/
def uniE (X : Cx) (e : Expr) : TE := fun σ H Q => ∃ t, PE X e t ∧ t σ H Q
theorem pe_uni {e : Expr} : PE X e (uniE X e) := pe_any fun _ _ _ h => h

structure SE (Z : Zt) (W : WX) (X : Cx) (e : Expr) (f : E2) : Prop where
  v : PE X e (tof Z W f.v)
  t : PT X e (tofb Z W f.t)
theorem SE.d {e : Expr} {f : E2} (h : SE Z W X e f) : PE X e (tofd Z W f.d) := pe_d h.v
theorem RR.rep {H G H' : Hp} {r : R} {v : V} (h : RR Z H G H' r v) (s : Sub G H') : ∃ G2, Sub G2 H' ∧ Rep Z G2 r.dd v := by
  cases r with
  | v d => exact ⟨G, s, h⟩
  | o b =>
    obtain ⟨p, o, rfl, _, gp, hp, r⟩ := h
    refine ⟨upd G p o, fun b u e => ?_, r.rep gp⟩
    by_cases z : b = p
    · subst z; rw [upd_same] at e; cases e; exact hp
    · rw [upd_ne z] at e; exact s b u e
/-- a test that asks a value's truth -/
theorem se_plain {e : Expr} {v : As → Option (Rs R)} (hK : X.K = Z.K) (p : PE X e (tof Z W v)) (pl : ∀ whole, isTrue e X.env whole = (do let v ← whole; standAt e.pos; holding [v] (truthy v))) : SE Z W X e (mkE v) := by
  refine ⟨p, pt_imp (pt_truth p pl) fun σ H Q h => ?_⟩
  obtain ⟨G, A, s, h⟩ := h
  refine tofG.bind s sh_B (show tofS Z W RB (Rs.bind (v A) _) σ A G H Q from h) fun r A1 w G1 H1 s1 c1 r1 h1 => ?_
  cases e : truD r.dd with
  | none => rw [e] at h1; exact h1.elim
  | some k =>
    rw [e] at h1
    obtain ⟨G2, s2, r2⟩ := RR.rep r1 s1.sub
    exact ⟨k, by rw [hK]; exact tru_ok e s2 r2, h1 k G1 H1 s1 .refl rfl⟩
/-- where the value is a truth value -/
theorem tb_bool {v : As → Option (Rs R)} {σ : St} {H : Hp} {Q : Bool → Hp → Prop} (hb : ∀ A r A', v A = some (.ok r A') → ∃ k, r = .v (.bl k)) (q : tofb Z W (mkE v).t σ H Q) :
    tof Z W v σ H (fun x H' => ∃ k, x = .bl k ∧ Q k H') := by
  obtain ⟨G, A, s, q⟩ := q
  refine ⟨G, A, s, ?_⟩
  have q' : tofS Z W RB (Rs.bind (v A) fun x A1 => match truD x.dd with
    | some b => some (.ok b A1)
    | none => none) σ A G H Q := q
  cases e : v A with
  | none => rw [e] at q'; exact q'.elim
  | some x =>
    rw [e] at q'
    cases x with
    | ex c fs A' => exact q'
    | ok r A' =>
      obtain ⟨k, rfl⟩ := hb A r A' e
      intro w G' H' s' c r
      exact ⟨k, rep_bl.mp (show Rep Z G' (.bl k) w from r), q' k G' H' s' c rfl⟩
/-- no test is asked of it -/
theorem se_noT {e : Expr} {v : As → Option (Rs R)} (p : PE X e (tof Z W v)) : SE Z W X e ⟨v, fun _ => none⟩ :=
  ⟨p, ⟨fun _ _ _ _ _ _ h => by obtain ⟨G, A, s, h⟩ := h; exact h.elim⟩⟩

theorem bind_ok {α β : Type} {x : Option (Rs α)} {f : α → As → Option (Rs β)} {r : β} {A' : As} (h : Rs.bind x f = some (.ok r A')) : ∃ a A1, x = some (.ok a A1) ∧ f a A1 = some (.ok r A') := by
  cases x with
  | none => cases h
  | some y =>
    cases y with
    | ok a A1 => exact ⟨a, A1, rfl, h⟩
    | ex c fs A1 => cases h
theorem toB_ok {o : Option Bool} {A : As} {r : R} {A' : As} (h : toB A o = some (.ok r A')) : ∃ k, r = .v (.bl k) := by
  cases o with
  | none => cases h
  | some k => cases h; exact ⟨k, rfl⟩
/-! ### names and constants -/
theorem pe_varA {i : Nat} {x : Str} {pos : Pos} (hN : X.N[i]? = some x) (hv : Vis X.env.scope x) (hd : (x == ("__debug__" : Str)) = false) (hcd : (x == ("__classdict__" : Str)) = false) : PE X (.Name x pos) (tof Z W (varA i)) := by
  refine pe_imp (pe_var hN hv hd hcd) fun σ H Q h => ?_
  obtain ⟨G, A, s, h⟩ := h
  unfold varA at h
  cases e : A[i]? with
  | none => rw [e] at h; exact h.elim
  | some x =>
    rw [e] at h
    cases x with
    | no => exact h.elim
    | v d =>
      obtain ⟨v, a, r⟩ := s.val i d e
      exact ⟨v, a, h v G H s .refl r⟩
    | o b =>
      obtain ⟨p, G', a, s', c, r⟩ := s.freezeAt e
      exact ⟨_, a, h (.ref p) G' H s' c r⟩
/-- a name's own object, only looked at -/
theorem pe_peek {i : Nat} {x : Str} {pos : Pos} (hN : X.N[i]? = some x) (hv : Vis X.env.scope x) (hd : (x == ("__debug__" : Str)) = false) (hcd : (x == ("__classdict__" : Str)) = false) :
    PE X (.Name x pos) (tofG Z W (fun _ G' H' d v => RP Z G' H' d v) fun A => peekA A i) := by
  refine pe_imp (pe_var hN hv hd hcd) fun σ H Q h => ?_
  obtain ⟨G, A, s, h⟩ := h
  unfold peekA at h
  dsimp only at h
  cases e : A[i]? with
  | none => rw [e] at h; exact h.elim
  | some x =>
    rw [e] at h
    cases x with
    | no => exact h.elim
    | v d =>
      obtain ⟨v, a, r⟩ := s.val i d e
      exact ⟨v, a, h v G H s .refl (.inl r)⟩
    | o b =>
      obtain ⟨p, o, a, g, hp, r⟩ := s.own i b e
      exact ⟨_, a, h (.ref p) G H s .refl (.inr ⟨p, o, b, rfl, g, hp, r, rfl⟩)⟩
theorem RP.rep {G H : Hp} {d : D} {v : V} (h : RP Z G H d v) (s : Sub G H) : ∃ G2, Sub G2 H ∧ Rep Z G2 d v := by
  rcases h with h | ⟨p, o, b, rfl, gp, hp, r, rfl⟩
  · exact ⟨G, s, h⟩
  · refine ⟨upd G p o, fun b' u e => ?_, r.rep gp⟩
    by_cases z : b' = p
    · subst z; rw [upd_same] at e; cases e; exact hp
    · rw [upd_ne z] at e; exact s b' u e
theorem se_varA {i : Nat} {x : Str} {pos : Pos} (hK : X.K = Z.K) (hN : X.N[i]? = some x) (hv : Vis X.env.scope x) (hd : (x == ("__debug__" : Str)) = false) (hcd : (x == ("__classdict__" : Str)) = false) :
    SE Z W X (.Name x pos) ⟨varA i, fun A => Rs.bind (peekA A i) fun x A1 => match truD x with
      | some b => some (.ok b A1)
      | none => none⟩ := by
  refine ⟨pe_varA hN hv hd hcd, pt_imp (pt_truth (pe_peek (Z := Z) (W := W) hN hv hd hcd) fun _ => rfl) fun σ H Q h => ?_⟩
  obtain ⟨G, A, s, h⟩ := h
  refine tofG.bind s sh_B (show tofS Z W RB (Rs.bind (peekA A i) _) σ A G H Q from h) fun d A1 w G1 H1 s1 c1 r1 h1 => ?_
  cases e : truD d with
  | none => rw [e] at h1; exact h1.elim
  | some k =>
    rw [e] at h1
    obtain ⟨G2, s2, r2⟩ := RP.rep r1 s1.sub
    exact ⟨k, by rw [hK]; exact tru_ok e s2 r2, h1 k G1 H1 s1 .refl rfl⟩
theorem pe_litA {e : Expr} {v : V} {d : D} (p : PE X e (tC v)) (r : ∀ G, Rep Z G d v) : PE X e (tof Z W fun A => some (.ok (.v d) A)) := by
  refine pe_imp p fun σ H Q h => ?_
  obtain ⟨G, A, s, h⟩ := h
  exact h v G H s .refl (r G)
/-! ### operators -/
theorem pe_opA {o : Operator} {a b : Expr} {pos : Pos} {f g : E2} (hK : X.K = Z.K) (ha : SE Z W X a f) (hb : SE Z W X b g) :
    PE X (.BinOp a o b pos) (tof Z W fun A => Rs.bind (f.d A) fun x A1 => Rs.bind (g.d A1) fun y A2 => toR A2 (doOp o x y)) := by
  refine pe_imp (pe_op or_uni ha.d hb.d) fun σ H Q h => ?_
  obtain ⟨G, A, s, h⟩ := h
  refine tofG.bind s sh_R h fun x A1 v G1 H1 s1 c1 r1 h1 => tofG.bind s1 sh_R h1 fun y A2 u G2 H2 s2 c2 r2 h2 => ?_
  cases e : doOp o x y with
  | none => rw [e] at h2; exact h2.elim
  | some r =>
    rw [e] at h2
    obtain ⟨rr, ok, sp⟩ := op_ok hK e
    exact ⟨rr, ok, sp G2 H2 σ A2 v u Q s2 (Rep.mono c2.sub r1) r2 h2⟩
theorem tcmp {o : CmpOp} {f g : E2} (hK : X.K = Z.K) (hu : X.A.units + 64 < cLine) {σ : St} {H : Hp} {Q : VK}
    (h : tof Z W (fun A => Rs.bind (f.d A) fun x A1 => Rs.bind (g.d A1) fun y A2 => toB A2 (doCmp o x y)) σ H Q) : tOp (uniOp X (compareOp o)) (tofd Z W f.d) (tofd Z W g.d) σ H Q := by
  obtain ⟨G, A, s, h⟩ := h
  refine tofG.bind s sh_R h fun x A1 v G1 H1 s1 c1 r1 h1 => tofG.bind s1 sh_R h1 fun y A2 u G2 H2 s2 c2 r2 h2 => ?_
  cases e : doCmp o x y with
  | none => rw [e] at h2; exact h2.elim
  | some k =>
    rw [e] at h2
    obtain ⟨rr, ok, sp⟩ := cmp_ok hK hu e
    exact ⟨rr, ok, sp G2 H2 σ A2 v u Q s2 (Rep.mono c2.sub r1) r2 h2⟩
theorem se_cmp {o : CmpOp} {a b : Expr} {pos : Pos} {f g : E2} (hK : X.K = Z.K) (hu : X.A.units + 64 < cLine) (hm : behindInMarks o b = false) (ha : SE Z W X a f) (hb : SE Z W X b g) :
    SE Z W X (.Compare a [o] [b] pos) (mkE fun A => Rs.bind (f.d A) fun x A1 => Rs.bind (g.d A1) fun y A2 => toB A2 (doCmp o x y)) := by
  refine ⟨pe_imp (pe_cmpR or_uni ha.d hb.d hm) fun σ H Q h => tcmp hK hu h, pt_imp (pt_cmpR or_uni ha.d hb.d hm) fun σ H Q h => tcmp (Q := fun x H' => ∃ k, x = .bl k ∧ Q k H') hK hu (tb_bool (fun A r A' e => ?_) h)⟩
  obtain ⟨x, A1, e1, e⟩ := bind_ok e
  obtain ⟨y, A2, e2, e⟩ := bind_ok e
  exact toB_ok e
end
end AI
/-! Expressions, further. -/
namespace AI
open PySem PySem.Spec L2
open PyProof.Rows hiding St
section
variable {Z : Zt} {W : WX} {X : Cx}
/-- a chain of two comparisons -/
theorem se_chn {o p : CmpOp} {a b c : Expr} {pos : Pos} {f g k : E2} (hK : X.K = Z.K) (hu : X.A.units + 64 < cLine) (hm : lastMarks [o, p] [b, c] = false) (ha : SE Z W X a f) (hb : SE Z W X b g) (hc : SE Z W X c k) :
    SE Z W X (.Compare a [o, p] [b, c] pos) (mkE fun A => Rs.bind (f.d A) fun x A1 => Rs.bind (g.d A1) fun y A2 => match doCmp o x y with
      | some true => Rs.bind (k.d A2) fun z A3 => toB A3 (doCmp p y z)
      | some false => some (.ok (.v (.bl false)) A2)
      | none => none) := by
  have key : ∀ {σ : St} {H : Hp} {Q : VK}, tof Z W (fun A => Rs.bind (f.d A) fun x A1 => Rs.bind (g.d A1) fun y A2 => match doCmp o x y with
      | some true => Rs.bind (k.d A2) fun z A3 => toB A3 (doCmp p y z)
      | some false => some (.ok (.v (.bl false)) A2)
      | none => none) σ H Q → tChain (uniOp X (compareOp o)) (uniOp X (compareOp p)) (tofd Z W f.d) (tofd Z W g.d) (tofd Z W k.d) σ H Q := by
    intro σ H Q h
    obtain ⟨G, A, s, h⟩ := h
    refine tofG.bind s sh_R h fun x A1 v G1 H1 s1 c1 r1 h1 => tofG.bind s1 sh_R h1 fun y A2 u G2 H2 s2 c2 r2 h2 => ?_
    cases e : doCmp o x y with
    | none => rw [e] at h2; exact h2.elim
    | some j =>
      rw [e] at h2
      obtain ⟨rr, ok, sp⟩ := cmp_ok hK hu e
      refine ⟨rr, ok, sp G2 H2 σ A2 v u _ s2 (Rep.mono c2.sub r1) r2 fun w G3 H3 s3 c3 r3 => ?_⟩
      have r3 : Rep Z G3 (.bl j) w := r3
      refine ⟨j, rep_bl.mp r3, ?_⟩
      have r2' : Rep Z G3 y u := Rep.mono c3.sub r2
      cases j with
      | false => exact iteF (Fin.vl (d := .bl false) (tofS.shift sh_R h2 c3) s3 (rep_bl.mpr rfl))
      | true =>
        refine iteT (tofG.bind s3 sh_R (tofS.shift sh_R h2 c3) fun z A4 t G4 H4 s4 c4 r4 h4 => ?_)
        cases e2 : doCmp p y z with
        | none => rw [e2] at h4; exact h4.elim
        | some i =>
          rw [e2] at h4
          obtain ⟨rr2, ok2, sp2⟩ := cmp_ok hK hu e2
          exact ⟨rr2, ok2, sp2 G4 H4 σ A4 u t Q s4 (Rep.mono c4.sub r2') r4 h4⟩
  refine ⟨pe_imp (pe_chain or_uni or_uni ha.d hb.d hc.d hm) fun σ H Q h => key h, pt_imp (pt_chain or_uni or_uni ha.d hb.d hc.d hm) fun σ H Q h => key (Q := fun x H' => ∃ k, x = .bl k ∧ Q k H') (tb_bool (fun A r A' e => ?_) h)⟩
  obtain ⟨x, A1, e1, e⟩ := bind_ok e
  obtain ⟨y, A2, e2, e⟩ := bind_ok e
  split at e
  · obtain ⟨z, A3, e3, e⟩ := bind_ok e
    exact toB_ok e
  · cases e; exact ⟨false, rfl⟩
  · cases e
/-! ### not, minus -/
theorem se_not {a : Expr} {pos : Pos} {f : E2} (ha : SE Z W X a f) : SE Z W X (.UnaryOp .Not a pos) ⟨fun A => Rs.bind (f.d A) fun x A1 => match x with
      | .bl b => some (.ok (.v (.bl (!b))) A1)
      | _ => none, fun A => Rs.bind (f.t A) fun b A1 => some (.ok (!b) A1)⟩ := by
  refine ⟨pe_imp (pe_not ha.d) fun σ H Q h => ?_, pt_imp (pt_not ha.t) fun σ H Q h => ?_⟩
  · obtain ⟨G, A, s, h⟩ := h
    refine tofG.bind s sh_R h fun x A1 v G1 H1 s1 c1 r1 h1 => ?_
    cases x with
    | bl b => exact ⟨b, rep_bl.mp (show Rep Z G1 (.bl b) v from r1), Fin.vl (d := .bl (!b)) h1 s1 (rep_bl.mpr rfl)⟩
    | _ => exact h1.elim
  · obtain ⟨G, A, s, h⟩ := h
    refine tofG.bind s sh_B h fun x A1 v G1 H1 s1 c1 r1 h1 => ?_
    have r1 : v = x := r1
    subst r1
    exact h1 (!v) G1 H1 s1 .refl rfl
theorem pe_negA {a : Expr} {pos : Pos} {f : E2} (ha : SE Z W X a f) : PE X (.UnaryOp .USub a pos) (tof Z W fun A => Rs.bind (f.d A) fun x A1 => match x with
      | .int i => some (.ok (.v (.int (-i))) A1)
      | _ => none) := by
  refine pe_imp (pe_un un_neg ha.d) fun σ H Q h => ?_
  obtain ⟨G, A, s, h⟩ := h
  refine tofG.bind s sh_R h fun x A1 v G1 H1 s1 c1 r1 h1 => ?_
  cases x with
  | int i => exact ⟨i, rep_int.mp (show Rep Z G1 (.int i) v from r1), Fin.vl (d := .int (-i)) h1 s1 (rep_int.mpr rfl)⟩
  | _ => exact h1.elim
/-! ### several expressions -/
def noStar : Expr → Bool
  | .Starred _ _ => false
  | _ => true
theorem star_no {e : Expr} {es : List Expr} {env : Env} (h : noStar e = true) : starEach (e :: es) env = (false, eval e env) :: starEach es env := by
  cases e <;> first | rfl | cases h
/-- a name's place -/
def NmOk (X : Cx) (e : Expr) (nm : Option Nat) : Prop := ∀ i, nm = some i → ∃ x pos, e = .Name x pos ∧ X.N[i]? = some x ∧ Vis X.env.scope x ∧ (x == ("__debug__" : Str)) = false ∧ (x == ("__classdict__" : Str)) = false
inductive SEs (Z : Zt) (W : WX) (X : Cx) : List Expr → List A2 → Prop
  | nil : SEs Z W X [] []
  | cons {e : Expr} {f : E2} {es : List Expr} {as : List A2} {nm : Option Nat} (h : SE Z W X e f) (ns : noStar e = true) (n : NmOk X e nm) (t : SEs Z W X es as) : SEs Z W X (e :: es) (⟨false, nm, f⟩ :: as)
  | star {e : Expr} {f : E2} {es : List Expr} {as : List A2} {nm : Option Nat} {pos : Pos} (h : SE Z W X e f) (t : SEs Z W X es as) : SEs Z W X (.Starred e pos :: es) (⟨true, nm, f⟩ :: as)
def plainL (as : List A2) : Bool := as.all fun a => !a.st
/-! ### and, or -/
theorem pe_evb {o : BoolOp} {pos : Pos} : ∀ {es : List Expr} {as : List A2}, SEs Z W X es as → plainL as = true → as ≠ [] → PE X (.BoolOp o es pos) (tof Z W (evb o as))
  | [], [], _, _, h => (h rfl).elim
  | [e], [a], h, p, _ => by
    cases h with
    | cons h ns n t => exact pe_one h.v
    | star h t => cases p
  | e :: e2 :: es, a :: a2 :: as, h, p, _ => by
    cases h with
    | star h t => cases p
    | cons h ns n t =>
      have p2 : plainL (a2 :: as) = true := p
      have ih := pe_evb (o := o) (pos := pos) t p2 (by simp)
      cases o with
      | And =>
        refine pe_imp (pe_and h.d ih) fun σ H Q q => ?_
        obtain ⟨G, A, s, q⟩ := q
        refine tofG.bind s sh_R q fun x A1 v G1 H1 s1 c1 r1 h1 => ?_
        cases x with
        | bl b =>
          have r1 : Rep Z G1 (.bl b) v := r1
          refine ⟨b, rep_bl.mp r1, ?_⟩
          cases b with
          | true => exact iteT ⟨G1, A1, s1, h1⟩
          | false => exact iteF (Fin.vl (d := .bl false) h1 s1 (rep_bl.mpr rfl))
        | _ => exact h1.elim
      | Or =>
        refine pe_imp (pe_or h.d ih) fun σ H Q q => ?_
        obtain ⟨G, A, s, q⟩ := q
        refine tofG.bind s sh_R q fun x A1 v G1 H1 s1 c1 r1 h1 => ?_
        cases x with
        | bl b =>
          have r1 : Rep Z G1 (.bl b) v := r1
          refine ⟨b, rep_bl.mp r1, ?_⟩
          cases b with
          | false => exact iteF ⟨G1, A1, s1, h1⟩
          | true => exact iteT (Fin.vl (d := .bl true) h1 s1 (rep_bl.mpr rfl))
        | _ => exact h1.elim
theorem pw_evb {o : BoolOp} {pos : Pos} : ∀ {es : List Expr} {as : List A2}, SEs Z W X es as → plainL as = true → as ≠ [] → PW X (.BoolOp o es pos) (tofb Z W (evbt o as))
  | [], [], _, _, h => (h rfl).elim
  | [e], [a], h, p, _ => by
    cases h with
    | cons h ns n t =>
      cases o with
      | And => exact pw_and1 h.t
      | Or => exact pw_or1 h.t
    | star h t => cases p
  | e :: e2 :: es, a :: a2 :: as, h, p, _ => by
    cases h with
    | star h t => cases p
    | cons h ns n t =>
      have p2 : plainL (a2 :: as) = true := p
      have ih := pw_evb (o := o) (pos := pos) t p2 (by simp)
      cases o with
      | And =>
        refine pw_imp (pw_and h.t ih) fun σ H Q q => ?_
        obtain ⟨G, A, s, q⟩ := q
        refine tofG.bind s sh_B q fun x A1 v G1 H1 s1 c1 r1 h1 => ?_
        have r1 : v = x := r1
        subst r1
        cases v with
        | true => exact iteT ⟨G1, A1, s1, h1⟩
        | false => exact iteF (h1 false G1 H1 s1 .refl rfl)
      | Or =>
        refine pw_imp (pw_or h.t ih) fun σ H Q q => ?_
        obtain ⟨G, A, s, q⟩ := q
        refine tofG.bind s sh_B q fun x A1 v G1 H1 s1 c1 r1 h1 => ?_
        have r1 : v = x := r1
        subst r1
        cases v with
        | false => exact iteF ⟨G1, A1, s1, h1⟩
        | true => exact iteT (h1 true G1 H1 s1 .refl rfl)
theorem se_bo {o : BoolOp} {pos : Pos} {es : List Expr} {as : List A2} (h : SEs Z W X es as) (p : plainL as = true) (ne : as ≠ []) : SE Z W X (.BoolOp o es pos) ⟨evb o as, evbt o as⟩ :=
  ⟨pe_evb h p ne, (pw_evb h p ne).pt⟩
theorem pe_orA {a b : Expr} {pos : Pos} {f g : E2} (hK : X.K = Z.K) (ha : SE Z W X a f) (hb : SE Z W X b g) : PE X (.BoolOp .Or [a, b] pos) (tof Z W fun A => Rs.bind (f.v A) fun x A1 => match truD x.dd with
    | some true => some (.ok x A1)
    | some false => g.v A1
    | none => none) := by
  refine pe_imp (pe_orT ha.v (pe_one hb.v)) fun σ H Q q => ?_
  obtain ⟨G, A, s, q⟩ := q
  refine ⟨G, A, s, ?_⟩
  dsimp only at q
  cases e0 : f.v A with
  | none => rw [e0] at q; exact q.elim
  | some z =>
    rw [e0] at q
    cases z with
    | ex c fs A1 => exact q
    | ok x A1 =>
      intro v G1 H1 s1 c1 r1
      have q : tofS Z W (RR Z) (match truD x.dd with
        | some true => some (.ok x A1)
        | some false => g.v A1
        | none => none) σ A G H Q := q
      cases e : truD x.dd with
      | none => rw [e] at q; exact q.elim
      | some k =>
        rw [e] at q
        obtain ⟨G2, s2, r2⟩ := RR.rep r1 s1.sub
        refine ⟨k, by rw [hK]; exact tru_ok e s2 r2, ?_⟩
        cases k with
        | true => exact iteT (q v G1 H1 s1 c1 r1)
        | false => exact iteF ⟨G1, A1, s1, q.shift sh_R c1⟩
theorem pe_iteA {c a b : Expr} {pos : Pos} {k f g : E2} (hc : SE Z W X c k) (ha : SE Z W X a f) (hb : SE Z W X b g) : PE X (.IfExp c a b pos) (tof Z W fun A => Rs.bind (k.t A) fun t A1 => if t then f.v A1 else g.v A1) := by
  refine pe_imp (pe_ifExp hc.t ha.v hb.v) fun σ H Q q => ?_
  obtain ⟨G, A, s, q⟩ := q
  refine tofG.bind s sh_R q fun x A1 v G1 H1 s1 c1 r1 h1 => ?_
  have r1 : v = x := r1
  subst r1
  cases v with
  | true => exact iteT ⟨G1, A1, s1, h1⟩
  | false => exact iteF ⟨G1, A1, s1, h1⟩
/-! ### displays -/
theorem seq_rep {d : D} {ds : List D} {G : Hp} {v : V} (h : seqD d = some ds) (r : Rep Z G d v) : ∃ p xs, v = .ref p ∧ (SqT Z.K G p xs ∨ SqL Z.K G p xs) ∧ Reps Z G ds xs := by
  unfold seqD at h
  split at h
  · cases h
    obtain ⟨p, xs, e, hp, rs⟩ := rep_lst.mp r
    exact ⟨p, xs, e, .inr (.of hp), rs⟩
  · cases h
    obtain ⟨p, xs, e, hp, rs⟩ := rep_tup.mp r
    exact ⟨p, xs, e, .inl hp, rs⟩
  · cases h
theorem pa_evs (hK : X.K = Z.K) : ∀ {es : List Expr} {as : List A2}, SEs Z W X es as → PA X es (tofl Z W (evs as))
  | [], _, h => by
    cases h
    refine pa_imp pa_nil fun σ H Q q => ?_
    obtain ⟨G, A, s, q⟩ := q
    exact q [] G H s .refl .nil
  | e :: es, _, h => by
    cases h with
    | cons h ns n t =>
      refine pa_imp (pa_cons h.d (pa_evs hK t) (star_no ns)) fun σ H Q q => ?_
      obtain ⟨G, A, s, q⟩ := q
      refine tofG.bind s sh_L q fun x A1 v G1 H1 s1 c1 r1 h1 => tofG.bind s1 sh_L h1 fun xs A2 vs G2 H2 s2 c2 r2 h2 => ?_
      exact h2 (v :: vs) G2 H2 s2 .refl (.cons (Rep.mono c2.sub r1) r2)
    | star h t =>
      refine pa_imp (StX.pa_star h.d (pa_evs hK t)) fun σ H Q q => ?_
      obtain ⟨G, A, s, q⟩ := q
      refine tofG.bind s sh_L q fun x A1 v G1 H1 s1 c1 r1 h1 => ?_
      cases e : seqD x with
      | none =>
        -- whatever follows, it is stuck
        rw [e] at h1
        exact h1.elim
      | some ys =>
        rw [e] at h1
        obtain ⟨p, zs, rfl, hp, rs⟩ := seq_rep e r1
        refine ⟨p, zs, rfl, ?_, tofG.bind s1 sh_L h1 fun xs A2 vs G2 H2 s2 c2 r2 h2 => ?_⟩
        · rw [hK]
          rcases hp with hp | hp
          · exact .inl (s1.sub.sqt hp)
          · exact .inr (s1.sub.sql hp)
        · exact h2 (zs ++ vs) G2 H2 s2 .refl ((Reps.mono c2.sub rs).append r2)
theorem pe_tupA {es : List Expr} {as : List A2} {k : Nat} {pos : Pos} (hK : X.K = Z.K) (h : SEs Z W X es as) : PE X (.Tuple es k pos) (tof Z W fun A => Rs.bind (evs as A) fun ds A1 => if short ds then some (.ok (.v (.tup ds)) A1) else none) := by
  refine pe_imp (pe_tup (pa_evs hK h)) fun σ H Q q => ?_
  obtain ⟨G, A, s, q⟩ := q
  refine tofG.bind s sh_R q fun ds A1 vs G1 H1 s1 c1 r1 h1 => ?_
  cases e : short ds with
  | false => rw [e] at h1; exact h1.elim
  | true =>
    rw [e] at h1
    have r1 : Reps Z G1 ds vs := r1
    exact ⟨by rw [r1.len]; exact Nat.le_trans (short_of e) most_le, Fin.tup h1 s1 r1⟩
theorem pe_lstA {es : List Expr} {as : List A2} {pos : Pos} (hK : X.K = Z.K) (h : SEs Z W X es as) : PE X (.List es pos) (tof Z W fun A => Rs.bind (evs as A) fun ds A1 => if short ds then some (.ok (.o (.l ds)) A1) else none) := by
  refine pe_imp (pe_lst (pa_evs hK h)) fun σ H Q q => ?_
  obtain ⟨G, A, s, q⟩ := q
  refine tofG.bind s sh_R q fun ds A1 vs G1 H1 s1 c1 r1 h1 => ?_
  cases e : short ds with
  | false => rw [e] at h1; exact h1.elim
  | true =>
    rw [e] at h1
    have r1 : Reps Z G1 ds vs := r1
    exact ⟨by rw [r1.len]; exact Nat.le_trans (short_of e) most_le, Fin.lst h1 s1 r1⟩
end
end AI
/-! Built-ins, items, slices, places' own objects. -/
namespace AI
open PySem PySem.Spec L2
open PyProof.Rows hiding St
section
variable {Z : Zt} {W : WX} {X : Cx}
theorem plain_back {pos : Pos} {env : Env} : ∀ {es : List Expr} {as : List A2}, SEs Z W X es as → plainL as = true → (backTo pos (starEach es env)).any (·.1) = false
  | [], _, _, _ => rfl
  | e :: es, _, h, p => by
    cases h with
    | cons h ns n t =>
      rw [star_no ns]
      show (false || (backTo pos (starEach es env)).any (·.1)) = false
      rw [Bool.false_or]
      exact plain_back t p
    | star h t => cases p
def RPL (Z : Zt) : Hp → Hp → Hp → List D → List V → Prop := fun _ G' H' ds vs => RPs Z G' H' ds vs
theorem RP.mono {G H G' H' : Hp} {d : D} {v : V} (s : Sub G G') (r : Rep Z G d v) : RP Z G' H' d v := .inl (Rep.mono s r)
theorem pa_evp (hK : X.K = Z.K) : ∀ {es : List Expr} {as : List A2}, SEs Z W X es as → plainL as = true → PA X es (tofG Z W (RPL Z) (evp as))
  | [], _, h, _ => by
    cases h
    refine pa_imp pa_nil fun σ H Q q => ?_
    obtain ⟨G, A, s, q⟩ := q
    exact q [] G H s .refl rfl
  | [e], _, h, p => by
    cases h with
    | star h t => cases p
    | cons h ns n t =>
      cases t
      rename_i f nm
      cases nm with
      | none =>
        refine pa_imp (pa_cons h.d pa_nil (star_no ns)) fun σ H Q q => ?_
        obtain ⟨G, A, s, q⟩ := q
        refine tofG.bind s (RT := RPL Z) (fun _ _ _ _ _ _ _ r => r) q fun x A1 v G1 H1 s1 c1 r1 h1 => ?_
        exact h1 [v] G1 H1 s1 .refl ⟨v, [], rfl, .inl r1, rfl⟩
      | some i =>
        obtain ⟨x, pos, rfl, hN, hv, hd, hcd⟩ := n i rfl
        refine pa_imp (pa_cons (pe_peek (W := W) (Z := Z) hN hv hd hcd) pa_nil (star_no ns)) fun σ H Q q => ?_
        obtain ⟨G, A, s, q⟩ := q
        refine tofG.bind s (RT := RPL Z) (fun _ _ _ _ _ _ _ r => r) q fun x A1 v G1 H1 s1 c1 r1 h1 => ?_
        exact h1 [v] G1 H1 s1 .refl ⟨v, [], rfl, r1, rfl⟩
  | e :: e2 :: es, _, h, p => by
    cases h with
    | star h t => cases p
    | cons h ns n t =>
      have p2 := p
      cases t with
      | star h' t' => cases p
      | cons h' ns' n' t' =>
        refine pa_imp (pa_cons h.d (pa_evp hK (.cons h' ns' n' t') p2) (star_no ns)) fun σ H Q q => ?_
        obtain ⟨G, A, s, q⟩ := q
        refine tofG.bind s (RT := RPL Z) (fun _ _ _ _ _ _ _ r => r) q fun x A1 v G1 H1 s1 c1 r1 h1 => tofG.bind s1 (RT := RPL Z) (fun _ _ _ _ _ _ _ r => r) h1 fun xs A2 vs G2 H2 s2 c2 r2 h2 => ?_
        exact h2 (v :: vs) G2 H2 s2 .refl ⟨v, vs, rfl, .inl (Rep.mono c2.sub r1), r2⟩
theorem pe_biA {b : Bi} {e : Expr} {es : List Expr} {as : List A2} {p pos : Pos} (hK : X.K = Z.K) (hc : X.calm = true) (hg : Gl X b.nm) (hm : X.mg b.nm = none) (h : SEs Z W X (e :: es) as) (pl : plainL as = true) :
    PE X (.Call (.Name b.nm p) (e :: es) [] pos) (tof Z W fun A => Rs.bind (evp as A) fun ds A1 => toR A1 (doBi b ds)) := by
  have ns : noStar e = true := by
    cases h with
    | cons h ns n t => exact ns
    | star h t => cases pl
  have pe : PE X (.Call (.Name b.nm p) (e :: es) [] pos) (tCB (uniCall X b.val) (tofG Z W (RPL Z) (evp as))) := by
    have pb : ∀ {as' : List A2} {es' : List Expr}, SEs Z W X es' as' → plainL as' = true → (backTo pos (starEach es' X.env)).any (·.1) = false := fun h p => plain_back h p
    have hpl : (backTo pos (starEach es X.env)).any (·.1) = false := by
      cases h with
      | cons h ns n t => exact pb t pl
      | star h t => cases pl
    have key : (∃ id, b.val = .builtin id) ∨ ∃ T, b.val = .type T := by cases b <;> first | exact .inl ⟨_, rfl⟩ | exact .inr ⟨_, rfl⟩
    have hb := b.boot
    rcases key with ⟨id, e'⟩ | ⟨T, e'⟩
    · rw [e'] at hb ⊢
      exact pe_callB cr_uni hg hm hb (pa_evp hK h pl) b.ne1 b.ne2 (star_no ns) hpl
    · rw [e'] at hb ⊢
      exact pe_callTy cr_uni hg hm hb (pa_evp hK h pl) b.ne1 b.ne2 (star_no ns) hpl
  refine pe_imp pe fun σ H Q q => ?_
  obtain ⟨G, A, s, q⟩ := q
  refine tofG.bind s sh_R q fun ds A1 vs G1 H1 s1 c1 r1 h1 => ?_
  cases e : doBi b ds with
  | none => rw [e] at h1; exact h1.elim
  | some r =>
    rw [e] at h1
    obtain ⟨rr, ok, sp⟩ := bi_ok hK hc e
    exact ⟨rr, ok, sp G1 H1 σ A1 vs Q s1 r1 h1⟩
/-! ### isinstance -/
theorem Ty.boot (t : Ty) : bootBuiltins (PySem.Str.ofString t.nm) = some (.type t.nm) := by cases t <;> decide +kernel
theorem Ty.ne1 (t : Ty) : PySem.Str.ofString t.nm ≠ "__name__" := by cases t <;> decide +kernel
theorem Ty.ne2 (t : Ty) : (PySem.Str.ofString t.nm == ("__debug__" : Str)) = false := by cases t <;> decide +kernel
theorem pe_ty {t : Ty} {p : Pos} (hg : Gl X (PySem.Str.ofString t.nm)) (hm : X.mg (PySem.Str.ofString t.nm) = none) : PE X (.Name (PySem.Str.ofString t.nm) p) (tC (.ty t.nm)) := pe_bltn hg hm t.boot rfl t.ne1 t.ne2
theorem pe_isi1 {a : Expr} {t : Ty} {f : E2} {p p2 pos : Pos} (hK : X.K = Z.K) (hg : Gl X "isinstance") (hm : X.mg "isinstance" = none) (hg2 : Gl X (PySem.Str.ofString t.nm)) (hm2 : X.mg (PySem.Str.ofString t.nm) = none) (ha : SE Z W X a f) (ns : noStar a = true) :
    PE X (.Call (.Name "isinstance" p) [a, .Name (PySem.Str.ofString t.nm) p2] [] pos) (tof Z W fun A => Rs.bind (f.d A) fun x A1 => if isAtom x then some (.ok (.v (.bl ([t].any (isTy x)))) A1) else none) := by
  refine pe_imp (pe_callB call_isi hg hm (by decide +kernel) (pa_cons ha.d (pa_cons (pe_ty hg2 hm2) pa_nil) (star_no ns)) (by decide) (by decide) (star_no ns) rfl) fun σ H Q q => ?_
  obtain ⟨G, A, s, q⟩ := q
  refine tofG.bind s sh_R q fun x A1 v G1 H1 s1 c1 r1 h1 => ?_
  cases e : isAtom x with
  | false => rw [e] at h1; exact h1.elim
  | true =>
    rw [e] at h1
    refine ⟨v, .ty t.nm, .type (tyOf x), .type t.nm, isTy x t, rfl, .ty _, by rw [hK]; exact tyx_of e s1.sub r1, kit_d e t, ?_⟩
    have h1' : Fin Z σ A1 G1 H1 (RR Z) (.v (.bl ([t].any (isTy x)))) Q := h1
    rw [List.any_cons, List.any_nil, Bool.or_false] at h1'
    exact h1'.bl s1 rfl
theorem pa_tys {ps : List Pos} : ∀ {ts : List Ty} {es : List Expr}, (∀ t ∈ ts, Gl X (PySem.Str.ofString t.nm) ∧ X.mg (PySem.Str.ofString t.nm) = none) → Paired (fun (t : Ty) (e : Expr) => ∃ p, e = .Name (PySem.Str.ofString t.nm) p) ts es →
    PA X es (fun _ H Q => Q (ts.map fun t => V.ty t.nm) H)
  | [], _, _, .nil => pa_nil
  | t :: ts, _, h, .cons e r => by
    obtain ⟨p, rfl⟩ := e
    obtain ⟨g, m⟩ := h t List.mem_cons_self
    exact pa_imp (pa_cons (pe_ty g m) (pa_tys (ps := ps) (fun t' h' => h t' (List.mem_cons_of_mem _ h')) r) rfl) fun σ H Q q => q
theorem pe_isiN {a : Expr} {ts : List Ty} {es : List Expr} {f : E2} {k : Nat} {p p2 pos : Pos} (hK : X.K = Z.K) (hg : Gl X "isinstance") (hm : X.mg "isinstance" = none)
    (hts : ∀ t ∈ ts, Gl X (PySem.Str.ofString t.nm) ∧ X.mg (PySem.Str.ofString t.nm) = none) (he : Paired (fun (t : Ty) (e : Expr) => ∃ p, e = .Name (PySem.Str.ofString t.nm) p) ts es) (ha : SE Z W X a f) (ns : noStar a = true) (hl : ts.length ≤ most) :
    PE X (.Call (.Name "isinstance" p) [a, .Tuple es k p2] [] pos) (tof Z W fun A => Rs.bind (f.d A) fun x A1 => if isAtom x then some (.ok (.v (.bl (ts.any (isTy x)))) A1) else none) := by
  refine pe_imp (pe_callB call_isiT hg hm (by decide +kernel) (pa_cons ha.d (pa_cons (pe_tup (pa_tys (ps := []) hts he)) pa_nil) (star_no ns)) (by decide) (by decide) (star_no ns) rfl) fun σ H Q q => ?_
  obtain ⟨G, A, s, q⟩ := q
  refine tofG.bind s sh_R q fun x A1 v G1 H1 s1 c1 r1 h1 => ?_
  cases e : isAtom x with
  | false => rw [e] at h1; exact h1.elim
  | true =>
    rw [e] at h1
    refine ⟨by rw [List.length_map]; exact Nat.le_trans hl most_le, fun tp n => ?_⟩
    have s2 := s1.grow (o := .tup (ts.map fun t => V.ty t.nm)) n
    have cl : ∀ ts : List Ty, Paired ClsV (ts.map fun t => V.ty t.nm) (ts.map fun t => Value.type t.nm) := fun ts => by
      induction ts with
      | nil => exact .nil
      | cons t r ih => exact .cons (.ty _) ih
    exact ⟨v, tp, _, .type (tyOf x), _, _, rfl, upd_same, cl ts, by rw [hK]; exact tyx_of e s2.sub r1, kits_d e ts, h1 (.bl _) G1 _ s2 (Ch.refl.grow n) (show Rep Z G1 (.bl _) (.bl _) from rep_bl.mpr rfl)⟩
/-! ### items, slices -/
def simpleIx : Expr → Bool
  | .Slice _ _ _ _ => false
  | .Starred _ _ => false
  | _ => true
theorem plain_ix {b : Expr} (h : simpleIx b = true) : PlainIx b := by
  cases b <;> first | exact fun _ _ => rfl | cases h
theorem pe_ixA {a b : Expr} {f g : E2} {pos : Pos} (hK : X.K = Z.K) (hs : simpleIx b = true) (ha : SE Z W X a f) (hb : SE Z W X b g) :
    PE X (.Subscript a b pos) (tof Z W fun A => Rs.bind (f.d A) fun x A1 => Rs.bind (g.d A1) fun y A2 => toV A2 (doIx x y)) := by
  refine pe_imp (pe_ix ix_uni ha.d hb.d (plain_ix hs)) fun σ H Q q => ?_
  obtain ⟨G, A, s, q⟩ := q
  refine tofG.bind s sh_R q fun x A1 v G1 H1 s1 c1 r1 h1 => tofG.bind s1 sh_R h1 fun y A2 u G2 H2 s2 c2 r2 h2 => ?_
  cases e : doIx x y with
  | none => rw [e] at h2; exact h2.elim
  | some d =>
    rw [e] at h2
    obtain ⟨rr, ok, sp⟩ := ix_ok hK e
    exact ⟨rr, ok, sp G2 H2 v u Q s2.sub (.inl (Rep.mono c2.sub r1)) (.inl r2) fun w r => h2 w G2 H2 s2 .refl r⟩
theorem set_some {G H : Hp} {σ : St} {A : As} {i : Nat} (s : StR Z G H σ A) (h : setA A i = true) : ∃ v, σ[i]? = some (some v) := by
  unfold setA at h
  cases e : A[i]? with
  | none => rw [e] at h; cases h
  | some x =>
    rw [e] at h
    cases x with
    | no => cases h
    | v d => obtain ⟨v, a, _⟩ := s.val i d e; exact ⟨v, a⟩
    | o b => obtain ⟨p, _, a, _⟩ := s.own i b e; exact ⟨_, a⟩
/-- what a look at a place gives -/
theorem peek_rp {G H : Hp} {σ : St} {A A' : As} {i : Nat} {d : D} {v : V} (s : StR Z G H σ A) (hv : σ[i]? = some (some v)) (h : peekA A i = some (.ok d A')) : A' = A ∧ RP Z G H d v := by
  unfold peekA at h
  cases e : A[i]? with
  | none => rw [e] at h; cases h
  | some x =>
    rw [e] at h
    cases x with
    | no => cases h
    | v d' =>
      cases h
      obtain ⟨w, a, r⟩ := s.val i _ e
      rw [hv] at a
      cases a
      exact ⟨rfl, .inl r⟩
    | o b =>
      cases h
      obtain ⟨p, o, a, g, hp, r⟩ := s.own i b e
      rw [hv] at a
      cases a
      exact ⟨rfl, .inr ⟨p, o, b, rfl, g, hp, r, rfl⟩⟩
theorem pe_ixvA {i : Nat} {x : Str} {b : Expr} {g : E2} {p pos : Pos} (hK : X.K = Z.K) (hs : simpleIx b = true) (hN : X.N[i]? = some x) (hv : Vis X.env.scope x) (hd : (x == ("__debug__" : Str)) = false) (hcd : (x == ("__classdict__" : Str)) = false) (hb : SE Z W X b g) :
    PE X (.Subscript (.Name x p) b pos) (tof Z W fun A => if setA A i then Rs.bind (g.d A) fun y A1 => Rs.bind (peekA A1 i) fun x A2 => toV A2 (doIx x y) else none) := by
  refine pe_imp (pe_ix ix_uni (pe_var hN hv hd hcd) hb.d (plain_ix hs)) fun σ H Q q => ?_
  obtain ⟨G, A, s, q⟩ := q
  dsimp only at q
  cases e0 : setA A i with
  | false => rw [e0] at q; exact q.elim
  | true =>
    rw [e0] at q
    obtain ⟨v, a⟩ := set_some s e0
    refine ⟨v, a, tofG.bind s sh_R q fun y A1 u G1 H1 s1 c1 r1 h1 => ?_⟩
    cases e1 : peekA A1 i with
    | none => rw [e1] at h1; exact h1.elim
    | some z =>
      rw [e1] at h1
      cases z with
      | ex c fs A2 =>
        unfold peekA at e1
        split at e1 <;> cases e1
      | ok d A2 =>
        obtain ⟨rfl, rp⟩ := peek_rp s1 a e1
        have h1' : tofS Z W (RR Z) (toV A2 (doIx d y)) σ A2 G1 H1 Q := h1
        cases e : doIx d y with
        | none => rw [e] at h1'; exact h1'.elim
        | some w =>
          rw [e] at h1'
          obtain ⟨rr, ok, sp⟩ := ix_ok hK e
          exact ⟨rr, ok, sp G1 H1 v u Q s1.sub rp (.inl r1) fun z r => h1' z G1 H1 s1 .refl r⟩
theorem pe_slA {a : Expr} {lo hi : Option Expr} {f : E2} {fl fh : Option E2} {p2 pos : Pos} (hK : X.K = Z.K) (ha : SE Z W X a f)
    (hl : (lo = none ∧ fl = none) ∨ ∃ e g, lo = some e ∧ fl = some g ∧ SE Z W X e g) (hh : (hi = none ∧ fh = none) ∨ ∃ e g, hi = some e ∧ fh = some g ∧ SE Z W X e g) :
    PE X (.Subscript a (.Slice lo hi none p2) pos) (tof Z W fun A => Rs.bind (f.d A) fun x A1 => Rs.bind (optI (evo fl A1)) fun l A2 => Rs.bind (optI (evo fh A2)) fun h A3 => toR A3 (doSl x l h)) := by
  have part : ∀ {o : Option Expr} {fo : Option E2}, ((o = none ∧ fo = none) ∨ ∃ e g, o = some e ∧ fo = some g ∧ SE Z W X e g) → PO X o (tofG Z W (fun _ _ _ (a b : Option Int) => b = a) fun A => optI (evo fo A)) := by
    intro o fo h
    rcases h with ⟨rfl, rfl⟩ | ⟨e, g, rfl, rfl, h⟩
    · refine ⟨fun pins s σ H Q I q => po_none.run pins s σ H Q I ?_⟩
      obtain ⟨G, A, s', q⟩ := q
      exact q none G H s' .refl rfl
    · refine ⟨fun pins s σ H Q I q => (po_some h.d).run pins s σ H Q I ?_⟩
      obtain ⟨G, A, s', q⟩ := q
      have q' : tofS Z W (fun _ _ _ (a b : Option Int) => b = a) (optI (Rs.bind (g.d A) fun x A1 => some (.ok (some x) A1))) σ A G H Q := q
      have q2 : tofS Z W (fun _ _ _ (a b : Option Int) => b = a) (Rs.bind (g.d A) fun x A1 => optI (some (.ok (some x) A1))) σ A G H Q := by
        cases e0 : g.d A with
        | none => rw [e0] at q'; exact q'
        | some z => rw [e0] at q'; cases z <;> exact q'
      refine tofG.bind s' (fun _ _ _ _ _ _ _ r => r) q2 fun x A1 v G1 H1 s1 c1 r1 h1 => ?_
      cases x with
      | int i =>
        have h1' : tofS Z W (fun _ _ _ (a b : Option Int) => b = a) (if okI i then some (.ok (some i) A1) else none) σ A1 G1 H1 Q := h1
        cases e : okI i with
        | false => rw [e] at h1'; exact h1'.elim
        | true =>
          rw [e] at h1'
          exact ⟨i, rep_int.mp (show Rep Z G1 (.int i) v from r1), h1' (some i) G1 H1 s1 .refl rfl⟩
      | _ => exact h1.elim
  refine pe_imp (pe_slice sl_uni ha.d (part hl) (part hh)) fun σ H Q q => ?_
  obtain ⟨G, A, s, q⟩ := q
  refine tofG.bind s sh_R q fun x A1 v G1 H1 s1 c1 r1 h1 => tofG.bind s1 sh_R h1 fun l A2 l' G2 H2 s2 c2 r2 h2 => tofG.bind s2 sh_R h2 fun h A3 h' G3 H3 s3 c3 r3 h3 => ?_
  subst r2
  subst r3
  cases e : doSl x l' h' with
  | none => rw [e] at h3; exact h3.elim
  | some r =>
    rw [e] at h3
    obtain ⟨rr, ok, sp⟩ := sl_ok hK e
    exact ⟨rr, ok, sp G3 H3 σ A3 v Q s3 (Rep.mono c3.sub (Rep.mono c2.sub r1)) h3⟩
end
end AI
/-! Targets, what is gone through. -/
namespace AI
open PySem PySem.Spec L2
open PyProof.Rows hiding St
mutual
def tgs : Tg → List Nat
  | .n i => [i]
  | .t ts => tgss ts
def tgss : List Tg → List Nat
  | [] => []
  | t :: ts => tgs t ++ tgss ts
end
/-- what a store by a target leaves -/
structure TgR (l : List Nat) (σ : St) (A : As) (σ' : St) (A' : As) : Prop where
  own : ∀ b, Own σ' A' b → Own σ A b
  same : ∀ i, i ∉ l → σ'[i]? = σ[i]? ∧ A'[i]? = A[i]?
section
variable {Z : Zt} {W : WX} {X : Cx} {G H : Hp} {σ σ' : St} {A A' : As} {Bs : List Nat}
theorem TgR.refl {l : List Nat} : TgR l σ A σ A := ⟨fun _ h => h, fun _ _ => ⟨rfl, rfl⟩⟩
theorem TgR.trans {l m : List Nat} {σ2 : St} {A2 : As} (a : TgR l σ A σ' A') (b : TgR m σ' A' σ2 A2) : TgR (l ++ m) σ A σ2 A2 :=
  ⟨fun c h => a.own c (b.own c h), fun i h => by
    have h1 : i ∉ l := fun z => h (List.mem_append_left _ z)
    have h2 : i ∉ m := fun z => h (List.mem_append_right _ z)
    obtain ⟨a1, a2⟩ := a.same i h1
    obtain ⟨b1, b2⟩ := b.same i h2
    exact ⟨b1.trans a1, b2.trans a2⟩⟩
theorem store_inv {i : Nat} {x : Sl} (h : store Bs i x A = some A') : i ∉ Bs ∧ i < A.length ∧ A' = A.set i x := by
  unfold store at h
  split at h
  · cases h
  · split at h
    · cases h; exact ⟨by assumption, by assumption, rfl⟩
    · cases h
theorem StR.store {i : Nat} {d : D} {v : V} (s : StR Z G H σ A) (hi : i < A.length) (r : Rep Z G d v) : StR Z G H (σ.set i (some v)) (A.set i (.v d)) ∧ TgR [i] σ A (σ.set i (some v)) (A.set i (.v d)) := by
  have hs : i < σ.length := by rw [s.len]; exact hi
  have ne : ∀ {j : Nat} {b : Ob}, (A.set i (.v d))[j]? = some (.o b) → j ≠ i := fun {j b} e z => by
    subst z
    rw [List.getElem?_set_self hi] at e
    cases e
  refine ⟨⟨s.sub, by rw [List.length_set, List.length_set]; exact s.len, fun j e q => ?_, fun j b q => ?_, fun j k b c p e1 e2 a1 a2 => ?_⟩, ⟨fun b ⟨j, c, e1, a1⟩ => ?_, fun j h => ?_⟩⟩
  · by_cases z : j = i
    · subst z
      rw [List.getElem?_set_self hi] at q
      cases q
      exact ⟨v, List.getElem?_set_self hs, r⟩
    · rw [List.getElem?_set_ne (Ne.symm z)] at q ⊢
      exact s.val j e q
  · have z := ne q
    rw [List.getElem?_set_ne (Ne.symm z)] at q ⊢
    exact s.own j b q
  · have z1 := ne e1
    have z2 := ne e2
    rw [List.getElem?_set_ne (Ne.symm z1)] at e1 a1
    rw [List.getElem?_set_ne (Ne.symm z2)] at e2 a2
    exact s.inj j k b c p e1 e2 a1 a2
  · have z1 := ne e1
    rw [List.getElem?_set_ne (Ne.symm z1)] at e1 a1
    exact ⟨j, c, e1, a1⟩
  · have z : i ≠ j := fun z => h (by rw [z]; exact List.mem_singleton.mpr rfl)
    exact ⟨List.getElem?_set_ne z, List.getElem?_set_ne z⟩
def tofT (Z : Zt) (Bs : List Nat) (tg : Tg) : TG := fun v σ H Q => ∃ G A d A', StR Z G H σ A ∧ Rep Z G d v ∧ asgT Bs tg d A = some A' ∧ ∀ σ', StR Z G H σ' A' → TgR (tgs tg) σ A σ' A' → Q σ' H
def tofTs (Z : Zt) (Bs : List Nat) (ts : List Tg) : TGs := fun vs σ H Q => ∃ G A ds A', StR Z G H σ A ∧ Reps Z G ds vs ∧ asgTs Bs ts ds A = some A' ∧ ∀ σ', StR Z G H σ' A' → TgR (tgss ts) σ A σ' A' → Q σ' H
theorem pg_imp {e : Expr} {t t' : TG} (p : PG X e t) (h : ∀ v σ H Q, t' v σ H Q → t v σ H Q) : PG X e t' := ⟨fun pins s σ H v u Q I r q => p.run pins s σ H v u Q I r (h _ _ _ _ q)⟩
theorem pg_any {e : Expr} {t' : TG} (h : ∀ v σ H Q, t' v σ H Q → ∃ t, PG X e t ∧ t v σ H Q) : PG X e t' := ⟨fun pins s σ H v u Q I r q => by
  obtain ⟨t, p, w⟩ := h v σ H Q q
  exact p.run pins s σ H v u Q I r w⟩
theorem pgs_imp {es : List Expr} {t t' : TGs} (p : PGs X es t) (h : ∀ v σ H Q, t' v σ H Q → t v σ H Q) : PGs X es t' := ⟨fun pins s σ H v u Q I r q => p.run pins s σ H v u Q I r (h _ _ _ _ q)⟩
/-! a target's text -/
mutual
inductive TgOk (X : Cx) : Tg → Expr → Prop
  | n {i : Nat} {x : Str} {pos : Pos} (hN : X.N[i]? = some x) (hl : Loc X.env.scope x) (hf : X.fn x = true ∨ X.env.scope.names.lookup x = some .local) : TgOk X (.n i) (.Name x pos)
  | t {ts : List Tg} {es : List Expr} {k : Nat} {pos : Pos} (h : TgsOk X ts es) : TgOk X (.t ts) (.Tuple es k pos)
inductive TgsOk (X : Cx) : List Tg → List Expr → Prop
  | nil : TgsOk X [] []
  | cons {t : Tg} {ts : List Tg} {e : Expr} {es : List Expr} (h : TgOk X t e) (r : TgsOk X ts es) : TgsOk X (t :: ts) (e :: es)
end
theorem TgsOk.each {ts : List Tg} {es : List Expr} (h : TgsOk X ts es) {env : Env} : (assignEach es env).map (·.2) = es.map (fun e => assign e env) ∧ (assignEach es env).findIdx? (·.1) = none ∧ (assignEach es env).length = ts.length := by
  induction es generalizing ts with
  | nil => cases h; exact ⟨rfl, rfl, rfl⟩
  | cons e es ih =>
    cases h with
    | cons h r =>
      obtain ⟨i1, i2, i3⟩ := ih r
      have ee : assignEach (e :: es) env = (false, assign e env) :: assignEach es env := by cases h <;> rfl
      rw [ee]
      refine ⟨by rw [List.map_cons, List.map_cons, i1], ?_, by rw [List.length_cons, List.length_cons, i3]⟩
      rw [List.findIdx?_cons]
      simp only [Bool.false_eq_true, if_false, i2]
      rfl
theorem asgTs_len {Bs : List Nat} : ∀ {ts : List Tg} {ds : List D} {A A' : As}, asgTs Bs ts ds A = some A' → ts.length = ds.length
  | [], [], _, _, _ => rfl
  | [], _ :: _, _, _, h => by unfold asgTs at h; cases h
  | _ :: _, [], _, _, h => by unfold asgTs at h; cases h
  | t :: ts, d :: ds, A, A', h => by
    unfold asgTs at h
    cases e : asgT Bs t d A with
    | none => rw [e] at h; cases h
    | some A1 =>
      rw [e] at h
      rw [List.length_cons, List.length_cons, asgTs_len h]
mutual
theorem pg_asg (hK : X.K = Z.K) (hc : X.calm = true) (nd : X.N.Nodup) : ∀ {tg : Tg} {e : Expr}, TgOk X tg e → PG X e (tofT Z Bs tg)
  | .n i, _, .n hN hl hf => by
    refine pg_imp (pg_name nd hN hl hf) fun v σ H Q q => ?_
    obtain ⟨G, A, d, A', s, r, h, k⟩ := q
    unfold asgT at h
    obtain ⟨h1, h2, rfl⟩ := store_inv h
    obtain ⟨s', t⟩ := s.store h2 r
    exact k _ s' t
  | .t ts, _, .t h => by
    obtain ⟨_, e2, e3⟩ := h.each (env := X.env)
    refine pg_any fun v σ H Q q => ?_
    obtain ⟨G, A, d, A', s, r, h', k⟩ := q
    unfold asgT at h'
    cases d with
    | tup ds =>
      obtain ⟨a, xs, rfl, hp, rs⟩ := rep_tup.mp r
      exact ⟨_, pg_tup hc (pgs_asg hK hc nd h) e3 e2, a, xs, rfl, by rw [hK]; exact s.sub.sqt hp, by rw [rs.len, asgTs_len h'], G, A, ds, A', s, rs, h', k⟩
    | lst ds =>
      obtain ⟨a, xs, rfl, hp, rs⟩ := rep_lst.mp r
      exact ⟨_, pg_unl hc (pgs_asg hK hc nd h) e3 e2, a, xs, rfl, .of (s.sub _ _ hp), by rw [rs.len, asgTs_len h'], G, A, ds, A', s, rs, h', k⟩
    | _ => cases h'
theorem pgs_asg (hK : X.K = Z.K) (hc : X.calm = true) (nd : X.N.Nodup) : ∀ {ts : List Tg} {es : List Expr}, TgsOk X ts es → PGs X es (tofTs Z Bs ts)
  | [], _, .nil => by
    refine pgs_imp pgs_nil fun v σ H Q q => ?_
    obtain ⟨G, A, ds, A', s, r, h, k⟩ := q
    cases ds with
    | nil =>
      unfold asgTs at h
      cases h
      rw [r.inv0]
      exact ⟨rfl, k σ s .refl⟩
    | cons d ds => unfold asgTs at h; cases h
  | t :: ts, e :: es, .cons h r => by
    refine pgs_imp (pgs_cons (pg_asg hK hc nd h) (pgs_asg hK hc nd r) (by cases h <;> rfl)) fun v σ H Q q => ?_
    obtain ⟨G, A, ds, A', s, rs, hh, k⟩ := q
    cases ds with
    | nil => unfold asgTs at hh; cases hh
    | cons d ds =>
      obtain ⟨w, ws, rfl, r1, r2⟩ := rs.inv
      unfold asgTs at hh
      cases e1 : asgT Bs t d A with
      | none => rw [e1] at hh; cases hh
      | some A1 =>
        rw [e1] at hh
        exact ⟨w, ws, rfl, G, A, d, A1, s, r1, e1, fun σ1 s1 t1 => ⟨G, A1, ds, A', s1, r2, hh, fun σ2 s2 t2 => k σ2 s2 (t1.trans t2)⟩⟩
end
/-! ### what is gone through -/
/-- the turns give these values, as long as what stands still in G does -/
structure ItOk (Z : Zt) (J : L2.It) (ds : List D) (G : Hp) : Prop where
  go : ∀ i H, Sub G H → i < ds.length → J.go i H
  stop : ∀ i H, Sub G H → ds.length ≤ i → J.stop i H
  yld : ∀ i (H H' : Hp) (x : V) (d : D) (G1 : Hp) (σ : St) (A : As), ds[i]? = some d → Sub G G1 → StR Z G1 H σ A → J.yld i H x H' → ∃ G', StR Z G' H' σ A ∧ Ch σ A A G1 H G' H' ∧ Rep Z G' d x
theorem it_list {a : Addr} {xs : List V} {ds : List D} {G : Hp} (h : SqL Z.K G a xs) (r : Reps Z G ds xs) : ItOk Z (Itl Z.K a) ds G where
  go := fun i H s hi => ⟨xs, xs[i]'(by rw [r.len]; exact hi), s.sql h, by simp [r.len, hi]⟩
  stop := fun i H s hi => ⟨xs, s.sql h, by rw [r.len]; exact hi⟩
  yld := fun i H H' x d G1 σ A e s st y => by
    obtain ⟨rfl, y⟩ := y
    obtain ⟨v, e1, r1⟩ := r.get e
    have e2 := y xs (st.sub.sql (s.sql h))
    rw [e1] at e2
    cases e2
    exact ⟨G1, st, .refl, Rep.mono s r1⟩
theorem it_tup {a : Addr} {xs : List V} {ds : List D} {G : Hp} (h : SqT Z.K G a xs) (r : Reps Z G ds xs) : ItOk Z (Itt Z.K a) ds G where
  go := fun i H s hi => ⟨xs, xs[i]'(by rw [r.len]; exact hi), s.sqt h, by simp [r.len, hi]⟩
  stop := fun i H s hi => ⟨xs, s.sqt h, by rw [r.len]; exact hi⟩
  yld := fun i H H' x d G1 σ A e s st y => by
    obtain ⟨rfl, y⟩ := y
    obtain ⟨v, e1, r1⟩ := r.get e
    have e2 := y xs (st.sub.sqt (s.sqt h))
    rw [e1] at e2
    cases e2
    exact ⟨G1, st, .refl, Rep.mono s r1⟩
theorem rng_get : ∀ {n i : Nat} {lo : Int} {d : D}, (rngD lo n)[i]? = some d → d = .int (lo + i)
  | 0, i, _, _, h => by unfold rngD at h; simp at h
  | n + 1, 0, lo, d, h => by
    unfold rngD at h
    have := Option.some.inj h
    rw [← this]; simp
  | n + 1, i + 1, lo, d, h => by
    unfold rngD at h
    have h' : (rngD (lo + 1) n)[i]? = some d := by simpa using h
    rw [rng_get h']
    congr 1
    push_cast
    omega
theorem rng_len : ∀ (n : Nat) (lo : Int), (rngD lo n).length = n
  | 0, _ => rfl
  | n + 1, lo => by unfold rngD; rw [List.length_cons, rng_len n]
theorem it_rng {lo : Int} {n : Nat} {G : Hp} : ItOk Z (Itr lo n) (rngD lo n) G where
  go := fun i H s hi => by rw [rng_len] at hi; exact hi
  stop := fun i H s hi => by rw [rng_len] at hi; exact hi
  yld := fun i H H' x d G1 σ A e s st y => by
    obtain ⟨rfl, rfl⟩ := y
    exact ⟨G1, st, .refl, by rw [rng_get e]; exact rep_int.mpr rfl⟩
theorem chars_get : ∀ {l : List Nat} {i : Nat} {d : D}, (charsD l)[i]? = some d → ∃ c, l[i]? = some c ∧ d = .str ⟨#[c]⟩
  | [], i, _, h => by unfold charsD at h; simp at h
  | c :: r, 0, d, h => by
    unfold charsD at h
    exact ⟨c, rfl, (Option.some.inj h).symm⟩
  | c :: r, i + 1, d, h => by
    unfold charsD at h
    have h' : (charsD r)[i]? = some d := by simpa using h
    obtain ⟨x, e, q⟩ := chars_get h'
    exact ⟨x, by simpa using e, q⟩
theorem chars_len : ∀ l : List Nat, (charsD l).length = l.length
  | [] => rfl
  | c :: r => by unfold charsD; rw [List.length_cons, List.length_cons, chars_len r]
theorem it_str {z : Str} {G : Hp} : ItOk Z (Its z) (charsD z.cps.toList) G where
  go := fun i H s hi => by
    rw [chars_len] at hi
    have : i < z.cps.size := by simpa using hi
    exact this
  stop := fun i H s hi => by
    rw [chars_len] at hi
    have : z.cps.size ≤ i := by simpa using hi
    exact this
  yld := fun i H H' x d G1 σ A e s st y => by
    obtain ⟨rfl, c, ec, rfl⟩ := y
    obtain ⟨c', e1, rfl⟩ := chars_get e
    have : c' = c := by
      have q : z.cps[i]? = some c' := by simpa using e1
      rw [ec] at q
      exact (Option.some.inj q).symm
    subst this
    exact ⟨G1, st, .refl, rep_str.mpr rfl⟩
theorem zip_get : ∀ {l r : List D} {i : Nat} {d : D}, (zipD l r)[i]? = some d → ∃ a b, l[i]? = some a ∧ r[i]? = some b ∧ d = .tup [a, b]
  | [], _, i, _, h => by unfold zipD at h; simp at h
  | _ :: _, [], i, _, h => by unfold zipD at h; simp at h
  | a :: l, b :: r, 0, d, h => by
    unfold zipD at h
    exact ⟨a, b, rfl, rfl, (Option.some.inj h).symm⟩
  | a :: l, b :: r, i + 1, d, h => by
    unfold zipD at h
    have h' : (zipD l r)[i]? = some d := by simpa using h
    obtain ⟨x, y, e1, e2, e3⟩ := zip_get h'
    exact ⟨x, y, by simpa using e1, by simpa using e2, e3⟩
theorem zip_len : ∀ l r : List D, (zipD l r).length = min l.length r.length
  | [], _ => by unfold zipD; simp
  | _ :: _, [] => by unfold zipD; simp
  | a :: l, b :: r => by
    unfold zipD
    rw [List.length_cons, zip_len l r, List.length_cons, List.length_cons]
    omega
/-- a pair that was just made -/
theorem pair_new {G1 H : Hp} {σ : St} {A : As} {T : Addr} {ds : List D} {xs : List V} (st : StR Z G1 H σ A) (n : H T = none) (r : Reps Z G1 ds xs) :
    ∃ G', StR Z G' (upd H T (.tup xs)) σ A ∧ Ch σ A A G1 H G' (upd H T (.tup xs)) ∧ Rep Z G' (.tup ds) (.ref T) := by
  have g : G1 T = none := st.sub.none n
  exact ⟨upd G1 T (.tup xs), (st.grow n).freeze g upd_same fun z => st.notOwn n z, (Ch.refl.grow n).freeze g (.inl n), rep_tup.mpr ⟨T, xs, rfl, .of upd_same, r.mono (sub_upd g)⟩⟩
theorem it_zip {a b : Addr} {xs ys : List V} {l r : List D} {G : Hp} (ha : SqL Z.K G a xs) (hb : SqL Z.K G b ys) (ra : Reps Z G l xs) (rb : Reps Z G r ys) : ItOk Z (Itz Z.K a b) (zipD l r) G where
  go := fun i H s hi => by
    rw [zip_len] at hi
    exact ⟨xs, ys, xs[i]'(by rw [ra.len]; omega), ys[i]'(by rw [rb.len]; omega), s.sql ha, s.sql hb, List.getElem?_eq_getElem _, List.getElem?_eq_getElem _⟩
  stop := fun i H s hi => by
    rw [zip_len] at hi
    exact ⟨xs, ys, s.sql ha, s.sql hb, by rw [ra.len, rb.len]; omega⟩
  yld := fun i H H' x d G1 σ A e s st y => by
    obtain ⟨T, u, w, rfl, n, rfl, y1, y2⟩ := y
    obtain ⟨c, d', e1, e2, rfl⟩ := zip_get e
    obtain ⟨v1, f1, r1⟩ := ra.get e1
    obtain ⟨v2, f2, r2⟩ := rb.get e2
    have g1 := y1 xs (st.sub.sql (s.sql ha))
    have g2 := y2 ys (st.sub.sql (s.sql hb))
    rw [f1] at g1
    rw [f2] at g2
    cases g1
    cases g2
    exact pair_new st n (.cons (Rep.mono s r1) (.one (Rep.mono s r2)))
theorem it_zipT {a b : Addr} {xs ys : List V} {l r : List D} {G : Hp} (ha : SqT Z.K G a xs) (hb : SqT Z.K G b ys) (ra : Reps Z G l xs) (rb : Reps Z G r ys) : ItOk Z (RZ.ItzT Z.K a b) (zipD l r) G where
  go := fun i H s hi => by
    rw [zip_len] at hi
    exact ⟨xs, ys, xs[i]'(by rw [ra.len]; omega), ys[i]'(by rw [rb.len]; omega), s.sqt ha, s.sqt hb, List.getElem?_eq_getElem _, List.getElem?_eq_getElem _⟩
  stop := fun i H s hi => by
    rw [zip_len] at hi
    exact ⟨xs, ys, s.sqt ha, s.sqt hb, by rw [ra.len, rb.len]; omega⟩
  yld := fun i H H' x d G1 σ A e s st y => by
    obtain ⟨T, u, w, rfl, n, rfl, y1, y2⟩ := y
    obtain ⟨c, d', e1, e2, rfl⟩ := zip_get e
    obtain ⟨v1, f1, r1⟩ := ra.get e1
    obtain ⟨v2, f2, r2⟩ := rb.get e2
    have g1 := y1 xs (st.sub.sqt (s.sqt ha))
    have g2 := y2 ys (st.sub.sqt (s.sqt hb))
    rw [f1] at g1
    rw [f2] at g2
    cases g1
    cases g2
    exact pair_new st n (.cons (Rep.mono s r1) (.one (Rep.mono s r2)))
theorem enum_get : ∀ {l : List D} {k i : Nat} {d : D}, (enumD k l)[i]? = some d → ∃ a, l[i]? = some a ∧ d = .tup [.int (k + i : Nat), a]
  | [], _, i, _, h => by unfold enumD at h; simp at h
  | a :: l, k, 0, d, h => by
    unfold enumD at h
    exact ⟨a, rfl, (Option.some.inj h).symm⟩
  | a :: l, k, i + 1, d, h => by
    unfold enumD at h
    have h' : (enumD (k + 1) l)[i]? = some d := by simpa using h
    obtain ⟨x, e1, e2⟩ := enum_get h'
    exact ⟨x, by simpa using e1, by rw [e2, show k + 1 + i = k + (i + 1) by omega]⟩
theorem enum_len : ∀ (l : List D) (k : Nat), (enumD k l).length = l.length
  | [], _ => rfl
  | a :: l, k => by unfold enumD; rw [List.length_cons, List.length_cons, enum_len l]
theorem it_enum {a : Addr} {xs : List V} {l : List D} {G : Hp} (ha : SqL Z.K G a xs) (ra : Reps Z G l xs) : ItOk Z (Ite Z.K a) (enumD 0 l) G where
  go := fun i H s hi => by
    rw [enum_len] at hi
    exact ⟨xs, xs[i]'(by rw [ra.len]; omega), s.sql ha, by simp [ra.len, hi]⟩
  stop := fun i H s hi => by
    rw [enum_len] at hi
    exact ⟨xs, s.sql ha, by rw [ra.len]; omega⟩
  yld := fun i H H' x d G1 σ A e s st y => by
    obtain ⟨T, u, rfl, n, rfl, y1⟩ := y
    obtain ⟨c, e1, rfl⟩ := enum_get e
    obtain ⟨v1, f1, r1⟩ := ra.get e1
    have g1 := y1 xs (st.sub.sql (s.sql ha))
    rw [f1] at g1
    cases g1
    rw [Nat.zero_add]
    exact pair_new st n (.cons (rep_int.mpr rfl) (.one (Rep.mono s r1)))
end
end AI
/-! enumerate of a tuple. -/
namespace AI
open PySem PySem.Spec L2
open PyProof.Rows hiding St
set_option maxHeartbeats 1000000 in
theorem enum1_meets {v : Value} {o : Obj} {Hq : Heap → Prop} (B : Begins v o Hq) :
    Meets (Builtin.«enumerate.__new__» ⟨[.type "enumerate", v], []⟩) (fun _ R s => Hq s.heap ∧
      R (.ok (.ret (.ref (s.heap.push o).objs.size))) { s with heap := (s.heap.push o).push { cls := .type "enumerate", data := .fields #[.none, .bool false, .ref s.heap.objs.size, rawInt 0, .none, .none] } }) :=
  .of_wp fun prog w A R s h => by
    obtain ⟨hp, gg, dd, tk, os⟩ := s
    obtain ⟨hb, h⟩ := h
    have hse := sub_enumerate
    have qi : ∀ {A' : Around} {E : Value → Shared → Prop} {Q : Value → Shared → Prop}, Q (.ref hp.objs.size) ⟨hp.push o, gg, dd, tk, os⟩ → wpAny (model prog w) A' (pyIter v) Q E ⟨hp, gg, dd, tk, os⟩ :=
      fun q => B.iter prog w _ _ ⟨hp, gg, dd, tk, os⟩ _ hb q
    wp_walk using qi
    refine wpAny_stack_any fun st => wpAny_pure ?_
    split
    · rename_i c _ _ _ _ _
      cases (c == Value.type "enumerate") <;> (wp_walk using qi; exact ⟨_, rfl, h⟩)
    · wp_walk using qi
      exact ⟨_, rfl, h⟩
section
variable {prog : Program} {w : World} {A : Around} {E : Value → Shared → Prop} {s : Shared}
theorem enum1_call {v : Value} {o : Obj} {Hq : Heap → Prop} {Q : Value → Shared → Prop} (B : Begins v o Hq) (hb : Hq s.heap)
    (h : ∀ h', IsEnum h' (s.heap.objs.size + 1) s.heap.objs.size 0 .none → h'.get? s.heap.objs.size = some o → (∀ b o, s.heap.get? b = some o → h'.get? b = some o) → Q (.ref (s.heap.objs.size + 1)) { s with heap := h' }) :
    wpAny (model prog w) A (call (.type "enumerate") [v]) Q E s := by
  refine callType_new F.called_enumerate (by decide) (F.typeCall_enumerate_1 _) (F.newCall_enumerate_1 _) (fun obj => F.args_object_init_2 obj _) F.entry_enumerate_new (enum1_meets B) ⟨hb, ?_⟩
  have sz : (s.heap.push o).objs.size = s.heap.objs.size + 1 := Heap.size_push ..
  rw [sz]
  have en : IsEnum ((s.heap.push o).push { cls := .type "enumerate", data := .fields #[.none, .bool false, .ref s.heap.objs.size, rawInt 0, .none, .none] }) (s.heap.objs.size + 1) s.heap.objs.size 0 .none := by
    have q := Heap.get?_push_size (s.heap.push o) (o := { cls := .type "enumerate", data := .fields #[.none, .bool false, .ref s.heap.objs.size, rawInt 0, .none, .none] }) rfl
    rw [sz] at q
    exact q
  exact ⟨⟨_, en, rfl⟩, h _ en (Heap.get?_push_of_some _ (Heap.get?_push_size _ B.free)) fun b o x => Heap.get?_push_of_some _ (Heap.get?_push_of_some _ x)⟩
end
/-- the tuple at a as it stands, each item in a new pair -/
def IteT (K : PySem.W.Frag) (a : Addr) : L2.It :=
  ⟨fun i H => ∃ (xs : List V) (x : V), SqT K H a xs ∧ xs[i]? = some x, fun i H v H' => ∃ p x, v = .ref p ∧ H p = none ∧ H' = upd H p (.tup [.int (i : Nat), x]) ∧ ∀ xs, SqT K H a xs → xs[i]? = some x, fun i H => ∃ xs : List V, SqT K H a xs ∧ xs.length ≤ i⟩
theorem iter_ne {h : Heap} {it a : Addr} {i : Nat} {items : Array Value} (h1 : h.IsTupleIter it a i) (h2 : h.IsTuple a items) : a ≠ it := by
  intro z
  subst z
  obtain ⟨o, e, c, _⟩ := h1
  obtain ⟨o2, e2, c2, _⟩ := h2
  rw [e] at e2
  cases e2
  have c2 : o.cls = .type "tuple" := c2
  rw [c] at c2
  exact absurd c2 (by decide)
theorem enum_ne {h : Heap} {e it a : Addr} {i : Int} {old : Value} {items : Array Value} (h1 : IsEnum h e it i old) (h2 : h.IsTuple a items) : e ≠ a := by
  intro z
  subst z
  obtain ⟨o2, e2, c2, _⟩ := h2
  rw [h1] at e2
  cases e2
  have c2 : Value.type "enumerate" = .type "tuple" := c2
  exact absurd c2 (by decide)
theorem turn_enumT {P : Program} {w : World} {K : PySem.W.Frag} {elts : List Expr} {kk : Nat} {tpos : Pos} (a e it : Addr) :
    Turn P w K (.Tuple elts kk tpos) (IteT K a) [e, it] e (fun i h => (∃ old, IsEnum h e it ((i : Nat) : Int) old) ∧ h.IsTupleIter it a i ∧ e ≠ it) where
  mem := by simp
  obj := fun i h st b hb => by
    obtain ⟨⟨old, he⟩, ⟨o, ho, hc, hd⟩, _⟩ := st
    rcases List.mem_cons.mp hb with z | z
    · rw [z]; exact ⟨_, he, fun v q => nomatch q⟩
    · rw [List.mem_singleton.mp z]; exact ⟨o, ho, fun v q => by rw [hd] at q; cases q⟩
  keep := fun i h h' st k => by
    obtain ⟨⟨old, he⟩, hi, hne⟩ := st
    exact ⟨⟨old, k e List.mem_cons_self _ he⟩, hi.at fun o q => k it (by simp) o q, hne⟩
  item := by
    intro X hP hw hK hc i pins s σ H E I hf st hg
    subst hP hw hK
    obtain ⟨⟨old, he⟩, hit, hne⟩ := st
    obtain ⟨xs, x, hq, hx⟩ := hg
    obtain ⟨its, rv, p, hz⟩ := I.tuple hq
    obtain ⟨u, hu, ru⟩ := rv.get hx
    have hel : e < s.heap.objs.size := Heap.lt_size he
    have hil : it < s.heap.objs.size := by obtain ⟨_, q, _⟩ := hit; exact Heap.lt_size q
    have hi : i < its.toArray.size := by
      have := (List.getElem?_eq_some_iff.mp hu).1
      simpa using this
    have D := Draws.tuple (prog := X.prog) (w := X.w) (A := X.A.in1) (I.ok.hd hc) it a (iter_ne hit p) its.toArray
    refine wpAny_pyNext_enum_itemD D he ⟨hit, p⟩ hi hne (by simp only [List.mem_cons, List.not_mem_nil, or_false, not_or]; exact ⟨hne, enum_ne he p⟩) fun y h' tk hy ho st' hT hsz hk => ?_
    have ey : y = u := by
      have hy : its.toArray[i]? = some y := hy
      have hu' : its.toArray[i]? = some u := by simpa using hu
      rw [hu'] at hy
      exact (Option.some.inj hy).symm
    subst ey
    refine ⟨_, rfl, wpAny_letOwnedTupleGo_enum (s := { s with heap := h', toks := tk + 1 }) ho fun h'' he' sb => ?_⟩
    have hT2 : h''.get? s.heap.objs.size = some { cls := .type "tuple", data := .seq #[.int i tk, y] } := (sb.2 _ (Nat.ne_of_gt hel)).trans hT
    have new : ObjOk X.prog X.w (upd H s.heap.objs.size (.tup [.int (i : Nat), x])) h'' s.heap.objs.size (.tup [.int (i : Nat), x]) :=
      ⟨by show 2 ≤ sizeLine; decide, [.int i tk, y], .cons ⟨_, rfl⟩ (.cons ru .nil), ⟨_, hT2, rfl, _, rfl⟩⟩
    have I1 : Inv X pins σ (upd H s.heap.objs.size (.tup [.int (i : Nat), x])) { s with heap := h'', toks := tk + 1 } :=
      I.turnedNew (t' := tk + 1) (ch := [e, it]) (fun b ob hb q => by
        have n1 : b ≠ e := fun z => hb (by simp [z])
        have n2 : b ≠ it := fun z => hb (by simp [z])
        exact (sb.2 b n1).trans (hk b ob n1 n2 q)) hf (Nat.le_refl _) new
    refine ⟨.ref s.heap.objs.size, _, I1, rfl, ⟨_, x, rfl, I.hok.fresh (Nat.le_refl _), rfl, fun ys hy => by rw [I.tuple_inj hy hq]; exact hx⟩, ⟨⟨y, ?_⟩, st'.1.at fun o q => (sb.2 it (Ne.symm hne)).trans q, hne⟩, fun b hb => ?_⟩
    · rw [show ((i + 1 : Nat) : Int) = (i : Int) + 1 by omega]; exact he'
    · have lt : b < s.heap.objs.size := by
        rcases List.mem_cons.mp hb with z | z
        · rw [z]; exact hel
        · rw [List.mem_singleton.mp z]; exact hil
      rw [upd_ne (Nat.ne_of_lt lt)]
      exact (hf b hb).1
  done := by
    intro X hP hw hK hc i pins s σ H E I hf st hg
    subst hP hw hK
    obtain ⟨⟨old, he⟩, hit, hne⟩ := st
    obtain ⟨xs, hq, hx⟩ := hg
    obtain ⟨its, rv, p, hz⟩ := I.tuple hq
    obtain ⟨f0, f1, f2, f3, f4, f5⟩ := hf it (by simp)
    have hl := rv.length
    have hn : its.toArray[i]? = none := by simp; omega
    have D : Draws X.prog X.w X.A.in1 it [it, a] i (fun _ _ => True) (fun j h => j = i ∧ h.IsTupleIter it a i ∧ h.IsTuple a its.toArray) := {
      live := fun j h st => by obtain ⟨_, ⟨o, ho, _⟩, _⟩ := st; exact ⟨o, ho⟩
      frame := fun j h h' st hk => ⟨st.1, st.2.1.at fun o q => hk it (by simp) o q, st.2.2.at fun o q => hk a (by simp) o q⟩
      item := fun j s Q E hj st _ => absurd st.1 (by omega)
      done := fun s Q E st hE => wpAny_nextOf_tuple_end (I.ok.hd hc) st.2.1 st.2.2 hn hE }
    exact wpAny_pyNext_enum_endD D he ⟨rfl, hit, p⟩ fun h' eb => ⟨rfl, I.turned (t' := s.toks) (fun b o hb q => eb b o hb q) f0 f1 f3 f4 f5⟩
  self := fun A i s Q E st h => by
    obtain ⟨⟨_, he⟩, _⟩ := st
    exact wpAny_pyIter_enum he h
/-- of a list, of a tuple -/
def iEnumA (K : PySem.W.Frag) (ta : TA) : TI := fun σ H R => ta σ H fun vs H1 => ∃ a xs, vs = [.ref a] ∧ ((SqL K H1 a xs ∧ R (Ite K a) H1) ∨ (SqT K H1 a xs ∧ R (IteT K a) H1))
theorem pi_enumB {X : Cx} {e : Expr} {ta : TA} {p pos tpos : Pos} {elts : List Expr} {kk : Nat} (hg : Gl X "enumerate") (hm : X.mg "enumerate" = none) (ha : PA X [e] ta) (hs : starEach [e] X.env = [(false, eval e X.env)]) :
    PI X (.Tuple elts kk tpos) (.Call (.Name "enumerate" p) [e] [] pos) (iEnumA X.K ta) := by
  refine ⟨fun pins s σ H R I h => ?_⟩
  refine Call_ (ld_blt I hg hm boot_enumerate (PyProof.Rows.callWith_type1 (thn (ha.run pos pins s σ H _ I h) fun us s1 ⟨vs, H1, I1, r1, a, xs, ex, q1⟩ => ?_) hs rfl))
  subst ex
  cases r1 with
  | cons r rr =>
    cases rr
    cases r
    have fresh : ∀ b, b ∈ [s1.heap.objs.size + 1, s1.heap.objs.size] → FpOk X pins H1 b := fun b hb => by
      have hle : s1.heap.objs.size ≤ b := by
        rcases List.mem_cons.mp hb with z | z
        · rw [z]; exact Nat.le_succ _
        · rw [List.mem_singleton.mp z]; exact Nat.le_refl _
      exact I1.fpOk hle (I1.hok.fresh hle)
    rcases q1 with ⟨hq, q⟩ | ⟨hq, q⟩
    · obtain ⟨its, rv, p', hz⟩ := I1.list hq
      refine enum1_call (begins_list a its.toArray) p'.isList fun h' he hit hk => wpAny_pyIter_enum he ?_
      exact ⟨s1.heap.objs.size + 1, [s1.heap.objs.size + 1, s1.heap.objs.size], _, _, H1, rfl, I1.kept (t' := s1.toks) hk, turn_enum a (s1.heap.objs.size + 1) s1.heap.objs.size, ⟨⟨.none, he⟩, ⟨_, hit, rfl, rfl⟩, Nat.succ_ne_self _⟩, fresh, q⟩
    · obtain ⟨its, rv, p', hz⟩ := I1.tuple hq
      refine enum1_call (begins_tuple a its.toArray) (show s1.heap.IsTuple a its.toArray from p') fun h' he hit hk => wpAny_pyIter_enum he ?_
      exact ⟨s1.heap.objs.size + 1, [s1.heap.objs.size + 1, s1.heap.objs.size], _, _, H1, rfl, I1.kept (t' := s1.toks) hk, turn_enumT a (s1.heap.objs.size + 1) s1.heap.objs.size, ⟨⟨.none, he⟩, ⟨_, hit, rfl, rfl⟩, Nat.succ_ne_self _⟩, fresh, q⟩
theorem it_enumT {Z : Zt} {a : Addr} {xs : List V} {l : List D} {G : Hp} (ha : SqT Z.K G a xs) (ra : Reps Z G l xs) : ItOk Z (IteT Z.K a) (enumD 0 l) G where
  go := fun i H s hi => by
    rw [enum_len] at hi
    exact ⟨xs, xs[i]'(by rw [ra.len]; omega), s.sqt ha, by simp [ra.len, hi]⟩
  stop := fun i H s hi => by
    rw [enum_len] at hi
    exact ⟨xs, s.sqt ha, by rw [ra.len]; omega⟩
  yld := fun i H H' x d G1 σ A e s st y => by
    obtain ⟨T, u, rfl, n, rfl, y1⟩ := y
    obtain ⟨c, e1, rfl⟩ := enum_get e
    obtain ⟨v1, f1, r1⟩ := ra.get e1
    have g1 := y1 xs (st.sub.sqt (s.sqt ha))
    rw [f1] at g1
    cases g1
    rw [Nat.zero_add]
    exact pair_new st n (.cons (rep_int.mpr rfl) (.one (Rep.mono s r1)))
end AI
/-! Comprehensions. -/
namespace AI
open PySem PySem.Spec L2
open PyProof.Rows hiding St
section
variable {Z : Zt} {W : WX} {X : Cx} {G H G1 H1 G2 H2 G' H' : Hp} {σ σ' σ2 : St} {A A' A1 A2 B : As}
/-! ### wiped places -/
theorem wipeA_len (A : As) : ∀ vs : List Nat, (wipeA A vs).length = A.length
  | [] => rfl
  | v :: vs => by unfold wipeA; rw [List.length_set, wipeA_len A vs]
theorem wipeA_out {i : Nat} : ∀ {vs : List Nat}, i ∉ vs → (wipeA A vs)[i]? = A[i]?
  | [], _ => rfl
  | v :: vs, h => by
    unfold wipeA
    rw [List.getElem?_set_ne (fun z => h (by rw [z]; exact List.mem_cons_self)), wipeA_out fun z => h (List.mem_cons_of_mem _ z)]
theorem wipeA_in {i : Nat} : ∀ {vs : List Nat}, i ∈ vs → ∀ x, (wipeA A vs)[i]? = some x → x = .no
  | [], h, _, _ => nomatch h
  | v :: vs, h, x, e => by
    unfold wipeA at e
    by_cases z : v = i
    · subst z
      have hl : v < (wipeA A vs).length := by
        have := (List.getElem?_eq_some_iff.mp e).1
        rwa [List.length_set] at this
      rw [List.getElem?_set_self hl] at e
      exact (Option.some.inj e).symm
    · rw [List.getElem?_set_ne z] at e
      rcases List.mem_cons.mp h with h | h
      · exact (z h.symm).elim
      · exact wipeA_in h x e
theorem wipeS_out {i : Nat} : ∀ {vs : List Nat}, i ∉ vs → (wipe σ vs)[i]? = σ[i]?
  | [], _ => rfl
  | v :: vs, h => by
    unfold wipe
    rw [List.getElem?_set_ne (fun z => h (by rw [z]; exact List.mem_cons_self)), wipeS_out fun z => h (List.mem_cons_of_mem _ z)]
theorem unwipe_len (A0 A : As) : ∀ vs : List Nat, (unwipe A0 A vs).length = A.length
  | [] => rfl
  | v :: vs => by
    unfold unwipe
    split
    · rw [List.length_set, unwipe_len A0 A vs]
    · exact unwipe_len A0 A vs
theorem unwipe_out {A0 : As} {i : Nat} : ∀ {vs : List Nat}, i ∉ vs → (unwipe A0 A vs)[i]? = A[i]?
  | [], _ => rfl
  | v :: vs, h => by
    unfold unwipe
    have h2 : i ∉ vs := fun z => h (List.mem_cons_of_mem _ z)
    split
    · rw [List.getElem?_set_ne (fun z => h (by rw [z]; exact List.mem_cons_self)), unwipe_out h2]
    · exact unwipe_out h2
theorem unwipe_in {A0 : As} {i : Nat} (hl : A0.length = A.length) : ∀ {vs : List Nat}, i ∈ vs → (unwipe A0 A vs)[i]? = A0[i]?
  | [], h => nomatch h
  | v :: vs, h => by
    unfold unwipe
    by_cases z : v = i
    · subst z
      cases e : A0[v]? with
      | none =>
        dsimp only
        have hv : A0.length ≤ v := List.getElem?_eq_none_iff.mp e
        exact List.getElem?_eq_none_iff.mpr (by rw [unwipe_len]; omega)
      | some x =>
        dsimp only
        have hv : v < A0.length := (List.getElem?_eq_some_iff.mp e).1
        exact List.getElem?_set_self (by rw [unwipe_len]; omega)
    · have h2 : i ∈ vs := by
        rcases List.mem_cons.mp h with h | h
        · exact (z h.symm).elim
        · exact h
      have ih := unwipe_in hl h2
      split
      · rw [List.getElem?_set_ne z]; exact ih
      · exact ih
theorem Own.unw {vs : List Nat} {b : Addr} (h : Own (wipe σ vs) (wipeA A vs) b) : ∃ i c, i ∉ vs ∧ A[i]? = some (.o c) ∧ σ[i]? = some (some (.ref b)) := by
  obtain ⟨i, c, e, a⟩ := h
  have n : i ∉ vs := fun z => by cases wipeA_in z _ e
  rw [wipeA_out n] at e
  rw [wipeS_out n] at a
  exact ⟨i, c, n, e, a⟩
theorem Own.wiped {vs : List Nat} {b : Addr} (h : Own (wipe σ vs) (wipeA A vs) b) : Own σ A b := by
  obtain ⟨i, c, _, e, a⟩ := h.unw
  exact ⟨i, c, e, a⟩
theorem StR.wipe {vs : List Nat} (s : StR Z G H σ A) : StR Z G H (wipe σ vs) (wipeA A vs) where
  sub := s.sub
  len := by rw [wipe_length, wipeA_len]; exact s.len
  val := fun i d e => by
    have n : i ∉ vs := fun z => by cases wipeA_in z _ e
    rw [wipeA_out n] at e
    rw [wipeS_out n]
    exact s.val i d e
  own := fun i d e => by
    have n : i ∉ vs := fun z => by cases wipeA_in z _ e
    rw [wipeA_out n] at e
    rw [wipeS_out n]
    exact s.own i d e
  inj := fun i j b c p e1 e2 a1 a2 => by
    have n1 : i ∉ vs := fun z => by cases wipeA_in z _ e1
    have n2 : j ∉ vs := fun z => by cases wipeA_in z _ e2
    rw [wipeA_out n1] at e1
    rw [wipeA_out n2] at e2
    rw [wipeS_out n1] at a1
    rw [wipeS_out n2] at a2
    exact s.inj i j b c p e1 e2 a1 a2
/-- the block's places are given back -/
theorem StR.unwipe {vs : List Nat} (s1 : StR Z G1 H1 σ A1) (s : StR Z G H (L2.wipe σ vs) (wipeA B vs)) (c : Ch (L2.wipe σ vs) (wipeA A1 vs) (wipeA B vs) G1 H1 G H) :
    StR Z G H σ (AI.unwipe A1 B vs) ∧ Ch σ A1 (AI.unwipe A1 B vs) G1 H1 G H := by
  have hl : A1.length = B.length := by
    have e1 := s1.len
    have e2 := s.len
    rw [wipe_length, wipeA_len] at e2
    omega
  have cases_ : ∀ {i : Nat} {x : Sl}, (AI.unwipe A1 B vs)[i]? = some x → (i ∈ vs ∧ A1[i]? = some x) ∨ (i ∉ vs ∧ (wipeA B vs)[i]? = some x) := fun {i x} e => by
    by_cases z : i ∈ vs
    · rw [unwipe_in hl z] at e; exact .inl ⟨z, e⟩
    · rw [unwipe_out z] at e; exact .inr ⟨z, by rw [wipeA_out z]; exact e⟩
  have notw : ∀ {i : Nat} {b : Ob} {p : Addr}, i ∈ vs → A1[i]? = some (.o b) → σ[i]? = some (some (.ref p)) → ¬ Own (L2.wipe σ vs) (wipeA A1 vs) p := fun {i b p} z e a h => by
    obtain ⟨j, c, n, e2, a2⟩ := h.unw
    have := s1.inj i j b c p e e2 a a2
    subst this
    exact n z
  refine ⟨⟨s.sub, by rw [unwipe_len, ← hl]; exact s1.len, fun i d e => ?_, fun i b e => ?_, fun i j b d p e1 e2 a1 a2 => ?_⟩,
    ⟨c.sub, fun b o h n => c.keep b o h fun z => n z.wiped, fun b ⟨i, d, e, a⟩ => ?_, c.dom, fun b o h => ?_, fun i b e => ?_, fun i b p e a => ?_⟩⟩
  · rcases cases_ e with ⟨z, e⟩ | ⟨z, e⟩
    · obtain ⟨v, a, r⟩ := s1.val i d e
      exact ⟨v, a, r.mono c.sub⟩
    · obtain ⟨v, a, r⟩ := s.val i d e
      rw [wipeS_out z] at a
      exact ⟨v, a, r⟩
  · rcases cases_ e with ⟨z, e⟩ | ⟨z, e⟩
    · obtain ⟨p, o, a, g, h, r⟩ := s1.own i b e
      have nw := notw z e a
      refine ⟨p, o, a, ?_, c.keep p o h nw, r.mono c.sub⟩
      cases q : G p with
      | none => rfl
      | some u =>
        rcases c.lim p u q with ⟨w, x⟩ | x | x
        · rw [g] at x; cases x
        · rw [h] at x; cases x
        · exact (nw x).elim
    · obtain ⟨p, o, a, q⟩ := s.own i b e
      rw [wipeS_out z] at a
      exact ⟨p, o, a, q⟩
  · rcases cases_ e1 with ⟨z1, e1⟩ | ⟨z1, e1⟩
    · rcases cases_ e2 with ⟨z2, e2⟩ | ⟨z2, e2⟩
      · exact s1.inj i j b d p e1 e2 a1 a2
      · exact (notw z1 e1 a1 (c.own p ⟨j, d, e2, by rw [wipeS_out z2]; exact a2⟩)).elim
    · rcases cases_ e2 with ⟨z2, e2⟩ | ⟨z2, e2⟩
      · exact (notw z2 e2 a2 (c.own p ⟨i, b, e1, by rw [wipeS_out z1]; exact a1⟩)).elim
      · exact s.inj i j b d p e1 e2 (by rw [wipeS_out z1]; exact a1) (by rw [wipeS_out z2]; exact a2)
  · rcases cases_ e with ⟨z, e⟩ | ⟨z, e⟩
    · exact ⟨i, d, e, a⟩
    · exact (c.own b ⟨i, d, e, by rw [wipeS_out z]; exact a⟩).wiped
  · rcases c.lim b o h with x | x | x
    · exact .inl x
    · exact .inr (.inl x)
    · exact .inr (.inr x.wiped)
  · rcases cases_ e with ⟨z, e⟩ | ⟨z, e⟩
    · exact ⟨b, e⟩
    · obtain ⟨d, e2⟩ := c.sl i b e
      rw [wipeA_out z] at e2
      exact ⟨d, e2⟩
  · by_cases z : i ∈ vs
    · exact .inl ⟨b, by rw [unwipe_in hl z]; exact e⟩
    · rcases c.st i b p (by rw [wipeA_out z]; exact e) (by rw [wipeS_out z]; exact a) with ⟨d, x⟩ | x
      · rw [wipeA_out z] at x
        exact .inl ⟨d, by rw [unwipe_out z]; exact x⟩
      · exact .inr x
theorem wipeA_idem {vs : List Nat} : wipeA (wipeA A vs) vs = wipeA A vs := by
  apply List.ext_getElem?
  intro i
  by_cases z : i ∈ vs
  · cases q1 : (wipeA A vs)[i]? with
    | none =>
      have : (wipeA A vs).length ≤ i := List.getElem?_eq_none_iff.mp q1
      exact List.getElem?_eq_none_iff.mpr (by rw [wipeA_len]; exact this)
    | some x =>
      have hx := wipeA_in z _ q1
      subst hx
      cases q2 : (wipeA (wipeA A vs) vs)[i]? with
      | none =>
        have h1 := List.getElem?_eq_none_iff.mp q2
        have h2 := (List.getElem?_eq_some_iff.mp q1).1
        rw [wipeA_len] at h1
        omega
      | some y => rw [wipeA_in z _ q2]
  · exact wipeA_out z
theorem wipeS_in {i : Nat} : ∀ {vs : List Nat}, i ∈ vs → ∀ x, (wipe σ vs)[i]? = some x → x = none
  | [], h, _, _ => nomatch h
  | v :: vs, h, x, e => by
    unfold wipe at e
    by_cases z : v = i
    · subst z
      have hl : v < (wipe σ vs).length := by
        have := (List.getElem?_eq_some_iff.mp e).1
        rwa [List.length_set] at this
      rw [List.getElem?_set_self hl] at e
      exact (Option.some.inj e).symm
    · rw [List.getElem?_set_ne z] at e
      rcases List.mem_cons.mp h with h | h
      · exact (z h.symm).elim
      · exact wipeS_in h x e
theorem wipeS_in_eq {vs : List Nat} {i : Nat} (hl : (wipe σ2 vs).length = (wipe σ vs).length) (h : i ∈ vs) : (wipe σ2 vs)[i]? = (wipe σ vs)[i]? := by
  cases q1 : (wipe σ2 vs)[i]? with
  | none =>
    have := List.getElem?_eq_none_iff.mp q1
    exact (List.getElem?_eq_none_iff.mpr (by omega)).symm
  | some x =>
    have hx := wipeS_in h _ q1
    subst hx
    cases q2 : (wipe σ vs)[i]? with
    | none =>
      have h1 := List.getElem?_eq_none_iff.mp q2
      have h2 := (List.getElem?_eq_some_iff.mp q1).1
      omega
    | some y => rw [wipeS_in h _ q2]
mutual
theorem asgT_len {Bs : List Nat} : ∀ {tg : Tg} {d : D} {A A' : As}, asgT Bs tg d A = some A' → A'.length = A.length
  | .n i, d, A, A', h => by
    unfold asgT at h
    obtain ⟨_, _, rfl⟩ := store_inv h
    rw [List.length_set]
  | .t ts, d, A, A', h => by
    unfold asgT at h
    split at h
    · exact asgTs_len' h
    · exact asgTs_len' h
    · cases h
theorem asgTs_len' {Bs : List Nat} : ∀ {ts : List Tg} {ds : List D} {A A' : As}, asgTs Bs ts ds A = some A' → A'.length = A.length
  | [], [], A, A', h => by unfold asgTs at h; cases h; rfl
  | [], _ :: _, _, _, h => by unfold asgTs at h; cases h
  | _ :: _, [], _, _, h => by unfold asgTs at h; cases h
  | t :: ts, d :: ds, A, A', h => by
    unfold asgTs at h
    split at h
    · rename_i A1 e
      rw [asgTs_len' h, asgT_len e]
    · cases h
end
/-- a change within, seen from without -/
theorem Ch.within {B1 B3 Bw : As} {σw : St} (c : Ch σ2 B1 B3 G1 H1 G2 H2) (h1 : ∀ b, Own σ2 B1 b → Own σw A b) (h3 : ∀ b, Own σw Bw b → Own σ2 B3 b)
    (h4 : ∀ (i : Nat) (b : Ob), Bw[i]? = some (.o b) → B3[i]? = some (.o b) ∧ B1[i]? = A[i]?) (h5 : ∀ (i : Nat) (b : Ob), A[i]? = some (.o b) → B1[i]? = A[i]? ∧ σ2[i]? = σw[i]? ∧ Bw[i]? = B3[i]?) : Ch σw A Bw G1 H1 G2 H2 where
  sub := c.sub
  keep := fun b o h n => c.keep b o h fun z => n (h1 b z)
  own := fun b h => h1 b (c.own b (h3 b h))
  dom := c.dom
  lim := fun b o h => by
    rcases c.lim b o h with x | x | x
    · exact .inl x
    · exact .inr (.inl x)
    · exact .inr (.inr (h1 b x))
  sl := fun i b h => by
    obtain ⟨e1, e2⟩ := h4 i b h
    obtain ⟨c', e3⟩ := c.sl i b e1
    exact ⟨c', by rw [← e2]; exact e3⟩
  st := fun i b p h a => by
    obtain ⟨e1, e2, e3⟩ := h5 i b h
    rcases c.st i b p (by rw [e1]; exact h) (by rw [e2]; exact a) with ⟨d, x⟩ | x
    · exact .inl ⟨d, by rw [e3]; exact x⟩
    · exact .inr x
theorem Ch.writeNew {D : Addr} {o : HO} (c : Ch σ A A' G H G' H') (n : H D = none) : Ch σ A A' G H G' (upd H' D o) where
  sub := c.sub
  keep := fun b u h z => by rw [upd_ne (ne_of_none h n)]; exact c.keep b u h z
  own := c.own
  dom := fun b u h => by
    obtain ⟨w, e⟩ := c.dom b u h
    exact ⟨w, by rw [upd_ne (ne_of_none h n)]; exact e⟩
  lim := c.lim
  sl := c.sl
  st := c.st
theorem turns_noex {tg : D → As → Option As} {test : As → Option (Rs Bool)} {elt : As → Option (Rs D)} {wp : As → As} : ∀ {ds acc : List D} {A : As} {c : Nat} {fs : List (Str × D)} {A' : As}, turns tg test elt wp ds acc A ≠ some (.ex c fs A')
  | [], acc, A, c, fs, A', h => by unfold turns at h; cases h
  | d :: ds, acc, A, c, fs, A', h => by
    unfold turns at h
    split at h
    · cases h
    · split at h
      · split at h
        · split at h
          · split at h
            · exact turns_noex h
            · cases h
          · cases h
        · exact turns_noex h
      · cases h
abbrev W0 : WX := fun _ _ _ _ => False
def RI (Z : Zt) : Hp → Hp → Hp → List D → L2.It → Prop := fun _ G' _ ds J => ItOk Z J ds G'
abbrev tofI (Z : Zt) (W : WX) (f : As → Option (Rs (List D))) : TI := tofG Z W (RI Z) f
theorem sh_I : Shifts (RI Z) := fun _ _ _ _ _ _ _ r => r
theorem no_ex {α β : Type} {RT : Hp → Hp → Hp → α → β → Prop} {x : Option (Rs α)} {Q : β → Hp → Prop} {a : α} (e : x = some (.ok a A')) (h : ∀ v G' H', StR Z G' H' σ A' → Ch σ A A' G H G' H' → RT H G' H' a v → Q v H') : tofS Z W RT x σ A G H Q := by
  rw [e]; exact h
theorem tlc_of {vs : List Nat} {src : As → Option (Rs (List D))} {ti : Tg} {fe : E2} {fc : Option E2} {Q : VK} (sub : ∀ i ∈ tgs ti, i ∈ vs)
    (q : tof Z W (compA src ti fe fc vs) σ H Q) : tLc (tofI Z W src) (tofT Z [] ti) (tofb Z W0 (evc fc)) (tofd Z W0 fe.d) vs σ H Q := by
  obtain ⟨G, A, s, q⟩ := q
  refine tofG.bind s sh_R q fun ds A1 J G1 H1 s1 c1 r1 h1 => ?_
  intro D nD
  cases et : turns (asgT [] ti) (evc fc) fe.d (fun B => wipeA B vs) ds [] (wipeA A1 vs) with
  | none => rw [et] at h1; exact h1.elim
  | some z =>
    rw [et] at h1
    cases z with
    | ex c fs A2 => exact (turns_noex et).elim
    | ok r A2 =>
      have h1' : ∀ v G' H', StR Z G' H' σ (unwipe A1 A2 vs) → Ch σ A1 (unwipe A1 A2 vs) G1 H1 G' H' → RR Z H1 G' H' (.o (.l r)) v → Q v H' := h1
      have s1w : StR Z G1 H1 (wipe σ vs) (wipeA A1 vs) := s1.wipe
      refine ⟨fun i m H => m = ds.length - i ∧ i ≤ ds.length ∧ ∃ G' B acc accV, StR Z G' H (wipe σ vs) (wipeA B vs) ∧ Ch (wipe σ vs) (wipeA A1 vs) (wipeA B vs) G1 H1 G' H ∧ H D = some (.lst accV) ∧ Reps Z G' acc accV ∧ G' D = none ∧
        turns (asgT [] ti) (evc fc) fe.d (fun B => wipeA B vs) (ds.drop i) acc B = some (.ok r A2), ⟨ds.length, by simp, Nat.zero_le _, G1, wipeA A1 vs, [], [], ?_, ?_, upd_same, .nil, s1.sub.none nD, by rw [List.drop_zero]; exact et⟩, ?_⟩
      · rw [wipeA_idem]; exact s1w.grow nD
      · rw [wipeA_idem]; exact Ch.refl.grow nD
      rintro i m H2 ⟨rfl, hi, G2, B, acc, accV, s2, c2, hD, ra, gD, hturn⟩
      have nOD : ¬ Own (wipe σ vs) (wipeA B vs) D := fun z => by
        obtain ⟨o, e, _⟩ := s1w.ownH (c2.own D z)
        rw [nD] at e; cases e
      by_cases hlt : i < ds.length
      · -- one turn
        refine .inr ⟨r1.go i H2 (c2.sub.trans s2.sub) hlt, fun H' => ∃ G' B' acc' accV', StR Z G' H' (wipe σ vs) (wipeA B' vs) ∧ Ch (wipe σ vs) (wipeA A1 vs) (wipeA B' vs) G1 H1 G' H' ∧ H' D = some (.lst accV') ∧ Reps Z G' acc' accV' ∧ G' D = none ∧
          turns (asgT [] ti) (evc fc) fe.d (fun B => wipeA B vs) (ds.drop (i + 1)) acc' B' = some (.ok r A2), fun H' ⟨G', B', acc', accV', p⟩ => ⟨ds.length - (i + 1), by omega, rfl, hlt, G', B', acc', accV', p⟩, fun x H3 hy => ?_⟩
        have ed : ds.drop i = ds[i] :: ds.drop (i + 1) := List.drop_eq_getElem_cons hlt
        rw [ed] at hturn
        obtain ⟨G3, s3, c3, r3⟩ := r1.yld i H2 H3 x ds[i] G2 (wipe σ vs) (wipeA B vs) (List.getElem?_eq_getElem hlt) c2.sub s2 hy
        unfold turns at hturn
        cases ea : asgT [] ti ds[i] (wipeA B vs) with
        | none => rw [ea] at hturn; cases hturn
        | some B1 =>
          rw [ea] at hturn
          dsimp only at hturn
          refine ⟨G3, wipeA B vs, ds[i], B1, s3, r3, ea, fun σ2 s4 tr => ?_⟩
          have ew : wipe σ2 vs = wipe σ vs := by
            apply List.ext_getElem?
            intro j
            by_cases z : j ∈ vs
            · have l1 : (wipe σ2 vs).length = (wipe σ vs).length := by
                have e1 := s4.len
                have e2 := s3.len
                rw [wipe_length, e1, asgT_len ea]
                exact e2.symm
              exact wipeS_in_eq l1 z
            · have n : j ∉ tgs ti := fun q => z (sub j q)
              rw [wipeS_out z, (tr.same j n).1]
          refine ⟨ew, ?_⟩
          have h3 : ∀ {B3 : As} b, Own (wipe σ vs) (wipeA B3 vs) b → Own σ2 B3 b := fun {B3} b h => by
            rw [← ew] at h
            exact h.wiped
          have nin : ∀ {B3 : As} {i : Nat} {b : Ob}, (wipeA B3 vs)[i]? = some (.o b) → i ∉ vs := fun {B3 i b} h z => by cases wipeA_in z _ h
          have h4 : ∀ {B3 : As} (i : Nat) (b : Ob), (wipeA B3 vs)[i]? = some (.o b) → B3[i]? = some (.o b) ∧ B1[i]? = (wipeA B vs)[i]? := fun {B3} i b h => by
            have n := nin h
            rw [wipeA_out n] at h
            exact ⟨h, (tr.same i fun q => n (sub i q)).2⟩
          have h5 : ∀ {B3 : As} (i : Nat) (b : Ob), (wipeA B vs)[i]? = some (.o b) → B1[i]? = (wipeA B vs)[i]? ∧ σ2[i]? = (wipe σ vs)[i]? ∧ (wipeA B3 vs)[i]? = B3[i]? := fun {B3} i b h => by
            have n := nin h
            obtain ⟨e1, e2⟩ := tr.same i fun q => n (sub i q)
            exact ⟨e2, e1, wipeA_out n⟩
          cases et2 : evc fc B1 with
          | none => rw [et2] at hturn; cases hturn
          | some z2 =>
            rw [et2] at hturn
            cases z2 with
            | ex c fs B2 => cases hturn
            | ok b B2 =>
              dsimp only at hturn
              refine ⟨G3, B1, s4, no_ex et2 fun b' G4 H4 s5 c5 rb => ?_⟩
              have rb : b' = b := rb
              subst rb
              cases b' with
              | false =>
                rw [if_neg (by decide)] at hturn
                refine iteF ⟨G4, B2, acc, accV, ?_, ?_, ?_, ?_, ?_, hturn⟩
                · rw [← ew]; exact s5.wipe
                · exact c2.trans (c3.trans (c5.within (fun b h => tr.own b h) h3 h4 h5))
                · exact c5.keep D _ (c3.keep D _ hD nOD) fun z => nOD (tr.own D z)
                · exact Reps.mono c5.sub (Reps.mono c3.sub ra)
                · have hD3 := c3.keep D _ hD nOD
                  cases q : G4 D with
                  | none => rfl
                  | some u =>
                    rcases c5.lim D u q with ⟨w, y⟩ | y | y
                    · rcases c3.lim D w y with ⟨w2, y2⟩ | y2 | y2
                      · rw [gD] at y2; cases y2
                      · rw [hD] at y2; cases y2
                      · exact (nOD y2).elim
                    · rw [hD3] at y; cases y
                    · exact (nOD (tr.own D y)).elim
              | true =>
                rw [if_pos rfl] at hturn
                refine iteT ?_
                cases ee : fe.d B2 with
                | none => rw [ee] at hturn; cases hturn
                | some z3 =>
                  rw [ee] at hturn
                  cases z3 with
                  | ex c fs B3 => cases hturn
                  | ok y B3 =>
                    dsimp only at hturn
                    split at hturn
                    · rename_i hl
                      have hl := of_decide_eq_true hl
                      refine ⟨G4, B2, s5, no_ex ee fun w G5 H5 s6 c6 rw' => ?_⟩
                      have rw' : Rep Z G5 y w := rw'
                      have hD3 := c3.keep D _ hD nOD
                      have c56 := (c5.trans c6).within (σw := wipe σ vs) (A := wipeA B vs) (fun b h => tr.own b h) (h3 (B3 := B3)) (h4 (B3 := B3)) (h5 (B3 := B3))
                      have hD5 : H5 D = some (.lst accV) := (c5.trans c6).keep D _ hD3 fun z => nOD (tr.own D z)
                      have gD5 : G5 D = none := by
                        cases q : G5 D with
                        | none => rfl
                        | some u =>
                          rcases (c3.trans c56).lim D u q with ⟨w, y⟩ | y | y
                          · rw [gD] at y; cases y
                          · rw [hD] at y; cases y
                          · exact (nOD y).elim
                      have s7 : StR Z G5 H5 (wipe σ vs) (wipeA B3 vs) := by rw [← ew]; exact s6.wipe
                      have n7 : ¬ Own (wipe σ vs) (wipeA B3 vs) D := fun z => nOD (c56.own D z)
                      have rall : Reps Z G5 acc accV := Reps.mono (c5.trans c6).sub (Reps.mono c3.sub ra)
                      refine ⟨accV, hD5, by rw [ra.len]; exact Nat.lt_of_lt_of_le hl most_le, G5, B3, acc ++ [y], accV ++ [w], s7.write gD5 n7, (c2.trans (c3.trans c56)).writeNew nD, upd_same, rall.append (.one rw'), gD5, hturn⟩
                    · cases hturn
      · -- the end
        have e : i = ds.length := by omega
        subst e
        rw [List.drop_length] at hturn
        unfold turns at hturn
        cases hturn
        obtain ⟨s8, c8⟩ := s1.unwipe s2 c2
        exact .inl ⟨r1.stop _ H2 (c2.sub.trans s2.sub) (Nat.le_refl _), h1' (.ref D) G2 H2 s8 c8 ⟨D, _, rfl, nD, gD, hD, accV, rfl, ra⟩⟩
theorem pe_compA {elt tg it : Expr} {ifs : List Expr} {scope : Scope} {own : List (Str × Nat)} {pos : Pos} {src : As → Option (Rs (List D))} {ti : Tg} {fe : E2} {fc : Option E2}
    (hc : X.calm = true) (nd : X.N.Nodup) (hi : PI X tg it (tofI Z W src)) (ok : BlkOk X.N X.env.scope scope own)
    (hg : ∀ (s : Shared) (H : Hp) (C : Addr) (cl : List (Str × Addr)) (fp : List Addr), PG (X.blk s H scope (compEnvC scope cl C X.env) fp) tg (tofT Z [] ti))
    (ht : ∀ (s : Shared) (H : Hp) (C : Addr) (cl : List (Str × Addr)) (fp : List Addr), PTs (X.blk s H scope (compEnvC scope cl C X.env) fp) ifs (tofb Z W0 (evc fc)))
    (he : ∀ (s : Shared) (H : Hp) (C : Addr) (cl : List (Str × Addr)) (fp : List Addr), PE (X.blk s H scope (compEnvC scope cl C X.env) fp) elt (tofd Z W0 fe.d))
    (hs : ∀ x, foldedSetIterable it X.env x = pure x) (sub : ∀ i ∈ tgs ti, i ∈ own.map (·.2)) :
    PE X (.ListComp elt [⟨tg, it, ifs, 0⟩] scope pos) (tof Z W (compA src ti fe fc (own.map (·.2)))) := pe_imp (pe_lc hc nd hi ok hg ht he hs) fun _ _ _ q => tlc_of sub q
end
end AI
/-! A comprehension over two. -/
namespace AI
open PySem PySem.Spec L2
open PyProof.Rows hiding St
section
variable {Z : Zt} {W : WX} {X : Cx} {G H G1 H1 G2 H2 G' H' : Hp} {σ σ' σ2 σ3 : St} {A A' A1 A2 B B' Aw : As} {vs vs1 : List Nat} {D : Addr} {acc : List AI.D} {accV : List V}
mutual
theorem asgT_keeps {Bs : List Nat} : ∀ {tg : Tg} {d : AI.D} {A A' : As} {i : Nat}, asgT Bs tg d A = some A' → (∃ x, A[i]? = some (.v x)) → ∃ x, A'[i]? = some (.v x)
  | .n j, d, A, A', i, h, k => by
    unfold asgT at h
    obtain ⟨_, hj, rfl⟩ := store_inv h
    by_cases z : j = i
    · subst z; exact ⟨d, List.getElem?_set_self hj⟩
    · rw [List.getElem?_set_ne z]; exact k
  | .t ts, d, A, A', i, h, k => by
    unfold asgT at h
    split at h
    · exact asgTs_keeps h k
    · exact asgTs_keeps h k
    · cases h
theorem asgTs_keeps {Bs : List Nat} : ∀ {ts : List Tg} {ds : List AI.D} {A A' : As} {i : Nat}, asgTs Bs ts ds A = some A' → (∃ x, A[i]? = some (.v x)) → ∃ x, A'[i]? = some (.v x)
  | [], [], A, A', i, h, k => by unfold asgTs at h; cases h; exact k
  | [], _ :: _, _, _, _, h, _ => by unfold asgTs at h; cases h
  | _ :: _, [], _, _, _, h, _ => by unfold asgTs at h; cases h
  | t :: ts, d :: ds, A, A', i, h, k => by
    unfold asgTs at h
    split at h
    · rename_i A1 e
      exact asgTs_keeps h (asgT_keeps e k)
    · cases h
end
mutual
theorem asgT_val {Bs : List Nat} : ∀ {tg : Tg} {d : AI.D} {A A' : As} {i : Nat}, asgT Bs tg d A = some A' → i ∈ tgs tg → ∃ x, A'[i]? = some (.v x)
  | .n j, d, A, A', i, h, m => by
    unfold asgT at h
    obtain ⟨_, hj, rfl⟩ := store_inv h
    unfold tgs at m
    have e : i = j := List.mem_singleton.mp m
    subst e
    exact ⟨d, List.getElem?_set_self hj⟩
  | .t ts, d, A, A', i, h, m => by
    unfold asgT at h
    unfold tgs at m
    split at h
    · exact asgTs_val h m
    · exact asgTs_val h m
    · cases h
theorem asgTs_val {Bs : List Nat} : ∀ {ts : List Tg} {ds : List AI.D} {A A' : As} {i : Nat}, asgTs Bs ts ds A = some A' → i ∈ tgss ts → ∃ x, A'[i]? = some (.v x)
  | [], _, A, A', i, h, m => by unfold tgss at m; cases m
  | _ :: _, [], _, _, _, h, _ => by unfold asgTs at h; cases h
  | t :: ts, d :: ds, A, A', i, h, m => by
    unfold asgTs at h
    unfold tgss at m
    split at h
    · rename_i A1 e
      rcases List.mem_append.mp m with m | m
      · exact asgTs_keeps h (asgT_val e m)
      · exact asgTs_val h m
    · cases h
end
/-- a state within a block, and the state without -/
structure Fr (σ : St) (vs : List Nat) (σ2 : St) (B : As) : Prop where
  ln : σ2.length = σ.length
  out : ∀ i, i ∉ vs → σ2[i]? = σ[i]?
  no : ∀ i, i ∈ vs → ∀ b, B[i]? ≠ some (.o b)
theorem Fr.own {p : Addr} (f : Fr σ vs σ2 B) (h : Own σ2 B p) : Own (wipe σ vs) (wipeA B vs) p := by
  obtain ⟨i, b, e, a⟩ := h
  have n : i ∉ vs := fun z => f.no i z b e
  exact ⟨i, b, by rw [wipeA_out n]; exact e, by rw [wipeS_out n, ← f.out i n]; exact a⟩
theorem Fr.nown {p : Addr} (f : Fr σ vs σ2 B) (h : Own (wipe σ vs) (wipeA B' vs) p) : Own σ2 B' p := by
  obtain ⟨i, b, n, e, a⟩ := h.unw
  exact ⟨i, b, e, by rw [f.out i n]; exact a⟩
theorem Fr.lift (f : Fr σ vs σ2 B) (c : Ch σ2 B B' G H G' H') : Ch (wipe σ vs) (wipeA B vs) (wipeA B' vs) G H G' H' := by
  have nin : ∀ {C : As} {i : Nat} {b : Ob}, (wipeA C vs)[i]? = some (.o b) → i ∉ vs := fun {C i b} h z => by cases wipeA_in z _ h
  refine c.within (fun b h => f.own h) (fun b h => f.nown h) (fun i b h => ?_) fun i b h => ?_
  · have n := nin h
    rw [wipeA_out n] at h
    exact ⟨h, (wipeA_out n).symm⟩
  · have n := nin h
    exact ⟨(wipeA_out n).symm, by rw [wipeS_out n]; exact f.out i n, wipeA_out n⟩
theorem Fr.next (f : Fr σ vs σ2 B) (c : Ch σ2 B B' G H G' H') : Fr σ vs σ2 B' := ⟨f.ln, f.out, fun i m b e => by
  obtain ⟨x, q⟩ := c.sl i b e
  exact f.no i m x q⟩
theorem wipeA_sub (h : ∀ i, i ∈ vs1 → i ∈ vs) : wipeA (wipeA A vs1) vs = wipeA A vs := by
  apply List.ext_getElem?
  intro i
  by_cases z : i ∈ vs
  · cases q1 : (wipeA A vs)[i]? with
    | none =>
      have h1 := List.getElem?_eq_none_iff.mp q1
      exact List.getElem?_eq_none_iff.mpr (by rw [wipeA_len, wipeA_len]; rw [wipeA_len] at h1; exact h1)
    | some x =>
      have hx := wipeA_in z _ q1
      subst hx
      cases q2 : (wipeA (wipeA A vs1) vs)[i]? with
      | none =>
        have h1 := List.getElem?_eq_none_iff.mp q2
        have h2 := (List.getElem?_eq_some_iff.mp q1).1
        rw [wipeA_len, wipeA_len] at h1
        rw [wipeA_len] at h2
        omega
      | some y => rw [wipeA_in z _ q2]
  · rw [wipeA_out z, wipeA_out z, wipeA_out fun q => z (h i q)]
theorem Fr.wipeF (f : Fr σ vs σ2 B) (h : ∀ i, i ∈ vs1 → i ∈ vs) : Fr σ vs (wipe σ2 vs1) (wipeA B vs1) :=
  ⟨by rw [wipe_length]; exact f.ln, fun i n => by rw [wipeS_out fun z => n (h i z)]; exact f.out i n, fun i m b e => by
    have z : i ∉ vs1 := fun z => by cases wipeA_in z _ e
    rw [wipeA_out z] at e
    exact f.no i m b e⟩
/-- the list that is made, behind some turns -/
structure Mk (Z : Zt) (σ : St) (vs : List Nat) (Aw : As) (G1 H1 : Hp) (D : Addr) (σ2 : St) (B : As) (acc : List AI.D) (accV : List V) (G H : Hp) : Prop where
  st : StR Z G H σ2 B
  ch : Ch (wipe σ vs) Aw (wipeA B vs) G1 H1 G H
  hd : H D = some (.lst accV)
  ra : Reps Z G acc accV
  gd : G D = none
  fr : Fr σ vs σ2 B
theorem Mk.notD (m : Mk Z σ vs Aw G1 H1 D σ2 B acc accV G H) (s1 : StR Z G1 H1 (wipe σ vs) Aw) (nD : H1 D = none) : ¬ Own σ2 B D := fun z => by
  obtain ⟨o, e, _⟩ := s1.ownH (m.ch.own D (m.fr.own z))
  rw [nD] at e; cases e
theorem Mk.step (m : Mk Z σ vs Aw G1 H1 D σ2 B acc accV G H) (s1 : StR Z G1 H1 (wipe σ vs) Aw) (nD : H1 D = none) (s : StR Z G' H' σ2 B') (c : Ch σ2 B B' G H G' H') : Mk Z σ vs Aw G1 H1 D σ2 B' acc accV G' H' where
  st := s
  ch := m.ch.trans (m.fr.lift c)
  hd := c.keep D _ m.hd (m.notD s1 nD)
  ra := Reps.mono c.sub m.ra
  gd := by
    cases q : G' D with
    | none => rfl
    | some u =>
      rcases c.lim D u q with ⟨w, y⟩ | y | y
      · rw [m.gd] at y; cases y
      · rw [m.hd] at y; cases y
      · exact (m.notD s1 nD y).elim
  fr := m.fr.next c
theorem Mk.wip (m : Mk Z σ vs Aw G1 H1 D σ2 B acc accV G H) (h : ∀ i, i ∈ vs1 → i ∈ vs) : Mk Z σ vs Aw G1 H1 D (wipe σ2 vs1) (wipeA B vs1) acc accV G H where
  st := m.st.wipe
  ch := by rw [wipeA_sub h]; exact m.ch
  hd := m.hd
  ra := m.ra
  gd := m.gd
  fr := m.fr.wipeF h
theorem Mk.sto {ti : Tg} {d : AI.D} {B1 : As} (m : Mk Z σ vs Aw G1 H1 D σ2 B acc accV G H) (e : asgT [] ti d B = some B1) (s : StR Z G H σ3 B1) (tr : TgR (tgs ti) σ2 B σ3 B1) (sub : ∀ i, i ∈ tgs ti → i ∈ vs) : Mk Z σ vs Aw G1 H1 D σ3 B1 acc accV G H where
  st := s
  ch := by
    have e2 : wipeA B1 vs = wipeA B vs := by
      apply List.ext_getElem?
      intro i
      by_cases z : i ∈ vs
      · cases q1 : (wipeA B vs)[i]? with
        | none =>
          have h1 := List.getElem?_eq_none_iff.mp q1
          exact List.getElem?_eq_none_iff.mpr (by rw [wipeA_len, asgT_len e]; rw [wipeA_len] at h1; exact h1)
        | some x =>
          have hx := wipeA_in z _ q1
          subst hx
          cases q2 : (wipeA B1 vs)[i]? with
          | none =>
            have h1 := List.getElem?_eq_none_iff.mp q2
            have h2 := (List.getElem?_eq_some_iff.mp q1).1
            rw [wipeA_len, asgT_len e] at h1
            rw [wipeA_len] at h2
            omega
          | some y => rw [wipeA_in z _ q2]
      · rw [wipeA_out z, wipeA_out z, (tr.same i fun q => z (sub i q)).2]
    rw [e2]; exact m.ch
  hd := m.hd
  ra := m.ra
  gd := m.gd
  fr := ⟨by
      have l1 := s.len
      have l2 := m.st.len
      rw [asgT_len e] at l1
      rw [l1, ← l2]; exact m.fr.ln, fun i n => by rw [(tr.same i fun q => n (sub i q)).1]; exact m.fr.out i n, fun i mi b q => by
      by_cases z : i ∈ tgs ti
      · obtain ⟨x, y⟩ := asgT_val e z
        rw [y] at q; cases q
      · rw [(tr.same i z).2] at q
        exact m.fr.no i mi b q⟩
theorem Mk.app {y : AI.D} {w : V} (m : Mk Z σ vs Aw G1 H1 D σ2 B acc accV G H) (s1 : StR Z G1 H1 (wipe σ vs) Aw) (nD : H1 D = none) (r : Rep Z G y w) : Mk Z σ vs Aw G1 H1 D σ2 B (acc ++ [y]) (accV ++ [w]) G (upd H D (.lst (accV ++ [w]))) where
  st := m.st.write m.gd (m.notD s1 nD)
  ch := m.ch.writeNew nD
  hd := upd_same
  ra := m.ra.append (.one r)
  gd := m.gd
  fr := m.fr
theorem Fr.wipe_eq (f : Fr σ vs σ2 B) : wipe σ2 vs = wipe σ vs := by
  apply List.ext_getElem?
  intro j
  by_cases z : j ∈ vs
  · exact wipeS_in_eq (by rw [wipe_length, wipe_length]; exact f.ln) z
  · rw [wipeS_out z, wipeS_out z]; exact f.out j z
end
end AI
/-! A comprehension over two: its turns. -/
namespace AI
open PySem PySem.Spec L2
open PyProof.Rows hiding St
section
variable {Z : Zt} {W : WX} {X : Cx} {G H G1 H1 G2 H2 G' H' : Hp} {σ σ' σ2 σ3 : St} {A A' A1 A2 B B' Aw : As} {vs vs1 : List Nat} {D : Addr} {acc acc' : List AI.D} {accV : List V}
theorem tr_wipe {ti : Tg} {d : AI.D} {B1 : As} {H0 : Hp} (s2 : StR Z G H (wipe σ2 vs1) (wipeA B vs1)) (s3 : StR Z G H0 σ3 B1) (e : asgT [] ti d (wipeA B vs1) = some B1) (tr : TgR (tgs ti) (wipe σ2 vs1) (wipeA B vs1) σ3 B1) (sub : ∀ i, i ∈ tgs ti → i ∈ vs1) : wipe σ3 vs1 = wipe σ2 vs1 := by
  apply List.ext_getElem?
  intro j
  by_cases z : j ∈ vs1
  · refine wipeS_in_eq ?_ z
    have e1 := s3.len
    have e2 := s2.len
    rw [wipe_length, e1, asgT_len e]
    exact e2.symm
  · rw [wipeS_out z, (tr.same j fun q => z (sub j q)).1]
theorem inner_turns {ti : Tg} {fe : E2} {fc : Option E2} {ds : List AI.D} {J : L2.It} {Nx : Hp → Prop} (s1 : StR Z G1 H1 (wipe σ vs) Aw) (nD : H1 D = none) (sub : ∀ i, i ∈ tgs ti → i ∈ vs1) (sv : ∀ i, i ∈ vs1 → i ∈ vs)
    (m0 : Mk Z σ vs Aw G1 H1 D σ2 B acc accV G H) (r1 : ItOk Z J ds G) (et : turns (asgT [] ti) (evc fc) fe.d (fun B => wipeA B vs1) ds acc B = some (.ok acc' B'))
    (fin : ∀ G' H' accV', Mk Z σ vs Aw G1 H1 D (wipe σ2 vs1) (wipeA B' vs1) acc' accV' G' H' → Nx H') :
    ∃ W1 : Nat → Nat → Hp → Prop, (∃ m, W1 0 m H) ∧ ∀ j k H, W1 j k H →
      (J.stop j H ∧ Nx H) ∨ (J.go j H ∧ ∃ Nx1 : Hp → Prop, (∀ H', Nx1 H' → ∃ k', k' < k ∧ W1 (j + 1) k' H') ∧ ∀ x H', J.yld j H x H' → tofT Z [] ti x (wipe σ2 vs1) H' fun σ3 H5 => wipe σ3 vs1 = wipe σ2 vs1 ∧ tofb Z W0 (evc fc) σ3 H5 fun b H6 =>
        if b = true then tofd Z W0 fe.d σ3 H6 fun y H7 => ∃ acc, H7 D = some (.lst acc) ∧ acc.length < sizeLine ∧ Nx1 (upd H7 D (.lst (acc ++ [y]))) else Nx1 H6) := by
  refine ⟨fun j k H => k = ds.length - j ∧ j ≤ ds.length ∧ ∃ G' C acc1 accV1, Mk Z σ vs Aw G1 H1 D (wipe σ2 vs1) (wipeA C vs1) acc1 accV1 G' H ∧ Sub G G' ∧ turns (asgT [] ti) (evc fc) fe.d (fun B => wipeA B vs1) (ds.drop j) acc1 C = some (.ok acc' B'),
    ⟨ds.length, by simp, Nat.zero_le _, G, B, acc, accV, m0.wip sv, .refl _, by rw [List.drop_zero]; exact et⟩, ?_⟩
  rintro i m H2 ⟨rfl, hi, G2, C, acc1, accV1, m2, sG, hturn⟩
  by_cases hlt : i < ds.length
  · refine .inr ⟨r1.go i H2 (sG.trans m2.st.sub) hlt, fun H' => ∃ G' C acc1 accV1, Mk Z σ vs Aw G1 H1 D (wipe σ2 vs1) (wipeA C vs1) acc1 accV1 G' H' ∧ Sub G G' ∧ turns (asgT [] ti) (evc fc) fe.d (fun B => wipeA B vs1) (ds.drop (i + 1)) acc1 C = some (.ok acc' B'),
      fun H' p => ⟨ds.length - (i + 1), by omega, rfl, hlt, p⟩, fun x H3 hy => ?_⟩
    have ed : ds.drop i = ds[i] :: ds.drop (i + 1) := List.drop_eq_getElem_cons hlt
    rw [ed] at hturn
    obtain ⟨G3, s3, c3, r3⟩ := r1.yld i H2 H3 x ds[i] G2 (wipe σ2 vs1) (wipeA C vs1) (List.getElem?_eq_getElem hlt) sG m2.st hy
    have m3 := m2.step s1 nD s3 c3
    have sG3 : Sub G G3 := sG.trans c3.sub
    unfold turns at hturn
    cases ea : asgT [] ti ds[i] (wipeA C vs1) with
    | none => rw [ea] at hturn; cases hturn
    | some B1 =>
      rw [ea] at hturn
      dsimp only at hturn
      refine ⟨G3, wipeA C vs1, ds[i], B1, s3, r3, ea, fun σ3 s4 tr => ?_⟩
      have ew := tr_wipe s3 s4 ea tr sub
      refine ⟨ew, ?_⟩
      have m4 := m3.sto ea s4 tr fun i m => sv i (sub i m)
      cases et2 : evc fc B1 with
      | none => rw [et2] at hturn; cases hturn
      | some z2 =>
        rw [et2] at hturn
        cases z2 with
        | ex c fs B2 => cases hturn
        | ok b B2 =>
          dsimp only at hturn
          refine ⟨G3, B1, s4, no_ex et2 fun b' G4 H4 s5 c5 rb => ?_⟩
          have rb : b' = b := rb
          subst rb
          have m5 := m4.step s1 nD s5 c5
          cases b' with
          | false =>
            rw [if_neg (by decide)] at hturn
            have m6 := m5.wip sv
            rw [ew] at m6
            exact iteF ⟨G4, B2, acc1, accV1, m6, sG3.trans c5.sub, hturn⟩
          | true =>
            rw [if_pos rfl] at hturn
            refine iteT ?_
            cases ee : fe.d B2 with
            | none => rw [ee] at hturn; cases hturn
            | some z3 =>
              rw [ee] at hturn
              cases z3 with
              | ex c fs B3 => cases hturn
              | ok y B3 =>
                dsimp only at hturn
                split at hturn
                · rename_i hl
                  have hl := of_decide_eq_true hl
                  refine ⟨G4, B2, s5, no_ex ee fun w G5 H5 s6 c6 rw' => ?_⟩
                  have rw' : Rep Z G5 y w := rw'
                  have m6 := m5.step s1 nD s6 c6
                  have m7 := m6.wip sv
                  rw [ew] at m7
                  exact ⟨accV1, m6.hd, by rw [m6.ra.len]; exact Nat.lt_of_lt_of_le hl most_le, G5, B3, acc1 ++ [y], accV1 ++ [w], m7.app s1 nD rw', (sG3.trans c5.sub).trans c6.sub, hturn⟩
                · cases hturn
  · have e : i = ds.length := by omega
    subst e
    rw [List.drop_length] at hturn
    unfold turns at hturn
    cases hturn
    exact .inl ⟨r1.stop _ H2 (sG.trans m2.st.sub) (Nat.le_refl _), fin _ _ _ m2⟩
theorem turns2_noex {tg : AI.D → As → Option As} {test : As → Option (Rs Bool)} {src1 : As → Option (Rs (List AI.D))} {inner : List AI.D → List AI.D → As → Option (Rs (List AI.D))} {wp : As → As} : ∀ {ds acc : List AI.D} {A : As} {c : Nat} {fs : List (Str × AI.D)} {A' : As}, turns2 tg test src1 inner wp ds acc A ≠ some (.ex c fs A')
  | [], acc, A, c, fs, A', h => by unfold turns2 at h; cases h
  | d :: ds, acc, A, c, fs, A', h => by
    unfold turns2 at h
    split at h
    · cases h
    · split at h
      · split at h
        · split at h
          · split at h
            · exact turns2_noex h
            · cases h
          · cases h
        · exact turns2_noex h
      · cases h
theorem tlc2_of {src src1 : As → Option (Rs (List AI.D))} {ti ti1 : Tg} {fe : E2} {fc fc1 : Option E2} {Q : VK} (sub : ∀ i ∈ tgs ti, i ∈ vs) (sub1 : ∀ i, i ∈ tgs ti1 → i ∈ vs1) (sv : ∀ i, i ∈ vs1 → i ∈ vs)
    (q : tof Z W (comp2A src ti fc src1 ti1 fc1 fe vs vs1) σ H Q) : tLc2 (tofI Z W src) (tofT Z [] ti) (tofb Z W0 (evc fc)) (tofI Z W0 src1) (tofT Z [] ti1) (tofb Z W0 (evc fc1)) (tofd Z W0 fe.d) vs vs1 σ H Q := by
  obtain ⟨G, A, s, q⟩ := q
  refine tofG.bind s sh_R q fun ds A1 J G1 H1 s1 c1 r1 h1 => ?_
  intro D nD
  cases et : turns2 (asgT [] ti) (evc fc) src1 (turns (asgT [] ti1) (evc fc1) fe.d (fun B => wipeA B vs1)) (fun B => wipeA B vs) ds [] (wipeA A1 vs) with
  | none => rw [et] at h1; exact h1.elim
  | some z =>
    rw [et] at h1
    cases z with
    | ex c fs A2 => exact (turns2_noex et).elim
    | ok r A2 =>
      have h1' : ∀ v G' H', StR Z G' H' σ (unwipe A1 A2 vs) → Ch σ A1 (unwipe A1 A2 vs) G1 H1 G' H' → RR Z H1 G' H' (.o (.l r)) v → Q v H' := h1
      have s1w : StR Z G1 H1 (wipe σ vs) (wipeA A1 vs) := s1.wipe
      refine ⟨fun i m H => m = ds.length - i ∧ i ≤ ds.length ∧ ∃ G' B acc accV, Mk Z σ vs (wipeA A1 vs) G1 H1 D (wipe σ vs) (wipeA B vs) acc accV G' H ∧
        turns2 (asgT [] ti) (evc fc) src1 (turns (asgT [] ti1) (evc fc1) fe.d (fun B => wipeA B vs1)) (fun B => wipeA B vs) (ds.drop i) acc B = some (.ok r A2), ⟨ds.length, by simp, Nat.zero_le _, G1, wipeA A1 vs, [], [], ⟨?_, ?_, upd_same, .nil, s1.sub.none nD, ?_⟩, by rw [List.drop_zero]; exact et⟩, ?_⟩
      · rw [wipeA_idem]; exact s1w.grow nD
      · rw [wipeA_idem, wipeA_idem]; exact Ch.refl.grow nD
      · refine ⟨wipe_length _ _, fun i n => wipeS_out n, fun i m b e => ?_⟩
        cases wipeA_in m _ e
      rintro i m H2 ⟨rfl, hi, G2, B, acc, accV, m2, hturn⟩
      have c2 := m2.ch
      rw [wipeA_idem] at c2
      by_cases hlt : i < ds.length
      · refine .inr ⟨r1.go i H2 (c2.sub.trans m2.st.sub) hlt, fun H' => ∃ G' B' acc' accV', Mk Z σ vs (wipeA A1 vs) G1 H1 D (wipe σ vs) (wipeA B' vs) acc' accV' G' H' ∧
          turns2 (asgT [] ti) (evc fc) src1 (turns (asgT [] ti1) (evc fc1) fe.d (fun B => wipeA B vs1)) (fun B => wipeA B vs) (ds.drop (i + 1)) acc' B' = some (.ok r A2), fun H' p => ⟨ds.length - (i + 1), by omega, rfl, hlt, p⟩, fun x H3 hy => ?_⟩
        have ed : ds.drop i = ds[i] :: ds.drop (i + 1) := List.drop_eq_getElem_cons hlt
        rw [ed] at hturn
        obtain ⟨G3, s3, c3, r3⟩ := r1.yld i H2 H3 x ds[i] G2 (wipe σ vs) (wipeA B vs) (List.getElem?_eq_getElem hlt) c2.sub m2.st hy
        have m3 := m2.step s1w nD s3 c3
        unfold turns2 at hturn
        cases ea : asgT [] ti ds[i] (wipeA B vs) with
        | none => rw [ea] at hturn; cases hturn
        | some B1 =>
          rw [ea] at hturn
          dsimp only at hturn
          refine ⟨G3, wipeA B vs, ds[i], B1, s3, r3, ea, fun σ2 s4 tr => ?_⟩
          have ew := tr_wipe s3 s4 ea tr sub
          refine ⟨ew, ?_⟩
          have m4 := m3.sto ea s4 tr sub
          have back : ∀ {σx : St} {C : As} {acc : List AI.D} {accV : List V} {G' H' : Hp}, Mk Z σ vs (wipeA A1 vs) G1 H1 D σx C acc accV G' H' → Mk Z σ vs (wipeA A1 vs) G1 H1 D (wipe σ vs) (wipeA C vs) acc accV G' H' := fun {σx C acc accV G' H'} m => by
            have m' := m.wip (vs1 := vs) fun _ h => h
            rw [m.fr.wipe_eq] at m'
            exact m'
          cases et2 : evc fc B1 with
          | none => rw [et2] at hturn; cases hturn
          | some z2 =>
            rw [et2] at hturn
            cases z2 with
            | ex c fs B2 => cases hturn
            | ok b B2 =>
              dsimp only at hturn
              refine ⟨G3, B1, s4, no_ex et2 fun b' G4 H4 s5 c5 rb => ?_⟩
              have rb : b' = b := rb
              subst rb
              have m5 := m4.step s1w nD s5 c5
              cases b' with
              | false =>
                rw [if_neg (by decide)] at hturn
                exact iteF ⟨G4, B2, acc, accV, back m5, hturn⟩
              | true =>
                rw [if_pos rfl] at hturn
                refine iteT ?_
                cases es : src1 B2 with
                | none => rw [es] at hturn; cases hturn
                | some z3 =>
                  rw [es] at hturn
                  cases z3 with
                  | ex c fs B3 => cases hturn
                  | ok ds1 B3 =>
                    dsimp only at hturn
                    refine ⟨G4, B2, s5, no_ex es fun J1 G5 H5 s6 c6 rj => ?_⟩
                    have rj : ItOk Z J1 ds1 G5 := rj
                    have m6 := m5.step s1w nD s6 c6
                    cases ei : turns (asgT [] ti1) (evc fc1) fe.d (fun B => wipeA B vs1) ds1 acc B3 with
                    | none => rw [ei] at hturn; cases hturn
                    | some z4 =>
                      rw [ei] at hturn
                      cases z4 with
                      | ex c fs B4 => cases hturn
                      | ok acc' B4 =>
                        dsimp only at hturn
                        exact inner_turns s1w nD sub1 sv m6 rj ei fun G' H' accV' m7 => by
                          have m8 := back m7
                          rw [wipeA_sub sv] at m8
                          exact ⟨G', B4, acc', accV', m8, hturn⟩
      · have e : i = ds.length := by omega
        subst e
        rw [List.drop_length] at hturn
        unfold turns2 at hturn
        cases hturn
        obtain ⟨s8, c8⟩ := s1.unwipe m2.st c2
        exact .inl ⟨r1.stop _ H2 (c2.sub.trans m2.st.sub) (Nat.le_refl _), h1' (.ref D) G2 H2 s8 c8 ⟨D, _, rfl, nD, m2.gd, m2.hd, accV, rfl, m2.ra⟩⟩
theorem pe_comp2A {elt tg it tg1 it1 : Expr} {ifs ifs1 : List Expr} {scope : Scope} {own : List (Str × Nat)} {pos : Pos} {src src1 : As → Option (Rs (List AI.D))} {ti ti1 : Tg} {fe : E2} {fc fc1 : Option E2}
    (hc : X.calm = true) (nd : X.N.Nodup) (hi : PI X tg it (tofI Z W src)) (ok : BlkOk X.N X.env.scope scope own)
    (hg : ∀ (s : Shared) (H : Hp) (C : Addr) (cl : List (Str × Addr)) (fp : List Addr), PG (X.blk s H scope (compEnvC scope cl C X.env) fp) tg (tofT Z [] ti))
    (ht : ∀ (s : Shared) (H : Hp) (C : Addr) (cl : List (Str × Addr)) (fp : List Addr), PTs (X.blk s H scope (compEnvC scope cl C X.env) fp) ifs (tofb Z W0 (evc fc)))
    (hi1 : ∀ (s : Shared) (H : Hp) (C : Addr) (cl : List (Str × Addr)) (fp : List Addr), PI (X.blk s H scope (compEnvC scope cl C X.env) fp) tg1 it1 (tofI Z W0 src1))
    (hg1 : ∀ (s : Shared) (H : Hp) (C : Addr) (cl : List (Str × Addr)) (fp : List Addr), PG (X.blk s H scope (compEnvC scope cl C X.env) fp) tg1 (tofT Z [] ti1))
    (ht1 : ∀ (s : Shared) (H : Hp) (C : Addr) (cl : List (Str × Addr)) (fp : List Addr), PTs (X.blk s H scope (compEnvC scope cl C X.env) fp) ifs1 (tofb Z W0 (evc fc1)))
    (he : ∀ (s : Shared) (H : Hp) (C : Addr) (cl : List (Str × Addr)) (fp : List Addr), PE (X.blk s H scope (compEnvC scope cl C X.env) fp) elt (tofd Z W0 fe.d))
    (hs : ∀ x, foldedSetIterable it X.env x = pure x) (hs1 : ∀ env x, foldedSetIterable it1 env x = pure x) (sub : ∀ i ∈ tgs ti, i ∈ own.map (·.2)) (sub1 : ∀ i, i ∈ tgs ti1 → i ∈ vs1) (sv : ∀ i, i ∈ vs1 → i ∈ own.map (·.2)) :
    PE X (.ListComp elt [⟨tg, it, ifs, 0⟩, ⟨tg1, it1, ifs1, 0⟩] scope pos) (tof Z W (comp2A src ti fc src1 ti1 fc1 fe (own.map (·.2)) vs1)) := pe_imp (pe_lc2 hc nd hi ok sv hg ht hi1 hg1 ht1 he hs hs1) fun _ _ _ q => tlc2_of sub sub1 sv q
end
end AI
/-! What is gone through; dicts made; places' own lists changed. -/
namespace AI
open PySem PySem.Spec L2
open PyProof.Rows hiding St
section
variable {Z : Zt} {W : WX} {X : Cx} {G H G1 H1 G2 H2 G' H' : Hp} {σ σ' σ2 : St} {A A' A1 A2 B : As}
/-! ### iterables -/
theorem pi_eA {tg e : Expr} {f : E2} (hK : X.K = Z.K) (h : SE Z W X e f) : PI X tg e (tofI Z W fun A => Rs.bind (f.d A) fun x A1 => toL A1 (itD x)) := by
  refine pi_any fun σ H R q => ?_
  obtain ⟨G, A, s, q⟩ := q
  dsimp only at q
  cases e1 : f.d A with
  | none => rw [e1] at q; exact q.elim
  | some z =>
    rw [e1] at q
    cases z with
    | ex c fs A1 => exact ⟨_, pi_list h.d, ⟨G, A, s, by rw [e1]; exact q⟩⟩
    | ok x A1 =>
      have q' : tofS Z W (RI Z) (toL A1 (itD x)) σ A G H R := q
      cases x with
      | lst ds =>
        refine ⟨_, pi_list h.d, ⟨G, A, s, no_ex e1 fun v G1 H1 s1 c1 r1 => ?_⟩⟩
        obtain ⟨a, xs, rfl, hp, rs⟩ := rep_lst.mp (show Rep Z G1 (.lst ds) v from r1)
        refine ⟨a, rfl, ⟨xs, .of (s1.sub _ _ hp)⟩, ?_⟩
        rw [hK]
        exact q' _ G1 H1 s1 c1 (it_list (.of hp) rs)
      | tup ds =>
        refine ⟨_, pi_tup h.d, ⟨G, A, s, no_ex e1 fun v G1 H1 s1 c1 r1 => ?_⟩⟩
        obtain ⟨a, xs, rfl, hp, rs⟩ := rep_tup.mp (show Rep Z G1 (.tup ds) v from r1)
        refine ⟨a, rfl, ⟨xs, by rw [hK]; exact s1.sub.sqt hp⟩, ?_⟩
        rw [hK]
        exact q' _ G1 H1 s1 c1 (it_tup hp rs)
      | str z =>
        refine ⟨_, pi_str h.d, ⟨G, A, s, no_ex e1 fun v G1 H1 s1 c1 r1 => ?_⟩⟩
        exact ⟨z, rep_str.mp (show Rep Z G1 (.str z) v from r1), q' _ G1 H1 s1 c1 it_str⟩
      | _ => exact q'.elim
theorem pi_enumA {a : Expr} {f : E2} {elts : List Expr} {kk : Nat} {p pos tpos : Pos} (hK : X.K = Z.K) (hg : Gl X "enumerate") (hm : X.mg "enumerate" = none) (ha : SE Z W X a f) (ns : noStar a = true) :
    PI X (.Tuple elts kk tpos) (.Call (.Name "enumerate" p) [a] [] pos) (tofI Z W fun A => Rs.bind (f.d A) fun x A1 => toL A1 (enumI x)) := by
  refine pi_any fun σ H R q => ⟨_, pi_enumB hg hm (pa_cons ha.d pa_nil (star_no ns)) (star_no ns), ?_⟩
  obtain ⟨G, A, s, q⟩ := q
  refine tofG.bind s sh_I q fun x A1 v G1 H1 s1 c1 r1 h1 => ?_
  cases x with
  | lst ds =>
    obtain ⟨a, xs, rfl, hp, rs⟩ := rep_lst.mp (show Rep Z G1 (.lst ds) v from r1)
    refine ⟨a, xs, rfl, .inl ⟨.of (s1.sub _ _ hp), ?_⟩⟩
    rw [hK]
    exact h1 _ G1 H1 s1 .refl (it_enum (.of hp) rs)
  | tup ds =>
    obtain ⟨a, xs, rfl, hp, rs⟩ := rep_tup.mp (show Rep Z G1 (.tup ds) v from r1)
    refine ⟨a, xs, rfl, .inr ⟨by rw [hK]; exact s1.sub.sqt hp, ?_⟩⟩
    rw [hK]
    exact h1 _ G1 H1 s1 .refl (it_enumT hp rs)
  | _ => exact h1.elim
theorem pi_zipA' {a b : Expr} {f g : E2} {elts : List Expr} {kk : Nat} {p pos tpos : Pos} (hK : X.K = Z.K) (hg : Gl X "zip") (hm : X.mg "zip" = none) (ha : SE Z W X a f) (hb : SE Z W X b g) (na : noStar a = true) (nb : noStar b = true) :
    PI X (.Tuple elts kk tpos) (.Call (.Name "zip" p) [a, b] [] pos) (tofI Z W fun A => Rs.bind (f.d A) fun x A1 => Rs.bind (g.d A1) fun y A2 => toL A2 (zipI x y)) := by
  refine pi_any fun σ H R q => ⟨_, RZ.pi_zipA hg hm (pa_cons ha.d (pa_cons hb.d pa_nil (star_no nb)) (star_no na)) (star_no na) (by rw [star_no nb]; rfl), ?_⟩
  obtain ⟨G, A, s, q⟩ := q
  refine tofG.bind s sh_I q fun x A1 v G1 H1 s1 c1 r1 h1 => tofG.bind s1 sh_I h1 fun y A2 u G2 H2 s2 c2 r2 h2 => ?_
  have r1' : Rep Z G2 x v := Rep.mono c2.sub r1
  have r2 : Rep Z G2 y u := r2
  cases x with
  | lst l =>
    cases y with
    | lst r =>
      obtain ⟨a, xs, rfl, hp, rs⟩ := rep_lst.mp r1'
      obtain ⟨b, ys, rfl, hq, rt⟩ := rep_lst.mp r2
      refine ⟨a, b, xs, ys, rfl, .inl ⟨.of (s2.sub _ _ hp), .of (s2.sub _ _ hq), ?_⟩⟩
      rw [hK]
      exact h2 _ G2 H2 s2 .refl (it_zip (.of hp) (.of hq) rs rt)
    | _ => exact h2.elim
  | tup l =>
    cases y with
    | tup r =>
      obtain ⟨a, xs, rfl, hp, rs⟩ := rep_tup.mp r1'
      obtain ⟨b, ys, rfl, hq, rt⟩ := rep_tup.mp r2
      refine ⟨a, b, xs, ys, rfl, .inr ⟨by rw [hK]; exact s2.sub.sqt hp, by rw [hK]; exact s2.sub.sqt hq, ?_⟩⟩
      rw [hK]
      exact h2 _ G2 H2 s2 .refl (it_zipT hp hq rs rt)
    | _ => exact h2.elim
  | _ => exact h2.elim
theorem okI_of {i : Int} (h : okI i = true) : -(2 ^ 62) ≤ i ∧ i < 2 ^ 62 := of_decide_eq_true h
theorem pi_rng1A {tg a : Expr} {f : E2} {p pos : Pos} (hg : Gl X "range") (hm : X.mg "range" = none) (ha : SE Z W X a f) (ns : noStar a = true) :
    PI X tg (.Call (.Name "range" p) [a] [] pos) (tofI Z W fun A => Rs.bind (f.d A) fun x A1 => toL A1 (rng1I x)) := by
  refine pi_any fun σ H R q => ⟨_, pi_range1 hg hm (pa_cons ha.d pa_nil (star_no ns)) (star_no ns), ?_⟩
  obtain ⟨G, A, s, q⟩ := q
  refine tofG.bind s sh_I q fun x A1 v G1 H1 s1 c1 r1 h1 => ?_
  cases x with
  | int i =>
    have h1' : tofS Z W (RI Z) (toL A1 (if okI i then some (rngD 0 i.toNat) else none)) σ A1 G1 H1 R := h1
    cases e : okI i with
    | false => rw [e] at h1'; exact h1'.elim
    | true =>
      rw [e] at h1'
      obtain ⟨o1, o2⟩ := okI_of e
      exact ⟨i, by rw [rep_int.mp (show Rep Z G1 (.int i) v from r1)], o1, o2, h1' _ G1 H1 s1 .refl it_rng⟩
  | _ => exact h1.elim
theorem pi_rng2A {tg a b : Expr} {f g : E2} {p pos : Pos} (hg : Gl X "range") (hm : X.mg "range" = none) (ha : SE Z W X a f) (hb : SE Z W X b g) (na : noStar a = true) (nb : noStar b = true) :
    PI X tg (.Call (.Name "range" p) [a, b] [] pos) (tofI Z W fun A => Rs.bind (f.d A) fun x A1 => Rs.bind (g.d A1) fun y A2 => toL A2 (rng2I x y)) := by
  refine pi_any fun σ H R q => ⟨_, pi_range2 hg hm (pa_cons ha.d (pa_cons hb.d pa_nil (star_no nb)) (star_no na)) (by rw [star_no na, star_no nb]; rfl) (by rw [star_no nb]; rfl), ?_⟩
  obtain ⟨G, A, s, q⟩ := q
  refine tofG.bind s sh_I q fun x A1 v G1 H1 s1 c1 r1 h1 => tofG.bind s1 sh_I h1 fun y A2 u G2 H2 s2 c2 r2 h2 => ?_
  cases x with
  | int i =>
    cases y with
    | int j =>
      have h2' : tofS Z W (RI Z) (toL A2 (if okI i && okI j then some (rngD i (j - i).toNat) else none)) σ A2 G2 H2 R := h2
      cases e : okI i && okI j with
      | false => rw [e] at h2'; exact h2'.elim
      | true =>
        rw [e] at h2'
        obtain ⟨e1, e2⟩ := Bool.and_eq_true_iff.mp e
        obtain ⟨o1, o2⟩ := okI_of e1
        obtain ⟨o3, o4⟩ := okI_of e2
        exact ⟨i, j, by rw [rep_int.mp (show Rep Z G1 (.int i) v from r1), rep_int.mp (show Rep Z G2 (.int j) u from r2)], ⟨o1, o2, o3, o4⟩, h2' _ G2 H2 s2 .refl it_rng⟩
    | _ => exact h2.elim
  | _ => exact h2.elim
/-! ### places' own lists -/
theorem ownL_inv {i : Nat} (s : StR Z G H σ A) (h : ownL A i = true) : ∃ ds p xs, A[i]? = some (.o (.l ds)) ∧ σ[i]? = some (some (.ref p)) ∧ G p = none ∧ H p = some (.lst xs) ∧ Reps Z G ds xs := by
  unfold ownL at h
  split at h
  · rename_i ds e
    obtain ⟨p, o, a, g, hp, xs, rfl, r⟩ := s.own i _ e
    exact ⟨ds, p, xs, e, a, g, hp, r⟩
  · cases h
theorem pe_appA {i : Nat} {x : Str} {e : Expr} {f : E2} {p q pos : Pos} (hN : X.N[i]? = some x) (hv : Vis X.env.scope x) (hd : (x == ("__debug__" : Str)) = false) (hcd : (x == ("__classdict__" : Str)) = false) (hl : (q.endLine == pos.line) = true) (he : SE Z W X e f) (ns : noStar e = true) :
    PE X (.Call (.Attribute (.Name x p) "append" q) [e] [] pos) (tof Z W fun A => if ownL A i then Rs.bind (f.d A) fun y A1 => appA i y A1 else none) := by
  refine pe_imp (pe_bm PySem.F.plainAttrs_list PySem.F.slot_list_append PySem.F.type_list_append mt_append (pe_var hN hv hd hcd) (pa_cons he.d pa_nil (star_no ns)) rfl (by rw [star_no ns]; rfl) hl (star_no ns) rfl) fun σ H Q q => ?_
  obtain ⟨G, A, s, q⟩ := q
  dsimp only at q
  cases eo : ownL A i with
  | false => rw [eo] at q; exact q.elim
  | true =>
    rw [eo] at q
    obtain ⟨ds, l, xs, e1, a, g, hp, r⟩ := ownL_inv s eo
    refine ⟨.ref l, a, .inl ⟨rfl, xs, .of hp⟩, tofG.bind s sh_R q fun y A1 u G1 H1 s1 c1 r1 h1 => ?_⟩
    have h1' : tofS Z W (RR Z) (appA i y A1) σ A1 G1 H1 Q := h1
    unfold appA at h1'
    split at h1'
    · rename_i es e2
      cases e3 : short es with
      | false => rw [e3] at h1'; exact h1'.elim
      | true =>
        rw [e3] at h1'
        obtain ⟨l2, o, a2, g2, hp2, ys, rfl, r2⟩ := s1.own i _ e2
        rw [a] at a2
        cases a2
        refine ⟨l, ys, u, rfl, rfl, hp2, ?_, ?_⟩
        · rw [r2.len]
          exact Nat.lt_of_le_of_lt (short_of e3) (by decide)
        · exact h1' .non G1 _ (s1.writeAt e2 a ⟨ys ++ [u], rfl, r2.append (.one r1)⟩) (.writeAt e2 a) (show Rep Z G1 .non .non from rep_non.mpr rfl)
    · exact h1'.elim
theorem pe_popA {i : Nat} {x : Str} {e : Expr} {f : E2} {p q pos : Pos} (hN : X.N[i]? = some x) (hv : Vis X.env.scope x) (hd : (x == ("__debug__" : Str)) = false) (hcd : (x == ("__classdict__" : Str)) = false) (hl : (q.endLine == pos.line) = true) (he : SE Z W X e f) (ns : noStar e = true) :
    PE X (.Call (.Attribute (.Name x p) "pop" q) [e] [] pos) (tof Z W fun A => if ownL A i then Rs.bind (f.d A) fun y A1 => popA i y A1 else none) := by
  refine pe_imp (pe_bm PySem.F.plainAttrs_list PySem.F.slot_list_pop PySem.F.type_list_pop mt_popAt (pe_var hN hv hd hcd) (pa_cons he.d pa_nil (star_no ns)) rfl (by rw [star_no ns]; rfl) hl (star_no ns) rfl) fun σ H Q q => ?_
  obtain ⟨G, A, s, q⟩ := q
  dsimp only at q
  cases eo : ownL A i with
  | false => rw [eo] at q; exact q.elim
  | true =>
    rw [eo] at q
    obtain ⟨ds, l, xs, e1, a, g, hp, r⟩ := ownL_inv s eo
    refine ⟨.ref l, a, .inl ⟨rfl, xs, .of hp⟩, tofG.bind s sh_R q fun y A1 u G1 H1 s1 c1 r1 h1 => ?_⟩
    have h1' : tofS Z W (RR Z) (popA i y A1) σ A1 G1 H1 Q := h1
    unfold popA at h1'
    split at h1'
    · rename_i es k e2
      split at h1'
      · rename_i c
        split at h1'
        · rename_i d e3
          obtain ⟨l2, o, a2, g2, hp2, ys, rfl, r2⟩ := s1.own i _ e2
          rw [a] at a2
          cases a2
          obtain ⟨w, e4, r4⟩ := r2.get e3
          have el := r2.len
          refine ⟨l, ys, k, k.toNat, w, rfl, by rw [rep_int.mp (show Rep Z G1 (.int k) u from r1)], hp2, by omega, by omega, ?_, e4, ?_⟩
          · exact (ixN_seq (n := ys.length) (i := k) (j := k.toNat) (by unfold ixN; rw [if_pos c.1, if_pos (by omega)])).1
          · exact h1' w G1 _ (s1.writeAt e2 a ⟨ys.eraseIdx k.toNat, rfl, r2.eraseIdx _⟩) (.writeAt e2 a) r4
        · exact h1'.elim
      · exact h1'.elim
    · exact h1'.elim
theorem last_seq {α : Type} : ∀ {xs : List α}, xs.dropLast = xs.take (xs.length - 1)
  | [] => rfl
  | x :: r => by rw [List.dropLast_eq_take]
theorem pe_poplA {i : Nat} {x : Str} {p q pos : Pos} (hN : X.N[i]? = some x) (hv : Vis X.env.scope x) (hd : (x == ("__debug__" : Str)) = false) (hcd : (x == ("__classdict__" : Str)) = false) (hl : (q.endLine == pos.line) = true) :
    PE X (.Call (.Attribute (.Name x p) "pop" q) [] [] pos) (tof Z W (poplA i)) := by
  refine pe_imp (pe_bm0 PySem.F.plainAttrs_list PySem.F.slot_list_pop PySem.F.type_list_pop mt_pop (pe_var hN hv hd hcd) rfl hl) fun σ H Q q => ?_
  obtain ⟨G, A, s, q⟩ := q
  unfold poplA at q
  split at q
  · rename_i ds e
    split at q
    · rename_i d e3
      obtain ⟨l, o, a, g, hp, xs, rfl, r⟩ := s.own i _ e
      obtain ⟨w, e4, r4⟩ := r.get e3
      rw [← r.len] at e4
      refine ⟨.ref l, a, .inl ⟨rfl, xs, .of hp⟩, l, xs, w, rfl, rfl, hp, e4, ?_⟩
      have rd : Reps Z G ds.dropLast xs.dropLast := by
        rw [last_seq, last_seq, r.len]
        exact r.take _
      exact q w G _ (s.writeAt e a ⟨xs.dropLast, rfl, rd⟩) (.writeAt e a) r4
    · exact q.elim
  · exact q.elim
theorem pe_extA {i : Nat} {x : Str} {e : Expr} {f : E2} {p q pos : Pos} (hN : X.N[i]? = some x) (hv : Vis X.env.scope x) (hd : (x == ("__debug__" : Str)) = false) (hcd : (x == ("__classdict__" : Str)) = false) (hl : (q.endLine == pos.line) = true) (he : SE Z W X e f) (ns : noStar e = true) :
    PE X (.Call (.Attribute (.Name x p) "extend" q) [e] [] pos) (tof Z W fun A => if ownL A i then Rs.bind (f.d A) fun y A1 => extA i y A1 else none) := by
  refine pe_imp (pe_bm PySem.F.plainAttrs_list PySem.F.slot_list_extend PySem.F.type_list_extend mt_extend (pe_var hN hv hd hcd) (pa_cons he.d pa_nil (star_no ns)) rfl (by rw [star_no ns]; rfl) hl (star_no ns) rfl) fun σ H Q q => ?_
  obtain ⟨G, A, s, q⟩ := q
  dsimp only at q
  cases eo : ownL A i with
  | false => rw [eo] at q; exact q.elim
  | true =>
    rw [eo] at q
    obtain ⟨ds, l, xs, e1, a, g, hp, r⟩ := ownL_inv s eo
    refine ⟨.ref l, a, .inl ⟨rfl, xs, .of hp⟩, tofG.bind s sh_R q fun y A1 u G1 H1 s1 c1 r1 h1 => ?_⟩
    have h1' : tofS Z W (RR Z) (extA i y A1) σ A1 G1 H1 Q := h1
    unfold extA at h1'
    split at h1'
    · rename_i es fs e2
      cases e3 : short es && short fs with
      | false => rw [e3] at h1'; exact h1'.elim
      | true =>
        rw [e3] at h1'
        obtain ⟨e4, e5⟩ := Bool.and_eq_true_iff.mp e3
        obtain ⟨l2, o, a2, g2, hp2, ys, rfl, r2⟩ := s1.own i _ e2
        rw [a] at a2
        cases a2
        have r1 : Rep Z G1 (.lst fs) u := r1
        unfold Rep at r1
        obtain ⟨b, zs, rfl, gb, rz⟩ := r1
        refine ⟨l, b, ys, zs, rfl, rfl, hp2, s1.sub _ _ gb, ?_, ?_⟩
        · rw [r2.len, rz.len]
          exact Nat.le_trans (Nat.add_le_add (short_of e4) (short_of e5)) (by decide)
        · exact h1' .non G1 _ (s1.writeAt e2 a ⟨ys ++ zs, rfl, r2.append rz⟩) (.writeAt e2 a) (show Rep Z G1 .non .non from rep_non.mpr rfl)
    · exact h1'.elim
/-! ### list(range(n)) -/
theorem rg_rep : ∀ (n : Nat) (lo : Int), Reps Z G (rngD lo n) ((List.range n).map fun i => V.int (lo + (i : Nat)))
  | 0, lo => .nil
  | n + 1, lo => by
    unfold rngD
    rw [List.range_succ_eq_map, List.map_cons, List.map_map]
    refine .cons (rep_int.mpr (by simp)) ?_
    have e : (fun i => V.int (lo + ((i : Nat) : Int))) ∘ Nat.succ = fun i => V.int ((lo + 1) + ((i : Nat) : Int)) := by
      funext i
      show V.int (lo + ((i + 1 : Nat) : Int)) = _
      congr 1
      push_cast
      omega
    rw [e]
    exact rg_rep n (lo + 1)
theorem pe_lrngA {a : Expr} {f : E2} {p p2 q pos : Pos} (hc : X.calm = true) (hg : Gl X "list") (hm : X.mg "list" = none) (hg2 : Gl X "range") (hm2 : X.mg "range" = none) (ha : SE Z W X a f) (ns : noStar a = true) :
    PE X (.Call (.Name "list" p) [.Call (.Name "range" p2) [a] [] q] [] pos) (tof Z W fun A => Rs.bind (f.d A) fun x A1 => toR A1 ((rng1I x).bind fun ds => if short ds then some (.o (.l ds)) else none)) := by
  refine pe_imp (pe_listRg hc hg hm (prg_1 hg2 hm2 ha.d (star_no ns)) rfl) fun σ H Q q => ?_
  obtain ⟨G, A, s, q⟩ := q
  refine tofG.bind s sh_R q fun x A1 v G1 H1 s1 c1 r1 h1 => ?_
  cases x with
  | int i =>
    have h1' : tofS Z W (RR Z) (toR A1 ((if okI i then some (rngD 0 i.toNat) else none).bind fun ds => if short ds then some (.o (.l ds)) else none)) σ A1 G1 H1 Q := h1
    cases e : okI i with
    | false => rw [e] at h1'; exact h1'.elim
    | true =>
      rw [e] at h1'
      have h2 : tofS Z W (RR Z) (toR A1 (if short (rngD 0 i.toNat) then some (.o (.l (rngD 0 i.toNat))) else none)) σ A1 G1 H1 Q := h1'
      cases e2 : short (rngD 0 i.toNat) with
      | false => rw [e2] at h2; exact h2.elim
      | true =>
        rw [e2] at h2
        obtain ⟨o1, o2⟩ := okI_of e
        have l := short_of e2
        rw [rng_len] at l
        refine ⟨i, rep_int.mp (show Rep Z G1 (.int i) v from r1), ⟨by omega, by omega, o1, o2, ?_⟩, ?_⟩
        · have : (i - 0).toNat = i.toNat := by rw [Int.sub_zero]
          rw [this]
          exact Nat.le_trans l (by decide)
        · refine Fin.lst h2 s1 ?_
          unfold rgV
          rw [Int.sub_zero]
          exact rg_rep i.toNat 0
  | _ => exact h1.elim
/-! ### dicts made -/
theorem put_any {k : Key} : ∀ {kvs : List (Key × V)}, (kvs.any fun kv => decide (kv.1 = k)) = (kvs.map (·.1)).any fun x => decide (x = k)
  | [] => rfl
  | a :: r => by rw [List.any_cons, List.map_cons, List.any_cons, put_any]
theorem putV_rep {k : Key} {y : D} {z : V} (r : Rep Z G y z) : ∀ {kvs : List (Key × V)} {ds : List D}, Reps Z G ds (kvs.map (·.2)) →
    Reps Z G (putV k y (kvs.map (·.1)) ds) ((kvs.map fun kv => if kv.1 = k then (kv.1, z) else kv).map (·.2)) ∧ (kvs.map fun kv => if kv.1 = k then (kv.1, z) else kv).map (·.1) = kvs.map (·.1)
  | [], [], _ => ⟨by unfold putV; exact .nil, rfl⟩
  | [], d :: ds, h => by obtain ⟨_, _, e, _⟩ := h.inv; cases e
  | (a, x) :: kvs, [], h => by have := h.inv0; cases this
  | (a, x) :: kvs, d :: ds, h => by
    obtain ⟨v, vs, e, r1, r2⟩ := h.inv
    cases e
    obtain ⟨i1, i2⟩ := putV_rep r r2
    refine ⟨?_, ?_⟩
    · rw [List.map_cons, List.map_cons, List.map_cons]
      unfold putV
      refine .cons ?_ i1
      by_cases e : a = k
      · rw [if_pos e, if_pos e]; exact r
      · rw [if_neg e, if_neg e]; exact r1
    · rw [List.map_cons, List.map_cons, List.map_cons, i2]
      congr 1
      dsimp only
      split <;> rfl
theorem put_rep {k : Key} {y : D} {z : V} {kvs : List (Key × V)} {ds : List D} (r : Rep Z G y z) (h : Reps Z G ds (kvs.map (·.2))) :
    (L2.putK kvs k z).map (·.1) = (putK k y (kvs.map (·.1)) ds).1 ∧ Reps Z G (putK k y (kvs.map (·.1)) ds).2 ((L2.putK kvs k z).map (·.2)) := by
  unfold L2.putK putK
  rw [put_any]
  by_cases e : ((kvs.map (·.1)).any fun x => decide (x = k)) = true
  · rw [if_pos e, if_pos e]
    obtain ⟨i1, i2⟩ := putV_rep (k := k) r h
    exact ⟨i2, i1⟩
  · rw [if_neg e, if_neg e]
    rw [List.map_append, List.map_append]
    exact ⟨rfl, h.append (.one r)⟩
theorem dturns_noex {tg : D → As → Option As} {ke ve : As → Option (Rs D)} {wp : As → As} : ∀ {ds : List D} {ks : List Key} {vs : List D} {A : As} {c : Nat} {fs : List (Str × D)} {A' : As}, dturns tg ke ve wp ds ks vs A ≠ some (.ex c fs A')
  | [], _, _, A, c, fs, A', h => by unfold dturns at h; cases h
  | d :: ds, _, _, A, c, fs, A', h => by
    unfold dturns at h
    split at h
    · cases h
    · split at h
      · split at h
        · split at h
          · exact dturns_noex h
          · cases h
        · cases h
      · cases h
theorem tdc_of {vs : List Nat} {src : As → Option (Rs (List D))} {ti : Tg} {fk fv : E2} {Q : VK} (sub : ∀ i ∈ tgs ti, i ∈ vs)
    (q : tof Z W (dcompA src ti fk fv vs) σ H Q) : tDc (tofI Z W src) (tofT Z [] ti) tYes (tofd Z W0 fk.d) (tofd Z W0 fv.d) vs σ H Q := by
  obtain ⟨G, A, s, q⟩ := q
  refine tofG.bind s sh_R q fun ds A1 J G1 H1 s1 c1 r1 h1 => ?_
  intro D nD
  cases et : dturns (asgT [] ti) fk.d fv.d (fun B => wipeA B vs) ds [] [] (wipeA A1 vs) with
  | none => rw [et] at h1; exact h1.elim
  | some z =>
    rw [et] at h1
    cases z with
    | ex c fs A2 => exact (dturns_noex et).elim
    | ok r A2 =>
      have h1' : ∀ v G' H', StR Z G' H' σ (unwipe A1 A2 vs) → Ch σ A1 (unwipe A1 A2 vs) G1 H1 G' H' → RR Z H1 G' H' (.o (.d r.1 r.2)) v → Q v H' := h1
      have s1w : StR Z G1 H1 (wipe σ vs) (wipeA A1 vs) := s1.wipe
      refine ⟨fun i m H => m = ds.length - i ∧ i ≤ ds.length ∧ ∃ G' B ks acc kvs, StR Z G' H (wipe σ vs) (wipeA B vs) ∧ Ch (wipe σ vs) (wipeA A1 vs) (wipeA B vs) G1 H1 G' H ∧ H D = some (.dK kvs) ∧ kvs.map (·.1) = ks ∧ Reps Z G' acc (kvs.map (·.2)) ∧ G' D = none ∧
        dturns (asgT [] ti) fk.d fv.d (fun B => wipeA B vs) (ds.drop i) ks acc B = some (.ok r A2), ⟨ds.length, by simp, Nat.zero_le _, G1, wipeA A1 vs, [], [], [], ?_, ?_, upd_same, rfl, .nil, s1.sub.none nD, by rw [List.drop_zero]; exact et⟩, ?_⟩
      · rw [wipeA_idem]; exact s1w.grow nD
      · rw [wipeA_idem]; exact Ch.refl.grow nD
      rintro i m H2 ⟨rfl, hi, G2, B, ks, acc, kvs, s2, c2, hD, hks, ra, gD, hturn⟩
      have nOD : ¬ Own (wipe σ vs) (wipeA B vs) D := fun z => by
        obtain ⟨o, e, _⟩ := s1w.ownH (c2.own D z)
        rw [nD] at e; cases e
      by_cases hlt : i < ds.length
      · refine .inr ⟨r1.go i H2 (c2.sub.trans s2.sub) hlt, fun H' => ∃ G' B' ks' acc' kvs', StR Z G' H' (wipe σ vs) (wipeA B' vs) ∧ Ch (wipe σ vs) (wipeA A1 vs) (wipeA B' vs) G1 H1 G' H' ∧ H' D = some (.dK kvs') ∧ kvs'.map (·.1) = ks' ∧ Reps Z G' acc' (kvs'.map (·.2)) ∧ G' D = none ∧
          dturns (asgT [] ti) fk.d fv.d (fun B => wipeA B vs) (ds.drop (i + 1)) ks' acc' B' = some (.ok r A2), fun H' ⟨G', B', ks', acc', accV', p⟩ => ⟨ds.length - (i + 1), by omega, rfl, hlt, G', B', ks', acc', accV', p⟩, fun x H3 hy => ?_⟩
        have ed : ds.drop i = ds[i] :: ds.drop (i + 1) := List.drop_eq_getElem_cons hlt
        rw [ed] at hturn
        obtain ⟨G3, s3, c3, r3⟩ := r1.yld i H2 H3 x ds[i] G2 (wipe σ vs) (wipeA B vs) (List.getElem?_eq_getElem hlt) c2.sub s2 hy
        unfold dturns at hturn
        cases ea : asgT [] ti ds[i] (wipeA B vs) with
        | none => rw [ea] at hturn; cases hturn
        | some B1 =>
          rw [ea] at hturn
          dsimp only at hturn
          refine ⟨G3, wipeA B vs, ds[i], B1, s3, r3, ea, fun σ2 s4 tr => ?_⟩
          have ew : wipe σ2 vs = wipe σ vs := by
            apply List.ext_getElem?
            intro j
            by_cases z : j ∈ vs
            · have l1 : (wipe σ2 vs).length = (wipe σ vs).length := by
                have e1 := s4.len
                have e2 := s3.len
                rw [wipe_length, e1, asgT_len ea]
                exact e2.symm
              exact wipeS_in_eq l1 z
            · have n : j ∉ tgs ti := fun q => z (sub j q)
              rw [wipeS_out z, (tr.same j n).1]
          refine ⟨ew, ?_⟩
          have h3 : ∀ {B3 : As} b, Own (wipe σ vs) (wipeA B3 vs) b → Own σ2 B3 b := fun {B3} b h => by
            rw [← ew] at h
            exact h.wiped
          have nin : ∀ {B3 : As} {i : Nat} {b : Ob}, (wipeA B3 vs)[i]? = some (.o b) → i ∉ vs := fun {B3 i b} h z => by cases wipeA_in z _ h
          have h4 : ∀ {B3 : As} (i : Nat) (b : Ob), (wipeA B3 vs)[i]? = some (.o b) → B3[i]? = some (.o b) ∧ B1[i]? = (wipeA B vs)[i]? := fun {B3} i b h => by
            have n := nin h
            rw [wipeA_out n] at h
            exact ⟨h, (tr.same i fun q => n (sub i q)).2⟩
          have h5 : ∀ {B3 : As} (i : Nat) (b : Ob), (wipeA B vs)[i]? = some (.o b) → B1[i]? = (wipeA B vs)[i]? ∧ σ2[i]? = (wipe σ vs)[i]? ∧ (wipeA B3 vs)[i]? = B3[i]? := fun {B3} i b h => by
            have n := nin h
            obtain ⟨e1, e2⟩ := tr.same i fun q => n (sub i q)
            exact ⟨e2, e1, wipeA_out n⟩
          unfold tYes
          dsimp only
          rw [if_pos rfl]
          cases ek : fk.d B1 with
          | none => rw [ek] at hturn; cases hturn
          | some z2 =>
            rw [ek] at hturn
            cases z2 with
            | ex c fs B2 => cases hturn
            | ok kd B2 =>
              dsimp only at hturn
              refine ⟨G3, B1, s4, no_ex ek fun kv G4 H4 s5 c5 rk => ?_⟩
              have rk : Rep Z G4 kd kv := rk
              split at hturn
              · rename_i y B3 k ev ekey
                split at hturn
                · rename_i hl
                  have hl := of_decide_eq_true hl
                  refine ⟨G4, B2, s5, no_ex ev fun w G5 H5 s6 c6 rw' => ?_⟩
                  have rw' : Rep Z G5 y w := rw'
                  have hD3 := c3.keep D _ hD nOD
                  have c56 := (c5.trans c6).within (σw := wipe σ vs) (A := wipeA B vs) (fun b h => tr.own b h) (h3 (B3 := B3)) (h4 (B3 := B3)) (h5 (B3 := B3))
                  have hD5 : H5 D = some (.dK kvs) := (c5.trans c6).keep D _ hD3 fun z => nOD (tr.own D z)
                  have gD5 : G5 D = none := by
                    cases q : G5 D with
                    | none => rfl
                    | some u =>
                      rcases (c3.trans c56).lim D u q with ⟨w, y⟩ | y | y
                      · rw [gD] at y; cases y
                      · rw [hD] at y; cases y
                      · exact (nOD y).elim
                  have s7 : StR Z G5 H5 (wipe σ vs) (wipeA B3 vs) := by rw [← ew]; exact s6.wipe
                  have n7 : ¬ Own (wipe σ vs) (wipeA B3 vs) D := fun z => nOD (c56.own D z)
                  have rall : Reps Z G5 acc (kvs.map (·.2)) := Reps.mono (c5.trans c6).sub (Reps.mono c3.sub ra)
                  obtain ⟨p1, p2⟩ := put_rep (k := k) rw' rall
                  rw [hks] at p1 p2
                  refine ⟨kvs, k, key_rep ekey rk, hD5, ?_, G5, B3, _, _, L2.putK kvs k w, s7.write gD5 n7, (c2.trans (c3.trans c56)).writeNew nD, upd_same, p1, p2, gD5, hturn⟩
                  rw [← hks, List.length_map] at hl
                  exact Nat.lt_of_lt_of_le hl most_le
                · cases hturn
              · cases hturn
      · have e : i = ds.length := by omega
        subst e
        rw [List.drop_length] at hturn
        unfold dturns at hturn
        cases hturn
        obtain ⟨s8, c8⟩ := s1.unwipe s2 c2
        exact .inl ⟨r1.stop _ H2 (c2.sub.trans s2.sub) (Nat.le_refl _), h1' (.ref D) G2 H2 s8 c8 ⟨D, _, rfl, nD, gD, hD, kvs, rfl, hks, ra⟩⟩
theorem pe_dcompA {kx vx tg it : Expr} {scope : Scope} {own : List (Str × Nat)} {pos : Pos} {src : As → Option (Rs (List D))} {ti : Tg} {fk fv : E2}
    (hc : X.calm = true) (nd : X.N.Nodup) (hi : PI X tg it (tofI Z W src)) (ok : BlkOk X.N X.env.scope scope own)
    (hg : ∀ (s : Shared) (H : Hp) (C : Addr) (cl : List (Str × Addr)) (fp : List Addr), PG (X.blk s H scope (compEnvC scope cl C X.env) fp) tg (tofT Z [] ti))
    (hk : ∀ (s : Shared) (H : Hp) (C : Addr) (cl : List (Str × Addr)) (fp : List Addr), PE (X.blk s H scope (compEnvC scope cl C X.env) fp) kx (tofd Z W0 fk.d))
    (he : ∀ (s : Shared) (H : Hp) (C : Addr) (cl : List (Str × Addr)) (fp : List Addr), PE (X.blk s H scope (compEnvC scope cl C X.env) fp) vx (tofd Z W0 fv.d))
    (hs : ∀ x, foldedSetIterable it X.env x = pure x) (sub : ∀ i ∈ tgs ti, i ∈ own.map (·.2)) :
    PE X (.DictComp kx vx [⟨tg, it, [], 0⟩] scope pos) (tof Z W (dcompA src ti fk fv (own.map (·.2)))) := pe_imp (pe_dc hc nd hi ok hg (fun _ _ _ _ _ => pts_nil) hk he hs) fun _ _ _ q => tdc_of sub q
/-- name = {..} on one line: the name is stored within -/
theorem ps_setDcA {i : Nat} {y : Str} {kx vx tg it : Expr} {scope : Scope} {own : List (Str × Nat)} {pos spos py : Pos} {wi : TI} {g : TG} {tk tv : TE}
    (nd : X.N.Nodup) (hc : X.calm = true) (hy : X.N[i]? = some y) (hyl : X.env.scope.names.lookup y = some .local) (ok : BlkOk X.N X.env.scope scope own)
    (hsw : swapsWith (.DictComp kx vx [⟨tg, it, [], 0⟩] scope pos) (some (.Name y py)) spos.line X.env = pure true) (hi : PI X tg it wi)
    (hg : ∀ (s : Shared) (H : Hp) (C : Addr) (cl : List (Str × Addr)) (fp : List Addr), PG (X.blk s H scope (compEnvC scope cl C X.env) fp) tg g)
    (hk : ∀ (s : Shared) (H : Hp) (C : Addr) (cl : List (Str × Addr)) (fp : List Addr), PE (X.blk s H scope (compEnvC scope cl C X.env) fp) kx tk)
    (hv : ∀ (s : Shared) (H : Hp) (C : Addr) (cl : List (Str × Addr)) (fp : List Addr), PE (X.blk s H scope (compEnvC scope cl C X.env) fp) vx tv) (hs : ∀ x, foldedSetIterable it X.env x = pure x) :
    PS X (.Assign [.Name y py] (.DictComp kx vx [⟨tg, it, [], 0⟩] scope pos) spos) (tAsg (tDc wi g tYes tk tv (own.map (·.2))) (gName i)) := ⟨fun pins s σ H D I h => by
  rw [exec_Assign_Name_used _ _ _ _ hsw]
  refine wpAny_bind (wpAny_standAt (wpAny_bind (show wpAny _ X.A (do let _ ← comprehension (.DictComp kx vx [⟨tg, it, [], 0⟩] scope pos) scope X.env (firstIterPos [⟨tg, it, [], 0⟩] pos) newDict false (eval it X.env) (some (assign (.Name y py) X.env))) _ _ s from ?_)))
  refine wpAny_bind (thn (dc_core (Qf := fun _ s' => SP X pins D .next s') hc nd I hi ok hg (fun _ _ _ _ _ => pts_nil) hk hv hs (show tDc wi g tYes tk tv (own.map (·.2)) σ H (fun x H1 => gName i x σ H1 D.nx) from h) fun L C s' m H' I' q hn f => ?_) fun _ s' hq => wpAny_pure (wpAny_pure hq))
  obtain ⟨f0, f1, f2, f3, f4, f5⟩ := f
  show wpAny _ _ (assign (.Name y py) X.env (.ref L)) _ _ _
  refine wpAny_assign_Name (store_ok2 (v := V.ref L) I' nd hy (.inl hyl) rfl (fun s2 I2 w => ?_) (.inr hyl))
  obtain ⟨a, sb, ha⟩ := w
  have ne : C ≠ a := by rcases ha with z | z; exact (by rw [z]; exact f1); exact fun e => f4 y a z e.symm
  exact ⟨m, hn.sameBut sb ne, fun h3 sb3 => ⟨_, H', I2.turned (t' := s2.toks) (fun b o hb e => (sb3.2 b hb).trans e) f0 f1 f3 f4 f5, q⟩⟩⟩
end
end AI
/-! Calls of the text's own defs. -/
namespace AI
open PySem PySem.Spec L2
open PyProof.Rows hiding St
section
variable {Z : Zt} {W : WX} {X : Cx} {G H G1 H1 G2 H2 G' H' H0 G0 : Hp} {σ σ' σ2 : St} {A A' A1 A2 B : As}
/-- a def's promise, by what the interpreter says of it -/
def spR (Z : Zt) (np : Nat) (run : List R → Option Rc) : Sp := fun vs H Q E => vs.length = np ∧ ∃ G rs, StR Z G H (vs.map some) (rs.map R.sl) ∧ match run rs with
  | none => False
  | some (.ok r back) => ∀ v G' H', StR Z G' H' (vs.map some) back → Ch (vs.map some) (rs.map R.sl) back G H G' H' → RR Z H G' H' r v → Q v H'
  | some (.ex c fs back) => ∀ dx G' H', StR Z G' H' (vs.map some) back → Ch (vs.map some) (rs.map R.sl) back G H G' H' → XD Z G' H' fs dx → E (.ref (Z.ca c)) dx H'
/-! ### arguments -/
def tmps : List Ar → List V → List Addr
  | .r (.o _) :: as, .ref p :: vs => p :: tmps as vs
  | _ :: as, _ :: vs => tmps as vs
  | _, _ => []
def RAL (Z : Zt) (σ : St) (H G' H' : Hp) : List Ar → List V → Prop
  | [], vs => vs = []
  | .r r :: as, vs => ∃ v ws, vs = v :: ws ∧ RR Z H G' H' r v ∧ RAL Z σ H G' H' as ws
  | .s i :: as, vs => ∃ v ws, vs = v :: ws ∧ σ[i]? = some (some v) ∧ RAL Z σ H G' H' as ws
def RAN (Z : Zt) (σ : St) : Hp → Hp → Hp → List Ar → List V → Prop := fun H G' H' as vs => RAL Z σ H G' H' as vs ∧ (tmps as vs).Nodup
theorem RAL.shift (h : ∀ b o, H b = some o → ∃ u, H1 b = some u) : ∀ {as : List Ar} {vs : List V}, RAL Z σ H1 G' H' as vs → RAL Z σ H G' H' as vs
  | [], _, r => r
  | .r r :: as, _, ⟨v, ws, e, q, t⟩ => ⟨v, ws, e, sh_R H H1 G' H' r v h q, RAL.shift h t⟩
  | .s i :: as, _, ⟨v, ws, e, q, t⟩ => ⟨v, ws, e, q, RAL.shift h t⟩
theorem sh_A : Shifts (RAN Z σ) := fun H H1 G' H' a v h r => ⟨r.1.shift h, r.2⟩
theorem RAL.len : ∀ {as : List Ar} {vs : List V}, RAL Z σ H G' H' as vs → vs.length = as.length
  | [], _, r => by rw [show _ = [] from r]; rfl
  | .r r :: as, _, ⟨v, ws, e, q, t⟩ => by rw [e, List.length_cons, List.length_cons, RAL.len t]
  | .s i :: as, _, ⟨v, ws, e, q, t⟩ => by rw [e, List.length_cons, List.length_cons, RAL.len t]
/-- an argument's own object: it was not there, it stands nowhere else -/
theorem tmps_mem : ∀ {as : List Ar} {vs : List V} {p : Addr}, RAL Z σ H G' H' as vs → p ∈ tmps as vs → H p = none ∧ G' p = none ∧ ∃ o, H' p = some o
  | [], vs, p, r, h => by
    have : vs = [] := r
    subst this
    cases h
  | .s i :: as, vs, p, ⟨v, ws, e, q, t⟩, h => by
    subst e
    exact tmps_mem t h
  | .r (.v d) :: as, vs, p, ⟨v, ws, e, q, t⟩, h => by
    subst e
    exact tmps_mem t h
  | .r (.o b) :: as, vs, p, ⟨v, ws, e, q, t⟩, h => by
    subst e
    obtain ⟨p1, o, rfl, n, g, hp, _⟩ := q
    rcases List.mem_cons.mp h with h | h
    · subst h; exact ⟨n, g, o, hp⟩
    · exact tmps_mem t h
/-- a value that was made is there behind a further evaluation -/
theorem RR.keep {r : R} {v : V} (s : StR Z G H σ A) (q : RR Z H G1 H1 r v) (c1 : Ch σ A A1 G H G1 H1) (c : Ch σ A1 A2 G1 H1 G2 H2) : RR Z H G2 H2 r v := by
  cases r with
  | v d => exact Rep.mono c.sub q
  | o b =>
    obtain ⟨p, o, e, n, g, hp, r⟩ := q
    have no : ¬ Own σ A1 p := fun z => s.notOwn n (c1.own p z)
    refine ⟨p, o, e, n, ?_, c.keep p o hp no, r.mono c.sub⟩
    cases z : G2 p with
    | none => rfl
    | some u =>
      rcases c.lim p u z with ⟨w, y⟩ | y | y
      · rw [g] at y; cases y
      · rw [hp] at y; cases y
      · exact (no y).elim
/-- one step, then another, all told from the start -/
theorem bindN {α β γ δ : Type} {RT : Hp → Hp → Hp → α → β → Prop} {RS : Hp → Hp → Hp → γ → δ → Prop} {y : As → Option (Rs γ)} {g : γ → As → Option (Rs α)} {Q : β → Hp → Prop} {Q1 : δ → Hp → Prop}
    (s1 : StR Z G1 H1 σ A1) (c1 : Ch σ A A1 G H G1 H1) (h : tofS Z W RT (Rs.bind (y A1) g) σ A G H Q)
    (k : ∀ (a : γ) (B : As) (v : δ) (G2 H2 : Hp), StR Z G2 H2 σ B → Ch σ A1 B G1 H1 G2 H2 → RS H1 G2 H2 a v → tofS Z W RT (g a B) σ A G H Q → Q1 v H2) : tofG Z W RS y σ H1 Q1 := by
  refine ⟨G1, A1, s1, ?_⟩
  cases e : y A1 with
  | none => rw [e] at h; exact h.elim
  | some z =>
    rw [e] at h
    cases z with
    | ok a B => exact fun v G' H' s c r => k a B v G' H' s c r h
    | ex c fs B => exact exW.trans h c1
theorem RAL.keep (s : StR Z G H σ A) (c1 : Ch σ A A1 G H G1 H1) (c : Ch σ A1 A2 G1 H1 G2 H2) : ∀ {as : List Ar} {vs : List V}, RAL Z σ H G1 H1 as vs → RAL Z σ H G2 H2 as vs
  | [], _, r => r
  | .r r :: as, _, ⟨v, ws, e, q, t⟩ => ⟨v, ws, e, RR.keep s q c1 c, RAL.keep s c1 c t⟩
  | .s i :: as, _, ⟨v, ws, e, q, t⟩ => ⟨v, ws, e, q, RAL.keep s c1 c t⟩
theorem pa_eva : ∀ {es : List Expr} {as : List AI.A2}, SEs Z W X es as → plainL as = true → PA X es (fun σ H Q => tofG Z W (RAN Z σ) (eva as) σ H Q)
  | [], _, h, _ => by
    cases h
    refine pa_imp pa_nil fun σ H Q q => ?_
    obtain ⟨G, A, s, q⟩ := q
    exact q [] G H s .refl ⟨rfl, List.nodup_nil⟩
  | e :: es, _, h, p => by
    cases h with
    | star h t => cases p
    | cons h ns n t =>
      rename_i f as nm
      cases nm with
      | none =>
        refine pa_imp (pa_cons h.v (pa_eva t p) (star_no ns)) fun σ H Q q => ?_
        obtain ⟨G, A, s, q⟩ := q
        have q' : tofS Z W (RAN Z σ) (Rs.bind (f.v A) fun x A1 => Rs.bind (eva as A1) fun xs A2 => some (.ok (.r x :: xs) A2)) σ A G H Q := q
        refine bindN (RS := RR Z) s .refl q' fun x A1 v G1 H1 s1 c1 r1 h1 => ?_
        refine bindN (RS := RAN Z σ) s1 c1 h1 fun xs A2 vs G2 H2 s2 c2 r2 h2 => ?_
        refine h2 (v :: vs) G2 H2 s2 (c1.trans c2) ⟨⟨v, vs, rfl, RR.keep s r1 c1 c2, r2.1.shift c1.dom⟩, ?_⟩
        cases x with
        | v d => exact r2.2
        | o b =>
          obtain ⟨p1, o, rfl, n1, g1, hp1, _⟩ := r1
          refine List.nodup_cons.mpr ⟨fun z => ?_, r2.2⟩
          obtain ⟨y, _, _⟩ := tmps_mem r2.1 z
          rw [hp1] at y; cases y
      | some i =>
        obtain ⟨x, pos, rfl, hN, hv, hd, hcd⟩ := n i rfl
        refine pa_imp (pa_cons (pe_var hN hv hd hcd) (pa_eva t p) (star_no ns)) fun σ H Q q => ?_
        obtain ⟨G, A, s, q⟩ := q
        have q' : tofS Z W (RAN Z σ) (if setA A i then Rs.bind (eva as A) fun xs A2 => some (.ok (.s i :: xs) A2) else none) σ A G H Q := q
        cases e0 : setA A i with
        | false => rw [e0] at q'; exact q'.elim
        | true =>
          rw [e0] at q'
          obtain ⟨v, a⟩ := set_some s e0
          refine ⟨v, a, bindN (RS := RAN Z σ) s .refl q' fun xs A2 vs G2 H2 s2 c2 r2 h2 => ?_⟩
          exact h2 (v :: vs) G2 H2 s2 c2 ⟨⟨v, vs, rfl, a, r2.1⟩, r2.2⟩
/-! ### the callee's start -/
theorem StR.cons {x : Sl} {v : V} (s : StR Z G H σ A) (h : match x with
    | .no => True
    | .v d => Rep Z G d v
    | .o b => ∃ p o, v = .ref p ∧ G p = none ∧ H p = some o ∧ OR Z G b o ∧ ¬ Own σ A p) : StR Z G H (some v :: σ) (x :: A) where
  sub := s.sub
  len := by rw [List.length_cons, List.length_cons, s.len]
  val := fun i d e => by
    cases i with
    | zero =>
      have e' : x = .v d := Option.some.inj e
      subst e'
      exact ⟨v, rfl, h⟩
    | succ i => exact s.val i d e
  own := fun i b e => by
    cases i with
    | zero =>
      have e' : x = .o b := Option.some.inj e
      subst e'
      obtain ⟨p, o, rfl, g, hp, r, _⟩ := h
      exact ⟨p, o, rfl, g, hp, r⟩
    | succ i => exact s.own i b e
  inj := fun i j b c p e1 e2 a1 a2 => by
    have no : ∀ {k : Nat} {b c : Ob}, x = .o b → A[k]? = some (.o c) → v = .ref p → σ[k]? = some (some (.ref p)) → False := fun {k b c} ex f1 ev b1 => by
      subst ex
      obtain ⟨p', o, e', _, _, _, n⟩ := h
      rw [ev] at e'
      have e' := V.ref.inj e'
      subst e'
      exact n ⟨k, c, f1, b1⟩
    cases i with
    | zero =>
      cases j with
      | zero => rfl
      | succ j => exact (no (Option.some.inj e1) e2 (Option.some.inj (Option.some.inj a1)) a2).elim
    | succ i =>
      cases j with
      | zero => exact (no (Option.some.inj e2) e1 (Option.some.inj (Option.some.inj a2)) a1).elim
      | succ j => rw [s.inj i j b c p e1 e2 a1 a2]
theorem arR_s {i : Nat} {r : R} (h : arR A (.s i) = some r) : (∃ d, A[i]? = some (.v d) ∧ r = .v d) ∨ ∃ b, A[i]? = some (.o b) ∧ r = .o b := by
  unfold arR at h
  dsimp only at h
  cases e : A[i]? with
  | none => rw [e] at h; cases h
  | some x =>
    rw [e] at h
    cases x with
    | no => cases h
    | v d => cases h; exact .inl ⟨d, rfl, rfl⟩
    | o b => cases h; exact .inr ⟨b, rfl, rfl⟩
/-- whose own objects are lent -/
theorem own_args : ∀ {as : List Ar} {vs : List V} {rs : List R} {q : Addr}, RAL Z σ H0 G H as vs → arRs A as = some rs → Own (vs.map some) (rs.map R.sl) q → q ∈ tmps as vs ∨ ∃ i b, i ∈ slots as ∧ A[i]? = some (.o b) ∧ σ[i]? = some (some (.ref q))
  | [], vs, rs, q, r, e, ⟨k, b, o1, o2⟩ => by
    have : vs = [] := r
    subst this
    simp at o2
  | a :: as, vs, rs, q, r, e, ⟨k, b, o1, o2⟩ => by
    unfold arRs at e
    cases e1 : arR A a with
    | none => rw [e1] at e; cases e
    | some r0 =>
      cases e2 : arRs A as with
      | none => rw [e1, e2] at e; cases e
      | some rs0 =>
        rw [e1, e2] at e
        cases e
        have rest : ∀ {ws : List V}, RAL Z σ H0 G H as ws → Own (ws.map some) (rs0.map R.sl) q → q ∈ tmps as ws ∨ ∃ i b, i ∈ slots as ∧ A[i]? = some (.o b) ∧ σ[i]? = some (some (.ref q)) := fun t w => own_args t e2 w
        cases a with
        | r r1 =>
          obtain ⟨v, ws, rfl, x, t⟩ := r
          have e1 : r1 = r0 := Option.some.inj e1
          subst e1
          cases k with
          | zero =>
            have o1' : R.sl r1 = .o b := Option.some.inj o1
            cases r1 with
            | v d => cases o1'
            | o b' =>
              obtain ⟨p, o, rfl, _⟩ := x
              have : V.ref p = .ref q := Option.some.inj (Option.some.inj o2)
              cases this
              exact .inl List.mem_cons_self
          | succ k =>
            rcases rest t ⟨k, b, o1, o2⟩ with z | ⟨i, b, z⟩
            · left
              cases r1 with
              | v d => exact z
              | o b' =>
                obtain ⟨p, o, rfl, _⟩ := x
                exact List.mem_cons_of_mem _ z
            · exact .inr ⟨i, b, z⟩
        | s i =>
          obtain ⟨v, ws, rfl, x, t⟩ := r
          cases k with
          | zero =>
            have o1' : R.sl r0 = .o b := Option.some.inj o1
            have ev : v = .ref q := Option.some.inj (Option.some.inj o2)
            subst ev
            rcases arR_s e1 with ⟨d, e3, rfl⟩ | ⟨b', e3, rfl⟩
            · cases o1'
            · exact .inr ⟨i, b', List.mem_cons_self, e3, x⟩
          | succ k =>
            rcases rest t ⟨k, b, o1, o2⟩ with z | ⟨i, b, h1, z⟩
            · exact .inl z
            · exact .inr ⟨i, b, List.mem_cons_of_mem _ h1, z⟩
theorem nodup_cons {a : Nat} {l : List Nat} (h : nodup (a :: l) = true) : a ∉ l ∧ nodup l = true := by
  unfold nodup at h
  obtain ⟨h1, h2⟩ := Bool.and_eq_true_iff.mp h
  exact ⟨of_decide_eq_true h1, h2⟩
/-- the arguments as the callee finds them -/
theorem str_args (s0 : ∀ p, Own σ A p → ∃ o, H0 p = some o) (s : StR Z G H σ A) : ∀ {as : List Ar} {vs : List V} {rs : List R}, RAL Z σ H0 G H as vs → (tmps as vs).Nodup → nodup (slots as) = true → arRs A as = some rs → StR Z G H (vs.map some) (rs.map R.sl)
  | [], vs, rs, r, _, _, e => by
    have : vs = [] := r
    subst this
    cases e
    exact ⟨s.sub, rfl, fun i d e => by simp at e, fun i d e => by simp at e, fun i j b c p e => by simp at e⟩
  | .r r1 :: as, vs, rs, r, nt, ns, e => by
    unfold arRs at e
    cases e2 : arRs A as with
    | none => rw [e2] at e; cases e
    | some rs0 =>
      rw [e2] at e
      cases e
      obtain ⟨v, ws, rfl, x, t⟩ := r
      have nt' : (tmps as ws).Nodup := by
        cases r1 with
        | v d => exact nt
        | o b => obtain ⟨p, o, rfl, _⟩ := x; exact (List.nodup_cons.mp nt).2
      refine StR.cons (str_args s0 s t nt' ns e2) ?_
      cases r1 with
      | v d => exact x
      | o b =>
        obtain ⟨p, o, rfl, n, g, hp, ro⟩ := x
        refine ⟨p, o, rfl, g, hp, ro, fun z => ?_⟩
        rcases own_args t e2 z with z | ⟨i, b', _, z1, z2⟩
        · exact (List.nodup_cons.mp nt).1 z
        · obtain ⟨u, y⟩ := s0 p ⟨i, b', z1, z2⟩
          rw [n] at y; cases y
  | .s i :: as, vs, rs, r, nt, ns, e => by
    unfold arRs at e
    cases e1 : arR A (.s i) with
    | none => rw [e1] at e; cases e
    | some r0 =>
      cases e2 : arRs A as with
      | none => rw [e1, e2] at e; cases e
      | some rs0 =>
        rw [e1, e2] at e
        cases e
        obtain ⟨v, ws, rfl, x, t⟩ := r
        obtain ⟨n1, n2⟩ := nodup_cons ns
        refine StR.cons (str_args s0 s t nt n2 e2) ?_
        rcases arR_s e1 with ⟨d, e3, rfl⟩ | ⟨b, e3, rfl⟩
        · obtain ⟨v', a, rp⟩ := s.val i d e3
          rw [x] at a
          cases a
          exact rp
        · obtain ⟨p, o, a, g, hp, ro⟩ := s.own i b e3
          rw [x] at a
          cases a
          refine ⟨p, o, rfl, g, hp, ro, fun z => ?_⟩
          rcases own_args t e2 z with z | ⟨j, b', zj, z1, z2⟩
          · obtain ⟨y, _, _⟩ := tmps_mem t z
            obtain ⟨u, y2⟩ := s0 p ⟨i, b, e3, x⟩
            rw [y] at y2; cases y2
          · have := s.inj i j b b' p e3 z1 x z2
            subst this
            exact n1 zj
end
end AI
/-! Calls: what comes back. -/
namespace AI
open PySem PySem.Spec L2
open PyProof.Rows hiding St
section
variable {Z : Zt} {W : WX} {X : Cx} {G H G1 H1 G2 H2 G' H' H0 G0 : Hp} {σ σ' σ2 : St} {A A' A1 B A0 : As}
theorem gb_len : ∀ (as : List Ar) (back : As), (giveBack A as back).length = A.length
  | [], _ => rfl
  | .r _ :: as, [] => rfl
  | .s _ :: as, [] => rfl
  | .r r :: as, x :: b => by unfold giveBack; exact gb_len as b
  | .s i :: as, x :: b => by
    unfold giveBack
    split
    · rw [List.length_set]; exact gb_len as b
    · exact gb_len as b
theorem gb_cases : ∀ {as : List Ar} {back : As} {i : Nat} {x : Sl}, as.length = back.length → (giveBack A as back)[i]? = some x →
    (A[i]? = some x ∧ ¬ (i ∈ slots as ∧ ∃ (b : Ob), A[i]? = some (.o b))) ∨ ∃ (k : Nat) (b : Ob), as[k]? = some (.s i) ∧ A[i]? = some (.o b) ∧ back[k]? = some x
  | [], back, i, x, _, h => by
    refine .inl ⟨?_, fun z => nomatch z.1⟩
    cases back <;> exact h
  | .r _ :: as, [], _, _, l, _ => by cases l
  | .s _ :: as, [], _, _, l, _ => by cases l
  | .r r :: as, y :: b, i, x, l, h => by
    unfold giveBack at h
    rcases gb_cases (Nat.succ.inj l) h with z | ⟨k, c, z⟩
    · exact .inl z
    · exact .inr ⟨k + 1, c, z⟩
  | .s j :: as, y :: b, i, x, l, h => by
    unfold giveBack at h
    split at h
    · rename_i c e
      by_cases q : j = i
      · subst q
        have hj : j < (giveBack A as b).length := by rw [gb_len]; exact (List.getElem?_eq_some_iff.mp e).1
        rw [List.getElem?_set_self hj] at h
        exact .inr ⟨0, c, rfl, e, h⟩
      · rw [List.getElem?_set_ne q] at h
        rcases gb_cases (Nat.succ.inj l) h with ⟨z1, z2⟩ | ⟨k, c, z⟩
        · refine .inl ⟨z1, fun ⟨m, w⟩ => z2 ⟨?_, w⟩⟩
          rcases List.mem_cons.mp m with m | m
          · exact (q m.symm).elim
          · exact m
        · exact .inr ⟨k + 1, c, z⟩
    · rename_i no
      rcases gb_cases (Nat.succ.inj l) h with ⟨z1, z2⟩ | ⟨k, c, z⟩
      · refine .inl ⟨z1, fun ⟨m, w⟩ => ?_⟩
        rcases List.mem_cons.mp m with m | m
        · subst m
          obtain ⟨b', w⟩ := w
          exact no b' w
        · exact z2 ⟨m, w⟩
      · exact .inr ⟨k + 1, c, z⟩
theorem RAL.slot : ∀ {as : List Ar} {vs : List V} {k i : Nat}, RAL Z σ H G' H' as vs → as[k]? = some (.s i) → ∃ v, vs[k]? = some v ∧ σ[i]? = some (some v)
  | [], _, k, i, _, h => by simp at h
  | .r r :: as, _, k, i, ⟨v, ws, e, q, t⟩, h => by
    subst e
    cases k with
    | zero => have h' := Option.some.inj h; cases h'
    | succ k =>
      obtain ⟨w, h1, h2⟩ := RAL.slot (as := as) (vs := ws) (k := k) t h
      exact ⟨w, h1, h2⟩
  | .s j :: as, _, k, i, ⟨v, ws, e, q, t⟩, h => by
    subst e
    cases k with
    | zero =>
      have h' := Option.some.inj h
      cases h'
      exact ⟨v, rfl, q⟩
    | succ k =>
      obtain ⟨w, h1, h2⟩ := RAL.slot (as := as) (vs := ws) (k := k) t h
      exact ⟨w, h1, h2⟩
theorem slots_mem : ∀ {as : List Ar} {k i : Nat}, as[k]? = some (.s i) → i ∈ slots as
  | [], _, _, h => by simp at h
  | .r r :: as, k, i, h => by
    cases k with
    | zero => have h' := Option.some.inj h; cases h'
    | succ k => exact slots_mem (as := as) h
  | .s j :: as, k, i, h => by
    cases k with
    | zero =>
      have h' := Option.some.inj h
      cases h'
      exact List.mem_cons_self
    | succ k => exact List.mem_cons_of_mem _ (slots_mem (as := as) h)
theorem give_back {as : List Ar} {vs : List V} {rs : List R} {back : As} (s0 : ∀ p, Own σ A p → ∃ o, H0 p = some o) (s : StR Z G H σ A) (r : RAL Z σ H0 G H as vs) (ns : nodup (slots as) = true) (e : arRs A as = some rs)
    (sb : StR Z G' H' (vs.map some) back) (cb : Ch (vs.map some) (rs.map R.sl) back G H G' H') :
    StR Z G' H' σ (giveBack A as back) ∧ ∀ b, Own σ (giveBack A as back) b → Own σ A b := by
  have hl : as.length = back.length := by
    have := sb.len
    rw [List.length_map, r.len] at this
    exact this
  -- a place that is not lent
  have notlent : ∀ {i : Nat} {b : Ob} {p : Addr}, A[i]? = some (.o b) → σ[i]? = some (some (.ref p)) → i ∉ slots as → ¬ Own (vs.map some) (rs.map R.sl) p := fun {i b p} e1 a1 n z => by
    rcases own_args r e z with z | ⟨j, b', zj, z1, z2⟩
    · obtain ⟨y, _, _⟩ := tmps_mem r z
      obtain ⟨u, y2⟩ := s0 p ⟨i, b, e1, a1⟩
      rw [y] at y2; cases y2
    · have := s.inj i j b b' p e1 z1 a1 z2
      subst this
      exact n zj
  have lentV : ∀ {k i : Nat} {x : V}, as[k]? = some (.s i) → (vs.map some)[k]? = some (some x) → σ[i]? = some (some x) := fun {k i x} h q => by
    obtain ⟨v, e1, e2⟩ := r.slot h
    rw [List.getElem?_map, e1] at q
    have q' : v = x := Option.some.inj (Option.some.inj q)
    rw [← q']; exact e2
  have owns : ∀ {i : Nat} {b : Ob}, (giveBack A as back)[i]? = some (.o b) → (A[i]? = some (.o b) ∧ i ∉ slots as) ∨ ∃ (k : Nat) (c : Ob), as[k]? = some (.s i) ∧ A[i]? = some (.o c) ∧ back[k]? = some (.o b) := fun {i b} h => by
    rcases gb_cases hl h with ⟨z1, z2⟩ | z
    · exact .inl ⟨z1, fun m => z2 ⟨m, b, z1⟩⟩
    · exact .inr z
  refine ⟨⟨sb.sub, by rw [gb_len]; exact s.len, fun i d h => ?_, fun i b h => ?_, fun i j b c p h1 h2 a1 a2 => ?_⟩, fun p ⟨i, b, h, a⟩ => ?_⟩
  · rcases gb_cases hl h with ⟨z1, z2⟩ | ⟨k, c, z1, z2, z3⟩
    · obtain ⟨v, a, rp⟩ := s.val i d z1
      exact ⟨v, a, rp.mono cb.sub⟩
    · obtain ⟨v, a, rp⟩ := sb.val k d z3
      exact ⟨v, lentV z1 a, rp⟩
  · rcases owns h with ⟨z1, z2⟩ | ⟨k, c, z1, z2, z3⟩
    · obtain ⟨p, o, a, g, hp, ro⟩ := s.own i b z1
      have no := notlent z1 a z2
      refine ⟨p, o, a, ?_, cb.keep p o hp no, ro.mono cb.sub⟩
      cases q : G' p with
      | none => rfl
      | some u =>
        rcases cb.lim p u q with ⟨w, y⟩ | y | y
        · rw [g] at y; cases y
        · rw [hp] at y; cases y
        · exact (no y).elim
    · obtain ⟨p, o, a, g, hp, ro⟩ := sb.own k b z3
      exact ⟨p, o, lentV z1 a, g, hp, ro⟩
  · have lentOwn : ∀ {k i : Nat} {b : Ob} {p : Addr}, as[k]? = some (.s i) → back[k]? = some (.o b) → σ[i]? = some (some (.ref p)) → (vs.map some)[k]? = some (some (.ref p)) := fun {k i b p} z1 z3 a => by
      obtain ⟨p', o, a', _⟩ := sb.own k b z3
      have := lentV z1 a'
      rw [a] at this
      cases this
      exact a'
    rcases owns h1 with ⟨z1, z2⟩ | ⟨k, c1, z1, z2, z3⟩
    · rcases owns h2 with ⟨y1, y2⟩ | ⟨m, c2, y1, y2, y3⟩
      · exact s.inj i j b c p z1 y1 a1 a2
      · exact (notlent z1 a1 z2 (cb.own p ⟨m, c, y3, lentOwn y1 y3 a2⟩)).elim
    · rcases owns h2 with ⟨y1, y2⟩ | ⟨m, c2, y1, y2, y3⟩
      · exact (notlent y1 a2 y2 (cb.own p ⟨k, b, z3, lentOwn z1 z3 a1⟩)).elim
      · exact s.inj i j c1 c2 p z2 y2 a1 a2
  · rcases owns h with ⟨z1, _⟩ | ⟨k, c, z1, z2, z3⟩
    · exact ⟨i, b, z1, a⟩
    · exact ⟨i, c, z2, a⟩
theorem arRs_get : ∀ {as : List Ar} {rs : List R} {k : Nat} {a : Ar}, arRs A as = some rs → as[k]? = some a → ∃ r, rs[k]? = some r ∧ arR A a = some r
  | [], _, _, _, _, h => by simp at h
  | b :: as, rs, k, a, e, h => by
    unfold arRs at e
    cases e1 : arR A b with
    | none => rw [e1] at e; cases e
    | some r0 =>
      cases e2 : arRs A as with
      | none => rw [e1, e2] at e; cases e
      | some rs0 =>
        rw [e1, e2] at e
        cases e
        cases k with
        | zero =>
          have h' := Option.some.inj h
          subst h'
          exact ⟨r0, rfl, e1⟩
        | succ k =>
          obtain ⟨r, h1, h2⟩ := arRs_get (as := as) (k := k) e2 h
          exact ⟨r, h1, h2⟩
/-- a call's change, seen from the caller's start -/
theorem Ch.called {as : List Ar} {vs : List V} {rs : List R} {back : As} (s : StR Z G0 H0 σ A0) (c : Ch σ A0 A G0 H0 G H) (r : RAL Z σ H0 G H as vs) (e : arRs A as = some rs) (cb : Ch (vs.map some) (rs.map R.sl) back G H G' H')
    (ob : ∀ b, Own σ (giveBack A as back) b → Own σ A b) (hl : as.length = back.length) : Ch σ A0 (giveBack A as back) G0 H0 G' H' where
  sub := c.sub.trans cb.sub
  keep := fun b o h n => by
    refine cb.keep b o (c.keep b o h n) fun z => ?_
    rcases own_args r e z with z | ⟨i, b', _, z1, z2⟩
    · obtain ⟨y, _, _⟩ := tmps_mem r z
      rw [h] at y; cases y
    · exact n (c.own b ⟨i, b', z1, z2⟩)
  own := fun b h => c.own b (ob b h)
  dom := fun b o h => by
    obtain ⟨u, x⟩ := c.dom b o h
    exact cb.dom b u x
  lim := fun b o h => by
    rcases cb.lim b o h with ⟨u, y⟩ | y | y
    · exact c.lim b u y
    · cases q : H0 b with
      | none => exact .inr (.inl rfl)
      | some w =>
        obtain ⟨x, z⟩ := c.dom b w q
        rw [y] at z; cases z
    · rcases own_args r e y with z | ⟨i, b', _, z1, z2⟩
      · exact .inr (.inl (tmps_mem r z).1)
      · exact .inr (.inr (c.own b ⟨i, b', z1, z2⟩))
  sl := fun i b h => by
    rcases gb_cases hl h with ⟨z1, _⟩ | ⟨k, d, _, z2, _⟩
    · exact c.sl i b z1
    · exact c.sl i d z2
  st := fun i b p h a => by
    rcases c.st i b p h a with ⟨d, x⟩ | ⟨u, x⟩
    · have hi : i < (giveBack A as back).length := by rw [gb_len]; exact (List.getElem?_eq_some_iff.mp x).1
      rcases gb_cases hl (List.getElem?_eq_getElem hi) with ⟨z1, z2⟩ | ⟨k, d', z1, z2, z3⟩
      · rw [x] at z1
        exact .inl ⟨d, by rw [List.getElem?_eq_getElem hi]; exact z1.symm⟩
      · obtain ⟨v, e1, e2⟩ := r.slot z1
        rw [a] at e2
        have e2 := Option.some.inj (Option.some.inj e2)
        subst e2
        have e3 := arRs_get e z1
        obtain ⟨r0, f1, f2⟩ := e3
        rcases arR_s f2 with ⟨d2, y, _⟩ | ⟨b2, y, rfl⟩
        · rw [z2] at y; cases y
        · rcases cb.st k b2 p (by rw [List.getElem?_map, f1]; rfl) (by rw [List.getElem?_map, e1]; rfl) with ⟨c', w⟩ | w
          · rw [z3] at w
            exact .inl ⟨c', by rw [List.getElem?_eq_getElem hi]; exact w⟩
          · exact .inr w
    · exact .inr ⟨u, cb.sub p u x⟩
/-- a call upon arguments that lie there -/
theorem call_read {P : Pm} {j np : Nat} {as : List Ar} {vs : List V} {Q : VK} (hnp : as.length = np) (s0 : StR Z G0 H0 σ A0) (s : StR Z G H σ A) (c : Ch σ A0 A G0 H0 G H) (r : RAN Z σ H0 G H as vs)
    (h : tofS Z W (RR Z) (doCall P j as A) σ A0 G0 H0 Q) : spR Z np (P.orc j) vs H Q (WE W σ) := by
  unfold doCall at h
  split at h
  · rename_i ns
    cases e : arRs A as with
    | none => rw [e] at h; exact h.elim
    | some rs =>
      rw [e] at h
      dsimp only at h
      have own0 : ∀ p, Own σ A p → ∃ o, H0 p = some o := fun p z => by
        obtain ⟨o, x, _⟩ := s0.ownH (c.own p z)
        exact ⟨o, x⟩
      refine ⟨by rw [r.1.len]; exact hnp, G, rs, str_args own0 s r.1 r.2 ns e, ?_⟩
      cases e2 : P.orc j rs with
      | none => rw [e2] at h; exact h.elim
      | some z =>
        rw [e2] at h
        cases z with
        | ok r1 back =>
          intro v G' H' sb cb rr
          obtain ⟨s2, ob⟩ := give_back own0 s r.1 ns e sb cb
          exact h v G' H' s2 (Ch.called s0 c r.1 e cb ob (by have := sb.len; rw [List.length_map, r.1.len] at this; exact this)) (sh_R H0 H G' H' r1 v c.dom rr)
        | ex k fs back =>
          intro dx G' H' sb cb xd
          obtain ⟨s2, ob⟩ := give_back own0 s r.1 ns e sb cb
          exact h dx G' H' s2 (Ch.called s0 c r.1 e cb ob (by have := sb.len; rw [List.length_map, r.1.len] at this; exact this)) xd
  · exact h.elim
theorem eva_len : ∀ {as : List AI.A2} {A A1 : As} {xs : List Ar}, eva as A = some (.ok xs A1) → xs.length = as.length
  | [], A, A1, xs, h => by cases h; rfl
  | a :: as, A, A1, xs, h => by
    unfold eva at h
    split at h
    · split at h
      · obtain ⟨ys, B, e1, e2⟩ := bind_ok h
        cases e2
        rw [List.length_cons, List.length_cons, eva_len e1]
      · cases h
    · obtain ⟨x, B, e1, e2⟩ := bind_ok h
      obtain ⟨ys, B2, e3, e4⟩ := bind_ok e2
      cases e4
      rw [List.length_cons, List.length_cons, eva_len e3]
theorem SEs.len : ∀ {es : List Expr} {as : List AI.A2}, SEs Z W X es as → es.length = as.length
  | _, _, .nil => rfl
  | _, _, .cons _ _ _ t => by rw [List.length_cons, List.length_cons, t.len]
  | _, _, .star _ t => by rw [List.length_cons, List.length_cons, t.len]
/-- what an own def's name stands for -/
def permV {α : Type} (l : List α) (perm : List Nat) : List α := perm.filterMap fun i => l[i]?
/-- keywords are bound so -/
def KwOk (fd : FuncData) (ps : List Str) (sh : Nat × List Str × List Nat) : Prop := ∀ us ws : List Value, us.length = sh.1 → ws.length = sh.2.1.length → bindArgs fd ⟨us, sh.2.1.zip ws⟩ = pure (ps.zip (permV (us ++ ws) sh.2.2))
structure DefOk (Z : Zt) (X : Cx) (k : Nat) (x : Str) (j np : Nat) (kws : List (Nat × List Str × List Nat)) (orc : List R → Option Rc) : Prop where
  mg : X.mg x = some (.ref (Z.fa j))
  kp : PySem.W.keepIn X.K (.ref (Z.fa j)) = true
  ok : ∃ fd ps, FnOk X.prog X.w X.K X.mg X.base (L2.CX X.prog X.w) k (Z.fa j) fd ps (spR Z np orc) ∧ Binds X.K fd ps [] ∧ ps.length = np ∧ ∀ sh ∈ kws, KwOk fd ps sh
  nd : (x == ("__debug__" : Str)) = false
theorem pe_callA {P : Pm} {j np k : Nat} {kw} {x : Str} {e : Expr} {es : List Expr} {as : List AI.A2} {p pos : Pos} (hr : Room k X.A) (hg : Gl X x) (tk : Takes X W) (d : DefOk Z X k x j np kw (P.orc j)) (h : SEs Z W X (e :: es) as) (pl : plainL as = true) (hnp : as.length = np) :
    PE X (.Call (.Name x p) (e :: es) [] pos) (tof Z W fun A => Rs.bind (eva as A) fun xs A1 => doCall P j xs A1) := by
  have ns : noStar e = true := by
    cases h with
    | cons h ns n t => exact ns
    | star h t => cases pl
  have hpl : (backTo pos (starEach es X.env)).any (·.1) = false := by
    cases h with
    | cons h ns n t => exact plain_back t pl
    | star h t => cases pl
  obtain ⟨fd, ps, F, b, _⟩ := d.ok
  refine pe_imp (pe_callS F hr hg d.mg d.kp b (fun σ => passAt tk σ) (pa_eva h pl) d.nd (star_no ns) hpl) fun σ H Q q => ?_
  obtain ⟨G, A, s, q⟩ := q
  dsimp only at q
  have el : ∀ xs A1, eva as A = some (.ok xs A1) → xs.length = np := fun xs A1 e => by rw [eva_len e]; exact hnp
  refine ⟨G, A, s, ?_⟩
  cases e1 : eva as A with
  | none => rw [e1] at q; exact q.elim
  | some z =>
    rw [e1] at q
    cases z with
    | ex c fs A1 => exact q
    | ok xs A1 => exact fun vs G1 H1 s1 c1 r1 => call_read (el xs A1 e1) s s1 c1 r1 q
theorem pe_call0A {P : Pm} {j k : Nat} {kw} {x : Str} {p pos : Pos} (hr : Room k X.A) (hg : Gl X x) (d : DefOk Z X k x j 0 kw (P.orc j)) :
    PE X (.Call (.Name x p) [] [] pos) (tof Z W fun A => match P.orc j [] with
      | some (.ok r _) => some (.ok r A)
      | _ => none) := by
  obtain ⟨fd, ps, F, b, hp, _⟩ := d.ok
  refine pe_imp (pe_call0 F hr hg d.mg d.kp b .nil passL d.nd) fun σ H Q q => ?_
  obtain ⟨G, A, s, q⟩ := q
  refine call_read (W := fun _ _ _ _ => False) (as := []) (vs := []) rfl s s .refl ⟨rfl, List.nodup_nil⟩ ?_
  show tofS Z _ (RR Z) (match P.orc j [] with
    | some (.ok r back) => some (.ok r (giveBack A [] back))
    | some (.ex c fs back) => some (.ex c fs (giveBack A [] back))
    | none => none) σ A G H Q
  cases e : P.orc j [] with
  | none => rw [e] at q; exact q.elim
  | some z =>
    rw [e] at q
    cases z with
    | ex c fs back => exact q.elim
    | ok r back =>
      have eb : giveBack A [] back = A := by cases back <;> rfl
      show tofS Z _ (RR Z) (some (.ok r (giveBack A [] back))) σ A G H Q
      rw [eb]
      exact q
/-! ### keywords -/
theorem vals_perm {vs : List V} {us : List Value} (h : Vals vs us) (perm : List Nat) : Vals (permV vs perm) (permV us perm) := by
  induction perm with
  | nil => exact .nil
  | cons i r ih =>
    unfold permV at ih ⊢
    rw [List.filterMap_cons, List.filterMap_cons]
    cases e : vs[i]? with
    | none =>
      have : us[i]? = none := by
        have l := h.length
        exact List.getElem?_eq_none_iff.mpr (by have := List.getElem?_eq_none_iff.mp e; omega)
      rw [this]
      exact ih
    | some v =>
      obtain ⟨u, e2, r2⟩ := h.get e
      rw [e2]
      exact .cons r2 ih
theorem perm_reps {ds zs : List D} {vs : List V} (h : Reps Z G ds vs) : ∀ {perm : List Nat}, permD ds perm = some zs → Reps Z G zs (permV vs perm)
  | [], e => by cases e; exact .nil
  | i :: r, e => by
    unfold permD at e
    split at e
    · rename_i d ds' e1 e2
      cases e
      obtain ⟨v, e3, r1⟩ := h.get e1
      unfold permV
      rw [List.filterMap_cons, e3]
      exact .cons r1 (perm_reps h e2)
    · cases e
theorem ral_reps : ∀ {ds : List D} {vs : List V}, Reps Z G' ds vs → RAL Z σ H G' H' (ds.map fun d => .r (.v d)) vs ∧ tmps (ds.map fun d => .r (.v d)) vs = []
  | [], vs, h => by rw [h.inv0]; exact ⟨rfl, rfl⟩
  | d :: ds, vs, h => by
    obtain ⟨v, ws, rfl, r, t⟩ := h.inv
    obtain ⟨h1, h2⟩ := ral_reps t
    refine ⟨⟨v, ws, rfl, r, h1⟩, ?_⟩
    exact h2
inductive KwsOk : List Keyword → List Str → List Expr → Prop
  | nil : KwsOk [] [] []
  | cons {x : Str} {e : Expr} {p : Pos} {ks : List Keyword} {xs : List Str} {es : List Expr} (t : KwsOk ks xs es) : KwsOk (⟨some x, e, p⟩ :: ks) (x :: xs) (e :: es)
theorem KwsOk.each {ks : List Keyword} {xs : List Str} {es : List Expr} (h : KwsOk ks xs es) {pos : Pos} {env : Env} : (backToKw pos (keywordEach ks env)).all (·.1.isSome) = true ∧ (backToKw pos (keywordEach ks env)).filterMap (·.1) = xs ∧ (backToKw pos (keywordEach ks env)).any (·.1.isNone) = false := by
  induction h with
  | nil => exact ⟨rfl, rfl, rfl⟩
  | cons t ih =>
    obtain ⟨h1, h2, h3⟩ := ih
    refine ⟨h1, ?_, h3⟩
    exact congrArg (List.cons _) h2
theorem pk_evs : ∀ {ks : List Keyword} {xs : List Str} {es : List Expr} {as : List AI.A2}, KwsOk ks xs es → SEs Z W X es as → plainL as = true → PK X ks (tofl Z W (evs as))
  | _, _, _, _, .nil, .nil, _ => ⟨fun pos pins s σ H Q I q => pk_nil.run pos pins s σ H Q I (by
      obtain ⟨G, A, s', q⟩ := q
      exact q [] G H s' .refl .nil)⟩
  | _, _, _, _, .cons t, .star h _, p => by cases p
  | _, _, _, _, .cons t, .cons (f := f) (as := as) h ns n r, p => ⟨fun pos pins s σ H Q I q => (pk_cons h.d (pk_evs t r p)).run pos pins s σ H Q I (by
      obtain ⟨G, A, s', q⟩ := q
      have q' : tofS Z W (RL Z) (Rs.bind (f.d A) fun x A1 => Rs.bind (evs as A1) fun xs A2 => some (.ok (x :: xs) A2)) σ A G H Q := q
      refine tofG.bind s' sh_L q' fun x A1 v G1 H1 s1 c1 r1 h1 => tofG.bind s1 sh_L h1 fun xs A2 vs G2 H2 s2 c2 r2 h2 => ?_
      exact h2 (v :: vs) G2 H2 s2 .refl (.cons (Rep.mono c2.sub r1) r2))⟩
theorem run_kw {CX : CXT} {k : Nat} {f : Addr} {fd : FuncData} {ps ks : List Str} {sp : Sp} {E : XK} {perm : List Nat} {pins : List (Addr × Obj)} {s : Shared} {Q : VK} {us ws : List Value} {vs zs : List V} (F : FnOk X.prog X.w X.K X.mg X.base CX k f fd ps sp) (hr : Room k X.A)
    (hb : bindArgs fd ⟨us, ks.zip ws⟩ = pure (ps.zip (permV (us ++ ws) perm))) (hx : PassesAt CX X σ E) (I : Inv X pins σ H s) (r : Vals vs us) (rz : Vals zs ws) (h : sp (permV (vs ++ zs) perm) H Q E) :
    wpAny (model X.prog X.w) X.A (call (.ref f) us (ks.zip ws)) (EP X pins σ Q) X.xe s := by
  refine wpAny_call (codeAny_mono (F.run X.A X.stack s H ⟨us, ks.zip ws⟩ _ _ Q E hr I.env0 (.of_eq hb) (vals_perm (r.append rz) perm) h) fun r s' hq => ?_)
  cases r with
  | error e => exact hx pins H s e s' I hq
  | ok fl => cases fl <;> first | exact I.after hq | exact False.elim hq
theorem pe_callkA {P : Pm} {j np k : Nat} {kw} {x : Str} {es es' : List Expr} {kws : List Keyword} {xs : List Str} {as bs : List AI.A2} {perm : List Nat} {p pos : Pos} (hK : X.K = Z.K) (hr : Room k X.A) (hg : Gl X x) (tk : Takes X W) (d : DefOk Z X k x j np kw (P.orc j)) (h : SEs Z W X es as) (pl : plainL as = true)
    (hk : KwsOk kws xs es') (h' : SEs Z W X es' bs) (pl' : plainL bs = true) (hsh : (es.length, xs, perm) ∈ kw) (hnp : perm.length = np) :
    PE X (.Call (.Name x p) es kws pos) (tof Z W fun A => Rs.bind (evs as A) fun xs A1 => Rs.bind (evs bs A1) fun ys A2 => match permD (xs ++ ys) perm with
      | some zs => doCall P j (zs.map fun d => .r (.v d)) A2
      | none => none) := by
  obtain ⟨fd, ps, F, b, hpl, hkw⟩ := d.ok
  obtain ⟨k1, k2, k3⟩ := hk.each (pos := pos) (env := X.env)
  have kok := hkw _ hsh
  have kl : xs.length = es'.length := by
    clear kok hsh k1 k2 k3
    induction hk generalizing bs with
    | nil => rfl
    | cons t ih =>
      cases h' with
      | cons _ _ _ r => rw [List.length_cons, List.length_cons, ih r (by
          have := pl'
          unfold plainL at this ⊢
          rw [List.all_cons] at this
          exact (Bool.and_eq_true_iff.mp this).2)]
      | star _ r => cases pl'
  have elen : ∀ {as : List AI.A2} {A A1 : As} {xs : List D}, plainL as = true → evs as A = some (.ok xs A1) → xs.length = as.length := by
    intro as
    induction as with
    | nil => intro A A1 xs _ h; cases h; rfl
    | cons a as ih =>
      intro A A1 xs p h
      unfold plainL at p
      rw [List.all_cons] at p
      obtain ⟨p1, p2⟩ := Bool.and_eq_true_iff.mp p
      unfold evs at h
      obtain ⟨y, B, e1, e2⟩ := bind_ok h
      have : a.st = false := by simpa using p1
      rw [this, if_neg (by decide)] at e2
      obtain ⟨ys, B2, e3, e4⟩ := bind_ok e2
      cases e4
      rw [List.length_cons, List.length_cons, ih p2 e3]
  -- the reading behind both lists
  have fin : ∀ {pins : List (Addr × Obj)} {s2 : Shared} {σ : St} {G0 H0 G1 H1 G2 H2 : Hp} {A0 A1 A2 : As} {Q : VK} {us ws : List Value} {vs zs : List V} {ds es2 : List D}, Inv X pins σ H2 s2 → StR Z G0 H0 σ A0 → StR Z G2 H2 σ A2 → Ch σ A0 A1 G0 H0 G1 H1 → Ch σ A1 A2 G1 H1 G2 H2 →
      Reps Z G1 ds vs → Reps Z G2 es2 zs → Vals vs us → Vals zs ws → ds.length = es.length → es2.length = xs.length → tofS Z W (RR Z) (match permD (ds ++ es2) perm with
      | some zs => doCall P j (zs.map fun d => .r (.v d)) A2
      | none => none) σ A0 G0 H0 Q → wpAny (model X.prog X.w) X.A (call (.ref (Z.fa j)) us (xs.zip ws)) (EP X pins σ Q) X.xe s2 := by
    intro pins s2 σ G0 H0 G1 H1 G2 H2 A0 A1 A2 Q us ws vs zs ds es2 I s0 s1 c1 c2 r1 r2 v1 v2 l1 l2 q
    have rall : Reps Z G2 (ds ++ es2) (vs ++ zs) := (r1.mono c2.sub).append r2
    have e1 := r1.len
    have e2 := r2.len
    have e3 := v1.length
    have e4 := v2.length
    cases ep : permD (ds ++ es2) perm with
    | none => rw [ep] at q; exact q.elim
    | some cs =>
      rw [ep] at q
      obtain ⟨q1, q2⟩ := ral_reps (σ := σ) (H := H0) (H' := H2) (perm_reps rall ep)
      have cl : ∀ {perm : List Nat} {cs : List D}, permD (ds ++ es2) perm = some cs → cs.length = perm.length := by
        intro perm
        induction perm with
        | nil => intro cs h; cases h; rfl
        | cons i r ih =>
          intro cs h
          unfold permD at h
          split at h
          · rename_i d ds' f1 f2
            cases h
            rw [List.length_cons, List.length_cons, ih f2]
          · cases h
      have sp := call_read (P := P) (j := j) (np := np) (W := W) (as := cs.map fun d => Ar.r (.v d)) (by rw [List.length_map, cl ep, hnp]) s0 s1 (c1.trans c2) ⟨q1, by rw [q2]; exact List.nodup_nil⟩ q
      exact run_kw F hr (kok us ws (by show us.length = es.length; omega) (by show ws.length = xs.length; omega)) (passAt tk σ) I v1 v2 sp
  have body : ∀ {pins : List (Addr × Obj)} {s1 : Shared} {σ : St} {G0 H0 G1 H1 : Hp} {A0 A1 : As} {Q : VK} {us : List Value} {vs : List V} {ds : List D}, Inv X pins σ H1 s1 → StR Z G0 H0 σ A0 → StR Z G1 H1 σ A1 → Ch σ A0 A1 G0 H0 G1 H1 → Reps Z G1 ds vs → Vals vs us → ds.length = es.length →
      tofS Z W (RR Z) (Rs.bind (evs bs A1) fun ys A2 => match permD (ds ++ ys) perm with
        | some zs => doCall P j (zs.map fun d => .r (.v d)) A2
        | none => none) σ A0 G0 H0 Q →
      wpAny (model X.prog X.w) X.A (evalAll ((backToKw pos (keywordEach kws X.env)).map (·.2))) (fun ws s₂ => X.K.In s₂.heap ∧ wpAny (model X.prog X.w) X.A (call (.ref (Z.fa j)) us (((backToKw pos (keywordEach kws X.env)).filterMap (·.1)).zip ws)) (EP X pins σ Q) X.xe s₂) X.xe s1 := by
    intro pins s1 σ G0 H0 G1 H1 A0 A1 Q us vs ds I s0 st1 c1 r1 v1 l1 q
    rw [k2]
    refine thn ((pk_evs hk h' pl').run pos pins s1 σ H1 (fun zs H2 => ∃ (G2 : Hp) (A2 : As) (es2 : List D), StR Z G2 H2 σ A2 ∧ Ch σ A1 A2 G1 H1 G2 H2 ∧ Reps Z G2 es2 zs ∧ es2.length = xs.length ∧ tofS Z W (RR Z) (match permD (ds ++ es2) perm with
        | some zs => doCall P j (zs.map fun d => .r (.v d)) A2
        | none => none) σ A0 G0 H0 Q) I ?_) fun ws s2 hh => ?_
    · refine ⟨G1, A1, st1, ?_⟩
      cases e : evs bs A1 with
      | none => rw [e] at q; exact q.elim
      | some z =>
        rw [e] at q
        cases z with
        | ex c fs A2 => exact exW.trans q c1
        | ok ys A2 => exact fun zs G2 H2 s2 c2 r2 => ⟨G2, A2, ys, s2, c2, r2, by rw [elen pl' e, ← h'.len, kl], q⟩
    · obtain ⟨zs, H2, I2, v2, G2, A2, es2, st2, c2, r2, l2, q2⟩ := hh
      exact ⟨I2.kIn, fin I2 s0 st2 c1 c2 r1 r2 v1 v2 l1 l2 q2⟩
  refine ⟨fun pins s σ H Q I q => ?_⟩
  obtain ⟨G, A, st, q⟩ := q
  dsimp only at q
  refine wpAny_Call_Name_kw (ld_glob I hg d.mg ?_ d.nd)
  cases es with
  | nil =>
    cases h with
    | nil =>
      refine PySem.W.callWith_KW0 (h₀ := X.base) I.ok.mod.kin d.kp k1 ?_ (by rw [k3]; rfl)
      exact body (us := []) (vs := []) (ds := []) I st st .refl .nil .nil rfl q
  | cons e0 es0 =>
    have ns : noStar e0 = true := by
      cases h with
      | cons h ns n t => exact ns
      | star h t => cases pl
    refine PySem.W.callWith_KW (h₀ := X.base) I.ok.mod.kin d.kp k1 (thn ((pa_evs hK h).run pos pins s σ H (fun vs H1 => ∃ (G1 : Hp) (A1 : As) (ds : List D), StR Z G1 H1 σ A1 ∧ Ch σ A A1 G H G1 H1 ∧ Reps Z G1 ds vs ∧ ds.length = (e0 :: es0).length ∧ tofS Z W (RR Z) (Rs.bind (evs bs A1) fun ys A2 => match permD (ds ++ ys) perm with
        | some zs => doCall P j (zs.map fun d => .r (.v d)) A2
        | none => none) σ A G H Q) I ?_) fun us s1 hh => ?_) ?_ (star_no ns)
    · refine ⟨G, A, st, ?_⟩
      cases e : evs as A with
      | none => rw [e] at q; exact q.elim
      | some z =>
        rw [e] at q
        cases z with
        | ex c fs A1 => exact q
        | ok ys A1 => exact fun vs G1 H1 s1 c1 r1 => ⟨G1, A1, ys, s1, c1, r1, by rw [elen pl e, ← h.len], q⟩
    · obtain ⟨vs, H1, I1, v1, G1, A1, ds, st1, c1, r1, l1, q1⟩ := hh
      exact body I1 st st1 c1 r1 v1 l1 q1
    · rw [plain_back h pl, k3]; rfl
end
end AI
/-! Texts' tests; defs as values and their calls. -/
namespace AI
open PySem PySem.Spec L2
open PyProof.Rows hiding St
section
variable {Z : Zt} {W : WX} {X : Cx}
def Sm.nm : Sm → Str
  | .isascii => "isascii"
  | .isalpha => "isalpha"
  | .islower => "islower"
def notAttrC : Expr → Bool
  | .Call _ _ _ _ => false
  | _ => true
theorem base_ok {o : Expr} (h : notAttrC o = true) {nm : Str} {env : Env} {w : Sem Value} : attributeBase o nm env w = w := by
  cases o <;> first | rfl | cases h
def Sm.f : Sm → Str → Bool
  | .isascii => Txt.isascii
  | .isalpha => Txt.isalpha
  | .islower => Txt.islower
theorem doSm_ok {m : Sm} {x : D} {ys : List D} {r : R} (h : doSm m x ys = some r) : ∃ s, x = .str s ∧ r = .v (.bl (m.f s)) := by
  unfold doSm at h
  split at h
  · exact ⟨_, rfl, (Option.some.inj h).symm⟩
  · exact ⟨_, rfl, (Option.some.inj h).symm⟩
  · exact ⟨_, rfl, (Option.some.inj h).symm⟩
  · cases h
theorem pe_smA {m : Sm} {a : Expr} {f : E2} {q pos : Pos} (ha : SE Z W X a f) (hb : notAttrC a = true) (hl : (q.endLine == pos.line) = true) :
    PE X (.Call (.Attribute a m.nm q) [] [] pos) (tof Z W fun A => Rs.bind (f.d A) fun x A1 => Rs.bind (evs [] A1) fun ys A2 => toR A2 (doSm m x ys)) := by
  have key : ∀ {σ : St} {H : Hp} {Q : VK}, tof Z W (fun A => Rs.bind (f.d A) fun x A1 => Rs.bind (evs [] A1) fun ys A2 => toR A2 (doSm m x ys)) σ H Q →
      tM0 (fun x xs H Q => ∃ a, x = .str a ∧ xs = [] ∧ True ∧ Q (.bl (m.f a)) H) (tofd Z W f.d) σ H Q := by
    intro σ H Q h
    obtain ⟨G, A, s, h⟩ := h
    refine tofG.bind s sh_R h fun x A1 v G1 H1 s1 c1 r1 h1 => ?_
    have h1 : tofS Z W (RR Z) (toR A1 (doSm m x [])) σ A1 G1 H1 Q := h1
    cases e : doSm m x [] with
    | none => rw [e] at h1; exact h1.elim
    | some r =>
      rw [e] at h1
      obtain ⟨z, rfl, rfl⟩ := doSm_ok e
      have ev : v = .str z := rep_str.mp (show Rep Z G1 (.str z) v from r1)
      subst ev
      exact ⟨⟨z, rfl⟩, z, rfl, rfl, trivial, h1 (.bl (m.f z)) G1 H1 s1 .refl (show Rep Z G1 (.bl (m.f z)) _ from rep_bl.mpr rfl)⟩
  cases m with
  | isascii => exact pe_imp (pe_m0 F.slot_str_isascii F.type_str_isascii mt_isascii ha.d (base_ok hb) hl) fun σ H Q h => key h
  | isalpha => exact pe_imp (pe_m0 F.slot_str_isalpha F.type_str_isalpha mt_isalpha ha.d (base_ok hb) hl) fun σ H Q h => key h
  | islower => exact pe_imp (pe_m0 F.slot_str_islower F.type_str_islower mt_islower ha.d (base_ok hb) hl) fun σ H Q h => key h
/-! ### defs as values -/
theorem pe_fnvA {P : Pm} {j np k : Nat} {kw} {x : Str} {p : Pos} (hK : X.K = Z.K) (hg : Gl X x) (d : DefOk Z X k x j np kw (P.orc j)) : PE X (.Name x p) (tof Z W fun A => some (.ok (.v (.fn j)) A)) :=
  pe_litA (pe_glob (v := .ref (Z.fa j)) (pos := p) hg d.mg rfl d.nd) fun G => by
    unfold Rep
    exact ⟨rfl, by rw [← hK]; exact d.kp⟩
def isAttr : Expr → Bool
  | .Attribute _ _ _ => true
  | _ => false
theorem eval_callX {f : Expr} (h : isAttr f = false) {args : List Expr} {kws : List Keyword} {pos : Pos} {env : Env} : eval (.Call f args kws pos) env = (do
    callWith pos (← eval f env) [] (backTo pos (starEach args env)) (backToKw pos (keywordEach kws env))) := by
  cases f <;> first | rfl | cases h
/-- the promise of a def that stands at a place, by what is asked of it -/
def DefV (Z : Zt) (X : Cx) (k j np : Nat) (orc : List R → Option Rc) : Prop := ∃ fd ps, FnOk X.prog X.w X.K X.mg X.base (L2.CX X.prog X.w) k (Z.fa j) fd ps (spR Z np orc) ∧ Binds X.K fd ps [] ∧ ps.length = np
def tCX (Z : Zt) (W : WX) (X : Cx) (P : Pm) (k : Nat) (tf : TE) (t : TA) : TE := fun σ H Q => tf σ H fun v H1 => ∃ j, v = .ref (Z.fa j) ∧ PySem.W.keepIn X.K (.ref (Z.fa j)) = true ∧ t σ H1 fun vs H2 => ∃ np, DefV Z X k j np (P.orc j) ∧ spR Z np (P.orc j) vs H2 Q (WE W σ)
theorem pe_callXX {P : Pm} {k : Nat} {fe e : Expr} {es : List Expr} {tf : TE} {t : TA} {pos : Pos} (hr : Room k X.A) (tk : Takes X W) (na : isAttr fe = false) (hf : PE X fe tf) (ha : PA X (e :: es) t)
    (he : starEach (e :: es) X.env = (false, eval e X.env) :: starEach es X.env) (hpl : (backTo pos (starEach es X.env)).any (·.1) = false) : PE X (.Call fe (e :: es) [] pos) (tCX Z W X P k tf t) := by
  refine ⟨fun pins s σ H Q I h => ?_⟩
  rw [eval_callX na]
  refine wpAny_bind (thn (hf.run pins s σ H _ I h) fun u s1 ⟨v, H1, I1, r1, j, ev, hk, q⟩ => ?_)
  subst ev
  have r1 : u = .ref (Z.fa j) := r1
  subst r1
  refine PySem.W.callWith_K (h₀ := X.base) I1.ok.mod.kin hk (thn (ha.run pos pins s1 σ H1 _ I1 q) fun us s2 ⟨vs, H2, I2, r, np, ⟨fd, ps, F, b, hp⟩, q⟩ => ⟨I2.kIn, ?_⟩) he hpl
  exact run_fnS (E := WE W) F hr b (passAt tk σ) I2 r q
theorem arRs_len : ∀ {as : List Ar} {A : As} {rs : List R}, arRs A as = some rs → as.length = rs.length
  | [], A, rs, h => by cases h; rfl
  | a :: as, A, rs, h => by
    unfold arRs at h
    cases e1 : arR A a with
    | none => rw [e1] at h; cases h
    | some r =>
      cases e2 : arRs A as with
      | none => rw [e1, e2] at h; cases h
      | some rs0 =>
        rw [e1, e2] at h
        cases h
        rw [List.length_cons, List.length_cons, arRs_len e2]
theorem pe_callxA {P : Pm} {k : Nat} {fe e : Expr} {es : List Expr} {ff : E2} {as : List AI.A2} {pos : Pos} (hK : X.K = Z.K) (hr : Room k X.A) (tk : Takes X W) (dv : ∀ j rs rc, P.orc j rs = some rc → ∃ np, rs.length = np ∧ DefV Z X k j np (P.orc j)) (na : isAttr fe = false) (hf : SE Z W X fe ff) (h : SEs Z W X (e :: es) as) (pl : plainL as = true) :
    PE X (.Call fe (e :: es) [] pos) (tof Z W fun A => Rs.bind (ff.d A) fun x A1 => match x with
      | .fn j => Rs.bind (eva as A1) fun xs A2 => doCall P j xs A2
      | _ => none) := by
  have ns : noStar e = true := by
    cases h with
    | cons h ns n t => exact ns
    | star h t => cases pl
  have hpl : (backTo pos (starEach es X.env)).any (·.1) = false := by
    cases h with
    | cons h ns n t => exact plain_back t pl
    | star h t => cases pl
  refine pe_imp (pe_callXX (Z := Z) (P := P) (k := k) hr tk na hf.d (pa_eva h pl) (star_no ns) hpl) fun σ H Q q => ?_
  obtain ⟨G, A, s, q⟩ := q
  refine tofG.bind s sh_R q fun x A1 v G1 H1 s1 c1 r1 h1 => ?_
  cases x with
  | fn j =>
    obtain ⟨ev, kp⟩ := rep_fn.mp (show Rep Z G1 (.fn j) v from r1)
    refine ⟨j, ev, by rw [hK]; exact kp, ?_⟩
    have h1 : tofS Z W (RR Z) (Rs.bind (eva as A1) fun xs A2 => doCall P j xs A2) σ A1 G1 H1 Q := h1
    refine ⟨G1, A1, s1, ?_⟩
    cases e1 : eva as A1 with
    | none => rw [e1] at h1; exact h1.elim
    | some z =>
      rw [e1] at h1
      cases z with
      | ex c fs A2 => exact h1
      | ok xs A2 =>
        intro vs G2 H2 s2 c2 r2
        have h1 : tofS Z W (RR Z) (doCall P j xs A2) σ A1 G1 H1 Q := h1
        have ex : ∃ rs rc, arRs A2 xs = some rs ∧ P.orc j rs = some rc := by
          unfold doCall at h1
          split at h1
          · cases ea : arRs A2 xs with
            | none => rw [ea] at h1; exact h1.elim
            | some rs =>
              rw [ea] at h1
              dsimp only at h1
              cases eo : P.orc j rs with
              | none => rw [eo] at h1; exact h1.elim
              | some rc => exact ⟨rs, rc, rfl, eo⟩
          · exact h1.elim
        obtain ⟨rs, rc, ea, eo⟩ := ex
        obtain ⟨np, hn, D⟩ := dv j rs rc eo
        have hl : xs.length = rs.length := arRs_len ea
        exact ⟨np, D, call_read (hl.trans hn) s1 s2 c2 r2 h1⟩
  | _ => exact h1.elim
end
end AI
/-! Turned round. -/
namespace AI
open PySem PySem.Spec L2
open PyProof.Rows hiding St
section
variable {prog : Program} {w : World} {M : Around} {E : Value → Shared → Prop} {s : Shared}
theorem places_back (n : Nat) : Builtin.Slice.slicePlaces ((n : Int) - 1) (-1) (-1) = n := by
  unfold Builtin.Slice.slicePlaces
  have h : ¬ ((-1 : Int) > 0) := by decide
  rw [if_neg h]
  have e : (-(-1 : Int)) = 1 := by decide
  rw [e, Int.ediv_one]
  by_cases z : ((n : Int) - 1) > -1
  · rw [if_pos z]; omega
  · rw [if_neg z]; omega
theorem adjust_back (n : Nat) : Builtin.Slice.sliceAdjust none none (-1) (n : Int) = ((n : Int) - 1, -1) := by
  unfold Builtin.Slice.sliceAdjust
  have h : (-1 : Int) < 0 := by decide
  simp only [if_pos h]
theorem applied_back {sl : Addr} {t : Tok} {n : Nat} {Q : Int × Int × Nat → Shared → Prop} (hs : s.heap.IsSliceOf sl .none .none (.int (-1) t)) (h : Q ((n : Int) - 1, -1, n) s) :
    wpAny (model prog w) M (Builtin.Slice.sliceApplied (.ref sl) (pure (n : Int))) Q E s := by
  obtain ⟨os, uos, ucs, uds⟩ := id hs
  unfold Builtin.Slice.sliceApplied Builtin.Slice.sliceFields
  refine wpAny_bind (wpAny_bind (wpAny_field uos uds (x := .none) rfl (wpAny_bind (wpAny_field uos uds (x := .none) rfl (wpAny_bind (wpAny_field uos uds (x := .int (-1) t) rfl (wpAny_pure ?_)))))))
  refine wpAny_bind (slicePart_int ?_)
  show wpAny _ _ (if ((-1 : Int) == 0) = true then _ else _) _ _ s
  rw [if_neg (by decide)]
  refine wpAny_bind (slicePart_none (wpAny_bind (slicePart_none (wpAny_bind (wpAny_pure ?_)))))
  show wpAny _ _ (match Builtin.Slice.sliceAdjust none none (-1) (n : Int) with | (lo, ui) => pure (lo, (-1 : Int), Builtin.Slice.slicePlaces lo ui (-1))) _ _ s
  rw [adjust_back]
  show wpAny _ _ (pure ((n : Int) - 1, (-1 : Int), Builtin.Slice.slicePlaces ((n : Int) - 1) (-1) (-1))) _ _ s
  rw [places_back]
  exact wpAny_pure h
theorem back_list {α : Type} : ∀ l : List α, (List.range l.length).filterMap (fun (k : Nat) => l[(((l.length : Nat) : Int) - 1 + (k : Int) * -1).toNat]?) = l.reverse := fun l => by
  have key : ∀ m, m ≤ l.length → (List.range m).filterMap (fun (k : Nat) => l[(((l.length : Nat) : Int) - 1 + (k : Int) * -1).toNat]?) = l.reverse.take m := by
    intro m
    induction m with
    | zero => intro _; rfl
    | succ m ih =>
      intro h
      have lt : m < l.reverse.length := by rw [List.length_reverse]; omega
      rw [List.range_succ, List.filterMap_append, ih (by omega), List.take_succ_eq_append_getElem lt]
      have e : (((l.length : Nat) : Int) - 1 + (m : Int) * -1).toNat = l.length - 1 - m := by omega
      have lt2 : l.length - 1 - m < l.length := by omega
      simp only [List.filterMap_cons, List.filterMap_nil, e, List.getElem?_eq_getElem lt2, List.getElem_reverse]
  rw [key _ (Nat.le_refl _), List.take_of_length_le (by rw [List.length_reverse]; exact Nat.le_refl _)]
theorem getItem_tuple_back {a sl : Addr} {items : Array Value} {t : Tok} {Q : Value → Shared → Prop} (ht : IsTup s.heap a items) (hs : s.heap.IsSliceOf sl .none .none (.int (-1) t))
    (h : Q (.ref s.heap.objs.size) { s with heap := s.heap.push { cls := .type "tuple", data := .seq items.toList.reverse.toArray } }) (usz : items.size ≤ sizeLine) : wpAny (model prog w) M (getItem (.ref a) (.ref sl)) Q E s := by
  obtain ⟨os, uos, ucs, uds⟩ := id hs
  have uT : s.TypeIs (.ref sl) "slice" := ⟨os, uos, ucs⟩
  unfold getItem
  try with_reducible refine wpAny_holding ?_
  first | refine wpAny_bind (wpAny_pure ?_) | skip
  refine wpAny_bind (wpAny_sequenceKey ht.typeIs (by decide) (wpAny_bind (wpAny_callSpecial?_slot (name := Str.ofString "__getitem__") ht.typeIs PyProof.Rows.slot_tuple_getitem
    (wpAny_call_entry PyProof.Rows.slot_tuple_getitem ht.typeIs PyProof.Rows.entry_tuple_getitem ?_ (PyProof.Rows.args_tuple_getitem _ _)))))
  show wpAny _ _ (Builtin.Tuple.tupleItemsOf (.ref a) >>= _) _ _ s
  refine wpAny_bind (PyProof.Rows.tupleItemsOf_ ht (wpAny_bind (wpAny_typeOf uT ?_)))
  rw [if_pos (by decide)]
  refine wpAny_bind (applied_back hs ?_)
  show wpAny _ _ (if (((items.size : Int) - 1) == 0 && (-1 : Int) == 1 && items.size == items.size) = true then _ else _) _ _ s
  have no : ¬ ((((items.size : Int) - 1) == 0 && (-1 : Int) == 1 && items.size == items.size) = true) := by
    rw [show ((-1 : Int) == 1) = false from rfl, Bool.and_false, Bool.false_and]
    exact Bool.false_ne_true
  rw [if_neg no]
  have e := back_list items.toList
  rw [Array.length_toList] at e
  have e2 : ((List.range items.size).filterMap fun (k : Nat) => items[((items.size : Int) - 1 + (k : Int) * -1).toNat]?) = items.toList.reverse := by
    rw [← e]
    congr 1
    funext k
    rw [Array.getElem?_toList]
  rw [e2]
  have uz : sizeOk (.seq items.toList.reverse.toArray) := by
    show items.toList.reverse.toArray.size ≤ sizeLine
    rw [List.size_toArray, List.length_reverse, Array.length_toList]
    exact usz
  exact wpAny_bind (m := Builtin.Tuple.tupleExact _) (wpAny_newObj_type (wpAny_pure ⟨_, rfl, wpAny_pure h⟩) uz)
end
section
variable {Z : Zt} {W : WX} {X : Cx}
theorem Reps.reverse {G : Hp} : ∀ {ds : List D} {xs : List V}, Reps Z G ds xs → Reps Z G ds.reverse xs.reverse
  | [], xs, h => by rw [h.inv0]; exact .nil
  | d :: ds, xs, h => by
    obtain ⟨v, vs, rfl, r, t⟩ := h.inv
    rw [List.reverse_cons, List.reverse_cons]
    exact (Reps.reverse t).append (.one r)
def tRevA (K : PySem.W.Frag) (te : TE) : TE := fun σ H Q => te σ H fun x H1 => ∃ a xs, x = .ref a ∧ ((SqL K H1 a xs ∧ ∀ p, H1 p = none → Q (.ref p) (upd H1 p (.lst xs.reverse))) ∨ (SqT K H1 a xs ∧ ∀ p, H1 p = none → Q (.ref p) (upd H1 p (.tup xs.reverse))))
theorem pe_revBoth {e : Expr} {te : TE} {k : Nat} {p1 p2 p3 pos : Pos} (he : PE X e te) : PE X (.Subscript e (.Slice none none (some (.UnaryOp .USub (.Constant (.int 1) k p1) p2)) p3) pos) (tRevA X.K te) := ⟨fun pins s σ H Q I h => by
  refine Subscript_ (thn (he.run pins s σ H _ I h) fun v s1 ⟨x, H1, I1, r1, q1⟩ => ?_)
  obtain ⟨a, xs, rfl, hx⟩ := q1
  cases r1
  refine wpAny_Slice (thn (po_none.run pins s1 σ H1 (fun o H2 => o = none ∧ H2 = H1) I1 ⟨rfl, rfl⟩) fun vl s2 ⟨l, H2, I2, pl, el, e2⟩ => ?_)
  subst el e2
  refine thn (po_none.run pins s2 σ H2 (fun o H3 => o = none ∧ H3 = H2) I2 ⟨rfl, rfl⟩) fun vu s3 ⟨u, H3, I3, pu, eu, e3⟩ => ?_
  subst eu e3
  have ut : PO X (some (.UnaryOp .USub (.Constant (.int 1) k p1) p2)) (tPart (tUn (rU fun i => .int (-i)) (tC (.int 1)))) := po_some (pe_un un_neg pe_int)
  refine thn (ut.run pins s3 σ H3 (fun o H4 => o = some (-1) ∧ H4 = H3) I3 ⟨1, rfl, -1, rfl, rfl, rfl⟩) fun vs s4 ⟨o, H4, I4, ps, eo, e4⟩ => ?_
  subst eo e4
  have I5 : Inv X pins σ H4 { s4 with heap := s4.heap.push { cls := .type "slice", data := .fields #[vl, vu, vs] } } := I4.kept (t' := s4.toks) fun b ob q => Heap.get?_push_of_some _ q
  rcases hx with ⟨hx, q⟩ | ⟨hx, q⟩
  · obtain ⟨its, r, ht, uz⟩ := I5.list hx
    have ulen := r.length
    refine tail_any (ops := [.ref a, .ref s4.heap.objs.size]) ht.isList.typeIs (PySem.slot_list_getitem.lookup) (wpAny_getItem_list_slice ht.isList (Heap.IsSliceOf.new _ vl vu vs) pl pu ps (by decide) ?_ (by rw [List.size_toArray]; omega)) (by with_unfolding_all rfl)
    rw [PySem.W.krv_pick]
    exact ⟨.ref _, _, I5.laid (t' := s4.toks) (o := .lst xs.reverse) (fun b ob q => Heap.get?_push_of_some _ q) (Nat.le_refl _) ⟨by rw [List.length_reverse]; exact uz, _, 0, r.reverse, Heap.get?_push_size _ rfl⟩, rfl, q _ (I5.hok.fresh (Nat.le_refl _))⟩
  · obtain ⟨its, r, ht, uz⟩ := I5.tuple hx
    have ulen := r.length
    cases pl
    cases pu
    cases ps with
    | int _ t =>
      refine tail_any (ops := [.ref a, .ref s4.heap.objs.size]) ht.typeIs (PyProof.Rows.slot_tuple_getitem.lookup) (getItem_tuple_back ht (Heap.IsSliceOf.new _ _ _ _) ?_ (by rw [List.size_toArray]; omega)) (by with_unfolding_all rfl)
      exact ⟨.ref _, _, I5.laid (t' := s4.toks) (o := .tup xs.reverse) (fun b ob q => Heap.get?_push_of_some _ q) (Nat.le_refl _) ⟨by rw [List.length_reverse]; exact uz, _, r.reverse, IsTup.new _ _⟩, rfl, q _ (I5.hok.fresh (Nat.le_refl _))⟩⟩
theorem pe_revA {a : Expr} {f : E2} {k : Nat} {p1 p2 p3 pos : Pos} (hK : X.K = Z.K) (ha : SE Z W X a f) : PE X (.Subscript a (.Slice none none (some (.UnaryOp .USub (.Constant (.int 1) k p1) p2)) p3) pos) (tof Z W fun A => Rs.bind (f.d A) fun x A1 => toR A1 (revD x)) := by
  refine pe_imp (pe_revBoth ha.d) fun σ H Q q => ?_
  obtain ⟨G, A, s, q⟩ := q
  refine tofG.bind s sh_R q fun x A1 v G1 H1 s1 c1 r1 h1 => ?_
  have r1 : Rep Z G1 x v := r1
  cases x with
  | lst ds =>
    obtain ⟨a, xs, rfl, hp, rs⟩ := rep_lst.mp r1
    have h1 : Fin Z σ A1 G1 H1 (RR Z) (.o (.l ds.reverse)) Q := h1
    exact ⟨a, xs, rfl, .inl ⟨.of (s1.sub _ _ hp), h1.lst s1 rs.reverse⟩⟩
  | tup ds =>
    obtain ⟨a, xs, rfl, hp, rs⟩ := rep_tup.mp r1
    have h1 : Fin Z σ A1 G1 H1 (RR Z) (.v (.tup ds.reverse)) Q := h1
    exact ⟨a, xs, rfl, .inr ⟨by rw [hK]; exact s1.sub.sqt hp, h1.tup s1 rs.reverse⟩⟩
  | _ => exact h1.elim
end
end AI
/-! Sets of one sort of keys: made of a list or a tuple, counted, sorted. -/
namespace AI
open PySem PySem.Spec L2
open PyProof.Rows hiding St
/-- a sort of keys -/
structure Sk (P : Program) (w : World) (K : Type) [DecidableEq K] where
  knd : PySem.KeyKind P w K
  vl : K → Tok → Value
  key : Value → K
  is : ∀ k t, knd.is k (vl k t) = true
  km : ∀ k t, key (vl k t) = k
  sc : ∀ k t, (vl k t).scannable = true
def skI (P : Program) (w : World) : Sk P w Int where
  knd := PySem.intKind P w
  vl := .int
  key := fun v => match v with
    | .int i _ => i
    | _ => 0
  is := fun k t => intKind_is P w k t
  km := fun _ _ => rfl
  sc := fun _ _ => rfl
def skS (P : Program) (w : World) : Sk P w Str where
  knd := PySem.strKind P w
  vl := .str
  key := fun v => match v with
    | .str i _ => i
    | _ => Str.empty
  is := fun k t => PySem.strKind_is P w k t
  km := fun _ _ => rfl
  sc := fun _ _ => rfl
section
variable {P : Program} {w : World} {K : Type} [DecidableEq K] (κ : Sk P w K) {A : Around} {E : Value → Shared → Prop} {s : Shared} {a : Addr} {S : K → Bool} {n : Nat} {h h' : Heap}
def GoodG (e : Int × Value) : Prop := ∃ k tk, e.2 = κ.vl k tk ∧ e.1 = κ.knd.hash k
def kyG (e : Int × Value) : K := κ.key e.2
def SetG (w : World) (h : Heap) (a : Addr) (S : K → Bool) (n : Nat) : Prop :=
  ∃ o es ep t, h.get? a = some o ∧ o.ExactSet ∧ o.data = .set es ep t ∧ ((∀ e ∈ es.toList, GoodG κ e) ∧ (es.toList.map (kyG κ)).Nodup ∧ ∀ k, S k = true ↔ k ∈ es.toList.map (kyG κ)) ∧
    es.size < scanBound ∧ t.fits es.size = true ∧ es.size = n ∧ Ris t.place.toList ∧ (w.params.followText "set-order" = true ∨ t.led = true)
variable {κ}
theorem SetG.at (R : SetG κ w h a S n) (k : ∀ o, h.get? a = some o → h'.get? a = some o) : SetG κ w h' a S n := by
  obtain ⟨o, es, ep, t, uo, r⟩ := R
  exact ⟨o, es, ep, t, k o uo, r⟩
theorem SetG.congr {S' : K → Bool} (R : SetG κ w h a S n) (e : ∀ k, S' k = S k) : SetG κ w h a S' n := by
  have q : S' = S := funext e
  rw [q]; exact R
theorem elemsG {l : List (Int × Value)} (g : ∀ e ∈ l, GoodG κ e) : PySem.ElemsOf κ.knd l := fun e he => by
  obtain ⟨k, tk, h1, h2⟩ := g e he
  exact ⟨⟨k, by rw [h1]; exact κ.is k tk, h2⟩, by rw [h1]; exact κ.sc k tk⟩
theorem isG {e : Int × Value} (g : GoodG κ e) (k : K) : κ.knd.is k e.2 = true ↔ kyG κ e = k := by
  obtain ⟨k0, tk, h1, _⟩ := g
  unfold kyG
  rw [h1, κ.km]
  constructor
  · intro q; exact κ.knd.inj _ _ _ (κ.is k0 tk) q
  · intro q; rw [← q]; exact κ.is k0 tk
theorem memG {l : List (Int × Value)} (g : ∀ e ∈ l, GoodG κ e) (k : K) : k ∈ l.map (kyG κ) ↔ ∃ e ∈ l, κ.knd.is k e.2 = true := by
  rw [List.mem_map]
  constructor
  · rintro ⟨e, he, q⟩; exact ⟨e, he, (isG (g e he) k).2 q⟩
  · rintro ⟨e, he, q⟩; exact ⟨e, he, (isG (g e he) k).1 q⟩
theorem setG_tail {g : Bool → Sem Unit} (ug : ∀ (b : Bool) (s₁ : Shared) (Q' : Unit → Shared → Prop), Q' () s₁ → wpAny (model P w) A (g b) Q' E s₁)
    {o : Obj} {es es1 : Array (Int × Value)} {ep : Nat} {t t2 : SetTable} {S' : K → Bool} (uo : s.heap.get? a = some o) (ux : o.ExactSet) (ud : o.data = .set es ep t)
    (g1 : (∀ e ∈ es1.toList, GoodG κ e) ∧ (es1.toList.map (kyG κ)).Nodup ∧ ∀ k, S' k = true ↔ k ∈ es1.toList.map (kyG κ)) (hb1 : es1.size < scanBound) (hf2 : t2.fits es1.size = true) (ur : Ris t2.place.toList)
    (hl : w.params.followText "set-order" = true ∨ t2.led = true) {wasDummy : Bool} {R : Option Bool → Shared → Prop} (hR : ∀ h', Heap.SameBut a s.heap h' → SetG κ w h' a S' es1.size → R (some true) { s with heap := h' }) :
    wpAny (model P w) A (do storeSet a es1 t2; if (!wasDummy && t2.tooFull) = true then do g (relayAll t2 es1 (SetTable.grown es1.size)).2.2; storeSet a (relayAll t2 es1 (SetTable.grown es1.size)).1 (relayAll t2 es1 (SetTable.grown es1.size)).2.1; pure (some true) else pure (some true)) R E s := by
  refine wpAny_bind (wpAny_storeSet_of uo ud ?_ (fits_of_scanBound hb1))
  have o1 := store_at (es' := es1) (t' := t2) uo ud
  have b1 := Heap.SameBut.update s.heap a (Obj.putSet es1 t2)
  split
  · have pmm := relayAll_perm t2 es1 (SetTable.grown es1.size)
    have f3 := relayAll_fits t2 es1 (SetTable.grown es1.size)
    have r3 := relayAll_ris t2 es1 (SetTable.grown es1.size)
    have l3 := relayAll_led t2 es1 (SetTable.grown es1.size)
    generalize relayAll t2 es1 (SetTable.grown es1.size) = y at pmm f3 r3 l3 ⊢
    obtain ⟨es2, t3, gave⟩ := y
    dsimp only at pmm f3 r3 l3 ⊢
    have usz : es2.size = es1.size := by rw [← Array.length_toList, pmm.length_eq, Array.length_toList]
    refine wpAny_bind (ug _ _ _ (wpAny_bind (wpAny_storeSet_of o1 rfl ?_ (fits_of_scanBound (by rw [usz]; exact hb1)))))
    have o2 := store_at (es' := es2) (t' := t3) o1 rfl
    exact wpAny_pure (hR _ (b1.trans (Heap.SameBut.update _ a _)) ⟨_, es2, _, t3, o2, ux, rfl, ⟨fun e he => g1.1 e (pmm.mem_iff.mp he), (pmm.map (kyG κ)).nodup_iff.mpr g1.2.1, fun k => (g1.2.2 k).trans (pmm.map (kyG κ)).mem_iff.symm⟩, by rw [usz]; exact hb1, f3, usz, r3, hl.imp id fun z => by rw [l3]; exact z⟩)
  · exact wpAny_pure (hR _ b1 ⟨_, es1, _, t2, o1, ux, rfl, g1, hb1, hf2, rfl, ur, hl⟩)
theorem setG_add {k : K} {tk : Tok} {Q : Bool → Shared → Prop} (R : SetG κ w s.heap a S n) (room : n + 1 < scanBound)
    (uQ : ∀ h', Heap.SameBut a s.heap h' → SetG κ w h' a (fun j => S j || decide (j = k)) (if S k = true then n else n + 1) → Q (!S k) { s with heap := h' }) : wpAny (model P w) A (setAddHashed a (κ.vl k tk) (κ.knd.hash k)) Q E s := by
  obtain ⟨o, es, ep, t, uo, ux, ud, ⟨g, ndd, um⟩, ub, uf, un, ur, hl⟩ := R
  have ukey := κ.is k tk
  have usc := κ.sc k tk
  have uel : PySem.ElemsOf κ.knd es.toList := elemsG g
  unfold setAddHashed setAddHashedIn
  refine wpAny_holding (wpAny_bind (wpAny_setState_of uo ud uf ?_))
  dsimp only
  rw [byScan_of usc ub uel]
  simp only [↓reduceIte]
  unfold setAddByScan
  refine wpAny_bind (wpAny_bind (wpAny_rule (wpAny_bind (wpAny_setScan_of ukey uo ud uf uel ?_))))
  cases hfi : List.findIdx? (fun e => κ.knd.is k e.2) es.toList with
  | some j =>
    dsimp only
    obtain ⟨hj, pj, _⟩ := List.findIdx?_eq_some_iff_getElem.mp hfi
    have uSk : S k = true := (um k).2 ((memG g k).2 ⟨es.toList[j], List.getElem_mem hj, pj⟩)
    have q := uQ s.heap (Heap.SameBut.refl a s.heap) ⟨o, es, ep, t, uo, ux, ud, ⟨g, ndd, fun i => by
      rw [Bool.or_eq_true, decide_eq_true_eq, ← um i]
      exact ⟨fun z => z.elim id (fun e => e ▸ uSk), .inl⟩⟩, ub, uf, by rw [if_pos uSk]; exact un, ur, hl⟩
    rw [uSk] at q
    exact wpAny_pure (wpAny_pure q)
  | none =>
    dsimp only
    have unk : k ∉ es.toList.map (kyG κ) := fun z => by
      obtain ⟨e, he, q⟩ := (memG g k).1 z
      have c := List.findIdx?_eq_none_iff.mp hfi e he
      rw [q] at c; cases c
    have uSk : S k = false := by
      cases q : S k with
      | false => rfl
      | true => exact absurd ((um k).1 q) unk
    have quiet : ∀ (b : Bool) {s₁ : Shared} {Q' : Unit → Shared → Prop}, Q' () s₁ → wpAny (model P w) A (match b with | true => rule "set.scan.the-table-gave-way" | false => pure ()) Q' E s₁ :=
      fun b s₁ Q' q => by cases b <;> first | exact wpAny_pure q | exact wpAny_rule q
    have pmm := layNew_perm t es (κ.knd.hash k) (κ.vl k tk)
    have f1 := layNew_fits t es (κ.knd.hash k) (κ.vl k tk)
    have r1 := layNew_ris t es (κ.knd.hash k) (κ.vl k tk) ur
    have l1 := layNew_led t es (κ.knd.hash k) (κ.vl k tk)
    generalize layNew t es (κ.knd.hash k) (κ.vl k tk) = y at pmm f1 r1 l1 ⊢
    obtain ⟨es1, t1, wasDummy, gave⟩ := y
    dsimp only at pmm f1 r1 l1 ⊢
    rw [Array.toList_push] at pmm
    have pcc : es1.toList.Perm ((κ.knd.hash k, κ.vl k tk) :: es.toList) := pmm.trans (List.perm_append_singleton _ _)
    have pkk : (es1.toList.map (kyG κ)).Perm (k :: es.toList.map (kyG κ)) := by
      have z := pcc.map (kyG κ)
      rw [List.map_cons, show kyG κ (κ.knd.hash k, κ.vl k tk) = k from κ.km k tk] at z
      exact z
    have g1 : (∀ e ∈ es1.toList, GoodG κ e) ∧ (es1.toList.map (kyG κ)).Nodup ∧ ∀ i, (S i || decide (i = k)) = true ↔ i ∈ es1.toList.map (kyG κ) := by
      refine ⟨fun e he => ?_, pkk.nodup_iff.mpr (List.nodup_cons.mpr ⟨unk, ndd⟩), fun i => ?_⟩
      · rcases List.mem_cons.mp (pcc.mem_iff.mp he) with z | z
        · rw [z]; exact ⟨k, tk, rfl, rfl⟩
        · exact g e z
      · rw [Bool.or_eq_true, decide_eq_true_eq, um i, pkk.mem_iff, List.mem_cons]
        exact Or.comm
    have usz : es1.size = n + 1 := by rw [← Array.length_toList, pcc.length_eq, List.length_cons, Array.length_toList, un]
    have b1 : es1.size < scanBound := by rw [usz]; exact room
    have led : w.params.followText "set-order" = true ∨ t1.led = true := hl.imp id fun z => by rw [l1]; exact z
    have fin : ∀ h', Heap.SameBut a s.heap h' → SetG κ w h' a (fun j => S j || decide (j = k)) es1.size → Q true { s with heap := h' } := fun h' sb r => by
      have q := uQ h' sb
      rw [uSk] at q
      rw [usz] at r
      exact q r
    refine wpAny_bind (quiet _ ?_)
    split
    · refine wpAny_bind ?_
      rw [hashByValue_scannable 8 usc]
      refine wpAny_pure (setG_tail ?_ uo ux ud g1 b1 ?_ ?_ ?_ ?_)
      · intro b s₁ Q' q; cases b <;> first | exact wpAny_pure q | exact wpAny_rule q
      · first | (split <;> first | exact f1 | exact SetTable.fits_plain_off f1) | exact f1
      · first | (split <;> exact r1) | exact r1
      · first | (split <;> exact led) | exact led
      · intro h' sb r; dsimp only; exact wpAny_pure (fin h' sb r)
    · refine wpAny_bind (wpAny_pure ?_)
      simp only [↓reduceIte]
      refine setG_tail ?_ uo ux ud g1 b1 f1 r1 led ?_
      · intro b s₁ Q' q; cases b <;> first | exact wpAny_pure q | exact wpAny_rule q
      · intro h' sb r; dsimp only; exact wpAny_pure (fin h' sb r)
/-- the set is filled from an iterator -/
theorem setG_fill {I : Addr} {fp wr : List Addr} {G : Array GenState → Array GenState → Prop} {n : Nat} {Pv : Nat → Value → Prop} {St : Nat → Shared → Prop} {R : Result → Shared → Prop}
    (V : WalksS P w A.in1 I fp wr G n Pv St) (B : Addr) (hBf : B ∉ fp) (ks : List K) (un : n = ks.length) (ub : ks.length + 1 < scanBound) (uval : ∀ i v, Pv i v → ∃ k t, ks[i]? = some k ∧ v = κ.vl k t) :
    ∀ (m i : Nat) (s : Shared), n - i = m → i ≤ n → St i s → (∃ c, c ≤ i ∧ SetG κ w s.heap B (fun j => decide (j ∈ ks.take i)) c) →
      (∀ s' c, Moved (B :: wr) G s s' → c ≤ n → SetG κ w s'.heap B (fun j => decide (j ∈ ks)) c → R (.ok (.ret .none)) s') → codeAny (model P w) A (.builtin "set.update.loop" ⟨[.ref B, .ref I], []⟩) R s := by
  have uBw : B ∉ wr := fun h => hBf (V.sub _ h)
  have usub : ∀ b ∈ wr, b ∈ B :: wr := fun b ub => List.mem_cons_of_mem _ ub
  intro m
  induction m with
  | zero =>
    intro i s hk' ui ut ⟨c, hc, uS⟩ hR
    have uin : i = n := by omega
    subst uin
    refine codeAny_builtin F.entry_set_update_loop ?_
    rw [Around.under_plainId F.plain_set_update_loop _]
    show wpAny _ A.in1 (pyNext (.ref I) >>= _) _ _ s
    refine wpAny_bind (V.done s _ _ ut fun s' um => ?_)
    have e : ks.take i = ks := List.take_of_length_le (by omega)
    rw [e] at uS
    exact (show wpAny _ A.in1 (ret Value.none) _ _ s' from wpAny_pure (hR s' c (um.mono usub) hc (uS.at fun o e => um.heap B o uBw e)))
  | succ m ih =>
    intro i s hk' ui ut ⟨c, hc, uS⟩ hR
    have ult : i < n := by omega
    refine codeAny_builtin F.entry_set_update_loop ?_
    rw [Around.under_plainId F.plain_set_update_loop _]
    show wpAny _ A.in1 (pyNext (.ref I) >>= _) _ _ s
    refine wpAny_bind (V.item i s _ _ ult ut fun v s' hP hst' um => ?_)
    obtain ⟨z, t, uz, rfl⟩ := uval i v hP
    have hS' : SetG κ w s'.heap B (fun j => decide (j ∈ ks.take i)) c := uS.at fun o e => um.heap B o uBw e
    show wpAny _ A.in1 (holding [κ.vl z t] (setAdd B (κ.vl z t)) >>= _) _ _ s'
    refine wpAny_bind (wpAny_holding ?_)
    unfold setAdd
    refine wpAny_holding (wpAny_bind (κ.knd.pyHash (k := z) (κ.is z t) (setG_add (s := { s' with toks := s'.toks + 1 }) hS' (by omega) fun h' usb uS2 => ?_)))
    have uS3 : SetG κ w h' B (fun j => decide (j ∈ ks.take (i + 1))) (if decide (z ∈ ks.take i) = true then c else c + 1) := uS2.congr fun j => by
      rw [List.take_add_one, uz]
      simp [List.mem_append]
    have uc3 : (if decide (z ∈ ks.take i) = true then c else c + 1) ≤ i + 1 := by split <;> omega
    refine wpAny_pure ⟨plainId_quiet F.plain_set_update_loop _, ih (i + 1) _ (by omega) ult (V.frame _ s' _ _ hst' (Nat.le_succ _) fun b ub o e => ?_) ⟨_, uc3, uS3⟩ fun s'' c2 hm'' hc'' hS'' => ?_⟩
    · rw [usb.2 b (fun h : b = B => hBf (by rw [← h]; exact ub))]; exact e
    · refine hR s'' c2 (Moved.trans V.gtrans ((um.mono usub).then_heap (Nat.le_succ _) fun b o ub e => ?_) hm'') hc'' hS''
      rw [usb.2 b (fun h : b = B => ub (by rw [h]; exact List.mem_cons_self))]; exact e
abbrev newSetO (w : World) : Obj := { cls := .type "set", dict := none, data := .set #[] 0 (.fresh 0 0 (!w.params.followText "set-order")) }
theorem setG_new {ks : List K} (uo : h.get? a = some (newSetO w)) : SetG κ w h a (fun j => decide (j ∈ ks.take 0)) 0 :=
  ⟨_, #[], 0, _, uo, ⟨rfl, rfl, rfl⟩, rfl, ⟨(fun e he => by simp at he), (by simp), (fun k => by simp)⟩, (by decide), (by rfl), rfl, List.Pairwise.nil, by
    show _ ∨ (!w.params.followText "set-order") = true
    cases w.params.followText "set-order"
    · exact .inr rfl
    · exact .inl rfl⟩
set_option maxHeartbeats 3200000 in
theorem callG {l : Addr} {items : Array Value} (ks : List K) {Q : Value → Shared → Prop} (hh : A.handled = none) (hl : s.heap.IsList l items ∨ s.heap.IsTuple l items) (uval : ∀ (i : Nat) (v : Value), items[i]? = some v → ∃ k t, ks[i]? = some k ∧ v = κ.vl k t) (uisz : items.size = ks.length) (ub : ks.length + 1 < scanBound)
    (h : ∀ (h' : Heap) (tk c : Nat), SetG κ w h' s.heap.objs.size (fun j => decide (j ∈ ks)) c → (∀ b o, s.heap.get? b = some o → h'.get? b = some o) → Q (.ref s.heap.objs.size) { s with heap := h', toks := tk }) :
    wpAny (model P w) A (call (.type "set") [.ref l]) Q E s := by
  obtain ⟨c, tl, hmro⟩ := F.called_set.mro
  have m1 := F.called_set.made; have m2 := F.called_set.sub
  refine wpAny_call (codeAny_of_tree (show wpAny _ _ (callAny (.type "set") _) _ _ _ from wpAny_pure ⟨Code.quiet_builtin _ (by decide +kernel), codeAny_builtin PySem.F.entry_type_call ?_⟩))
  rw [Around.under_plain (weight_type_call_type "set" [.ref l] []) rfl]
  have m3 := F.called_set.notType; have m4 := F.called_set.canCreate; have m5 := F.typeCall_set_1 (.ref l)
  repeat (any_goals (first | assumption | wp_step))
  refine codeAny_mono (code_set_led1 (.ref l) (E := E) (Q₁ := fun obj s₁ => obj = .ref s.heap.objs.size ∧ s₁ = { s with heap := s.heap.push (newSetO w) }) ⟨rfl, rfl⟩) fun r s₁ ur => ?_
  cases r with
  | error e => exact ur
  | ok fl =>
    cases fl <;> first | exact ur.elim | skip
    obtain ⟨rfl, rfl⟩ := ur
    have uS : (s.heap.push (newSetO w)).get? s.heap.objs.size = some (newSetO w) := Heap.get?_push_size _ rfl
    have uT : Shared.TypeIs { s with heap := s.heap.push (newSetO w) } (.ref s.heap.objs.size) "set" := ⟨_, uS, rfl⟩
    have m6 := F.called_set.init.lookup; have m7 := F.called_set.init.bind (.ref s.heap.objs.size)
    repeat (any_goals (first | assumption | wp_step))
    refine codeAny_mono (codeAny_call_builtin (R := wants (fun r s₂ => r = .none ∧ ∃ h' tk c, s₂ = { s with heap := h', toks := tk } ∧ SetG κ w h' s.heap.objs.size (fun j => decide (j ∈ ks)) c ∧ (∀ b o, s.heap.get? b = some o → h'.get? b = some o)) E)
      F.called_set.init.plain F.entry_set_init (check_set_init_1 uT ?_)) fun r₂ s₂ hr₂ => ?_
    · have lt : l < s.heap.objs.size := by rcases hl with ⟨o, uo, _⟩ | ⟨o, uo, _⟩ <;> exact Heap.lt_size uo
      have h3 : A.in1.in1.in1.handled = none := by simp [hh]
      have z1 : (s.heap.push (newSetO w)).objs.size = s.heap.objs.size + 1 := Heap.size_push ..
      have neI : l ≠ (s.heap.push (newSetO w)).objs.size := by rw [z1]; exact Nat.ne_of_lt (Nat.lt_succ_of_lt lt)
      have nf : s.heap.objs.size ∉ [(s.heap.push (newSetO w)).objs.size, l] := by
        rw [z1]; simp only [List.mem_cons, List.not_mem_nil, or_false, not_or]
        exact ⟨Nat.ne_of_lt (Nat.lt_succ_self _), Nat.ne_of_gt lt⟩
      -- behind the filling
      have done : ∀ {cls : String} {wr : List Addr} {o : Obj} (s' : Shared) (c' : Nat), wr = [(s.heap.push (newSetO w)).objs.size] → Moved (s.heap.objs.size :: wr) (fun g g' => g' = g) { s with heap := (s.heap.push (newSetO w)).push o } s' → SetG κ w s'.heap s.heap.objs.size (fun j => decide (j ∈ ks)) c' →
          ∃ h' tk c, s' = { s with heap := h', toks := tk } ∧ SetG κ w h' s.heap.objs.size (fun j => decide (j ∈ ks)) c ∧ (∀ b o, s.heap.get? b = some o → h'.get? b = some o) := by
        intro cls wr o s' c' ew um hS'
        subst ew
        obtain ⟨h', g2, d', tk', os'⟩ := s'
        have eg : g2 = s.gens := um.gens
        have ed : d' = s.drawn := um.drawn
        have eo : os' = s.os := um.os
        subst eg; subst ed; subst eo
        refine ⟨h', tk', c', rfl, hS', fun b o e => ?_⟩
        have b0 : b < s.heap.objs.size := Heap.lt_size e
        exact um.heap b o (by rw [z1]; simp only [List.mem_cons, List.not_mem_nil, or_false, not_or]; exact ⟨Nat.ne_of_lt b0, Nat.ne_of_lt (Nat.lt_succ_of_lt b0)⟩) (Heap.get?_push_of_some _ (Heap.get?_push_of_some _ e))
      rcases hl with hl | hl
      · obtain ⟨ol, hol, hcl, nl, hdl⟩ := hl
        obtain ⟨ocls, odict, odata, oslots⟩ := ol
        simp only at hcl hdl
        subst hcl; subst hdl
        have uo2 : (s.heap.push (newSetO w)).get? l = some { cls := .type "list", dict := odict, data := .seq items nl, slots := oslots } := Heap.get?_push_of_some _ hol
        have u1 := F.sub_list_set; have u2 := F.sub_list_frozenset
        have u3 : (Value.type "list" == Value.type "dict") = false := by decide
        have hl1 : (s.heap.push (newSetO w)).IsList l items := ⟨_, uo2, rfl, nl, rfl⟩
        unfold Builtin.«set.__init__» noKeywords Builtin.Frozenset.updateFrom
        generalize hPI : pyIter = PI
        wp_walk
        subst hPI
        refine wpAny_pyIter_list hl1 (wpAny_bind (wpAny_runValue ?_))
        refine setG_fill ((Walks.list h3 _ l neI items).toS) s.heap.objs.size nf ks uisz ub uval (items.size - 0) 0 _ (by omega) (Nat.zero_le _) ⟨⟨_, Heap.get?_push_size _ rfl, rfl, rfl⟩, (hl1.push _)⟩ ⟨0, Nat.le_refl 0, setG_new (Heap.get?_push_of_some _ uS)⟩ fun s' c' um _ hS' => ?_
        exact (show wpAny _ _ _ _ _ _ from wpAny_pure (show wpAny _ _ (ret Value.none) _ _ _ from wpAny_pure ⟨rfl, done (cls := "") s' c' rfl um hS'⟩))
      · obtain ⟨ol, hol, hcl, nl, hdl⟩ := hl
        obtain ⟨ocls, odict, odata, oslots⟩ := ol
        simp only at hcl hdl
        subst hcl; subst hdl
        have uo2 : (s.heap.push (newSetO w)).get? l = some { cls := .type "tuple", dict := odict, data := .seq items nl, slots := oslots } := Heap.get?_push_of_some _ hol
        have u1 := F.sub_tuple_set; have u2 := F.sub_tuple_frozenset
        have u3 : (Value.type "tuple" == Value.type "dict") = false := by decide
        have hl1 : (s.heap.push (newSetO w)).IsTuple l items := ⟨_, uo2, rfl, nl, rfl⟩
        unfold Builtin.«set.__init__» noKeywords Builtin.Frozenset.updateFrom
        generalize hPI : pyIter = PI
        wp_walk
        subst hPI
        refine wpAny_pyIter_tuple hl1 (wpAny_bind (wpAny_runValue ?_))
        refine setG_fill ((Walks.tuple h3 _ l neI items).toS) s.heap.objs.size nf ks uisz ub uval (items.size - 0) 0 _ (by omega) (Nat.zero_le _) ⟨⟨_, Heap.get?_push_size _ rfl, rfl, rfl⟩, (hl1.push _)⟩ ⟨0, Nat.le_refl 0, setG_new (Heap.get?_push_of_some _ uS)⟩ fun s' c' um _ hS' => ?_
        exact (show wpAny _ _ _ _ _ _ from wpAny_pure (show wpAny _ _ (ret Value.none) _ _ _ from wpAny_pure ⟨rfl, done (cls := "") s' c' rfl um hS'⟩))
    · cases r₂ with
      | error e => exact hr₂
      | ok fl₂ =>
        cases fl₂ <;> first | exact hr₂.elim | skip
        obtain ⟨rfl, h', tk, c', rfl, hS', hk'⟩ := hr₂
        repeat (any_goals (first | assumption | wp_step))
        exact h _ _ _ hS' hk'
end
end AI
/-! len(set(..)), sorted(set(..)). -/
namespace AI
open PySem PySem.Spec L2
open PyProof.Rows hiding St
theorem dedupI_mem : ∀ {l : List Int} {x : Int}, x ∈ dedupI l ↔ x ∈ l
  | [], x => by unfold dedupI; exact Iff.rfl
  | y :: l, x => by
    unfold dedupI
    split
    · rename_i h
      rw [dedupI_mem, List.mem_cons]
      exact ⟨.inr, fun z => z.elim (fun e => e ▸ h) id⟩
    · rw [List.mem_cons, List.mem_cons, dedupI_mem]
theorem dedupI_nd : ∀ l : List Int, (dedupI l).Nodup
  | [] => by unfold dedupI; exact List.nodup_nil
  | y :: l => by
    unfold dedupI
    split
    · exact dedupI_nd l
    · exact List.nodup_cons.mpr ⟨fun z => by rw [dedupI_mem] at z; contradiction, dedupI_nd l⟩
theorem dedupS_mem : ∀ {l : List Str} {x : Str}, x ∈ dedupS l ↔ x ∈ l
  | [], x => by unfold dedupS; exact Iff.rfl
  | y :: l, x => by
    unfold dedupS
    split
    · rename_i h
      rw [dedupS_mem, List.mem_cons]
      exact ⟨.inr, fun z => z.elim (fun e => e ▸ h) id⟩
    · rw [List.mem_cons, List.mem_cons, dedupS_mem]
theorem dedupS_nd : ∀ l : List Str, (dedupS l).Nodup
  | [] => by unfold dedupS; exact List.nodup_nil
  | y :: l => by
    unfold dedupS
    split
    · exact dedupS_nd l
    · exact List.nodup_cons.mpr ⟨fun z => by rw [dedupS_mem] at z; contradiction, dedupS_nd l⟩
theorem perm_of_nd {α : Type} [BEq α] [LawfulBEq α] {l r : List α} (h1 : l.Nodup) (h2 : r.Nodup) (h : ∀ x, x ∈ l ↔ x ∈ r) : l.Perm r := (List.perm_ext_iff_of_nodup h1 h2).mpr h
section
variable {P : Program} {w : World} {A : Around} {E : Value → Shared → Prop} {s : Shared} {a : Addr} {n : Nat} {h : Heap}
theorem setG_sort {K : Type} [DecidableEq K] {κ : Sk P w K} {ν : PyProof.Rows.KeyKind} (hO : ν.OneLt) {S : K → Bool} {Q : Value → Shared → Prop} (R : SetG κ w s.heap a S n) (hh : A.handled = none) (h64 : n < 64)
    (h0 : ∀ vs : List Value, (∀ v ∈ vs, ∃ k t, v = κ.vl k t) → KeysOf ν (pairsOf vs)) (hkk : ∀ vs : List Value, (∀ v ∈ vs, ∃ k t, v = κ.vl k t) → ∀ v₁ v₂ rest, vs = v₁ :: v₂ :: rest → keyKind' (v₁ :: v₂ :: rest).toArray = pure oneType')
    (uQ : ∀ s' p (st' : SortSt) (vs : List Value) (c : Nat), (∀ v ∈ vs, ∃ k t, v = κ.vl k t) → (vs.map κ.key).Nodup → (∀ k, k ∈ vs.map κ.key ↔ S k = true) → (∀ b o, s.heap.get? b = some o → s'.heap.get? b = some o) → s'.gens = s.gens → s'.os = s.os → s.heap.objs.size ≤ p →
      s'.heap.get? p = some (seqObj "list" ((arrOf st').map (·.2)) c) → (arrOf st').Perm (pairsOf vs) → SortedToK ν (arrOf st') (pairsOf vs).size → vs.length = n → Q (.ref p) s') : wpAny (model P w) A (call (.builtin "sorted") [.ref a]) Q E s := by
  obtain ⟨o, es, ep, t, uo, ux, ud, ⟨g, ndd, um⟩, ub, uf, un, ur, hl⟩ := R
  refine Calls.call_function_entry kind_sorted plain_sorted entry_sorted (args_sorted1 _) (show wpAny _ _ (Builtin.«sorted» ⟨[.ref a], []⟩) _ _ s from ?_)
  unfold Builtin.«sorted»
  refine wpAny_bind (m := checkCount "sorted" 1 1 _) (wpAny_pure (wpAny_bind (collect_set (A := A.in1) hh ⟨o, uo, ux.1, ud⟩ uf ub ur hl fun s1 vs k1 uz g1 o1 pmm => ?_)))
  have uvl : vs.length = n := by rw [pmm.length_eq, List.length_map, Array.length_toList]; exact un
  have ug : ∀ v ∈ vs, ∃ k t, v = κ.vl k t := fun v hv => by
    obtain ⟨e, he, q⟩ := List.mem_map.mp (pmm.mem_iff.mp hv)
    obtain ⟨k, tk, e1, _⟩ := g e he
    exact ⟨k, tk, by rw [← q]; exact e1⟩
  have pkk : (vs.map κ.key).Perm (es.toList.map (kyG κ)) := by
    have q := pmm.map κ.key
    rw [List.map_map] at q
    exact q
  refine wpAny_bind (wpAny_newList ?_ (by rw [uvl, sizeLine_eq]; omega))
  have uoL : (s1.heap.push (seqObj "list" vs.toArray 0)).get? s1.heap.objs.size = some (seqObj "list" vs.toArray 0) := Heap.get?_push_size _ rfl
  refine wpAny_bind (wpAny_holding (wpAny_call_entry slot_list_sort ⟨_, uoL, rfl⟩ entry_list_sort (list_sort_treeK hO uoL (h0 vs ug) (hkk vs ug) (by rw [uvl]; exact h64) fun st' a1 a2 => ⟨_, rfl, ?_⟩) (args_list_sort _)))
  obtain ⟨c, hc⟩ := sortedHeap_at (vs := vs) (out := (arrOf st').map (·.2)) uoL
  refine wpAny_pure ⟨_, rfl, uQ _ s1.heap.objs.size st' vs c ug (pkk.nodup_iff.mpr ndd) (fun k => by rw [pkk.mem_iff, ← um k]) (fun b u e => ?_) g1 o1 uz hc a1 a2 uvl⟩
  have q := k1 b u e
  have lt := Heap.lt_size q
  show (sortedHeap (s1.heap.push (seqObj "list" vs.toArray 0)) s1.heap.objs.size vs ((arrOf st').map (·.2))).get? b = some u
  rw [sortedHeap_old (Nat.ne_of_lt lt) (by rw [size_push']; exact Nat.lt_succ_of_lt lt)]
  exact Heap.get?_push_of_some _ q
theorem strs_all : ∀ {vs : List Value}, (∀ v ∈ vs, ∃ k t, v = (skS P w).vl k t) → StrsAre vs (vs.map (skS P w).key)
  | [], _ => .nil
  | v :: vs, h => by
    obtain ⟨k, t, rfl⟩ := h v List.mem_cons_self
    exact .cons k t (strs_all fun u hu => h u (List.mem_cons_of_mem _ hu))
theorem ints_all : ∀ {vs : List Value}, (∀ v ∈ vs, ∃ k t, v = (skI P w).vl k t) → IntsAre vs (vs.map (skI P w).key)
  | [], _ => .nil
  | v :: vs, h => by
    obtain ⟨k, t, rfl⟩ := h v List.mem_cons_self
    exact .cons k t (ints_all fun u hu => h u (List.mem_cons_of_mem _ hu))
end
section
variable {X : Cx}
/-- the items as keys -/
theorem its_str {ss : List Str} {its : List Value} (r : Vals (ss.map V.str) its) (P : Program) (w : World) : (∀ (i : Nat) (v : Value), its.toArray[i]? = some v → ∃ k t, ss[i]? = some k ∧ v = (skS P w).vl k t) ∧ its.toArray.size = ss.length := by
  have l := r.length
  rw [List.length_map] at l
  refine ⟨fun i v hv => ?_, by rw [List.size_toArray]; omega⟩
  rw [List.getElem?_toArray] at hv
  have ui : i < ss.length := by have := (List.getElem?_eq_some_iff.mp hv).1; omega
  obtain ⟨u, e1, r1⟩ := r.get (i := i) (x := .str ss[i]) (by simp [ui])
  rw [hv] at e1
  cases e1
  obtain ⟨t, e⟩ := r1
  exact ⟨ss[i], t, List.getElem?_eq_getElem ui, e⟩
theorem its_int {ss : List Int} {its : List Value} (r : Vals (ss.map V.int) its) (P : Program) (w : World) : (∀ (i : Nat) (v : Value), its.toArray[i]? = some v → ∃ k t, ss[i]? = some k ∧ v = (skI P w).vl k t) ∧ its.toArray.size = ss.length := by
  have l := r.length
  rw [List.length_map] at l
  refine ⟨fun i v hv => ?_, by rw [List.size_toArray]; omega⟩
  rw [List.getElem?_toArray] at hv
  have ui : i < ss.length := by have := (List.getElem?_eq_some_iff.mp hv).1; omega
  obtain ⟨u, e1, r1⟩ := r.get (i := i) (x := .int ss[i]) (by simp [ui])
  rw [hv] at e1
  cases e1
  obtain ⟨t, e⟩ := r1
  exact ⟨ss[i], t, List.getElem?_eq_getElem ui, e⟩
/-- b(set(e)) -/
def tOfSet (K : PySem.W.Frag) (te : TE) (Qs : (St → Hp → VK → List Str → Prop)) (Qi : (St → Hp → VK → List Int → Prop)) : TE := fun σ H Q => te σ H fun x H1 => ∃ l, x = .ref l ∧
  ((∃ ss : List Str, (SqL K H1 l (ss.map V.str) ∨ SqT K H1 l (ss.map V.str)) ∧ ss.length ≤ 4000 ∧ Qs σ H1 Q ss) ∨ ∃ is : List Int, (SqL K H1 l (is.map V.int) ∨ SqT K H1 l (is.map V.int)) ∧ is.length ≤ 4000 ∧ Qi σ H1 Q is)
theorem pe_ofSet {b x y : Str} {bv : String} {a : Expr} {ta : TE} {p p2 q pos : Pos} {Qs : (St → Hp → VK → List Str → Prop)} {Qi : (St → Hp → VK → List Int → Prop)} (hc : X.calm = true) (ug : Gl X b) (um : X.mg b = none) (hbo : bootBuiltins b = some (.builtin bv)) (hn1 : b ≠ "__name__") (hn2 : (b == ("__debug__" : Str)) = false) (hg2 : Gl X "set") (hm2 : X.mg "set" = none) (ha : PE X a ta) (na : noStar a = true)
    (hpl : ∀ v, Value.builtin bv = v → True)
    (ks : ∀ (pins : List (Addr × Obj)) (s : Shared) (σ : St) (H : Hp) (Q : VK) (ss : List Str) (a : Addr) (c : Nat), Inv X pins σ H s → SetG (skS X.prog X.w) X.w s.heap a (fun j => decide (j ∈ ss)) c → ss.length ≤ 4000 → Qs σ H Q ss → wpAny (model X.prog X.w) X.A (call (.builtin bv) [.ref a]) (EP X pins σ Q) X.xe s)
    (ki : ∀ (pins : List (Addr × Obj)) (s : Shared) (σ : St) (H : Hp) (Q : VK) (ss : List Int) (a : Addr) (c : Nat), Inv X pins σ H s → SetG (skI X.prog X.w) X.w s.heap a (fun j => decide (j ∈ ss)) c → ss.length ≤ 4000 → Qi σ H Q ss → wpAny (model X.prog X.w) X.A (call (.builtin bv) [.ref a]) (EP X pins σ Q) X.xe s) :
    PE X (.Call (.Name b p) [.Call (.Name "set" p2) [a] [] q] [] pos) (tOfSet X.K ta Qs Qi) := ⟨fun pins s σ H Q I h => by
  refine Call_ (ld_blt I ug um hbo (PyProof.Rows.callWith_builtin1 (PyProof.Rows.args_cons (Call_ (ld_blt I hg2 hm2 boot_set (PyProof.Rows.callWith_type1 (PyProof.Rows.args_cons (thn (ha.run pins s σ H _ I h) fun v s1 ⟨x, H1, I1, r1, q1⟩ => PyProof.Rows.args_nil ?_) (star_no na)) (star_no na) rfl))) rfl) rfl rfl) hn1 hn2)
  obtain ⟨l, rfl, q1⟩ := q1
  cases r1
  have ub : ∀ {n : Nat}, n ≤ 4000 → n + 1 < scanBound := fun h => by unfold scanBound; omega
  rcases q1 with ⟨ss, hq, hl, q1⟩ | ⟨ss, hq, hl, q1⟩
  · have fin : ∀ (its : List Value), Vals (ss.map V.str) its → (s1.heap.IsList l its.toArray ∨ s1.heap.IsTuple l its.toArray) → wpAny (model X.prog X.w) X.A (call (.type "set") [.ref l]) (fun v s2 => wpAny (model X.prog X.w) X.A (spliced (backTo pos (starEach [] X.env))) (fun vs s₂ => wpAny (model X.prog X.w) X.A (call (.builtin bv) (v :: vs)) (EP X pins σ Q) X.xe s₂) X.xe s2) X.xe s1 := fun its r hs => by
      obtain ⟨v1, v2⟩ := its_str r X.prog X.w
      refine callG (κ := skS X.prog X.w) ss (I1.ok.hd hc) hs v1 v2 (ub hl) fun h' tk c R k => PyProof.Rows.args_nil ?_
      exact ks pins _ σ H1 Q ss _ c (I1.kept k) R hl q1
    rcases hq with hq | hq
    · obtain ⟨its, r, pl, uz⟩ := I1.list hq
      exact fin its r (.inl pl.isList)
    · obtain ⟨its, r, pl, uz⟩ := I1.tuple hq
      exact fin its r (.inr pl)
  · have fin : ∀ (its : List Value), Vals (ss.map V.int) its → (s1.heap.IsList l its.toArray ∨ s1.heap.IsTuple l its.toArray) → wpAny (model X.prog X.w) X.A (call (.type "set") [.ref l]) (fun v s2 => wpAny (model X.prog X.w) X.A (spliced (backTo pos (starEach [] X.env))) (fun vs s₂ => wpAny (model X.prog X.w) X.A (call (.builtin bv) (v :: vs)) (EP X pins σ Q) X.xe s₂) X.xe s2) X.xe s1 := fun its r hs => by
      obtain ⟨v1, v2⟩ := its_int r X.prog X.w
      refine callG (κ := skI X.prog X.w) ss (I1.ok.hd hc) hs v1 v2 (ub hl) fun h' tk c R k => PyProof.Rows.args_nil ?_
      exact ki pins _ σ H1 Q ss _ c (I1.kept k) R hl q1
    rcases hq with hq | hq
    · obtain ⟨its, r, pl, uz⟩ := I1.list hq
      exact fin its r (.inl pl.isList)
    · obtain ⟨its, r, pl, uz⟩ := I1.tuple hq
      exact fin its r (.inr pl)⟩
theorem setG_len {K : Type} [DecidableEq K] {P : Program} {w : World} {κ : Sk P w K} {h : Heap} {a : Addr} {ks r : List K} {c : Nat} (R : SetG κ w h a (fun j => decide (j ∈ ks)) c) (ndd : r.Nodup) (um : ∀ x, x ∈ r ↔ x ∈ ks) : c = r.length := by
  obtain ⟨o, es, ep, t, uo, ux, ud, ⟨g, nd2, hm2⟩, ub, uf, un, _⟩ := R
  have p : (es.toList.map (kyG κ)).Perm r := (List.perm_ext_iff_of_nodup nd2 ndd).mpr fun x => by rw [← hm2 x, um x]; exact decide_eq_true_iff
  have e := p.length_eq
  rw [List.length_map, Array.length_toList, un] at e
  exact e
theorem len_setG {K : Type} [DecidableEq K] {κ : Sk X.prog X.w K} {pins : List (Addr × Obj)} {s : Shared} {σ : St} {H : Hp} {Q : VK} {S : K → Bool} {a : Addr} {c : Nat} (I : Inv X pins σ H s) (R : SetG κ X.w s.heap a S c) (q : Q (.int c) H) : wpAny (model X.prog X.w) X.A (call (.builtin "len") [.ref a]) (EP X pins σ Q) X.xe s := by
  obtain ⟨o, es, ep, t, uo, ux, ud, _, ub, uf, un, _⟩ := R
  subst un
  refine call_len_set uo ux ud uf ?_ ⟨.int es.size, H, I.tok _, ⟨_, rfl⟩, q⟩
  unfold scanBound at ub
  omega
variable {Z : Zt} {W : WX}
theorem strsD_rep {G : Hp} : ∀ {ds : List D} {ss : List Str} {xs : List V}, strsD ds = some ss → Reps Z G ds xs → xs = ss.map V.str
  | [], _, _, e, r => by cases e; exact r.inv0
  | d :: ds, ss, xs, e, r => by
    cases d <;> first | (unfold strsD at e; cases e; done) | skip
    unfold strsD at e
    cases q : strsD ds with
    | none => rw [q] at e; cases e
    | some z =>
      rw [q] at e
      cases e
      obtain ⟨v, vs, rfl, r1, r2⟩ := r.inv
      rw [strsD_rep q r2, rep_str.mp r1]
      rfl
theorem intsD_rep {G : Hp} : ∀ {ds : List D} {ss : List Int} {xs : List V}, intsD ds = some ss → Reps Z G ds xs → xs = ss.map V.int
  | [], _, _, e, r => by cases e; exact r.inv0
  | d :: ds, ss, xs, e, r => by
    cases d <;> first | (unfold intsD at e; cases e; done) | skip
    unfold intsD at e
    cases q : intsD ds with
    | none => rw [q] at e; cases e
    | some z =>
      rw [q] at e
      cases e
      obtain ⟨v, vs, rfl, r1, r2⟩ := r.inv
      rw [intsD_rep q r2, rep_int.mp r1]
      rfl
theorem pe_lsetA {a : Expr} {f : E2} {p p2 q pos : Pos} (hK : X.K = Z.K) (hc : X.calm = true) (ug : Gl X "len") (um : X.mg "len" = none) (hg2 : Gl X "set") (hm2 : X.mg "set" = none) (ha : SE Z W X a f) (ns : noStar a = true) :
    PE X (.Call (.Name "len" p) [.Call (.Name "set" p2) [a] [] q] [] pos) (tof Z W fun A => Rs.bind (f.d A) fun x A1 => toR A1 (lsetD x)) := by
  refine pe_imp (pe_ofSet (x := "") (y := "") (Qs := fun _ H Q ss => Q (.int (dedupS ss).length) H) (Qi := fun _ H Q is => Q (.int (dedupI is).length) H) hc ug um boot_len (by decide +kernel) (by decide +kernel) hg2 hm2 ha.d ns (fun _ _ => trivial)
    (fun pins s σ H Q ss a c I R _ q => len_setG I R (by rw [setG_len R (dedupS_nd ss) fun x => dedupS_mem]; exact q))
    (fun pins s σ H Q ss a c I R _ q => len_setG I R (by rw [setG_len R (dedupI_nd ss) fun x => dedupI_mem]; exact q))) fun σ H Q q => ?_
  obtain ⟨G, A, s, q⟩ := q
  refine tofG.bind s sh_R q fun x A1 v G1 H1 s1 c1 r1 h1 => ?_
  have r1 : Rep Z G1 x v := r1
  have h1 : tofS Z W (RR Z) (toR A1 (lsetD x)) σ A1 G1 H1 Q := h1
  unfold lsetD at h1
  cases e : seqD x with
  | none => rw [e] at h1; exact h1.elim
  | some ds =>
    rw [e] at h1
    dsimp only at h1
    split at h1
    · rename_i hl
      obtain ⟨l, xs, rfl, hs, rs⟩ := seq_rep e r1
      have hs' : SqL X.K H1 l xs ∨ SqT X.K H1 l xs := by
        rw [hK]
        rcases hs with hs | hs
        · exact .inr (s1.sub.sqt hs)
        · exact .inl (s1.sub.sql hs)
      cases ei : intsD ds with
      | some is =>
        rw [ei] at h1
        have h1 : Fin Z σ A1 G1 H1 (RR Z) (.v (.int (dedupI is).length)) Q := h1
        rw [intsD_rep ei rs] at hs'
        exact ⟨l, rfl, .inr ⟨is, hs', by rw [intsD_len ei]; exact hl, h1.vl s1 (rep_int.mpr rfl)⟩⟩
      | none =>
        rw [ei] at h1
        dsimp only at h1
        cases es : strsD ds with
        | none => rw [es] at h1; exact h1.elim
        | some ss =>
          rw [es] at h1
          have h1 : Fin Z σ A1 G1 H1 (RR Z) (.v (.int (dedupS ss).length)) Q := h1
          rw [strsD_rep es rs] at hs'
          exact ⟨l, rfl, .inl ⟨ss, hs', by rw [strsD_len es]; exact hl, h1.vl s1 (rep_int.mpr rfl)⟩⟩
    · exact h1.elim
theorem sort_setS {pins : List (Addr × Obj)} {s : Shared} {σ : St} {H : Hp} {Q : VK} {ss : List Str} {a : Addr} {c : Nat} (hc : X.calm = true) (I : Inv X pins σ H s) (R : SetG (skS X.prog X.w) X.w s.heap a (fun j => decide (j ∈ ss)) c) (h64 : ss.length < 64)
    (q : ∀ p, H p = none → Q (.ref p) (upd H p (.lst ((sortS (dedupS ss)).map V.str)))) : wpAny (model X.prog X.w) X.A (call (.builtin "sorted") [.ref a]) (EP X pins σ Q) X.xe s := by
  have cl : c = (dedupS ss).length := setG_len R (dedupS_nd ss) fun x => dedupS_mem
  have le : (dedupS ss).length ≤ ss.length := (dedupS_nd ss).length_le_of_subset fun x hx => dedupS_mem.mp hx
  refine setG_sort strKind_oneLt R (I.ok.hd hc) (by omega) (fun vs hv => (strs_all hv).keysOf) (fun vs hv v₁ v₂ rest e => keyKind_strs (by rw [← e]; exact strs_all hv)) fun s' p st' vs c' hv ndd um k g o hp ug pmm so hl => ?_
  obtain ⟨ss', h1, h2, h3⟩ := sorted_out_str (strs_all hv) pmm so
  have pp : (vs.map (skS X.prog X.w).key).Perm (dedupS ss) := (List.perm_ext_iff_of_nodup ndd (dedupS_nd ss)).mpr fun x => by rw [um x, dedupS_mem]; exact decide_eq_true_iff
  have e : ss' = sortS (dedupS ss) := sortedS_uniqueS ((h2.trans pp).trans (sortS_perm _).symm) (sortedS_pw h3) (sortS_pw _)
  subst e
  have ulen : ((sortS (dedupS ss)).map V.str).length ≤ sizeLine := by rw [List.length_map, (sortS_perm _).length_eq, sizeLine_eq]; omega
  have un : H p = none := I.hok.fresh hp
  have es : s' = { s with heap := s'.heap, gens := s'.gens, drawn := s'.drawn, toks := s'.toks } := by
    obtain ⟨h', g', d', t', o'⟩ := s'
    have o : o' = s.os := o
    rw [o]
  have J : Inv X pins σ (upd H p (.lst ((sortS (dedupS ss)).map V.str))) { s with heap := s'.heap, gens := s'.gens, drawn := s'.drawn, toks := s'.toks } :=
    I.call (ch := []) (Un.laid k hp un) (I.hok.laid k hp ⟨ulen, _, c', vals_of_strs h1, ug⟩) (by rw [g]; exact I.bare) (fun _ z => nomatch z)
  rw [es]
  exact ⟨.ref p, _, J, rfl, q p un⟩
theorem sort_setI {pins : List (Addr × Obj)} {s : Shared} {σ : St} {H : Hp} {Q : VK} {ss : List Int} {a : Addr} {c : Nat} (hc : X.calm = true) (I : Inv X pins σ H s) (R : SetG (skI X.prog X.w) X.w s.heap a (fun j => decide (j ∈ ss)) c) (h64 : ss.length < 64)
    (q : ∀ p, H p = none → Q (.ref p) (upd H p (.lst ((sortI (dedupI ss)).map V.int)))) : wpAny (model X.prog X.w) X.A (call (.builtin "sorted") [.ref a]) (EP X pins σ Q) X.xe s := by
  have cl : c = (dedupI ss).length := setG_len R (dedupI_nd ss) fun x => dedupI_mem
  have le : (dedupI ss).length ≤ ss.length := (dedupI_nd ss).length_le_of_subset fun x hx => dedupI_mem.mp hx
  refine setG_sort intKind_oneLt R (I.ok.hd hc) (by omega) (fun vs hv => (ints_all hv).keysOfInt) (fun vs hv v₁ v₂ rest e => keyKind_ints (by rw [← e]; exact ints_all hv)) fun s' p st' vs c' hv ndd um k g o hp ug pmm so hl => ?_
  obtain ⟨ss', h1, h2, h3⟩ := sorted_out (ints_all hv) pmm (sortedTo_of_int so)
  have pp : (vs.map (skI X.prog X.w).key).Perm (dedupI ss) := (List.perm_ext_iff_of_nodup ndd (dedupI_nd ss)).mpr fun x => by rw [um x, dedupI_mem]; exact decide_eq_true_iff
  have e : ss' = sortI (dedupI ss) := sorted_unique ((h2.trans pp).trans (sortI_perm _).symm) h3 (sortI_pw _)
  subst e
  have ulen : ((sortI (dedupI ss)).map V.int).length ≤ sizeLine := by rw [List.length_map, (sortI_perm _).length_eq, sizeLine_eq]; omega
  have un : H p = none := I.hok.fresh hp
  have es : s' = { s with heap := s'.heap, gens := s'.gens, drawn := s'.drawn, toks := s'.toks } := by
    obtain ⟨h', g', d', t', o'⟩ := s'
    have o : o' = s.os := o
    rw [o]
  have J : Inv X pins σ (upd H p (.lst ((sortI (dedupI ss)).map V.int))) { s with heap := s'.heap, gens := s'.gens, drawn := s'.drawn, toks := s'.toks } :=
    I.call (ch := []) (Un.laid k hp un) (I.hok.laid k hp ⟨ulen, _, c', vals_of_ints h1, ug⟩) (by rw [g]; exact I.bare) (fun _ z => nomatch z)
  rw [es]
  exact ⟨.ref p, _, J, rfl, q p un⟩
theorem boot_sortedA : bootBuiltins "sorted" = some (.builtin "sorted") := by decide +kernel
theorem pe_ssetA {a : Expr} {f : E2} {p p2 q pos : Pos} (hK : X.K = Z.K) (hc : X.calm = true) (ug : Gl X "sorted") (um : X.mg "sorted" = none) (hg2 : Gl X "set") (hm2 : X.mg "set" = none) (ha : SE Z W X a f) (ns : noStar a = true) :
    PE X (.Call (.Name "sorted" p) [.Call (.Name "set" p2) [a] [] q] [] pos) (tof Z W fun A => Rs.bind (f.d A) fun x A1 => toR A1 (ssetD x)) := by
  refine pe_imp (pe_ofSet (x := "") (y := "") (Qs := fun _ H Q ss => ss.length < 64 ∧ ∀ p, H p = none → Q (.ref p) (upd H p (.lst ((sortS (dedupS ss)).map V.str)))) (Qi := fun _ H Q is => is.length < 64 ∧ ∀ p, H p = none → Q (.ref p) (upd H p (.lst ((sortI (dedupI is)).map V.int)))) hc ug um boot_sortedA (by decide +kernel) (by decide +kernel) hg2 hm2 ha.d ns (fun _ _ => trivial)
    (fun pins s σ H Q ss a c I R _ q => sort_setS hc I R q.1 q.2)
    (fun pins s σ H Q ss a c I R _ q => sort_setI hc I R q.1 q.2)) fun σ H Q q => ?_
  obtain ⟨G, A, s, q⟩ := q
  refine tofG.bind s sh_R q fun x A1 v G1 H1 s1 c1 r1 h1 => ?_
  have r1 : Rep Z G1 x v := r1
  have h1 : tofS Z W (RR Z) (toR A1 (ssetD x)) σ A1 G1 H1 Q := h1
  unfold ssetD at h1
  cases e : seqD x with
  | none => rw [e] at h1; exact h1.elim
  | some ds =>
    rw [e] at h1
    dsimp only at h1
    split at h1
    · rename_i hl
      obtain ⟨l, xs, rfl, hs, rs⟩ := seq_rep e r1
      have hs' : SqL X.K H1 l xs ∨ SqT X.K H1 l xs := by
        rw [hK]
        rcases hs with hs | hs
        · exact .inr (s1.sub.sqt hs)
        · exact .inl (s1.sub.sql hs)
      cases ei : intsD ds with
      | some is =>
        rw [ei] at h1
        have h1 : Fin Z σ A1 G1 H1 (RR Z) (.o (.l ((sortI (dedupI is)).map .int))) Q := h1
        rw [intsD_rep ei rs] at hs'
        have il := intsD_len ei
        exact ⟨l, rfl, .inr ⟨is, hs', by omega, by omega, h1.lst s1 (reps_int _)⟩⟩
      | none =>
        rw [ei] at h1
        dsimp only at h1
        cases es : strsD ds with
        | none => rw [es] at h1; exact h1.elim
        | some ss =>
          rw [es] at h1
          have h1 : Fin Z σ A1 G1 H1 (RR Z) (.o (.l ((sortS (dedupS ss)).map .str))) Q := h1
          rw [strsD_rep es rs] at hs'
          have il := strsD_len es
          exact ⟨l, rfl, .inl ⟨ss, hs', by omega, by omega, h1.lst s1 (reps_str _)⟩⟩
    · exact h1.elim
end
end AI
/-! Statements. -/
namespace AI
open PySem PySem.Spec L2
open PyProof.Rows hiding St
/-- a statement's change; Bs: the places that are lent -/
structure ChS (Bs : List Nat) (σ : St) (A : As) (σ' : St) (A' : As) (G H G' H' : Hp) : Prop where
  sub : Sub G G'
  keep : ∀ b o, H b = some o → ¬ Own σ A b → H' b = some o
  own : ∀ b, Own σ' A' b → Own σ A b ∨ H b = none
  dom : ∀ b o, H b = some o → ∃ u, H' b = some u
  lim : ∀ b o, G' b = some o → (∃ u, G b = some u) ∨ H b = none ∨ Own σ A b
  same : ∀ i ∈ Bs, σ'[i]? = σ[i]?
  sl : ∀ i ∈ Bs, ∀ b, A'[i]? = some (.o b) → ∃ c, A[i]? = some (.o c)
  st : ∀ i ∈ Bs, ∀ (c : Ob) (p : Addr), A[i]? = some (.o c) → σ[i]? = some (some (.ref p)) → (∃ c', A'[i]? = some (.o c')) ∨ ∃ u, G' p = some u
  len : σ'.length = σ.length
section
variable {Z : Zt} {W : WX} {X : Cx} {G H G1 H1 G2 H2 G' H' : Hp} {σ σ' σ1 σ2 : St} {A A' A1 A2 B : As} {Bs : List Nat} {p : Addr} {o : HO}
theorem Ch.toS (c : Ch σ A A' G H G' H') : ChS Bs σ A σ A' G H G' H' :=
  ⟨c.sub, c.keep, fun b h => .inl (c.own b h), c.dom, c.lim, fun _ _ => rfl, fun i _ b h => c.sl i b h, fun i _ c' p h a => c.st i c' p h a, rfl⟩
theorem ChS.refl : ChS Bs σ A σ A G H G H := Ch.refl.toS
theorem ChS.trans (a : ChS Bs σ A σ1 A1 G H G1 H1) (b : ChS Bs σ1 A1 σ2 A2 G1 H1 G2 H2) : ChS Bs σ A σ2 A2 G H G2 H2 where
  sub := a.sub.trans b.sub
  keep := fun c o h n => b.keep c o (a.keep c o h n) fun z => by
    rcases a.own c z with q | q
    · exact n q
    · rw [h] at q; cases q
  own := fun c h => by
    rcases b.own c h with q | q
    · exact a.own c q
    · right
      cases e : H c with
      | none => rfl
      | some u =>
        obtain ⟨w, z⟩ := a.dom c u e
        rw [q] at z; cases z
  dom := fun c o h => by
    obtain ⟨u, e⟩ := a.dom c o h
    exact b.dom c u e
  lim := fun c o h => by
    rcases b.lim c o h with ⟨u, z⟩ | z | z
    · exact a.lim c u z
    · by_cases q : Own σ A c
      · exact .inr (.inr q)
      · cases e : H c with
        | none => exact .inr (.inl rfl)
        | some u => rw [a.keep c u e q] at z; cases z
    · rcases a.own c z with z | z
      · exact .inr (.inr z)
      · exact .inr (.inl z)
  same := fun i h => (b.same i h).trans (a.same i h)
  sl := fun i m b' h => by
    obtain ⟨c, e⟩ := b.sl i m b' h
    exact a.sl i m c e
  st := fun i m c p h q => by
    rcases a.st i m c p h q with ⟨d, e⟩ | ⟨u, e⟩
    · exact b.st i m d p e (by rw [a.same i m]; exact q)
    · exact .inr ⟨u, b.sub p u e⟩
  len := b.len.trans a.len
/-- a value that is handed back -/
def RO (Z : Zt) (σ : St) (A : As) (σ' : St) (A' : As) (H G' H' : Hp) (r : R) (v : V) : Prop := match r with
  | .v d => Rep Z G' d v
  | .o b => ∃ p o, v = .ref p ∧ G' p = none ∧ H' p = some o ∧ OR Z G' b o ∧ ¬ Own σ' A' p ∧ (H p = none ∨ Own σ A p)
def tofO (Z : Zt) (W : WX) (Bs : List Nat) (x : Option Ot) (σ : St) (A : As) (G H : Hp) (D : Ends) : Prop := match x with
  | none => False
  | some (.nx A') => ∀ σ' G' H', StR Z G' H' σ' A' → ChS Bs σ A σ' A' G H G' H' → D.nx σ' H'
  | some (.bk A') => ∀ σ' G' H', StR Z G' H' σ' A' → ChS Bs σ A σ' A' G H G' H' → D.bk σ' H'
  | some (.ct A') => ∀ σ' G' H', StR Z G' H' σ' A' → ChS Bs σ A σ' A' G H G' H' → D.ct σ' H'
  | some (.rt r A') => ∀ v σ' G' H', StR Z G' H' σ' A' → ChS Bs σ A σ' A' G H G' H' → RO Z σ A σ' A' H G' H' r v → D.rt v H'
  | some (.ex c fs A') => ∀ dx σ' G' H', StR Z G' H' σ' A' → ChS Bs σ A σ' A' G H G' H' → XD Z G' H' fs dx → W (.ref (Z.ca c)) dx σ' H'
abbrev tofS' (Z : Zt) (W : WX) (Bs : List Nat) (f : As → Option Ot) : TS := fun D σ H => ∃ G A, StR Z G H σ A ∧ tofO Z W Bs (f A) σ A G H D
theorem RO.shift {r : R} {v : V} (c : ChS Bs σ A σ1 A1 G H G1 H1) (h : RO Z σ1 A1 σ' A' H1 G' H' r v) : RO Z σ A σ' A' H G' H' r v := by
  cases r with
  | v d => exact h
  | o b =>
    obtain ⟨p, o, e, g, hp, r, n, q⟩ := h
    refine ⟨p, o, e, g, hp, r, n, ?_⟩
    rcases q with q | q
    · left
      cases e : H p with
      | none => rfl
      | some u =>
        obtain ⟨w, z⟩ := c.dom p u e
        rw [q] at z; cases z
    · rcases c.own p q with z | z
      · exact .inr z
      · exact .inl z
theorem tofO.shift {x : Option Ot} {D : Ends} (h : tofO Z W Bs x σ A G H D) (c : ChS Bs σ A σ1 A1 G H G1 H1) : tofO Z W Bs x σ1 A1 G1 H1 D := by
  cases x with
  | none => exact h
  | some x =>
    cases x with
    | nx A' => exact fun σ' G' H' s c' => h σ' G' H' s (c.trans c')
    | bk A' => exact fun σ' G' H' s c' => h σ' G' H' s (c.trans c')
    | ct A' => exact fun σ' G' H' s c' => h σ' G' H' s (c.trans c')
    | rt r A' => exact fun v σ' G' H' s c' r => h v σ' G' H' s (c.trans c') (r.shift c)
    | ex k fs A' => exact fun dx σ' G' H' s c' x => h dx σ' G' H' s (c.trans c') x
/-- an expression, then on -/
theorem tofO.of {γ δ : Type} {RS : Hp → Hp → Hp → γ → δ → Prop} {y : As → Option (Rs γ)} {g : γ → As → Option Ot} {Q1 : δ → Hp → Prop} {D : Ends} (s : StR Z G H σ A) (h : tofO Z W Bs (Ot.of (y A) g) σ A G H D)
    (k : ∀ (a : γ) (A1 : As) (v : δ) (G1 H1 : Hp), StR Z G1 H1 σ A1 → Ch σ A A1 G H G1 H1 → RS H G1 H1 a v → tofO Z W Bs (g a A1) σ A G H D → Q1 v H1) : tofG Z W RS y σ H Q1 := by
  refine ⟨G, A, s, ?_⟩
  cases e : y A with
  | none => rw [e] at h; exact h.elim
  | some z =>
    rw [e] at h
    cases z with
    | ok a A' => exact fun v G' H' s c r => k a A' v G' H' s c r h
    | ex c fs A' => exact fun dx G' H' s' c' x => h dx σ G' H' s' c'.toS x
/-! ### one after another -/
theorem pss_nilA : PSs X [] (tofS' Z W Bs fun A => some (.nx A)) := pss_imp pss_nil fun D σ H q => by
  obtain ⟨G, A, s, q⟩ := q
  exact q σ G H s .refl
theorem pss_consA {st : Stmt} {sts : List Stmt} {f g : As → Option Ot} (h1 : PS X st (tofS' Z W Bs f)) (h2 : PSs X sts (tofS' Z W Bs g)) : PSs X (st :: sts) (tofS' Z W Bs fun A => match f A with
    | some (.nx A1) => g A1
    | x => x) := pss_imp (pss_cons h1 h2) fun D σ H q => by
  obtain ⟨G, A, s, q⟩ := q
  refine ⟨G, A, s, ?_⟩
  dsimp only at q
  cases e : f A with
  | none => rw [e] at q; exact q.elim
  | some x =>
    rw [e] at q
    cases x with
    | nx A' => exact fun σ' G' H' s' c => ⟨G', A', s', q.shift c⟩
    | bk A' => exact q
    | ct A' => exact q
    | rt r A' => exact q
    | ex k fs A' => exact q
theorem ps_passA {pos : Pos} : PS X (.Pass pos) (tofS' Z W Bs fun A => some (.nx A)) := ps_imp ps_pass fun D σ H q => by
  obtain ⟨G, A, s, q⟩ := q
  exact q σ G H s .refl
theorem ps_docA {x : Str} {j} {pos pos' : Pos} : PS X (.Expr (.Constant (.str x) j pos) pos') (tofS' Z W Bs fun A => some (.nx A)) := ps_imp ps_doc fun D σ H q => by
  obtain ⟨G, A, s, q⟩ := q
  exact q σ G H s .refl
theorem ps_brkA {pos : Pos} : PS X (.Break pos) (tofS' Z W Bs fun A => some (.bk A)) := ps_imp ps_break fun D σ H q => by
  obtain ⟨G, A, s, q⟩ := q
  exact q σ G H s .refl
theorem ps_contA {pos : Pos} : PS X (.Continue pos) (tofS' Z W Bs fun A => some (.ct A)) := ps_imp ps_continue fun D σ H q => by
  obtain ⟨G, A, s, q⟩ := q
  exact q σ G H s .refl
theorem ps_retnA {pos : Pos} : PS X (.Return none pos) (tofS' Z W Bs fun A => some (.rt (.v .non) A)) := ps_imp ps_retN fun D σ H q => by
  obtain ⟨G, A, s, q⟩ := q
  exact q .non σ G H s .refl (show Rep Z G .non .non by unfold Rep; rfl)
theorem ps_exprA {e : Expr} {f : E2} {pos : Pos} (he : SE Z W X e f) (hs : swapsWith e none pos.line X.env = pure false) : PS X (.Expr e pos) (tofS' Z W Bs fun A => Ot.of (f.v A) fun _ A1 => some (.nx A1)) := ps_imp (ps_expr he.v hs) fun D σ H q => by
  obtain ⟨G, A, s, q⟩ := q
  exact tofO.of s q fun a A1 v G1 H1 s1 c1 r1 h1 => h1 σ G1 H1 s1 c1.toS
theorem ps_ifA {c : Expr} {a b : List Stmt} {k : E2} {f g : As → Option Ot} {pos : Pos} (hc : SE Z W X c k) (ha : PSs X a (tofS' Z W Bs f)) (hb : PSs X b (tofS' Z W Bs g)) : PS X (.If c a b pos) (tofS' Z W Bs fun A => Ot.of (k.t A) fun t A1 => if t then f A1 else g A1) :=
  ps_imp (ps_if hc.t ha hb) fun D σ H q => by
    obtain ⟨G, A, s, q⟩ := q
    refine tofO.of s q fun t A1 v G1 H1 s1 c1 r1 h1 => ?_
    have r1 : v = t := r1
    subst r1
    have h2 := h1.shift c1.toS
    cases v with
    | true =>
      rw [if_pos rfl] at h2 ⊢
      exact ⟨G1, A1, s1, h2⟩
    | false =>
      rw [if_neg (by decide)] at h2 ⊢
      exact ⟨G1, A1, s1, h2⟩
/-! ### names -/
theorem StR.storeO {i : Nat} {b : Ob} (s : StR Z G H σ A) (hi : i < A.length) (g : G p = none) (h : H p = some o) (r : OR Z G b o) (n : ¬ Own σ A p) : StR Z G H (σ.set i (some (.ref p))) (A.set i (.o b)) := by
  have hs : i < σ.length := by rw [s.len]; exact hi
  have get : ∀ {j : Nat} {c : Ob} {q : Addr}, (A.set i (.o b))[j]? = some (.o c) → (σ.set i (some (.ref p)))[j]? = some (some (.ref q)) → (j = i ∧ q = p) ∨ (j ≠ i ∧ A[j]? = some (.o c) ∧ σ[j]? = some (some (.ref q))) := fun {j c q} e a => by
    by_cases z : j = i
    · subst z
      rw [List.getElem?_set_self hs] at a
      exact .inl ⟨rfl, (V.ref.inj (Option.some.inj (Option.some.inj a))).symm⟩
    · rw [List.getElem?_set_ne (Ne.symm z)] at e a
      exact .inr ⟨z, e, a⟩
  refine ⟨s.sub, by rw [List.length_set, List.length_set]; exact s.len, fun j e q => ?_, fun j c q => ?_, fun j k c d q e1 e2 a1 a2 => ?_⟩
  · have z : j ≠ i := fun z => by
      subst z
      rw [List.getElem?_set_self hi] at q
      cases q
    rw [List.getElem?_set_ne (Ne.symm z)] at q ⊢
    exact s.val j e q
  · by_cases z : j = i
    · subst z
      rw [List.getElem?_set_self hi] at q
      cases q
      exact ⟨p, o, List.getElem?_set_self hs, g, h, r⟩
    · rw [List.getElem?_set_ne (Ne.symm z)] at q ⊢
      exact s.own j c q
  · rcases get e1 a1 with ⟨z1, y1⟩ | ⟨z1, f1, b1⟩
    · rcases get e2 a2 with ⟨z2, y2⟩ | ⟨z2, f2, b2⟩
      · rw [z1, z2]
      · subst y1; exact (n ⟨k, d, f2, b2⟩).elim
    · rcases get e2 a2 with ⟨z2, y2⟩ | ⟨z2, f2, b2⟩
      · subst y2; exact (n ⟨j, c, f1, b1⟩).elim
      · exact s.inj j k c d q f1 f2 b1 b2
/-- what a store leaves, told from before the value was made -/
theorem store_new {i : Nat} {r : R} {v : V} (s : StR Z G H σ A) (s1 : StR Z G1 H1 σ1 A1) (c1 : ChS Bs σ A σ1 A1 G H G1 H1) (rr : RR Z H G1 H1 r v) (no : ∀ b p, r = .o b → v = .ref p → H p = none → ¬ Own σ1 A1 p) (h : Bs.contains i = false) (hi : i < A1.length) :
    StR Z G1 H1 (σ1.set i (some v)) (A1.set i r.sl) ∧ ChS Bs σ A (σ1.set i (some v)) (A1.set i r.sl) G H G1 H1 := by
  have nb : ∀ j ∈ Bs, j ≠ i := fun j m z => by
    subst z
    have : Bs.contains j = true := List.contains_iff_mem.mpr m
    rw [h] at this; cases this
  have same : ∀ j ∈ Bs, (σ1.set i (some v))[j]? = σ[j]? := fun j m => by rw [List.getElem?_set_ne (Ne.symm (nb j m))]; exact c1.same j m
  have aa : ∀ j ∈ Bs, (A1.set i r.sl)[j]? = A1[j]? := fun j m => by rw [List.getElem?_set_ne (Ne.symm (nb j m))]
  have fin : StR Z G1 H1 (σ1.set i (some v)) (A1.set i r.sl) → (∀ b, Own (σ1.set i (some v)) (A1.set i r.sl) b → Own σ1 A1 b ∨ H b = none) → StR Z G1 H1 (σ1.set i (some v)) (A1.set i r.sl) ∧ ChS Bs σ A (σ1.set i (some v)) (A1.set i r.sl) G H G1 H1 := fun s2 o2 =>
    ⟨s2, c1.sub, c1.keep, fun b z => by
      rcases o2 b z with z | z
      · exact c1.own b z
      · exact .inr z, c1.dom, c1.lim, same, fun j m b z => c1.sl j m b (by rw [← aa j m]; exact z), fun j m c p e a => by
      rcases c1.st j m c p e a with ⟨d, z⟩ | z
      · exact .inl ⟨d, by rw [aa j m]; exact z⟩
      · exact .inr z, by rw [List.length_set]; exact c1.len⟩
  cases r with
  | v d =>
    obtain ⟨s2, t⟩ := s1.store hi rr
    exact fin s2 fun b z => .inl (t.own b z)
  | o b =>
    obtain ⟨p, o, rfl, n, g, hp, r⟩ := rr
    refine fin (s1.storeO hi g hp r (no b p rfl rfl n)) fun q ⟨j, c, e, a⟩ => ?_
    by_cases z : j = i
    · subst z
      rw [List.getElem?_set_self (by rw [s1.len]; exact hi)] at a
      have a := V.ref.inj (Option.some.inj (Option.some.inj a))
      subst a
      exact .inr n
    · rw [List.getElem?_set_ne (Ne.symm z)] at e a
      exact .inl ⟨j, c, e, a⟩
theorem not_in {i : Nat} (h : i ∉ Bs) : Bs.contains i = false := by
  cases q : Bs.contains i with
  | false => rfl
  | true => exact (h (List.contains_iff_mem.mp q)).elim
theorem nxo_ok {x : Option As} {D : Ends} (h : tofO Z W Bs (nxo x) σ A G H D) : ∃ A', x = some A' ∧ ∀ σ' G' H', StR Z G' H' σ' A' → ChS Bs σ A σ' A' G H G' H' → D.nx σ' H' := by
  cases x with
  | none => exact h.elim
  | some A' => exact ⟨A', rfl, h⟩
theorem asg_name {i : Nat} {f : As → Option (Rs R)} {D : Ends} (s : StR Z G H σ A) (q : tofO Z W Bs (Ot.of (f A) fun r A1 => nxo (store Bs i r.sl A1)) σ A G H D) : tof Z W f σ H fun v H1 => D.nx (σ.set i (some v)) H1 := by
  refine tofO.of s q fun r A1 v G1 H1 s1 c1 r1 h1 => ?_
  obtain ⟨A2, e, h2⟩ := nxo_ok h1
  obtain ⟨e1, e2, rfl⟩ := store_inv e
  obtain ⟨s2, c2⟩ := store_new s s1 c1.toS r1 (fun _ p _ _ n z => s.notOwn n (c1.own p z)) (not_in e1) e2
  exact h2 _ _ _ s2 c2
theorem ps_asgA {i : Nat} {x : Str} {e : Expr} {f : E2} {pos pos' : Pos} (nd : X.N.Nodup) (hi : X.N[i]? = some x) (hx : Loc X.env.scope x) (he : SE Z W X e f) (hs : swapsWith e (some (.Name x pos')) pos.line X.env = pure false) (hf : X.fn x = true ∨ X.env.scope.names.lookup x = some .local) :
    PS X (.Assign [.Name x pos'] e pos) (tofS' Z W Bs fun A => Ot.of (f.v A) fun r A1 => nxo (store Bs i r.sl A1)) := ps_imp (ps_set nd hi hx he.v hs hf) fun D σ H q => by
  obtain ⟨G, A, s, q⟩ := q
  exact asg_name s q
theorem ps_asgLc {i : Nat} {y : Str} {py : Pos} {elt tg it : Expr} {ifs : List Expr} {scope : Scope} {own : List (Str × Nat)} {pos spos : Pos} {src : As → Option (Rs (List D))} {ti : Tg} {fe : E2} {fc : Option E2}
    (hc : X.calm = true) (nd : X.N.Nodup) (hy : X.N[i]? = some y) (hyl : X.env.scope.names.lookup y = some .local) (hsw : swapsWith (.ListComp elt [⟨tg, it, ifs, 0⟩] scope pos) (some (.Name y py)) spos.line X.env = pure true) (hi : PI X tg it (tofI Z W src)) (ok : BlkOk X.N X.env.scope scope own)
    (hg : ∀ (s : Shared) (H : Hp) (C : Addr) (cl : List (Str × Addr)) (fp : List Addr), PG (X.blk s H scope (compEnvC scope cl C X.env) fp) tg (tofT Z [] ti))
    (ht : ∀ (s : Shared) (H : Hp) (C : Addr) (cl : List (Str × Addr)) (fp : List Addr), PTs (X.blk s H scope (compEnvC scope cl C X.env) fp) ifs (tofb Z W0 (evc fc)))
    (he : ∀ (s : Shared) (H : Hp) (C : Addr) (cl : List (Str × Addr)) (fp : List Addr), PE (X.blk s H scope (compEnvC scope cl C X.env) fp) elt (tofd Z W0 fe.d))
    (hs : ∀ x, foldedSetIterable it X.env x = pure x) (sub : ∀ i ∈ tgs ti, i ∈ own.map (·.2)) :
    PS X (.Assign [.Name y py] (.ListComp elt [⟨tg, it, ifs, 0⟩] scope pos) spos) (tofS' Z W Bs fun A => Ot.of (compA src ti fe fc (own.map (·.2)) A) fun r A1 => nxo (store Bs i r.sl A1)) :=
  ps_imp (ps_setLc hc nd hy hyl hsw hi ok hg ht he hs) fun D σ H q => by
    obtain ⟨G, A, s, q⟩ := q
    exact tlc_of sub (asg_name s q)
/-! ### targets -/
mutual
theorem asgT_out : ∀ {tg : Tg} {d : D} {A A' : As}, asgT Bs tg d A = some A' → ∀ i ∈ Bs, i ∉ tgs tg
  | .n j, d, A, A', h => fun i m z => by
    unfold asgT at h
    obtain ⟨e, _, _⟩ := store_inv h
    have : i = j := by simpa [tgs] using z
    subst this
    exact e m
  | .t ts, d, A, A', h => fun i m z => by
    unfold asgT at h
    split at h
    · exact asgTs_out h i m z
    · exact asgTs_out h i m z
    · cases h
theorem asgTs_out : ∀ {ts : List Tg} {ds : List D} {A A' : As}, asgTs Bs ts ds A = some A' → ∀ i ∈ Bs, i ∉ tgss ts
  | [], [], A, A', h => fun i m z => by simp [tgss] at z
  | [], _ :: _, _, _, h => by unfold asgTs at h; cases h
  | _ :: _, [], _, _, h => by unfold asgTs at h; cases h
  | t :: ts, d :: ds, A, A', h => fun i m z => by
    unfold asgTs at h
    split at h
    · rename_i A1 e
      rcases List.mem_append.mp z with z | z
      · exact asgT_out e i m z
      · exact asgTs_out h i m z
    · cases h
end
theorem TgR.toS {l : List Nat} (t : TgR l σ A σ' A') (n : ∀ i ∈ Bs, i ∉ l) (hl : σ'.length = σ.length) : ChS Bs σ A σ' A' G H G H :=
  ⟨.refl _, fun _ _ h _ => h, fun b h => .inl (t.own b h), fun _ o h => ⟨o, h⟩, fun _ o h => .inl ⟨o, h⟩, fun i m => (t.same i (n i m)).1, fun i m b h => ⟨b, by rw [← (t.same i (n i m)).2]; exact h⟩, fun i m c _ h _ => .inl ⟨c, by rw [(t.same i (n i m)).2]; exact h⟩, hl⟩
theorem ps_asgTA {tg e : Expr} {ti : Tg} {f : E2} {pos : Pos} (he : SE Z W X e f) (hg : PG X tg (tofT Z Bs ti)) (hs : swapsWithSole [tg] e pos.line X.env = pure false) (hw : swappedStores [tg] e X.env = pure none)
    (h1 : (assignEach [tg] X.env).map (·.2) = [assign tg X.env]) : PS X (.Assign [tg] e pos) (tofS' Z W Bs fun A => Ot.of (f.d A) fun d A1 => nxo (asgT Bs ti d A1)) := ps_imp (ps_asg he.d hg hs hw h1) fun D σ H q => by
  obtain ⟨G, A, s, q⟩ := q
  refine tofO.of s q fun d A1 v G1 H1 s1 c1 r1 h1 => ?_
  obtain ⟨A2, e, h2⟩ := nxo_ok h1
  exact ⟨G1, A1, d, A2, s1, r1, e, fun σ' s2 t => h2 σ' G1 H1 s2 (c1.toS.trans (t.toS (asgT_out e) (by rw [s2.len, s1.len, asgT_len e])))⟩
/-- a, b = x, y -/
theorem ps_parA {i j : Nat} {x y : Str} {a b : Expr} {f g : E2} {px py pt pos : Pos} {kt k2 : Nat} {pt2 : Pos} (hc : X.calm = true) (nd : X.N.Nodup) (hi : X.N[i]? = some x) (hj : X.N[j]? = some y) (hij : i ≠ j)
    (hx : X.env.scope.names.lookup x = some .local) (hy : X.env.scope.names.lookup y = some .local) (ha : SE Z W X a f) (hb : SE Z W X b g) (na : noStar a = true) (nb : noStar b = true)
    (hw : swappedStores [.Tuple [.Name x px, .Name y py] kt pt] (.Tuple [a, b] k2 pt2) X.env = pure (some [x, y])) :
    PS X (.Assign [.Tuple [.Name x px, .Name y py] kt pt] (.Tuple [a, b] k2 pt2) pos) (tofS' Z W Bs fun A => Ot.of (f.v A) fun x A1 => Ot.of (g.v A1) fun y A2 => (match store Bs i x.sl A2 with
      | some A3 => nxo (store Bs j y.sl A3)
      | none => none)) :=
  ps_imp (ps_par hc nd hi hj hij hx hy (pa_cons ha.v (pa_cons hb.v pa_nil (star_no nb)) (star_no na)) hw rfl) fun D σ H q => by
    obtain ⟨G, A, s, q⟩ := q
    refine tofO.of s q fun r1 A1 v G1 H1 s1 c1 q1 h1 => ?_
    refine ⟨G1, A1, s1, ?_⟩
    cases e : g.v A1 with
    | none => rw [e] at h1; exact h1.elim
    | some z =>
      rw [e] at h1
      cases z with
      | ex c fs A' => exact fun dx G' H' s' c' x => h1 dx σ G' H' s' (c1.trans c').toS x
      | ok r2 A2 =>
        intro w G2 H2 s2 c2 q2
        refine ⟨v, w, rfl, ?_⟩
        have h1 : tofO Z W Bs (match store Bs i r1.sl A2 with
          | some A3 => nxo (store Bs j r2.sl A3)
          | none => none) σ A G H D := h1
        cases e3 : store Bs i r1.sl A2 with
        | none => rw [e3] at h1; exact h1.elim
        | some A3 =>
          rw [e3] at h1
          obtain ⟨A4, e4, h4⟩ := nxo_ok h1
          obtain ⟨a1, a2, rfl⟩ := store_inv e3
          obtain ⟨b1, b2, rfl⟩ := store_inv e4
          have c12 := c1.trans c2
          have no : ∀ p, H p = none → ¬ Own σ A2 p := fun p n z => s.notOwn n (c12.own p z)
          obtain ⟨s3, c3⟩ := store_new s s2 c12.toS (RR.keep s q1 c1 c2) (fun _ p _ _ n => no p n) (not_in a1) a2
          have q2' : RR Z H G2 H2 r2 w := sh_R H H1 G2 H2 r2 w c1.dom q2
          refine h4 _ _ _ (store_new s s3 c3 q2' (fun b2 p eb e n z => ?_) (not_in b1) b2).1 (store_new s s3 c3 q2' (fun b2 p eb e n z => ?_) (not_in b1) b2).2
          all_goals
            subst e
            obtain ⟨k, c, y1, y2⟩ := z
            by_cases zz : k = i
            · subst zz
              rw [List.getElem?_set_self (by rw [s2.len]; exact a2)] at y2
              rw [List.getElem?_set_self a2] at y1
              have y2 := Option.some.inj (Option.some.inj y2)
              subst y2
              cases r1 with
              | v d => cases y1
              | o b1 =>
                obtain ⟨p1, o1, ep, _, _, hp1, _⟩ := q1
                cases ep
                subst eb
                obtain ⟨p2, o2, ep2, n2, _⟩ := q2
                cases ep2
                rw [hp1] at n2; cases n2
            · rw [List.getElem?_set_ne (Ne.symm zz)] at y1 y2
              exact no p n ⟨k, c, y1, y2⟩
end
end AI
/-! Stores into lists, returns, loops, defs. -/
namespace AI
open PySem PySem.Spec L2
open PyProof.Rows hiding St
section
variable {Z : Zt} {W : WX} {X : Cx} {G H G1 H1 G2 H2 G' H' : Hp} {σ σ' σ1 σ2 : St} {A A' A1 A2 B : As} {Bs : List Nat} {p : Addr} {o : HO}
theorem ps_setixA {i : Nat} {x : Str} {b e : Expr} {f g : E2} {p pos' pos : Pos} (hN : X.N[i]? = some x) (hv : Vis X.env.scope x) (hd : (x == ("__debug__" : Str)) = false) (hcd : (x == ("__classdict__" : Str)) = false)
    (hb : SE Z W X b g) (he : SE Z W X e f) (hsw : swapsWithSole [.Subscript (.Name x p) b pos'] e pos.line X.env = pure false) (hw : swappedStores [.Subscript (.Name x p) b pos'] e X.env = pure none)
    (ha : ∀ v, assign (.Subscript (.Name x p) b pos') X.env v = (do
      let ov ← holding [v] (eval (.Name x p) X.env)
      let iv ← holding [v, ov] (eval b X.env)
      standAt pos'
      holding [v, ov, iv] (setItem ov iv v)
      release [v, ov, iv] []))
    (h1 : (assignEach [.Subscript (.Name x p) b pos'] X.env).map (·.2) = [assign (.Subscript (.Name x p) b pos') X.env]) :
    PS X (.Assign [.Subscript (.Name x p) b pos'] e pos) (tofS' Z W Bs fun A => Ot.of (f.d A) fun y A1 => if ownL A1 i then Ot.of (g.d A1) fun k A2 => putA i k y A2 else none) :=
  ps_imp (ps_asg he.d (pg_sub (pe_var hN hv hd hcd) hb.d set_list ha) hsw hw h1) fun D σ H q => by
    obtain ⟨G, A, s, q⟩ := q
    refine tofO.of s q fun y A1 v G1 H1 s1 c1 r1 h1 => ?_
    have r1 : Rep Z G1 y v := r1
    cases eo : ownL A1 i with
    | false => rw [eo] at h1; exact h1.elim
    | true =>
      rw [eo, if_pos rfl] at h1
      obtain ⟨ds0, p0, xs0, _, a0, _⟩ := ownL_inv s1 eo
      refine ⟨_, a0, G1, A1, s1, ?_⟩
      cases e0 : g.d A1 with
      | none => rw [e0] at h1; exact h1.elim
      | some z =>
        rw [e0] at h1
        cases z with
        | ex c fs A2 => exact fun dx G' H' s' c' x => h1 dx σ G' H' s' (c1.trans c').toS x
        | ok k A2 =>
          intro kv G2 H2 s2 c2 rk
          have rk : Rep Z G2 k kv := rk
          have h1 : tofO Z W Bs (putA i k y A2) σ A G H D := h1
          obtain ⟨ds, n, m, e3, rfl, em, h1⟩ : ∃ (ds : List AI.D) (n : Int) (m : Nat), A2[i]? = some (.o (.l ds)) ∧ k = .int n ∧ ixN ds.length n = some m ∧ tofO Z W Bs (some (.nx (A2.set i (.o (.l (ds.set m y)))))) σ A G H D := by
            unfold putA at h1
            split at h1
            · split at h1
              · exact ⟨_, _, _, by assumption, rfl, by assumption, h1⟩
              · exact h1.elim
            · exact h1.elim
          obtain ⟨p1, o1, a1, g1, hp1, xs, rfl, rx⟩ := s2.own i _ e3
          rw [a0] at a1
          cases a1
          have ek : kv = .int n := by unfold Rep at rk; exact rk
          subst ek
          refine ⟨p0, xs, n, m, rfl, rfl, hp1, by rw [rx.len]; exact em, ?_⟩
          have ry : OR Z G2 (.l (ds.set m y)) (.lst (xs.set m v)) := ⟨_, rfl, rx.set m (Rep.mono c2.sub r1)⟩
          exact h1 σ G2 _ (s2.writeAt e3 a0 ry) (((c1.trans c2).trans (Ch.writeAt e3 a0)).toS)
theorem ps_retA {e : Expr} {f : E2} {pos : Pos} (he : SE Z W X e f) : PS X (.Return (some e) pos) (tofS' Z W Bs fun A => Ot.of (f.v A) fun r A1 => some (.rt r A1)) := ps_imp (ps_ret he.v) fun D σ H q => by
  obtain ⟨G, A, s, q⟩ := q
  refine tofO.of s q fun r A1 v G1 H1 s1 c1 r1 h1 => h1 v σ G1 H1 s1 c1.toS ?_
  cases r with
  | v d => exact r1
  | o b =>
    obtain ⟨p, o, e, n, g, hp, r⟩ := r1
    exact ⟨p, o, e, g, hp, r, fun z => s.notOwn n (c1.own p z), .inl n⟩
theorem ps_retV {i : Nat} {x : Str} {p pos : Pos} (hN : X.N[i]? = some x) (hv : Vis X.env.scope x) (hd : (x == ("__debug__" : Str)) = false) (hcd : (x == ("__classdict__" : Str)) = false) :
    PS X (.Return (some (.Name x p)) pos) (tofS' Z W Bs fun A => Ot.of (match A[i]? with
      | some (.v d) => some (.ok (.v d) A)
      | some (.o b) => if i ∈ Bs then some (.ok (.v b.dd) (A.set i (.v b.dd))) else some (.ok (.o b) (A.set i .no))
      | _ => none) fun r A1 => some (.rt r A1)) := ps_imp (ps_ret (pe_var hN hv hd hcd)) fun D σ H q => by
  obtain ⟨G, A, s, q⟩ := q
  dsimp only at q
  cases e : A[i]? with
  | none => rw [e] at q; exact q.elim
  | some x =>
    rw [e] at q
    cases x with
    | no => exact q.elim
    | v d =>
      obtain ⟨v, a, r⟩ := s.val i d e
      exact ⟨v, a, q v σ G H s .refl r⟩
    | o b =>
      dsimp only at q
      by_cases m : i ∈ Bs
      · rw [if_pos m] at q
        obtain ⟨p, G', a, s', c, r⟩ := s.freezeAt e
        exact ⟨_, a, q _ σ G' H s' c.toS r⟩
      · rw [if_neg m] at q
        obtain ⟨p, o, a, g, hp, r⟩ := s.own i b e
        have hi : i < A.length := (List.getElem?_eq_some_iff.mp e).1
        have ne : ∀ {j : Nat} {c : Ob}, (A.set i .no)[j]? = some (.o c) → j ≠ i := fun {j c} h z => by
          subst z
          rw [List.getElem?_set_self hi] at h
          cases h
        have get : ∀ {j : Nat} {c : Sl}, j ≠ i → (A.set i .no)[j]? = some c → A[j]? = some c := fun {j c} n h => by
          rw [List.getElem?_set_ne (Ne.symm n)] at h; exact h
        have s' : StR Z G H σ (A.set i .no) := ⟨s.sub, by rw [List.length_set]; exact s.len, fun j d h => by
            by_cases z : j = i
            · subst z
              rw [List.getElem?_set_self hi] at h
              cases h
            · exact s.val j d (get z h), fun j c h => s.own j c (get (ne h) h), fun j k c d q h1 h2 a1 a2 => s.inj j k c d q (get (ne h1) h1) (get (ne h2) h2) a1 a2⟩
        have ow : ∀ b, Own σ (A.set i .no) b → Own σ A b := fun b ⟨j, c, h, a1⟩ => ⟨j, c, get (ne h) h, a1⟩
        refine ⟨_, a, q (.ref p) σ G H s' ⟨.refl _, fun _ _ h _ => h, fun b h => .inl (ow b h), fun _ o h => ⟨o, h⟩, fun _ o h => .inl ⟨o, h⟩, fun _ _ => rfl, fun j _ c h => ⟨c, get (ne h) h⟩, fun j mj c q h _ => .inl ⟨c, ?_⟩, rfl⟩ ⟨p, o, rfl, g, hp, r, fun ⟨j, c, h, a1⟩ => ne h (s.inj j i c b p (get (ne h) h) e a1 a), .inr ⟨i, b, e, a⟩⟩⟩
        rw [List.getElem?_set_ne fun z => m (by rw [z]; exact mj)]
        exact h
/-! ### while -/
theorem ps_whlA {c : Expr} {body : List Stmt} {k : E2} {f : As → Option Ot} {n : Nat} {pos : Pos} (hp : PassesOwn (model X.prog X.w) X.A X.env X.xe) (hc : SE Z W X c k) (hb : PSs X body (tofS' Z W Bs f)) : PS X (.While c body [] pos) (tofS' Z W Bs fun A => whl k.t f n A) :=
  ps_imp (ps_while hp hc.t hb) fun D σ H q => by
    obtain ⟨G, A, s, q⟩ := q
    refine ⟨fun m σ' H' => ∃ G' B, StR Z G' H' σ' B ∧ tofO Z W Bs (whl k.t f m B) σ' B G' H' D, ⟨n, G, A, s, q⟩, ?_⟩
    rintro m σ1 H1 ⟨G1, B, s1, h1⟩
    cases m with
    | zero => exact h1.elim
    | succ m =>
      unfold whl at h1
      refine tofO.of s1 h1 fun t A1 v G2 H2 s2 c2 r2 h2 => ?_
      have r2 : v = t := r2
      subst r2
      have h3 := h2.shift c2.toS
      cases v with
      | false =>
        rw [if_neg (by decide)] at h3 ⊢
        exact h3 σ1 G2 H2 s2 .refl
      | true =>
        rw [if_pos rfl] at h3 ⊢
        refine ⟨fun σ' H' => ∃ G' B, StR Z G' H' σ' B ∧ tofO Z W Bs (whl k.t f m B) σ' B G' H' D, fun σ' H' q => ⟨m, Nat.lt_succ_self m, q⟩, ?_⟩
        refine ⟨G2, A1, s2, ?_⟩
        cases eb : f A1 with
        | none => rw [eb] at h3; exact h3.elim
        | some x =>
          rw [eb] at h3
          cases x with
          | nx A2 => exact fun σ' G' H' s' c => ⟨G', A2, s', h3.shift c⟩
          | ct A2 => exact fun σ' G' H' s' c => ⟨G', A2, s', h3.shift c⟩
          | bk A2 => exact fun σ' G' H' s' c => h3 σ' G' H' s' c
          | rt r A2 => exact h3
          | ex c fs A2 => exact h3
/-! ### loops -/
theorem ps_forA {tg iter : Expr} {ti : Tg} {body : List Stmt} {src : As → Option (Rs (List D))} {f : As → Option Ot} {pos : Pos} (hp : PassesOwn (model X.prog X.w) X.A X.env X.xe) (hc : X.calm = true) (hi : PI X tg iter (tofI Z W src)) (hg : PG X tg (tofT Z Bs ti))
    (hb : PSs X body (tofS' Z W Bs f)) (hs : ∀ x, foldedSetIterable iter X.env x = pure x) : PS X (.For tg iter body [] pos) (tofS' Z W Bs fun A => Ot.of (src A) fun ds A1 => loop (asgT Bs ti) f ds A1) :=
  ps_imp (ps_for hp hc hi hg hb hs) fun D σ H q => by
    obtain ⟨G, A, s, q⟩ := q
    refine tofO.of (RS := RI Z) s q fun ds A1 J G1 H1 s1 c1 r1 h1 => ?_
    have h1 := h1.shift c1.toS
    refine ⟨fun i m σ' H' => m = ds.length - i ∧ i ≤ ds.length ∧ ∃ G' B, StR Z G' H' σ' B ∧ Sub G1 G' ∧ tofO Z W Bs (loop (asgT Bs ti) f (ds.drop i) B) σ' B G' H' D, ⟨ds.length, by simp, Nat.zero_le _, G1, A1, s1, .refl _, by rw [List.drop_zero]; exact h1⟩, ?_⟩
    rintro i m σ2 H2 ⟨rfl, hi, G2, B, s2, b2, h2⟩
    by_cases hlt : i < ds.length
    · refine .inr ⟨r1.go i H2 (b2.trans s2.sub) hlt, fun σ' H' => ∃ G' B, StR Z G' H' σ' B ∧ Sub G1 G' ∧ tofO Z W Bs (loop (asgT Bs ti) f (ds.drop (i + 1)) B) σ' B G' H' D, fun σ' H' q => ⟨ds.length - (i + 1), by omega, rfl, hlt, q⟩, fun x H3 hy => ?_⟩
      obtain ⟨G3, s3, c3, r3⟩ := r1.yld i H2 H3 x ds[i] G2 σ2 B (List.getElem?_eq_getElem hlt) b2 s2 hy
      have ed : ds.drop i = ds[i] :: ds.drop (i + 1) := List.drop_eq_getElem_cons hlt
      rw [ed] at h2
      unfold loop at h2
      cases ea : asgT Bs ti ds[i] B with
      | none => rw [ea] at h2; exact h2.elim
      | some B1 =>
        rw [ea] at h2
        dsimp only at h2
        refine ⟨G3, B, ds[i], B1, s3, r3, ea, fun σ3 s4 t => ⟨G3, B1, s4, ?_⟩⟩
        have h3 := h2.shift (c3.toS.trans (t.toS (asgT_out ea) (by rw [s4.len, s3.len, asgT_len ea])))
        have sb : Sub G1 G3 := b2.trans c3.sub
        cases eb : f B1 with
        | none => rw [eb] at h3; exact h3.elim
        | some x =>
          rw [eb] at h3
          cases x with
          | nx A2 => exact fun σ' G' H' s' c => ⟨G', A2, s', sb.trans c.sub, h3.shift c⟩
          | ct A2 => exact fun σ' G' H' s' c => ⟨G', A2, s', sb.trans c.sub, h3.shift c⟩
          | bk A2 => exact fun σ' G' H' s' c => h3 σ' G' H' s' c
          | rt r A2 => exact h3
          | ex c fs A2 => exact h3
    · have e : i = ds.length := by omega
      subst e
      rw [List.drop_length] at h2
      exact .inl ⟨r1.stop _ H2 (b2.trans s2.sub) (Nat.le_refl _), h2 σ2 G2 H2 s2 .refl⟩
end
end AI
/-! Dicts of one's own; what is made to stand still. -/
namespace AI
open PySem PySem.Spec L2
open PyProof.Rows hiding St
section
variable {Z : Zt} {W : WX} {X : Cx}
theorem pe_fzA {a : Expr} {f : E2} (ha : SE Z W X a f) : PE X a (tof Z W fun A => Rs.bind (f.d A) fun x A1 => some (.ok (.v x) A1)) := by
  refine pe_imp ha.d fun σ H Q q => ?_
  obtain ⟨G, A, s, q⟩ := q
  exact tofG.bind s sh_R q fun x A1 v G1 H1 s1 c1 r1 h1 => h1 v G1 H1 s1 .refl r1
theorem pe_dnewA {pos : Pos} : PE X (.Dict [] [] pos) (tof Z W fun A => some (.ok (.o (.d [] [])) A)) := by
  refine pe_imp pe_dnewK fun σ H Q q => ?_
  obtain ⟨G, A, s, q⟩ := q
  intro p n
  have g : G p = none := s.sub.none n
  exact q (.ref p) G _ (s.grow n) (Ch.refl.grow n) ⟨p, .dK [], rfl, n, g, upd_same, [], rfl, rfl, .nil⟩
theorem lookK_val {G : Hp} {k : Key} : ∀ {kvs : List (Key × V)} {ds : List D} {d : D}, Reps Z G ds (kvs.map (·.2)) → lookK k (kvs.map (·.1)) ds = some d → ∃ v, valV kvs k = some v ∧ Rep Z G d v
  | [], ds, d, r, h => by
    cases ds with
    | nil => cases h
    | cons _ _ => cases h
  | (a, v) :: kvs, [], d, r, h => by cases h
  | (a, v) :: kvs, e :: ds, d, r, h => by
    obtain ⟨v', vs, e1, r1, r2⟩ := r.inv
    rw [List.map_cons] at e1
    injection e1 with e1 e2
    dsimp only at e1
    subst e1
    subst e2
    have h : (if a = k then some e else lookK k (kvs.map (·.1)) ds) = some d := h
    by_cases z : a = k
    · rw [if_pos z] at h
      cases h
      exact ⟨v, valV_pos (p := (a, v)) z, r1⟩
    · rw [if_neg z] at h
      obtain ⟨w, h1, h2⟩ := lookK_val r2 h
      exact ⟨w, by rw [valV_neg (p := (a, v)) z]; exact h1, h2⟩
theorem getD_rep {G H : Hp} {x y d : D} {v u : V} (h : getD x y = some d) (s : Sub G H) (rx : Rep Z G x v) (ry : Rep Z G y u) : ∃ a w, v = .ref a ∧ DGet H a u (some w) ∧ Rep Z G d w := by
  unfold getD at h
  split at h
  · rename_i ks ds k ek
    obtain ⟨a, kvs, rfl, hp, hks, rs⟩ := rep_dct.mp rx
    subst hks
    obtain ⟨w, h1, h2⟩ := lookK_val rs h
    have e := DGet.k (H := H) (a := a) (k := k) (s _ _ hp)
    rw [h1] at e
    rw [key_rep ek ry]
    exact ⟨a, w, rfl, e, h2⟩
  · cases h
theorem pe_dixA {i : Nat} {x : Str} {b : Expr} {g : E2} {p pos : Pos} (hu : X.A.units + 64 < cLine) (hs : simpleIx b = true) (hN : X.N[i]? = some x) (hv : Vis X.env.scope x) (hd : (x == ("__debug__" : Str)) = false) (hcd : (x == ("__classdict__" : Str)) = false) (hb : SE Z W X b g) :
    PE X (.Subscript (.Name x p) b pos) (tof Z W fun A => if setA A i then Rs.bind (g.d A) fun y A1 => Rs.bind (peekA A1 i) fun x A2 => toV A2 (getD x y) else none) := by
  have ns : NoSl b := by cases b <;> first | exact fun _ _ => rfl | cases hs
  refine pe_imp (pe_dget (by omega) (pe_var hN hv hd hcd) hb.d ns) fun σ H Q q => ?_
  obtain ⟨G, A, s, q⟩ := q
  dsimp only at q
  cases e0 : setA A i with
  | false => rw [e0] at q; exact q.elim
  | true =>
    rw [e0] at q
    obtain ⟨v, a⟩ := set_some s e0
    refine ⟨v, a, tofG.bind s sh_R q fun y A1 u G1 H1 s1 c1 r1 h1 => ?_⟩
    cases e1 : peekA A1 i with
    | none => rw [e1] at h1; exact h1.elim
    | some z =>
      rw [e1] at h1
      cases z with
      | ex c fs A2 =>
        unfold peekA at e1
        split at e1 <;> cases e1
      | ok d A2 =>
        obtain ⟨rfl, rp⟩ := peek_rp s1 a e1
        have h1' : tofS Z W (RR Z) (toV A2 (getD d y)) σ A2 G1 H1 Q := h1
        cases e : getD d y with
        | none => rw [e] at h1'; exact h1'.elim
        | some w =>
          rw [e] at h1'
          rcases rp with rp | ⟨p1, o, b', rfl, gp, hp, ro, rfl⟩
          · obtain ⟨a1, z, ev, dg, rz⟩ := getD_rep e s1.sub rp r1
            exact ⟨a1, z, ev, dg, h1' z G1 H1 s1 .refl rz⟩
          · -- a place's own dict: what stands in it stands still
            cases b' with
            | l ds => unfold getD at e; cases e
            | d ks ds =>
              obtain ⟨kvs, rfl, hks, rs⟩ := ro
              subst hks
              unfold getD at e
              cases ek : keyD y with
              | none => simp only [Ob.dd, ek] at e; cases e
              | some k =>
                have e2 : lookK k (kvs.map (·.1)) ds = some w := by
                  simp only [Ob.dd, ek] at e
                  exact e
                obtain ⟨z, h3, h4⟩ := lookK_val rs e2
                have dg := DGet.k (H := H1) (a := p1) (k := k) hp
                rw [h3] at dg
                have eu := key_rep ek (show Rep Z G1 y u from r1)
                rw [eu]
                exact ⟨p1, z, rfl, dg, h1' z G1 H1 s1 .refl h4⟩
theorem ps_dputA {i : Nat} {x : Str} {b e : Expr} {f g : E2} {p pos' pos : Pos} {Bs : List Nat} (hu : X.A.units + 64 < cLine) (hN : X.N[i]? = some x) (hv : Vis X.env.scope x) (hd : (x == ("__debug__" : Str)) = false) (hcd : (x == ("__classdict__" : Str)) = false)
    (hb : SE Z W X b g) (he : SE Z W X e f) (hsw : swapsWith e (some (.Subscript (.Name x p) b pos')) pos.line X.env = pure false) :
    PS X (.Assign [.Subscript (.Name x p) b pos'] e pos) (tofS' Z W Bs fun A => Ot.of (f.d A) fun y A1 => if ownD A1 i then Ot.of (g.d A1) fun k A2 => dputA i k y A2 else none) :=
  ps_imp (ps_dput (by omega) (pe_var hN hv hd hcd) hb.d he.d hsw) fun D σ H q => by
    obtain ⟨G, A, s, q⟩ := q
    refine tofO.of s q fun y A1 v G1 H1 s1 c1 r1 h1 => ?_
    have r1 : Rep Z G1 y v := r1
    cases eo : ownD A1 i with
    | false => rw [eo] at h1; exact h1.elim
    | true =>
      rw [eo, if_pos rfl] at h1
      obtain ⟨p0, a0⟩ : ∃ p0, σ[i]? = some (some (.ref p0)) := by
        unfold ownD at eo
        split at eo
        · rename_i ks0 ds0 e9
          obtain ⟨p0, o0, a0, _⟩ := s1.own i _ e9
          exact ⟨p0, a0⟩
        · cases eo
      refine ⟨_, a0, G1, A1, s1, ?_⟩
      cases e0 : g.d A1 with
      | none => rw [e0] at h1; exact h1.elim
      | some z =>
        rw [e0] at h1
        cases z with
        | ex c fs A2 => exact fun dx G' H' s' c' x => h1 dx σ G' H' s' (c1.trans c').toS x
        | ok k A2 =>
          intro kv G2 H2 s2 c2 rk
          have rk : Rep Z G2 k kv := rk
          have h1 : tofO Z W Bs (dputA i k y A2) σ A G H D := h1
          obtain ⟨ks, ds, kk, e3, ek, hl, h1⟩ : ∃ (ks : List Key) (ds : List AI.D) (kk : Key), A2[i]? = some (.o (.d ks ds)) ∧ keyD k = some kk ∧ ks.length < most ∧ tofO Z W Bs (some (.nx (A2.set i (.o (.d (putK kk y ks ds).1 (putK kk y ks ds).2))))) σ A G H D := by
            unfold dputA at h1
            split at h1
            · split at h1
              · rename_i hl
                exact ⟨_, _, _, by assumption, by assumption, of_decide_eq_true hl, h1⟩
              · exact h1.elim
            · exact h1.elim
          obtain ⟨p1, o1, a1, g1, hp1, kvs, rfl, hks, rx⟩ := s2.own i _ e3
          rw [a0] at a1
          cases a1
          have ekv := key_rep ek rk
          subst ekv
          subst hks
          rw [List.length_map] at hl
          obtain ⟨q1, q2⟩ := put_rep (k := kk) (Rep.mono c2.sub r1) rx
          have ry : OR Z G2 (.d (putK kk y (kvs.map (·.1)) ds).1 (putK kk y (kvs.map (·.1)) ds).2) (.dK (L2.putK kvs kk v)) := ⟨_, rfl, q1, q2⟩
          exact ⟨p0, _, rfl, DPut.k hp1 (Nat.lt_of_lt_of_le hl most_le), h1 σ G2 _ (s2.writeAt e3 a0 ry) (((c1.trans c2).trans (Ch.writeAt e3 a0)).toS)⟩
end
end AI
/-! dict(pairs); d.get(k, x). -/
namespace AI
open PySem PySem.Spec L2
open PyProof.Rows hiding St
section
variable {Z : Zt} {W : WX} {X : Cx}
theorem pairs_step {d : D} {ds : List D} {ks0 : List Key} {vs0 : List D} {r : List Key × List D} (h : pairsD (d :: ds) ks0 vs0 = some r) : ∃ a b k, d = .tup [a, b] ∧ keyD a = some k ∧ pairsD ds (putK k b ks0 vs0).1 (putK k b ks0 vs0).2 = some r := by
  match d, h with
  | .tup [a, b], h =>
    have h : (match keyD a with
      | some k => pairsD ds (putK k b ks0 vs0).1 (putK k b ks0 vs0).2
      | none => none) = some r := h
    cases ek : keyD a with
    | none => rw [ek] at h; cases h
    | some k => rw [ek] at h; exact ⟨a, b, k, rfl, ek, h⟩
  | .tup [], h => cases h
  | .tup [_], h => cases h
  | .tup (_ :: _ :: _ :: _), h => cases h
  | .non, h => cases h
  | .bl _, h => cases h
  | .int _, h => cases h
  | .str _, h => cases h
  | .lst _, h => cases h
  | .dct _ _, h => cases h
  | .fn _, h => cases h
  | .ro _, h => cases h
theorem pairs_rep {G H : Hp} (s : Sub G H) : ∀ {ds : List D} {xs : List V} {acc : List (Key × V)} {ks0 : List Key} {vs0 : List D} {ks : List Key} {vs : List D}, Reps Z G ds xs → acc.map (·.1) = ks0 → Reps Z G vs0 (acc.map (·.2)) → pairsD ds ks0 vs0 = some (ks, vs) →
    ∃ (ps : List Addr) (kvs : List (Key × V)), xs = ps.map V.ref ∧ Paired (fun p kv => SqT Z.K H p [kV kv.1, kv.2]) ps kvs ∧ (mergeK acc kvs).map (·.1) = ks ∧ Reps Z G vs ((mergeK acc kvs).map (·.2))
  | [], xs, acc, ks0, vs0, ks, vs, r, e1, e2, h => by
    rw [r.inv0]
    cases h
    exact ⟨[], [], rfl, .nil, e1, e2⟩
  | d :: ds, xs, acc, ks0, vs0, ks, vs, r, e1, e2, h => by
    obtain ⟨v, ws, rfl, r1, r2⟩ := r.inv
    obtain ⟨a, b, k, rfl, ek, h⟩ := pairs_step h
    obtain ⟨p, ys, rfl, hp, rs⟩ := rep_tup.mp r1
    obtain ⟨va, w1, rfl, ra, r3⟩ := rs.inv
    obtain ⟨vb, w2, rfl, rb, r4⟩ := r3.inv
    rw [r4.inv0] at hp
    have ea := key_rep ek ra
    subst ea
    subst e1
    obtain ⟨q1, q2⟩ := put_rep (k := k) rb e2
    obtain ⟨ps, kvs, f1, f2, f3, f4⟩ := pairs_rep s (acc := L2.putK acc k vb) r2 q1 q2 h
    exact ⟨p :: ps, (k, vb) :: kvs, by rw [f1]; rfl, .cons (s.sqt hp) f2, f3, f4⟩
theorem pe_dmkA {a : Expr} {f : E2} {p pos : Pos} (hK : X.K = Z.K) (hc : X.calm = true) (hg : Gl X "dict") (hm : X.mg "dict" = none) (ha : SE Z W X a f) (ns : noStar a = true) :
    PE X (.Call (.Name "dict" p) [a] [] pos) (tof Z W fun A => Rs.bind (f.d A) fun x A1 => toR A1 (dmkD x)) := by
  refine pe_imp (pe_callTy (call_dictP hc) hg hm (by decide +kernel) (pa_cons ha.d pa_nil (star_no ns)) (by decide) (by decide) (star_no ns) rfl) fun σ H Q q => ?_
  obtain ⟨G, A, s, q⟩ := q
  refine tofG.bind s sh_R q fun x A1 v G1 H1 s1 c1 r1 h1 => ?_
  have r1 : Rep Z G1 x v := r1
  have h1 : tofS Z W (RR Z) (toR A1 (dmkD x)) σ A1 G1 H1 Q := h1
  cases e : dmkD x with
  | none => rw [e] at h1; exact h1.elim
  | some r =>
    rw [e] at h1
    unfold dmkD at e
    split at e
    · rename_i ds
      split at e
      · rename_i ks vs e2
        cases e
        obtain ⟨l, xs, rfl, hp, rs⟩ := rep_lst.mp r1
        obtain ⟨ps, kvs, rfl, f2, f3, f4⟩ := pairs_rep s1.sub (acc := []) rs rfl .nil e2
        refine ⟨l, ps, kvs, rfl, .of (s1.sub _ _ hp), by rw [hK]; exact f2, ?_⟩
        have h1 : Fin Z σ A1 G1 H1 (RR Z) (.o (.d ks vs)) Q := h1
        exact h1.own s1 ⟨_, rfl, f3, f4⟩
      · cases e
    · cases e
theorem lookK_none {G : Hp} {k : Key} : ∀ {kvs : List (Key × V)} {ds : List D}, Reps Z G ds (kvs.map (·.2)) → lookK k (kvs.map (·.1)) ds = none → valV kvs k = none
  | [], ds, r, h => rfl
  | (a, v) :: kvs, [], r, h => by
    have := r.inv0
    cases this
  | (a, v) :: kvs, e :: ds, r, h => by
    obtain ⟨v', vs, e1, r1, r2⟩ := r.inv
    rw [List.map_cons] at e1
    injection e1 with e1 e2
    subst e2
    have h : (if a = k then some e else lookK k (kvs.map (·.1)) ds) = none := h
    by_cases z : a = k
    · rw [if_pos z] at h; cases h
    · rw [if_neg z] at h
      rw [valV_neg (p := (a, v)) z]
      exact lookK_none r2 h
/-- what stands under a key, or the other -/
theorem getOr_ok {G H : Hp} {ks : List Key} {ds : List D} {y z d : D} {a : Addr} {kvs : List (Key × V)} {u w : V} (h : getOr (.dct ks ds) y z = some d) (hp : H a = some (.dK kvs)) (hks : kvs.map (·.1) = ks) (rs : Reps Z G ds (kvs.map (·.2))) (ry : Rep Z G y u) (rz : Rep Z G z w) :
    ∃ o, DGet H a u o ∧ Rep Z G d (o.getD w) := by
  subst hks
  unfold getOr at h
  cases ek : keyD y with
  | none => simp only [ek] at h; cases h
  | some k =>
    simp only [ek] at h
    have h := Option.some.inj h
    rw [key_rep ek ry]
    refine ⟨_, DGet.k hp, ?_⟩
    cases el : lookK k (kvs.map (·.1)) ds with
    | none =>
      rw [el] at h
      rw [lookK_none rs el]
      have h : z = d := h
      subst h
      exact rz
    | some e =>
      rw [el] at h
      have h : e = d := h
      subst h
      obtain ⟨v, h1, h2⟩ := lookK_val rs el
      rw [h1]
      exact h2
/-- what a method is asked of is taken as it stands -/
def plainBase : Expr → Bool
  | .Call _ as ks _ => !(as.isEmpty && ks.isEmpty)
  | _ => true
theorem base2_ok {o : Expr} (h : plainBase o = true) {nm : Str} {env : Env} {w : Sem Value} : attributeBase o nm env w = w := by
  cases o with
  | Call g as ks p =>
    cases as with
    | nil =>
      cases ks with
      | nil => cases h
      | cons k ks => cases g <;> rfl
    | cons a as => cases g <;> rfl
  | _ => rfl
theorem pe_dgetA {o k x : Expr} {fo fk fx : E2} {q pos : Pos} (hu : X.A.units + 64 < cLine) (hb : plainBase o = true) (hl : (q.endLine == pos.line) = true) (nk : noStar k = true) (nx : noStar x = true) (ho : SE Z W X o fo) (hk : SE Z W X k fk) (hx : SE Z W X x fx) :
    PE X (.Call (.Attribute o "get" q) [k, x] [] pos) (tof Z W fun A => Rs.bind (fo.d A) fun d A1 => if isDct d then Rs.bind (fk.d A1) fun y A2 => Rs.bind (fx.d A2) fun z A3 => toV A3 (getOr d y z) else none) := by
  have m : M2 X o "get" q k x pos := ⟨base2_ok hb, by rw [star_no nk, star_no nx]; rfl, hl, by rw [star_no nk, star_no nx]; rfl⟩
  refine pe_imp (pe_dget2 (by omega) ho.d hk.d hx.d m) fun σ H Q h => ?_
  obtain ⟨G, A, s, h⟩ := h
  refine tofG.bind s sh_R h fun d A1 v G1 H1 s1 c1 r1 h1 => ?_
  have r1 : Rep Z G1 d v := r1
  cases d with
  | dct ks ds =>
    obtain ⟨a, kvs, rfl, hp, hks, rs⟩ := rep_dct.mp r1
    have h1 : tofS Z W (RR Z) (Rs.bind (fk.d A1) fun y A2 => Rs.bind (fx.d A2) fun z A3 => toV A3 (getOr (.dct ks ds) y z)) σ A1 G1 H1 Q := h1
    refine ⟨a, rfl, .inl ⟨kvs, .inl (s1.sub _ _ hp)⟩, tofG.bind s1 sh_R h1 fun y A2 u G2 H2 s2 c2 r2 h2 => tofG.bind s2 sh_R h2 fun z A3 w G3 H3 s3 c3 r3 h3 => ?_⟩
    cases e : getOr (.dct ks ds) y z with
    | none => rw [e] at h3; exact h3.elim
    | some d =>
      rw [e] at h3
      have sb : Sub G1 G3 := c2.sub.trans c3.sub
      obtain ⟨o, g1, g2⟩ := getOr_ok (H := H3) e (s3.sub _ _ (sb _ _ hp)) hks (Reps.mono sb rs) (Rep.mono c3.sub (show Rep Z G2 y u from r2)) (show Rep Z G3 z w from r3)
      exact ⟨o, g1, h3 (o.getD w) G3 H3 s3 .refl g2⟩
  | _ => exact (show False from h1).elim
theorem pe_dgetvA {i : Nat} {x0 : Str} {k x : Expr} {fk fx : E2} {p q pos : Pos} (hu : X.A.units + 64 < cLine) (hN : X.N[i]? = some x0) (hv : Vis X.env.scope x0) (hd : (x0 == ("__debug__" : Str)) = false) (hcd : (x0 == ("__classdict__" : Str)) = false) (hl : (q.endLine == pos.line) = true) (nk : noStar k = true) (nx : noStar x = true) (hk : SE Z W X k fk) (hx : SE Z W X x fx) :
    PE X (.Call (.Attribute (.Name x0 p) "get" q) [k, x] [] pos) (tof Z W fun A => Rs.bind (peekA A i) fun d0 A0 => if isDct d0 then Rs.bind (fk.d A0) fun y A1 => Rs.bind (fx.d A1) fun z A2 => Rs.bind (peekA A2 i) fun d A3 => toV A3 (getOr d y z) else none) := by
  have m : M2 X (.Name x0 p) "get" q k x pos := ⟨rfl, by rw [star_no nk, star_no nx]; rfl, hl, by rw [star_no nk, star_no nx]; rfl⟩
  refine pe_imp (pe_dget2 (by omega) (pe_var hN hv hd hcd) hk.d hx.d m) fun σ H Q h => ?_
  obtain ⟨G, A, s, h⟩ := h
  dsimp only at h
  -- what the place holds is a dict
  have key : ∀ {G H : Hp} {A : As} {d0 : D}, StR Z G H σ A → peekA A i = some (.ok d0 A) → isDct d0 = true → ∃ a kvs ks ds, σ[i]? = some (some (.ref a)) ∧ d0 = .dct ks ds ∧ H a = some (.dK kvs) ∧ kvs.map (·.1) = ks ∧ Reps Z G ds (kvs.map (·.2)) := by
    intro G H A d0 s ep hd0
    cases d0 with
    | dct ks ds =>
      obtain ⟨v, a⟩ := set_some s (show setA A i = true by
        unfold peekA at ep
        unfold setA
        cases e : A[i]? with
        | none => rw [e] at ep; cases ep
        | some x => rw [e] at ep; cases x <;> first | rfl | cases ep)
      obtain ⟨_, rp⟩ := peek_rp s a ep
      rcases rp with rp | ⟨p1, o, b', rfl, gp, hp, ro, eb⟩
      · obtain ⟨a1, kvs, rfl, hp, hks, rs⟩ := rep_dct.mp rp
        exact ⟨a1, kvs, ks, ds, a, rfl, s.sub _ _ hp, hks, rs⟩
      · cases b' with
        | l _ => cases eb
        | d ks' ds' =>
          cases eb
          obtain ⟨kvs, rfl, hks, rs⟩ := ro
          exact ⟨p1, kvs, ks, ds, a, rfl, hp, hks, rs⟩
    | _ => cases hd0
  cases ep : peekA A i with
  | none => rw [ep] at h; exact h.elim
  | some z =>
    rw [ep] at h
    cases z with
    | ex c fs A2 =>
      unfold peekA at ep
      split at ep <;> cases ep
    | ok d0 A0 =>
      have eA : A0 = A := by
        unfold peekA at ep
        split at ep <;> first | (cases ep; rfl) | cases ep
      subst eA
      have h : tofS Z W (RR Z) (if isDct d0 then Rs.bind (fk.d A0) fun y A1 => Rs.bind (fx.d A1) fun z A2 => Rs.bind (peekA A2 i) fun d A3 => toV A3 (getOr d y z) else none) σ A0 G H Q := h
      cases hd0 : isDct d0 with
      | false => rw [hd0] at h; exact h.elim
      | true =>
        rw [hd0, if_pos rfl] at h
        obtain ⟨a, kvs0, ks0, ds0, ha, _, hp0, _, _⟩ := key s ep hd0
        refine ⟨_, ha, a, rfl, .inl ⟨kvs0, .inl hp0⟩, tofG.bind s sh_R h fun y A1 u G1 H1 s1 c1 r1 h1 => tofG.bind s1 sh_R h1 fun z A2 w G2 H2 s2 c2 r2 h2 => ?_⟩
        have h2 : tofS Z W (RR Z) (Rs.bind (peekA A2 i) fun d A3 => toV A3 (getOr d y z)) σ A2 G2 H2 Q := h2
        cases ep2 : peekA A2 i with
        | none => rw [ep2] at h2; exact h2.elim
        | some z2 =>
          rw [ep2] at h2
          cases z2 with
          | ex c fs A4 =>
            unfold peekA at ep2
            split at ep2 <;> cases ep2
          | ok d A3 =>
            have eA : A3 = A2 := by
              unfold peekA at ep2
              split at ep2 <;> first | (cases ep2; rfl) | cases ep2
            subst eA
            have h3 : tofS Z W (RR Z) (toV A3 (getOr d y z)) σ A3 G2 H2 Q := h2
            clear h2
            cases e : getOr d y z with
            | none => rw [e] at h3; exact h3.elim
            | some dd =>
              rw [e] at h3
              have hdd : isDct d = true := by
                unfold getOr at e
                split at e
                · rfl
                · cases e
              obtain ⟨a2, kvs, ks, ds, ha2, rfl, hp, hks, rs⟩ := key s2 ep2 hdd
              rw [ha] at ha2
              have ha2 := V.ref.inj (Option.some.inj (Option.some.inj ha2))
              subst ha2
              obtain ⟨o, g1, g2⟩ := getOr_ok (H := H2) e hp hks rs (Rep.mono c2.sub (show Rep Z G1 y u from r1)) (show Rep Z G2 z w from r2)
              exact ⟨o, g1, h3 (o.getD w) G2 H2 s2 .refl g2⟩
end
end AI
/-! Among data of any depth; three names at once. -/
namespace AI
open PySem PySem.Spec L2
open PyProof.Rows hiding St
section
variable {Z : Zt} {W : WX} {X : Cx} {Bs : List Nat}
def rInT (K : PySem.W.Frag) (neg : Bool) : R2 := fun x y H Q => ∃ d ds, Dp K H x d ∧ Dp K H y (.tuple ds) ∧ SeqAt.shaped d = true ∧ SeqAt.shaped (.tuple ds) = true ∧ Q (.bl (if neg then !ds.any fun z => PyData.eqv z d else ds.any fun z => PyData.eqv z d)) H
theorem room_in_tup {A : Around} {d : PyData} {ds : List PyData} (s : SeqAt.shaped (.tuple ds) = true) (hu : A.units + 65 < cLine) : A.units + 1 + min (PyData.depthAll ds) d.depth < cLine := by
  unfold SeqAt.shaped at s
  obtain ⟨_, h⟩ := Bool.and_eq_true_iff.mp s
  have h := of_decide_eq_true h
  unfold PyData.depth at h
  omega
theorem op_inT (hu : X.A.units + 65 < cLine) : OpR X (compareOp .In) (rInT X.K false) := by
  intro pins s σ H x y v u Q I rx ry h
  obtain ⟨d, ds, hd, he, sd, se, q⟩ := h
  obtain ⟨as, r1⟩ := Dp.reads I d x v hd rx
  obtain ⟨bs, r2⟩ := Dp.reads I (.tuple ds) y u he ry
  exact SeqAt.in_tuple_reads r2 r1 (SeqAt.canLay_of_shaped se) (SeqAt.canLay_of_shaped sd) (room_in_tup se hu) ⟨.bl _, H, I, rfl, q⟩
theorem op_notInT (hu : X.A.units + 65 < cLine) : OpR X (compareOp .NotIn) (rInT X.K true) := by
  intro pins s σ H x y v u Q I rx ry h
  obtain ⟨d, ds, hd, he, sd, se, q⟩ := h
  obtain ⟨as, r1⟩ := Dp.reads I d x v hd rx
  obtain ⟨bs, r2⟩ := Dp.reads I (.tuple ds) y u he ry
  exact SeqAt.notIn_tuple_reads r2 r1 (SeqAt.canLay_of_shaped se) (SeqAt.canLay_of_shaped sd) (room_in_tup se hu) ⟨.bl _, H, I, rfl, q⟩
theorem ind_ok (hK : X.K = Z.K) (hu : X.A.units + 65 < cLine) {neg : Bool} {x y : D} {k : Bool} (h : inDeepN neg x y = some k) : OpOk X Z (compareOp (if neg then .NotIn else .In)) x y (.v (.bl k)) := by
  obtain ⟨b, hb, rfl⟩ : ∃ b, inDeep x y = some b ∧ k = (if neg then !b else b) := by
    unfold inDeepN at h
    cases neg with
    | false => exact ⟨k, h, rfl⟩
    | true =>
      rw [if_pos rfl] at h
      cases e : inDeep x y with
      | none => rw [e] at h; cases h
      | some b => rw [e] at h; exact ⟨b, rfl, (Option.some.inj h).symm⟩
  unfold inDeep at hb
  split at hb
  · rename_i d ds e1 e2
    split at hb
    · rename_i c
      obtain ⟨c1, c2⟩ := Bool.and_eq_true_iff.mp c
      have hb := Option.some.inj hb
      cases neg with
      | false =>
        refine ⟨_, op_inD hu, fun G H σ A v u Q s a b f => ⟨d, ds, by rw [hK]; exact dp_of s.sub e1 a, by rw [hK]; exact dp_of s.sub e2 b, c1, c2, f.bl s hb⟩⟩
      | true =>
        refine ⟨_, op_notInD hu, fun G H σ A v u Q s a b f => ⟨d, ds, by rw [hK]; exact dp_of s.sub e1 a, by rw [hK]; exact dp_of s.sub e2 b, c1, c2, f.bl s (by rw [hb]; rfl)⟩⟩
    · cases hb
  · rename_i d ds e1 e2
    split at hb
    · rename_i c
      obtain ⟨c1, c2⟩ := Bool.and_eq_true_iff.mp c
      have hb := Option.some.inj hb
      cases neg with
      | false =>
        refine ⟨_, op_inT hu, fun G H σ A v u Q s a b f => ⟨d, ds, by rw [hK]; exact dp_of s.sub e1 a, by rw [hK]; exact dp_of s.sub e2 b, c1, c2, f.bl s hb⟩⟩
      | true =>
        refine ⟨_, op_notInT hu, fun G H σ A v u Q s a b f => ⟨d, ds, by rw [hK]; exact dp_of s.sub e1 a, by rw [hK]; exact dp_of s.sub e2 b, c1, c2, f.bl s (by rw [hb])⟩⟩
    · cases hb
  · cases hb
theorem tind {neg : Bool} {f g : E2} (hK : X.K = Z.K) (hu : X.A.units + 65 < cLine) {σ : St} {H : Hp} {Q : VK}
    (h : tof Z W (fun A => Rs.bind (f.d A) fun x A1 => Rs.bind (g.d A1) fun y A2 => toB A2 (inDeepN neg x y)) σ H Q) : tOp (uniOp X (compareOp (if neg then .NotIn else .In))) (tofd Z W f.d) (tofd Z W g.d) σ H Q := by
  obtain ⟨G, A, s, h⟩ := h
  refine tofG.bind s sh_R h fun x A1 v G1 H1 s1 c1 r1 h1 => tofG.bind s1 sh_R h1 fun y A2 u G2 H2 s2 c2 r2 h2 => ?_
  cases e : inDeepN neg x y with
  | none => rw [e] at h2; exact h2.elim
  | some k =>
    rw [e] at h2
    obtain ⟨rr, ok, sp⟩ := ind_ok hK hu e
    exact ⟨rr, ok, sp G2 H2 σ A2 v u Q s2 (Rep.mono c2.sub r1) r2 h2⟩
theorem se_ind {neg : Bool} {o : CmpOp} {a b : Expr} {pos : Pos} {f g : E2} (ho : o = if neg then .NotIn else .In) (hK : X.K = Z.K) (hu : X.A.units + 65 < cLine) (hm : behindInMarks o b = false) (ha : SE Z W X a f) (hb : SE Z W X b g) :
    SE Z W X (.Compare a [o] [b] pos) (mkE fun A => Rs.bind (f.d A) fun x A1 => Rs.bind (g.d A1) fun y A2 => toB A2 (inDeepN neg x y)) := by
  subst ho
  refine ⟨pe_imp (pe_cmpR or_uni ha.d hb.d hm) fun σ H Q h => tind hK hu h, pt_imp (pt_cmpR or_uni ha.d hb.d hm) fun σ H Q h => tind (Q := fun x H' => ∃ k, x = .bl k ∧ Q k H') hK hu (tb_bool (fun A r A' e => ?_) h)⟩
  obtain ⟨x, A1, e1, e⟩ := bind_ok e
  obtain ⟨y, A2, e2, e⟩ := bind_ok e
  exact toB_ok e
/-- what was just stored is nobody else's -/
theorem no_set {σ : St} {A : As} {i : Nat} {r : R} {v : V} {p : Addr} (hi : i < A.length) (hl : σ.length = A.length) (n : ¬ Own σ A p) (h : ∀ b, r = .o b → v ≠ .ref p) : ¬ Own (σ.set i (some v)) (A.set i r.sl) p := fun ⟨k, c, y1, y2⟩ => by
  by_cases zz : k = i
  · subst zz
    rw [List.getElem?_set_self (by rw [hl]; exact hi)] at y2
    rw [List.getElem?_set_self hi] at y1
    have y2 := Option.some.inj (Option.some.inj y2)
    cases r with
    | v d => cases y1
    | o b => exact h b rfl y2
  · rw [List.getElem?_set_ne (Ne.symm zz)] at y1 y2
    exact n ⟨k, c, y1, y2⟩
theorem ps_par3A {i j l : Nat} {x y z : Str} {a b c : Expr} {f g k : E2} {px py pz pt pos : Pos} {kt k2 : Nat} {pt2 : Pos} (hc : X.calm = true) (nd : X.N.Nodup) (hi : X.N[i]? = some x) (hj : X.N[j]? = some y) (hl : X.N[l]? = some z) (hij : i ≠ j) (hil : i ≠ l) (hjl : j ≠ l)
    (hx : X.env.scope.names.lookup x = some .local) (hy : X.env.scope.names.lookup y = some .local) (hz : X.env.scope.names.lookup z = some .local) (ha : SE Z W X a f) (hb : SE Z W X b g) (hcc : SE Z W X c k) (na : noStar a = true) (nb : noStar b = true) (nc : noStar c = true)
    (hw : swappedStores [.Tuple [.Name x px, .Name y py, .Name z pz] kt pt] (.Tuple [a, b, c] k2 pt2) X.env = pure (some [x, y, z])) :
    PS X (.Assign [.Tuple [.Name x px, .Name y py, .Name z pz] kt pt] (.Tuple [a, b, c] k2 pt2) pos) (tofS' Z W Bs fun A => Ot.of (f.v A) fun x A1 => Ot.of (g.v A1) fun y A2 => Ot.of (k.v A2) fun z A3 => (match store Bs i x.sl A3 with
      | some A4 => (match store Bs j y.sl A4 with
        | some A5 => nxo (store Bs l z.sl A5)
        | none => none)
      | none => none)) :=
  ps_imp (ps_par3 hc nd hi hj hl hij hil hjl hx hy hz (pa_cons ha.v (pa_cons hb.v (pa_cons hcc.v pa_nil (star_no nc)) (star_no nb)) (star_no na)) hw rfl) fun D σ H q => by
    obtain ⟨G, A, s, q⟩ := q
    refine tofO.of s q fun r1 A1 v G1 H1 s1 c1 q1 h1 => ?_
    refine ⟨G1, A1, s1, ?_⟩
    cases e : g.v A1 with
    | none => rw [e] at h1; exact h1.elim
    | some z =>
      rw [e] at h1
      cases z with
      | ex c fs A' => exact fun dx G' H' s' c' x => h1 dx σ G' H' s' (c1.trans c').toS x
      | ok r2 A2 =>
        intro w G2 H2 s2 c2 q2
        refine ⟨G2, A2, s2, ?_⟩
        have h1 : tofO Z W Bs (Ot.of (k.v A2) fun z A3 => (match store Bs i r1.sl A3 with
          | some A4 => (match store Bs j r2.sl A4 with
            | some A5 => nxo (store Bs l z.sl A5)
            | none => none)
          | none => none)) σ A G H D := h1
        cases e2 : k.v A2 with
        | none => rw [e2] at h1; exact h1.elim
        | some z =>
          rw [e2] at h1
          cases z with
          | ex c fs A' => exact fun dx G' H' s' c' x => h1 dx σ G' H' s' ((c1.trans c2).trans c').toS x
          | ok r3 A3 =>
            intro t G3 H3 s3 c3 q3
            refine ⟨v, w, t, rfl, ?_⟩
            have h1 : tofO Z W Bs (match store Bs i r1.sl A3 with
              | some A4 => (match store Bs j r2.sl A4 with
                | some A5 => nxo (store Bs l r3.sl A5)
                | none => none)
              | none => none) σ A G H D := h1
            cases e3 : store Bs i r1.sl A3 with
            | none => rw [e3] at h1; exact h1.elim
            | some A4 =>
              rw [e3] at h1
              have h1 : tofO Z W Bs (match store Bs j r2.sl A4 with
                | some A5 => nxo (store Bs l r3.sl A5)
                | none => none) σ A G H D := h1
              cases e4 : store Bs j r2.sl A4 with
              | none => rw [e4] at h1; exact h1.elim
              | some A5 =>
                rw [e4] at h1
                obtain ⟨A6, e5, h5⟩ := nxo_ok h1
                obtain ⟨a1, a2, rfl⟩ := store_inv e3
                obtain ⟨b1, b2, rfl⟩ := store_inv e4
                obtain ⟨d1, d2, rfl⟩ := store_inv e5
                have c12 := c1.trans c2
                have c123 := c12.trans c3
                have no : ∀ p, H p = none → ¬ Own σ A3 p := fun p n z => s.notOwn n (c123.own p z)
                have k1 : RR Z H G3 H3 r1 v := RR.keep s q1 c1 (c2.trans c3)
                have q2' : RR Z H G2 H2 r2 w := sh_R H H1 G2 H2 r2 w c1.dom q2
                have k2' : RR Z H G3 H3 r2 w := RR.keep s q2' c12 c3
                have k3 : RR Z H G3 H3 r3 t := sh_R H H2 G3 H3 r3 t c12.dom q3
                -- no two of them are one
                have n12 : ∀ {p : Addr} (b b' : Ob), r1 = .o b → r2 = .o b' → v = .ref p → w ≠ .ref p := fun {p} b b' e1 e2 ev ew => by
                  subst e1
                  subst e2
                  obtain ⟨p1, o1, f1, _, _, hp1, _⟩ := q1
                  obtain ⟨p2, o2, f2, n2, _⟩ := q2
                  rw [ev] at f1
                  rw [ew] at f2
                  cases f1
                  cases f2
                  rw [hp1] at n2; cases n2
                have n3 : ∀ {p : Addr} (b : Ob), r3 = .o b → t = .ref p → H2 p = none := fun {p} b e1 et => by
                  subst e1
                  obtain ⟨p3, o3, f3, n3, _⟩ := q3
                  rw [et] at f3
                  cases f3
                  exact n3
                have at1 : ∀ {p : Addr} (b : Ob), r1 = .o b → v = .ref p → ∃ o, H2 p = some o := fun {p} b e1 ev => by
                  subst e1
                  obtain ⟨p1, o1, f1, _, _, hp1, _⟩ := q1
                  rw [ev] at f1
                  cases f1
                  exact c2.dom _ _ hp1
                have at2 : ∀ {p : Addr} (b : Ob), r2 = .o b → w = .ref p → ∃ o, H2 p = some o := fun {p} b e1 ev => by
                  subst e1
                  obtain ⟨p1, o1, f1, _, _, hp1, _⟩ := q2
                  rw [ev] at f1
                  cases f1
                  exact ⟨o1, hp1⟩
                obtain ⟨s4, c4⟩ := store_new s s3 c123.toS k1 (fun _ p _ _ n => no p n) (not_in a1) a2
                obtain ⟨s5, c5⟩ := store_new s s4 c4 k2' (fun b p eb ew n => no_set a2 s3.len (no p n) fun b' e1 ev => n12 b' b e1 eb ev ew) (not_in b1) b2
                have fin := store_new s s5 c5 k3 (fun b p eb et n => no_set b2 s4.len (no_set a2 s3.len (no p n) fun b' e1 ev => by
                  obtain ⟨o, y⟩ := at1 b' e1 ev
                  rw [n3 b eb et] at y; cases y) fun b' e1 ev => by
                  obtain ⟨o, y⟩ := at2 b' e1 ev
                  rw [n3 b eb et] at y; cases y) (not_in d1) d2
                exact h5 _ _ _ fin.1 fin.2
end
end AI
/-! A name's own object, only looked at: isinstance, slices. -/
namespace AI
open PySem PySem.Spec L2
open PyProof.Rows hiding St
section
variable {Z : Zt} {W : WX} {X : Cx}
theorem pe_isiv1 {i : Nat} {x : Str} {t : Ty} {p p0 p2 pos : Pos} (hK : X.K = Z.K) (hN : X.N[i]? = some x) (hv : Vis X.env.scope x) (hd : (x == ("__debug__" : Str)) = false) (hcd : (x == ("__classdict__" : Str)) = false) (hg : Gl X "isinstance") (hm : X.mg "isinstance" = none) (hg2 : Gl X (PySem.Str.ofString t.nm)) (hm2 : X.mg (PySem.Str.ofString t.nm) = none) :
    PE X (.Call (.Name "isinstance" p) [.Name x p0, .Name (PySem.Str.ofString t.nm) p2] [] pos) (tof Z W fun A => Rs.bind (peekA A i) fun x A1 => if isAtom x then some (.ok (.v (.bl ([t].any (isTy x)))) A1) else none) := by
  refine pe_imp (pe_callB call_isi hg hm (by decide +kernel) (pa_cons (pe_peek (Z := Z) (W := W) hN hv hd hcd) (pa_cons (pe_ty hg2 hm2) pa_nil) rfl) (by decide) (by decide) rfl rfl) fun σ H Q q => ?_
  obtain ⟨G, A, s, q⟩ := q
  refine tofG.bind s sh_R q fun x A1 v G1 H1 s1 c1 r1 h1 => ?_
  cases e : isAtom x with
  | false => rw [e] at h1; exact h1.elim
  | true =>
    rw [e] at h1
    obtain ⟨G2, u2, r2⟩ := RP.rep r1 s1.sub
    refine ⟨v, .ty t.nm, .type (tyOf x), .type t.nm, isTy x t, rfl, .ty _, by rw [hK]; exact tyx_of e u2 r2, kit_d e t, ?_⟩
    have h1' : Fin Z σ A1 G1 H1 (RR Z) (.v (.bl ([t].any (isTy x)))) Q := h1
    rw [List.any_cons, List.any_nil, Bool.or_false] at h1'
    exact h1'.bl s1 rfl
theorem pe_isivN {i : Nat} {x : Str} {ts : List Ty} {es : List Expr} {k : Nat} {p p0 p2 pos : Pos} (hK : X.K = Z.K) (hN : X.N[i]? = some x) (hv : Vis X.env.scope x) (hd : (x == ("__debug__" : Str)) = false) (hcd : (x == ("__classdict__" : Str)) = false) (hg : Gl X "isinstance") (hm : X.mg "isinstance" = none)
    (hts : ∀ t ∈ ts, Gl X (PySem.Str.ofString t.nm) ∧ X.mg (PySem.Str.ofString t.nm) = none) (he : Paired (fun (t : Ty) (e : Expr) => ∃ p, e = .Name (PySem.Str.ofString t.nm) p) ts es) (hl : ts.length ≤ most) :
    PE X (.Call (.Name "isinstance" p) [.Name x p0, .Tuple es k p2] [] pos) (tof Z W fun A => Rs.bind (peekA A i) fun x A1 => if isAtom x then some (.ok (.v (.bl (ts.any (isTy x)))) A1) else none) := by
  refine pe_imp (pe_callB call_isiT hg hm (by decide +kernel) (pa_cons (pe_peek (Z := Z) (W := W) hN hv hd hcd) (pa_cons (pe_tup (pa_tys (ps := []) hts he)) pa_nil) rfl) (by decide) (by decide) rfl rfl) fun σ H Q q => ?_
  obtain ⟨G, A, s, q⟩ := q
  refine tofG.bind s sh_R q fun x A1 v G1 H1 s1 c1 r1 h1 => ?_
  cases e : isAtom x with
  | false => rw [e] at h1; exact h1.elim
  | true =>
    rw [e] at h1
    refine ⟨by rw [List.length_map]; exact Nat.le_trans hl most_le, fun tp n => ?_⟩
    have s2 := s1.grow (o := .tup (ts.map fun t => V.ty t.nm)) n
    obtain ⟨G2, u2, r2⟩ := RP.rep r1 s1.sub
    have u3 : Sub G2 (upd H1 tp (.tup (ts.map fun t => V.ty t.nm))) := fun b u e => by rw [upd_ne (ne_of_none (u2 b u e) n)]; exact u2 b u e
    have cl : ∀ ts : List Ty, Paired ClsV (ts.map fun t => V.ty t.nm) (ts.map fun t => Value.type t.nm) := fun ts => by
      induction ts with
      | nil => exact .nil
      | cons t r ih => exact .cons (.ty _) ih
    exact ⟨v, tp, _, .type (tyOf x), _, _, rfl, upd_same, cl ts, by rw [hK]; exact tyx_of e u3 r2, kits_d e ts, h1 (.bl _) G1 _ s2 (Ch.refl.grow n) (show Rep Z G1 (.bl _) (.bl _) from rep_bl.mpr rfl)⟩
theorem pe_slvA {i : Nat} {x : Str} {lo hi : Option Expr} {fl fh : Option E2} {p p2 pos : Pos} (hK : X.K = Z.K) (hN : X.N[i]? = some x) (hv : Vis X.env.scope x) (hd : (x == ("__debug__" : Str)) = false) (hcd : (x == ("__classdict__" : Str)) = false)
    (hl : (lo = none ∧ fl = none) ∨ ∃ e g, lo = some e ∧ fl = some g ∧ SE Z W X e g) (hh : (hi = none ∧ fh = none) ∨ ∃ e g, hi = some e ∧ fh = some g ∧ SE Z W X e g) :
    PE X (.Subscript (.Name x p) (.Slice lo hi none p2) pos) (tof Z W fun A => if setA A i then Rs.bind (optI (evo fl A)) fun l A1 => Rs.bind (optI (evo fh A1)) fun h A2 => Rs.bind (peekA A2 i) fun x A3 => toR A3 (doSl x l h) else none) := by
  have part : ∀ {o : Option Expr} {fo : Option E2}, ((o = none ∧ fo = none) ∨ ∃ e g, o = some e ∧ fo = some g ∧ SE Z W X e g) → PO X o (tofG Z W (fun _ _ _ (a b : Option Int) => b = a) fun A => optI (evo fo A)) := by
    intro o fo h
    rcases h with ⟨rfl, rfl⟩ | ⟨e, g, rfl, rfl, h⟩
    · refine ⟨fun pins s σ H Q I q => po_none.run pins s σ H Q I ?_⟩
      obtain ⟨G, A, s', q⟩ := q
      exact q none G H s' .refl rfl
    · refine ⟨fun pins s σ H Q I q => (po_some h.d).run pins s σ H Q I ?_⟩
      obtain ⟨G, A, s', q⟩ := q
      have q' : tofS Z W (fun _ _ _ (a b : Option Int) => b = a) (optI (Rs.bind (g.d A) fun x A1 => some (.ok (some x) A1))) σ A G H Q := q
      have q2 : tofS Z W (fun _ _ _ (a b : Option Int) => b = a) (Rs.bind (g.d A) fun x A1 => optI (some (.ok (some x) A1))) σ A G H Q := by
        cases e0 : g.d A with
        | none => rw [e0] at q'; exact q'
        | some z => rw [e0] at q'; cases z <;> exact q'
      refine tofG.bind s' (fun _ _ _ _ _ _ _ r => r) q2 fun x A1 v G1 H1 s1 c1 r1 h1 => ?_
      cases x with
      | int i =>
        have h1' : tofS Z W (fun _ _ _ (a b : Option Int) => b = a) (if okI i then some (.ok (some i) A1) else none) σ A1 G1 H1 Q := h1
        cases e : okI i with
        | false => rw [e] at h1'; exact h1'.elim
        | true =>
          rw [e] at h1'
          exact ⟨i, rep_int.mp (show Rep Z G1 (.int i) v from r1), h1' (some i) G1 H1 s1 .refl rfl⟩
      | _ => exact h1.elim
  refine pe_imp (pe_slice sl_uni (pe_var hN hv hd hcd) (part hl) (part hh)) fun σ H Q q => ?_
  obtain ⟨G, A, s, q⟩ := q
  dsimp only at q
  cases e0 : setA A i with
  | false => rw [e0] at q; exact q.elim
  | true =>
    rw [e0] at q
    obtain ⟨v, a⟩ := set_some s e0
    refine ⟨v, a, tofG.bind s sh_R q fun l A1 l' G1 H1 s1 c1 r1 h1 => tofG.bind s1 sh_R h1 fun h A2 h' G2 H2 s2 c2 r2 h2 => ?_⟩
    subst r1
    subst r2
    have h2 : tofS Z W (RR Z) (Rs.bind (peekA A2 i) fun x A3 => toR A3 (doSl x l' h')) σ A2 G2 H2 Q := h2
    cases e1 : peekA A2 i with
    | none => rw [e1] at h2; exact h2.elim
    | some z =>
      rw [e1] at h2
      cases z with
      | ex c fs A4 =>
        unfold peekA at e1
        split at e1 <;> cases e1
      | ok d A3 =>
        obtain ⟨rfl, rp⟩ := peek_rp s2 a e1
        have h3 : tofS Z W (RR Z) (toR A3 (doSl d l' h')) σ A3 G2 H2 Q := h2
        cases e : doSl d l' h' with
        | none => rw [e] at h3; exact h3.elim
        | some r =>
          rw [e] at h3
          rcases rp with rp | ⟨p1, o, b', rfl, gp, hp, ro, rfl⟩
          · obtain ⟨rr, ok, sp⟩ := sl_ok hK e
            exact ⟨rr, ok, sp G2 H2 σ A3 v Q s2 rp h3⟩
          · cases b' with
            | d ks ds => unfold doSl at e; cases e
            | l ds =>
              obtain ⟨xs, rfl, rs⟩ := ro
              have e : some (R.o (.l (cutD ds l' h'))) = some r := e
              cases e
              have h3 : Fin Z σ A3 G2 H2 (RR Z) (.o (.l (cutD ds l' h'))) Q := h3
              exact ⟨_, sl_list, p1, xs, rfl, .of hp, h3.lst s2 (cut_rep rs)⟩
end
end AI
/-! del xs[i:] -/
namespace AI
open PySem PySem.Spec L2
open PyProof.Rows hiding St
theorem filt_take {α : Type} (p : Nat → Bool) (a : Nat) : ∀ (l : List α) (k : Nat), (∀ j, k ≤ j → j < k + l.length → p j = decide (a ≤ j)) → ((l.zipIdx k).filterMap fun (x, j) => if p j then none else some x) = l.take (a - k)
  | [], k, _ => by simp
  | x :: l, k, h => by
    have h0 := h k (Nat.le_refl _) (by simp)
    have ih := filt_take p a l (k + 1) fun j h1 h2 => h j (by omega) (by rw [List.length_cons]; omega)
    rw [List.zipIdx_cons, List.filterMap_cons]
    dsimp only
    rw [h0, ih]
    by_cases c : a ≤ k
    · rw [decide_eq_true c, if_pos rfl]
      have e1 : a - k = 0 := by omega
      have e2 : a - (k + 1) = 0 := by omega
      rw [e1, e2]
      rfl
    · rw [decide_eq_false c, if_neg (by decide)]
      have e1 : a - k = (a - (k + 1)) + 1 := by omega
      rw [e1, List.take_succ_cons]
theorem bounds_up {a n : Nat} (h : a ≤ n) : sliceBounds (some (a : Int)) none none n = ((a : Int), (n : Int), 1) := by
  simp only [sliceBounds, Option.getD_none]
  have h1 : ¬ ((a : Int) < 0) := by omega
  have h2 : ¬ ((a : Int) > (n : Int)) := by omega
  simp [h1, h2]
  try omega
section
variable {X : Cx} {pins : List (Addr × Obj)} {σ : St} {H : Hp} {s : Shared}
theorem del_from {l sl : Addr} {xs : List V} {a : Nat} {u : Tok} {Q : Unit → Shared → Prop} (I : Inv X pins σ H s) (hH : H l = some (.lst xs)) (hs : s.heap.IsSliceOf sl (.int a u) .none .none) (ha : a ≤ xs.length) (h : ∀ s', Inv X pins σ (upd H l (.lst (xs.take a))) s' → Q () s') :
    wpAny (model X.prog X.w) X.A (delItem (.ref l) (.ref sl)) Q X.xe s := by
  obtain ⟨z, its, n, r, hl, e⟩ := I.lstM hH
  have lt : s.heap.IsList l its.toArray := PySem.IsL.isList e
  obtain ⟨os, hos, hcs, hds⟩ := id hs
  have ty : s.TypeIs (.ref sl) "slice" := ⟨os, hos, hcs⟩
  have sz : its.toArray.size ≤ sizeLine := by rw [List.size_toArray]; omega
  unfold delItem
  refine wpAny_holding (wpAny_bind (wpAny_sequenceKey lt.typeIs (by decide) ?_))
  refine wpAny_bind (wpAny_callSpecial?_slot (name := Str.ofString "__delitem__") lt.typeIs PySem.F.slot_list_delitem (wpAny_call_entry PySem.F.slot_list_delitem lt.typeIs PySem.F.entry_list_delitem ?_ (PySem.F.args_list_delitem_2 _ _)))
  show wpAny _ _ (Builtin.List.listSubscript? (.ref sl) >>= _) _ _ s
  unfold Builtin.List.listSubscript?
  refine wpAny_bind (wpAny_bind (wpAny_specialOf ty slice_no_index ?_))
  simp only [Option.isNone_none, if_true]
  refine wpAny_pure ?_
  show wpAny _ _ (typeOf (.ref sl) >>= _) _ _ s
  refine wpAny_bind (wpAny_typeOf ty ?_)
  refine PySem.W.KFB.if_not (by decide) ?_
  rw [listSliceParts_eq]
  refine wpAny_bind (wpAny_bind (wpAny_field hos hds (x := .none) rfl (wpAny_bind (wpAny_listPart .none ?_))))
  refine PySem.W.KFB.if_not (by decide) ?_
  refine wpAny_bind (wpAny_field hos hds (x := .int a u) rfl (wpAny_bind (wpAny_listPart (.int _ _) ?_)))
  refine wpAny_bind (wpAny_field hos hds (x := .none) rfl (wpAny_bind (wpAny_listPart .none (wpAny_pure ?_))))
  dsimp only
  unfold Builtin.List.listItems
  refine wpAny_bind (wpAny_bind (wpAny_seqItems e rfl (wpAny_pure ?_)))
  refine wpAny_bind (wpAny_of_eq ((sliceIndices_raw (some (a : Int)) none none its.toArray.size (by simp)).trans (congrArg (pure : Int × Int × Int → Sem (Int × Int × Int)) (bounds_up (by rw [List.size_toArray]; omega)))) ?_)
  refine wpAny_bind (wpAny_rule ?_)
  have key : ∀ p : Nat → Bool, (∀ j, j < its.length → p j = decide (a ≤ j)) → (its.toArray.toList.zipIdx.filterMap fun (x, j) => if p j then none else some x) = its.take a := fun p hp => by
    have := filt_take p a its 0 fun j _ h2 => hp j (by omega)
    exact this
  refine wpAny_bind ?_
  show wpAny _ _ (updateSeq l _) _ _ _
  refine wpAny_updateSeq (hz := sz) (_hz' := ?_) e rfl (wpAny_bind (wpAny_letGo (wpAny_pure ⟨.none, rfl, wpAny_pure (h _ (I.lset (its' := its.take a) (t' := s.toks) hH e ?_ (r.take a) ?_))⟩)))
  · congr 1
    refine key _ fun j hj => ?_
    show (if (1 : Int) > 0 then decide ((a : Int) ≤ (j : Int)) && decide ((j : Int) < (its.toArray.size : Int)) && (((j : Int) - (a : Int)) % 1 == 0) else _) = _
    rw [if_pos (by decide), Int.emod_one, List.size_toArray]
    have e1 : decide ((j : Int) < (its.length : Int)) = true := decide_eq_true (by omega)
    rw [e1]
    simp
  · rw [List.length_take]; omega
  · refine Nat.le_succ_of_le (Nat.le_trans ?_ sz)
    rw [List.size_toArray, List.size_toArray]
    exact Nat.le_trans (List.length_filterMap_le _ _) (by simp)
end
end AI
/-! del xs[i:] as a statement. -/
namespace AI
open PySem PySem.Spec L2
open PyProof.Rows hiding St
section
variable {Z : Zt} {W : WX} {X : Cx} {σ : St} {Bs : List Nat}
theorem ps_delA {i : Nat} {x : Str} {e : Expr} {f : E2} {p p2 p3 pos : Pos} (hN : X.N[i]? = some x) (hv : Vis X.env.scope x) (hd : (x == ("__debug__" : Str)) = false) (hcd : (x == ("__classdict__" : Str)) = false) (he : SE Z W X e f) :
    PS X (.Delete [.Subscript (.Name x p) (.Slice (some e) none none p2) p3] pos) (tofS' Z W Bs fun A => if ownL A i then Ot.of (f.d A) fun y A1 => delA i y A1 else none) := by
  refine ⟨fun pins s σ H D I q => ?_⟩
  obtain ⟨G, A, st, q⟩ := q
  dsimp only at q
  cases eo : ownL A i with
  | false => rw [eo] at q; exact q.elim
  | true =>
    rw [eo, if_pos rfl] at q
    obtain ⟨ds, l, xs, _, a, _⟩ := ownL_inv st eo
    refine wpAny_Delete (wpAny_deleteEach_cons (wpAny_delete_Subscript (thn ((pe_var hN hv hd hcd).run pins s σ H (fun x H1 => x = .ref l ∧ H1 = H) I ⟨.ref l, a, rfl, rfl⟩) fun u s1 ⟨x1, H1, I1, rx, ex, eH⟩ => ?_)))
    subst ex eH
    obtain rfl : u = Value.ref l := rx
    refine wpAny_Slice ?_
    show wpAny _ _ (eval e X.env) _ _ _
    refine thn (he.d.run pins s1 σ H1 (fun v H2 => ∃ (n : Nat) (zs : List V), v = .int n ∧ H2 l = some (.lst zs) ∧ n ≤ zs.length ∧ D.nx σ (upd H2 l (.lst (zs.take n)))) I1 ?_) fun v s2 ⟨y, H2, I2, ry, n, zs, ey, hz, hn, w⟩ => ?_
    · refine tofO.of st q fun y A1 v G1 H2 s1 c1 r1 h1 => ?_
      have h1 : tofO Z W Bs (delA i y A1) σ A G H1 D := h1
      obtain ⟨es, n, e1, ey, b, h3⟩ : ∃ (es : List AI.D) (n : Int), A1[i]? = some (.o (.l es)) ∧ y = .int n ∧ (0 ≤ n ∧ n ≤ es.length) ∧ tofO Z W Bs (some (.nx (A1.set i (.o (.l (es.take n.toNat)))))) σ A G H1 D := by
        unfold delA at h1
        split at h1
        · split at h1
          · exact ⟨_, _, by assumption, rfl, by assumption, h1⟩
          · exact h1.elim
        · exact h1.elim
      subst ey
      obtain ⟨p1, o1, a1, g1, hp1, xs1, rfl, rx⟩ := s1.own i _ e1
      rw [a] at a1
      cases a1
      have r1 : Rep Z G1 (.int n) v := r1
      refine ⟨n.toNat, xs1, ?_, hp1, ?_, ?_⟩
      · rw [rep_int.mp r1, Int.toNat_of_nonneg b.1]
      · have := rx.len
        omega
      · exact h3 σ G1 _ (s1.writeAt e1 a ⟨_, rfl, rx.take _⟩) (c1.trans (.writeAt e1 a)).toS
    · subst ey
      obtain ⟨t, rfl⟩ := (show ∃ t, v = Value.int (n : Int) t from ry)
      refine wpAny_pure (wpAny_pure ?_)
      have J : Inv X pins σ H2 { s2 with heap := s2.heap.push { cls := .type "slice", data := .fields #[.int (n : Int) t, .none, .none] } } := I2.kept (t' := s2.toks) fun b o e => Heap.get?_push_of_some _ e
      exact del_from J hz (Heap.IsSliceOf.new _ _ _ _) hn fun s' I' => wpAny_deleteEach_nil ⟨σ, _, I', w⟩
end
end AI
/-! Defs. -/
namespace AI
open PySem PySem.Spec L2
open PyProof.Rows hiding St
section
variable {Z : Zt} {W : WX} {X : Cx} {G H G1 H1 G2 H2 G' H' : Hp} {σ σ' σ1 σ2 : St} {A A' A1 A2 B : As} {Bs nb : List Nat} {p : Addr} {o : HO}
/-- what is stored into stands still from the start -/
theorem entry_ok : ∀ {rs : List R} {pre : As} {G : Hp}, StR Z G H σ (pre ++ rs.map R.sl) → ∃ G1, StR Z G1 H σ (pre ++ entry nb pre.length rs) ∧ Ch σ (pre ++ rs.map R.sl) (pre ++ entry nb pre.length rs) G H G1 H
  | [], pre, G, s => ⟨G, s, .refl⟩
  | .v d :: rs, pre, G, s => by
    have e1 : pre ++ (R.v d :: rs).map R.sl = (pre ++ [.v d]) ++ rs.map R.sl := by rw [List.append_assoc]; rfl
    rw [e1] at s
    obtain ⟨G1, s1, c1⟩ := entry_ok s
    have e2 : (pre ++ [Sl.v d]) ++ entry nb (pre ++ [Sl.v d]).length rs = pre ++ entry nb pre.length (.v d :: rs) := by rw [List.append_assoc, List.length_append]; rfl
    rw [e2] at s1 c1
    rw [e1]
    exact ⟨G1, s1, c1⟩
  | .o b :: rs, pre, G, s => by
    have e1 : pre ++ (R.o b :: rs).map R.sl = (pre ++ [.o b]) ++ rs.map R.sl := by rw [List.append_assoc]; rfl
    by_cases m : pre.length ∈ nb
    · have e0 : (pre ++ (R.o b :: rs).map R.sl)[pre.length]? = some (.o b) := by rw [List.getElem?_append_right (Nat.le_refl _)]; simp [R.sl]
      obtain ⟨p, G0, a, s0, c0, r0⟩ := s.freezeAt e0
      have e3 : (pre ++ (R.o b :: rs).map R.sl).set pre.length (.v b.dd) = (pre ++ [.v b.dd]) ++ rs.map R.sl := by
        rw [List.set_append_right _ _ (Nat.le_refl _), Nat.sub_self, List.append_assoc]; rfl
      rw [e3] at s0 c0
      obtain ⟨G1, s1, c1⟩ := entry_ok s0
      have e2 : (pre ++ [Sl.v b.dd]) ++ entry nb (pre ++ [Sl.v b.dd]).length rs = pre ++ entry nb pre.length (.o b :: rs) := by
        rw [List.append_assoc, List.length_append]
        show pre ++ (Sl.v b.dd :: entry nb (pre.length + 1) rs) = pre ++ ((if pre.length ∈ nb then Sl.v b.dd else Sl.o b) :: entry nb (pre.length + 1) rs)
        rw [if_pos m]
      rw [e2] at s1 c1
      exact ⟨G1, s1, c0.trans c1⟩
    · rw [e1] at s
      obtain ⟨G1, s1, c1⟩ := entry_ok s
      have e2 : (pre ++ [Sl.o b]) ++ entry nb (pre ++ [Sl.o b]).length rs = pre ++ entry nb pre.length (.o b :: rs) := by
        rw [List.append_assoc, List.length_append]
        show pre ++ (Sl.o b :: entry nb (pre.length + 1) rs) = pre ++ ((if pre.length ∈ nb then Sl.v b.dd else Sl.o b) :: entry nb (pre.length + 1) rs)
        rw [if_neg m]
      rw [e2] at s1 c1
      rw [e1]
      exact ⟨G1, s1, c1⟩
theorem entry_len : ∀ {rs : List R} {k : Nat}, (entry nb k rs).length = rs.length
  | [], _ => rfl
  | .v d :: rs, k => by unfold entry; rw [List.length_cons, List.length_cons, entry_len]
  | .o b :: rs, k => by unfold entry; rw [List.length_cons, List.length_cons, entry_len]
theorem mem_lent : ∀ {e : As} {k i : Nat}, i ∈ lent k e ↔ ∃ (j : Nat) (b : Ob), i = k + j ∧ e[j]? = some (.o b)
  | [], k, i => by
    constructor
    · intro h; cases h
    · rintro ⟨j, b, _, h⟩
      simp at h
  | x :: e, k, i => by
    have rest : i ∈ lent (k + 1) e ↔ ∃ (j : Nat) (b : Ob), i = k + 1 + j ∧ e[j]? = some (.o b) := mem_lent
    have shift : (∃ (j : Nat) (b : Ob), i = k + 1 + j ∧ e[j]? = some (Sl.o b)) → ∃ (j : Nat) (b : Ob), i = k + j ∧ (x :: e)[j]? = some (Sl.o b) := fun ⟨j, b, h1, h2⟩ => ⟨j + 1, b, by omega, h2⟩
    cases x with
    | o b =>
      show i ∈ k :: lent (k + 1) e ↔ _
      rw [List.mem_cons, rest]
      constructor
      · rintro (h | h)
        · exact ⟨0, b, h, rfl⟩
        · exact shift h
      · rintro ⟨j, c, h1, h2⟩
        cases j with
        | zero => exact .inl h1
        | succ j => exact .inr ⟨j, c, by omega, h2⟩
    | v d =>
      show i ∈ lent (k + 1) e ↔ _
      rw [rest]
      constructor
      · exact shift
      · rintro ⟨j, c, h1, h2⟩
        cases j with
        | zero => cases h2
        | succ j => exact ⟨j, c, by omega, h2⟩
    | no =>
      show i ∈ lent (k + 1) e ↔ _
      rw [rest]
      constructor
      · exact shift
      · rintro ⟨j, c, h1, h2⟩
        cases j with
        | zero => cases h2
        | succ j => exact ⟨j, c, by omega, h2⟩
theorem backOf_len : ∀ {rs : List R} {e A : As}, rs.length = e.length → e.length ≤ A.length → (backOf rs e A).length = rs.length
  | [], [], A, _, _ => by unfold backOf; rfl
  | [], _ :: _, A, h, _ => by cases h
  | _ :: _, [], A, h, _ => by cases h
  | r :: rs, y :: e, [], _, h => by simp at h
  | .v d :: rs, y :: e, x :: A, h1, h2 => by
    unfold backOf
    rw [List.length_cons, List.length_cons, backOf_len (Nat.succ.inj h1) (Nat.le_of_succ_le_succ h2)]
  | .o b :: rs, .o c :: e, x :: A, h1, h2 => by
    unfold backOf
    rw [List.length_cons, List.length_cons, backOf_len (Nat.succ.inj h1) (Nat.le_of_succ_le_succ h2)]
  | .o b :: rs, .v c :: e, x :: A, h1, h2 => by
    unfold backOf
    rw [List.length_cons, List.length_cons, backOf_len (Nat.succ.inj h1) (Nat.le_of_succ_le_succ h2)]
  | .o b :: rs, .no :: e, x :: A, h1, h2 => by
    unfold backOf
    rw [List.length_cons, List.length_cons, backOf_len (Nat.succ.inj h1) (Nat.le_of_succ_le_succ h2)]
theorem backOf_get : ∀ {rs : List R} {e A : As} {i : Nat} {r : R} {y x : Sl}, rs[i]? = some r → e[i]? = some y → A[i]? = some x → rs.length = e.length → e.length ≤ A.length →
    (backOf rs e A)[i]? = some (match r, y with
      | .v _, _ => .no
      | .o _, .o _ => x
      | .o _, y => y)
  | [], _, _, _, _, _, _, h, _, _, _, _ => by simp at h
  | _ :: _, [], _, _, _, _, _, _, h, _, _, _ => by simp at h
  | _ :: _, _ :: _, [], _, _, _, _, _, _, h, _, _ => by simp at h
  | r0 :: rs, y0 :: e, x0 :: A, 0, r, y, x, h1, h2, h3, _, _ => by
    cases h1
    cases h2
    cases h3
    cases r0 with
    | v d => rfl
    | o b => cases y0 <;> rfl
  | r0 :: rs, y0 :: e, x0 :: A, i + 1, r, y, x, h1, h2, h3, l1, l2 => by
    have ih := backOf_get (i := i) (rs := rs) (e := e) (A := A) h1 h2 h3 (Nat.succ.inj l1) (Nat.le_of_succ_le_succ l2)
    cases r0 with
    | v d => exact ih
    | o b => cases y0 <;> exact ih
theorem entry_get : ∀ {rs : List R} {k i : Nat} {r : R}, rs[i]? = some r → (∃ d, r = .v d ∧ (entry nb k rs)[i]? = some (.v d)) ∨ ∃ b, r = .o b ∧ ((entry nb k rs)[i]? = some (.o b) ∨ (entry nb k rs)[i]? = some (.v b.dd))
  | [], _, _, _, h => by simp at h
  | .v d :: rs, k, 0, r, h => by cases h; exact .inl ⟨d, rfl, rfl⟩
  | .o b :: rs, k, 0, r, h => by
    cases h
    refine .inr ⟨b, rfl, ?_⟩
    unfold entry
    by_cases m : k ∈ nb
    · rw [if_pos m]; exact .inr rfl
    · rw [if_neg m]; exact .inl rfl
  | .v d :: rs, k, i + 1, r, h => by unfold entry; exact entry_get (rs := rs) (k := k + 1) (i := i) h
  | .o b :: rs, k, i + 1, r, h => by unfold entry; exact entry_get (rs := rs) (k := k + 1) (i := i) h
theorem start_get {N : List Str} {vs : List V} {i : Nat} (h : i < vs.length) : (L2.start N vs)[i]? = (vs.map some)[i]? := by
  unfold L2.start
  rw [List.getElem?_append_left (by rw [List.length_map]; exact h)]
theorem StR.wide {N : List Str} {vs : List V} {e : As} (s : StR Z G H (vs.map some) e) : StR Z G H (L2.start N vs) (e ++ List.replicate (N.length - vs.length) Sl.no) := by
  have hl : vs.length = e.length := by have := s.len; rw [List.length_map] at this; exact this
  have f : ∀ {i : Nat} {x : Sl}, (e ++ List.replicate (N.length - vs.length) Sl.no)[i]? = some x → x ≠ .no → i < vs.length ∧ e[i]? = some x := fun {i x} h n => by
    by_cases q : i < e.length
    · rw [List.getElem?_append_left q] at h
      exact ⟨by omega, h⟩
    · rw [List.getElem?_append_right (by omega), List.getElem?_replicate] at h
      split at h
      · exact (n (Option.some.inj h).symm).elim
      · cases h
  refine ⟨s.sub, by unfold L2.start; rw [List.length_append, List.length_append, List.length_map, List.length_replicate, List.length_replicate, hl], fun i d h => ?_, fun i b h => ?_, fun i j b c p h1 h2 a1 a2 => ?_⟩
  · obtain ⟨q, h'⟩ := f h (fun z => nomatch z)
    rw [start_get q]
    exact s.val i d h'
  · obtain ⟨q, h'⟩ := f h (fun z => nomatch z)
    rw [start_get q]
    exact s.own i b h'
  · obtain ⟨q1, h1'⟩ := f h1 (fun z => nomatch z)
    obtain ⟨q2, h2'⟩ := f h2 (fun z => nomatch z)
    rw [start_get q1] at a1
    rw [start_get q2] at a2
    exact s.inj i j b c p h1' h2' a1 a2
/-- what comes back -/
theorem back_ok {N : List Str} {vs : List V} {rs : List R} (s : StR Z G H (vs.map some) (rs.map R.sl)) (s1 : StR Z G1 H (vs.map some) (entry nb 0 rs)) (c1 : Ch (vs.map some) (rs.map R.sl) (entry nb 0 rs) G H G1 H)
    (s' : StR Z G' H' σ' A') (c' : ChS (lent 0 (entry nb 0 rs)) (L2.start N vs) (entry nb 0 rs ++ List.replicate (N.length - vs.length) Sl.no) σ' A' G1 H G' H') (hN : vs.length ≤ N.length) (hA : σ'.length = N.length) :
    StR Z G' H' (vs.map some) (backOf rs (entry nb 0 rs) A') ∧ Ch (vs.map some) (rs.map R.sl) (backOf rs (entry nb 0 rs) A') G H G' H' := by
  generalize he : entry nb 0 rs = e at s1 c1 c' ⊢
  have hl : vs.length = rs.length := by have := s.len; rw [List.length_map, List.length_map] at this; exact this
  have hel : e.length = rs.length := by rw [← he]; exact entry_len
  have hAl : rs.length ≤ A'.length := by have := s'.len; omega
  have A0get : ∀ {i : Nat}, i < rs.length → (e ++ List.replicate (N.length - vs.length) Sl.no)[i]? = e[i]? := fun {i} h => List.getElem?_append_left (by omega)
  -- what stands at a place that comes back
  have look : ∀ {i : Nat} {x : Sl}, (backOf rs e A')[i]? = some x → i < rs.length ∧ (x = .no ∨ (∃ b c, rs[i]? = some (.o b) ∧ e[i]? = some (.o c) ∧ A'[i]? = some x) ∨ ∃ b, rs[i]? = some (.o b) ∧ e[i]? = some x ∧ x = .v b.dd) := fun {i x} h => by
    have hi : i < rs.length := by
      have := (List.getElem?_eq_some_iff.mp h).1
      rw [backOf_len hel.symm (by omega)] at this
      exact this
    refine ⟨hi, ?_⟩
    have e1 := List.getElem?_eq_getElem hi
    have e2 : e[i]? = some (e[i]'(by omega)) := List.getElem?_eq_getElem _
    have e3 : A'[i]? = some (A'[i]'(by omega)) := List.getElem?_eq_getElem _
    have g := backOf_get e1 e2 e3 hel.symm (by omega)
    rw [h] at g
    have g := Option.some.inj g
    rcases entry_get (nb := nb) (k := 0) e1 with ⟨d, er, ee⟩ | ⟨b, er, ee | ee⟩
    · rw [er] at g
      exact .inl g
    · rw [he, e2] at ee
      have ee := Option.some.inj ee
      rw [er, ee] at g
      right; left
      exact ⟨b, b, by rw [e1, er], by rw [e2, ee], by rw [e3, g]⟩
    · rw [he, e2] at ee
      have ee := Option.some.inj ee
      rw [er, ee] at g
      right; right
      have g' : x = .v b.dd := g
      exact ⟨b, by rw [e1, er], by rw [e2, ee, g'], g'⟩
  have same : ∀ {i : Nat} {c : Ob}, e[i]? = some (.o c) → i < rs.length → σ'[i]? = (vs.map some)[i]? := fun {i c} h hi => by
    rw [c'.same i (mem_lent.mpr ⟨i, c, by omega, h⟩), start_get (by omega)]
  have ownb : ∀ {i : Nat} {b : Ob}, (backOf rs e A')[i]? = some (.o b) → i < rs.length ∧ ∃ b0 c, rs[i]? = some (.o b0) ∧ e[i]? = some (.o c) ∧ A'[i]? = some (.o b) ∧ σ'[i]? = (vs.map some)[i]? := fun {i b} h => by
    obtain ⟨hi, q⟩ := look h
    rcases q with q | ⟨b0, c, h1, h2, h3⟩ | ⟨b0, _, _, q⟩
    · cases q
    · exact ⟨hi, b0, c, h1, h2, h3, same h2 hi⟩
    · cases q
  have start_own : ∀ b, Own (L2.start N vs) (e ++ List.replicate (N.length - vs.length) Sl.no) b → Own (vs.map some) e b := fun b ⟨i, c, h, a⟩ => by
    by_cases q : i < e.length
    · rw [List.getElem?_append_left q] at h
      rw [start_get (by omega)] at a
      exact ⟨i, c, h, a⟩
    · rw [List.getElem?_append_right (by omega), List.getElem?_replicate] at h
      split at h <;> cases h
  refine ⟨⟨s'.sub, by rw [List.length_map, backOf_len hel.symm (by omega)]; exact hl, fun i d h => ?_, fun i b h => ?_, fun i j b c p h1 h2 a1 a2 => ?_⟩,
    ⟨c1.sub.trans c'.sub, fun b o h n => c'.keep b o h fun z => n (c1.own b (start_own b z)), fun b ⟨i, c, h, a⟩ => ?_, c'.dom, fun b o h => ?_, fun i b h => ?_, fun i c p h a => ?_⟩⟩
  · obtain ⟨hi, q⟩ := look h
    rcases q with q | ⟨b0, c, h1, h2, h3⟩ | ⟨b0, h1, h2, q⟩
    · cases q
    · rw [← same h2 hi]
      exact s'.val i d h3
    · obtain ⟨v, a, r⟩ := s1.val i d h2
      exact ⟨v, a, r.mono c'.sub⟩
  · obtain ⟨hi, b0, c, h1, h2, h3, h4⟩ := ownb h
    rw [← h4]
    exact s'.own i b h3
  · obtain ⟨_, _, _, _, _, f1, g1⟩ := ownb h1
    obtain ⟨_, _, _, _, _, f2, g2⟩ := ownb h2
    exact s'.inj i j b c p f1 f2 (by rw [g1]; exact a1) (by rw [g2]; exact a2)
  · obtain ⟨_, b0, _, f0, _⟩ := ownb h
    exact ⟨i, b0, by rw [List.getElem?_map, f0]; rfl, a⟩
  · rcases c'.lim b o h with ⟨u, z⟩ | z | z
    · exact c1.lim b u z
    · exact .inr (.inl z)
    · exact .inr (.inr (c1.own b (start_own b z)))
  · obtain ⟨_, b0, _, f0, _⟩ := ownb h
    exact ⟨b0, by rw [List.getElem?_map, f0]; rfl⟩
  · have hi : i < rs.length := by have := (List.getElem?_eq_some_iff.mp h).1; rw [List.length_map] at this; exact this
    rcases c1.st i c p h a with ⟨d, z⟩ | ⟨u, z⟩
    · rcases c'.st i (mem_lent.mpr ⟨i, d, by omega, z⟩) d p (by rw [A0get hi]; exact z) (by rw [start_get (by omega)]; exact a) with ⟨d2, y⟩ | y
      · have e1 := List.getElem?_eq_getElem hi
        have g := backOf_get e1 z y hel.symm (by omega)
        rw [List.getElem?_map, e1] at h
        have h := Option.some.inj h
        cases er : rs[i] with
        | v d => rw [er] at h; cases h
        | o b => rw [er] at g; exact .inl ⟨d2, g⟩
      · exact .inr y
    · exact .inr ⟨u, c'.sub p u z⟩
/-- a value that is handed back, seen by the caller -/
theorem ro_rr {N : List Str} {vs : List V} {rs : List R} {r : R} {v : V} (s : StR Z G H (vs.map some) (rs.map R.sl)) (c1 : Ch (vs.map some) (rs.map R.sl) (entry nb 0 rs) G H G1 H) (hl : vs.length = rs.length)
    (c' : ChS (lent 0 (entry nb 0 rs)) (L2.start N vs) (entry nb 0 rs ++ List.replicate (N.length - vs.length) Sl.no) σ' A' G1 H G' H')
    (h : RO Z (L2.start N vs) (entry nb 0 rs ++ List.replicate (N.length - vs.length) Sl.no) σ' A' H G' H' r v) : RR Z H G' H' r v := by
  cases r with
  | v d => exact h
  | o b =>
    obtain ⟨p, o, e, g, hp, ro, n, q⟩ := h
    refine ⟨p, o, e, ?_, g, hp, ro⟩
    rcases q with q | ⟨i, c, f, a⟩
    · exact q
    · exfalso
      have hel : (entry nb 0 rs).length = rs.length := entry_len
      by_cases z : i < (entry nb 0 rs).length
      · have f' := f
        rw [List.getElem?_append_left z] at f'
        have m : i ∈ lent 0 (entry nb 0 rs) := mem_lent.mpr ⟨i, c, by omega, f'⟩
        rcases c'.st i m c p f a with ⟨c2, y⟩ | ⟨u, y⟩
        · exact n ⟨i, c2, y, by rw [c'.same i m]; exact a⟩
        · rw [g] at y; cases y
      · rw [List.getElem?_append_right (by omega), List.getElem?_replicate] at f
        split at f <;> cases f
/-- a def as it stands behind the top, with defaults or none -/
structure FunG (K : PySem.W.Frag) (x qual : Str) (st : Stmt) (f : Addr) (fd : FuncData) : Prop where
  ex : ∃ (oc : Value) (od : Option Addr) (dV kV doc pm : Value) (an : Option Addr) (cdv ct : Value) (osl : Array (Option Value)),
    fd = PySem.W.fnOf x qual (defArgs st) (defBody st) (defScope st) dV kV doc pm an cdv ct ∧ K.lookup f = some ⟨oc, od, .func fd, osl⟩ ∧ PySem.W.codeIn K cdv qual = true
theorem FunG.okX {P : Program} {w : World} {K : PySem.W.Frag} {mg : Str → Option Value} {base : Heap} {x qual : Str} {st : Stmt} {f : Addr} {fd : FuncData} {N ps : List Str} {k : Nat} {sp : Sp} (F : FunG K x qual st f fd) (S : FnScope N ps (defScope st)) (len : ∀ vs H Q E, sp vs H Q E → vs.length = ps.length)
    (hbody : ∀ (cdv : Value) (A : Around) (outer : List Env) (s : Shared) (H : Hp) (vs : List V) (Q : VK) (E : XK), Room k (A.deeper (envOfC qual (defScope st) s.heap.objs.size f cdv)) → sp vs H Q E →
      ∃ t, PSs (cxOf (L2.CX P w) P w K mg base N qual (defScope st) f cdv A outer s H E) (defBody st) t ∧ t { nx := fun _ H' => Q .non H', rt := Q } (start N vs) H) : FnOk P w K mg base (L2.CX P w) (k + 1) f fd ps sp := by
  obtain ⟨oc, od, dV, kV, doc, pm, an, cdv, ct, osl, rfl, lk, hcd⟩ := F.ex
  exact fn_of lk hcd S len fun A outer s H vs Q E hr hsp => hbody cdv A outer s H vs Q E hr hsp
/-- a def's promise by its body -/
theorem def_ok {P : Program} {w : World} {mg : Str → Option Value} {base : Heap} {x : Str} {st : Stmt} {fa : Addr} {fd : FuncData} {k : Nat} {f : Df} {Pm : AI.Pm} (F : FunG Z.K x x st fa fd) (S : FnScope f.N f.ps (defScope st)) (hnp : f.ps.length ≤ f.N.length)
    (hbody : ∀ (cdv : Value) (A : Around) (outer : List Env) (s : Shared) (H : Hp) (E : XK) (Bs : List Nat), Room k (A.deeper (envOfC x (defScope st) s.heap.objs.size fa cdv)) →
      PSs (cxOf (L2.CX P w) P w Z.K mg base f.N x (defScope st) fa cdv A outer s H E) (defBody st) (tofS' Z (fun cls d _ H => E cls d H) Bs (sxs Pm Bs f.body))) :
    FnOk P w Z.K mg base (L2.CX P w) (k + 1) fa fd f.ps (spR Z f.ps.length (runD Pm f)) := by
  refine F.okX S (fun vs H Q E h => h.1) fun cdv A outer s H vs Q E hr h => ?_
  obtain ⟨hlen, G, rs, sr, h⟩ := h
  have hl : vs.length = rs.length := by have := sr.len; rw [List.length_map, List.length_map] at this; exact this
  refine ⟨_, hbody cdv A outer s H E (lent 0 (entry f.nb 0 rs)) hr, ?_⟩
  obtain ⟨G1, s1, c1⟩ := entry_ok (nb := f.nb) (pre := []) (rs := rs) sr
  have s1 : StR Z G1 H (vs.map some) (entry f.nb 0 rs) := s1
  have c1 : Ch (vs.map some) (rs.map R.sl) (entry f.nb 0 rs) G H G1 H := c1
  refine ⟨G1, _, s1.wide (N := f.N), ?_⟩
  unfold runD at h
  rw [if_pos (by omega)] at h
  dsimp only at h
  rw [← hlen] at h
  have wid : ∀ {σ' A' G' H'}, ChS (lent 0 (entry f.nb 0 rs)) (L2.start f.N vs) (entry f.nb 0 rs ++ List.replicate (f.N.length - vs.length) Sl.no) σ' A' G1 H G' H' → σ'.length = f.N.length := fun {σ' A' G' H'} c => by
    rw [c.len]
    unfold L2.start
    rw [List.length_append, List.length_map, List.length_replicate]; omega
  have hN : vs.length ≤ f.N.length := by omega
  cases eb : sxs Pm (lent 0 (entry f.nb 0 rs)) f.body (entry f.nb 0 rs ++ List.replicate (f.N.length - vs.length) Sl.no) with
  | none => rw [eb] at h; exact h.elim
  | some z =>
    rw [eb] at h
    cases z with
    | nx A' =>
      intro σ' G' H' s' c'
      obtain ⟨s2, c2⟩ := back_ok sr s1 c1 s' c' hN (wid c')
      exact h .non G' H' s2 c2 (show Rep Z G' .non .non by unfold Rep; rfl)
    | rt r A' =>
      intro v σ' G' H' s' c' ro
      obtain ⟨s2, c2⟩ := back_ok sr s1 c1 s' c' hN (wid c')
      exact h v G' H' s2 c2 (ro_rr sr c1 hl c' ro)
    | ex cc fs A' =>
      intro dx σ' G' H' s' c' xd
      obtain ⟨s2, c2⟩ := back_ok sr s1 c1 s' c' hN (wid c')
      exact h dx G' H' s2 c2 xd
    | bk A' => exact h.elim
    | ct A' => exact h.elim
end
end AI
/-! Own errors with one field: raised, caught. -/
namespace AI
open PySem PySem.Spec L2
open PyProof.Rows hiding St
/-- what an error's __init__ does -/
def spIni (K : PySem.W.Frag) (C : Addr) (f : Str) : Sp := fun vs H Q _ => ∃ (a : Addr) (y : V), vs = [.ref a, y] ∧ H a = some (exo a C none) ∧ OexC K C ∧ PySem.W.findIn K (.ref C) f = some none ∧
  ∀ dx, H dx = none → dx ≠ a → Q .non (upd (upd H dx (exd dx [(f, y)])) a (exo a C (some dx)))
/-- the text of such an __init__ -/
def iniOk (f : Str) (st : Stmt) : Bool := match defBody st with
  | [.Assign [.Attribute (.Name s _) g _] (.Name p _) _] => decide (g = f) && (decide (p ≠ s) && (decide ((defScope st).kind = .function) && (!(defScope st).isCoroutine && (!(defScope st).isGenerator && (decide ((defScope st).names.lookup s = some .local) && (decide ((defScope st).names.lookup p = some .local) &&
      ((defScope st).names.all (fun y => !decide (y.2 = .free)) && (!(s == ("__debug__" : Str)) && (!(p == ("__debug__" : Str)) && (!(s == ("__classdict__" : Str)) && !(p == ("__classdict__" : Str))))))))))))
  | _ => false
def iniPs (st : Stmt) : List Str := match defBody st with
  | [.Assign [.Attribute (.Name s _) _ _] (.Name p _) _] => [s, p]
  | _ => []
theorem ini_ok {P : Program} {w : World} {K : PySem.W.Frag} {mg : Str → Option Value} {base : Heap} {f qual : Str} {st : Stmt} {C fI : Addr} {fd : FuncData} {k : Nat} (F : FunG K "__init__" qual st fI fd) (h : iniOk f st = true) :
    FnOk P w K mg base (L2.CX P w) (k + 1) fI fd (iniPs st) (spIni K C f) := by
  unfold iniOk at h
  unfold iniPs
  split at h
  · rename_i s p1 g p2 p p3 p4 hb
    simp only [Bool.and_eq_true, decide_eq_true_eq, Bool.not_eq_true'] at h
    obtain ⟨rfl, hne, h1, h2, h3, h4, h5, h6, h7, h8, h9, h10⟩ := h
    have S : FnScope [s, p] [s, p] (defScope st) := ⟨h1, h2, h3, by simp [Ne.symm hne], rfl, fun x m => by
      rcases List.mem_cons.mp m with e | m
      · rw [e]; exact .inl h4
      · rw [List.mem_singleton.mp m]; exact .inl h5, fun y m => by
      have := List.all_eq_true.mp h6 y m
      simpa using this⟩
    refine F.okX S (fun vs H Q E q => by obtain ⟨a, y, rfl, _⟩ := q; rfl) fun cdv A outer s' H vs Q E hr q => ?_
    obtain ⟨a, y, rfl, ea, T, hno, q⟩ := q
    rw [hb]
    refine ⟨_, pss_one (ps_ost (pe_var (i := 0) rfl (.inl h4) h7 h9) (pe_var (i := 1) rfl (.inl h5) h8 h10)), ?_⟩
    refine ⟨y, rfl, .ref a, rfl, a, C, rfl, T, hno, .inl ⟨ea, fun dx n ne => q dx n ne⟩⟩
  · cases h
theorem pass_no {P : Program} {w : World} {X : Cx} (hP : X.prog = P) (hw : X.w = w) : Passes (L2.CX P w) X (fun _ _ _ => False) := fun _ _ _ _ _ _ _ h => by
  obtain ⟨_, _, _, _, _, _, _, _, _, _, _, _, z⟩ := h
  exact z.elim
/-- an error's class as it stands behind the top -/
structure ErrC (X : Cx) (k : Nat) (x f : Str) (C : Addr) : Prop where
  mgx : X.mg x = some (.ref C)
  T : OexC X.K C
  no : PySem.W.findIn X.K (.ref C) f = some none
  ini : ∃ (fI : Addr) (fd : FuncData) (ps : List Str), PySem.W.findIn X.K (.ref C) "__init__" = some (some (.ref fI)) ∧ PySem.W.typeIn X.K (.ref fI) = some (.type "function") ∧
    FnOk X.prog X.w X.K X.mg X.base (L2.CX X.prog X.w) k fI fd ps (spIni X.K C f) ∧ Binds X.K fd ps []
section
variable {Z : Zt} {W : WX} {X : Cx} {G H G1 H1 G2 H2 G' H' : Hp} {σ σ' σ1 σ2 : St} {A A' A1 A2 B : As} {Bs : List Nat} {k : Nat}
theorem ps_rseA {c : Nat} {x f : Str} {e : Expr} {g : E2} {p pos pos2 : Pos} (hc : X.calm = true) (tk : Takes X W) (hr : Room (k + 1) X.A) (E : ErrC X k x f (Z.ca c)) (hg : Gl X x) (he : SE Z W X e g) (ns : noStar e = true) (hdb : (x == ("__debug__" : Str)) = false) :
    PS X (.Raise (some (.Call (.Name x p) [e] [] pos)) none pos2) (tofS' Z W Bs fun A => Ot.of (g.d A) fun d A1 => some (.ex c [(f, d)] A1)) := by
  obtain ⟨fI, fd, ps, iC, tI, F1, hb⟩ := E.ini
  have hx : Passes (L2.CX X.prog X.w) X (fun _ _ _ => False) := pass_no rfl rfl
  refine ps_imp (ps_raise hc tk (pmk_oex E.T iC tI F1 hr hb .nil hx hg E.mgx (pa_cons he.d pa_nil (star_no ns)) hdb (star_no ns) rfl)) fun D σ H q => ?_
  obtain ⟨G, A, s, q⟩ := q
  refine tofO.of s q fun d A1 v G1 H1 s1 c1 r1 h1 => ?_
  have r1 : Rep Z G1 d v := r1
  refine ⟨by simp, fun a na => ⟨a, v, rfl, upd_same, E.T, E.no, fun dx n ne => ?_⟩⟩
  have nd : H1 dx = none := by rw [upd_ne ne] at n; exact n
  refine ⟨rfl, dx, [(f, v)], upd_same, ?_, nd, ?_⟩
  · rw [upd_ne ne, upd_same]
  · have eh : upd (L2.del (upd (upd (upd H1 a (exo a (Z.ca c) none)) dx (exd dx [(f, v)])) a (exo a (Z.ca c) (some dx))) a) dx (.xd [(f, v)]) = upd H1 dx (.xd [(f, v)]) := by
      funext b
      by_cases e1 : b = dx
      · rw [e1, upd_same, upd_same]
      · rw [upd_ne e1, upd_ne e1]
        by_cases e2 : b = a
        · rw [e2, L2.del_same, na]
        · rw [L2.del_ne e2, upd_ne e2, upd_ne e1, upd_ne e2]
    rw [eh]
    exact h1 (some dx) σ G1 _ (s1.grow nd) (c1.grow nd).toS (.inr ⟨dx, [(f, v)], rfl, upd_same, rfl, .one r1⟩)
end
end AI
/-! Own errors without fields: C() whose __init__ is pass. -/
namespace AI
open PySem PySem.Spec L2
open PyProof.Rows hiding St
/-- what such an __init__ does: nothing -/
def spIni0 (C : Addr) : Sp := fun vs H Q _ => ∃ a : Addr, vs = [.ref a] ∧ Q .non H
def iniOk0 (st : Stmt) : Bool := match defBody st with
  | [.Pass _] => (decide ((defScope st).kind = .function) && (!(defScope st).isCoroutine && (!(defScope st).isGenerator && (decide ((defScope st).names.lookup ("self" : Str) = some .local) && (defScope st).names.all (fun y => !decide (y.2 = .free))))))
  | _ => false
theorem ini_ok0 {P : Program} {w : World} {K : PySem.W.Frag} {mg : Str → Option Value} {base : Heap} {qual : Str} {st : Stmt} {C fI : Addr} {fd : FuncData} {k : Nat} (F : FunG K "__init__" qual st fI fd) (h : iniOk0 st = true) :
    FnOk P w K mg base (L2.CX P w) (k + 1) fI fd ["self"] (spIni0 C) := by
  unfold iniOk0 at h
  split at h
  · rename_i pp hb
    simp only [Bool.and_eq_true, decide_eq_true_eq, Bool.not_eq_true'] at h
    obtain ⟨h1, h2, h3, h4, h6⟩ := h
    have S : FnScope [("self" : Str)] [("self" : Str)] (defScope st) := ⟨h1, h2, h3, by simp, rfl, fun x m => by
      rw [List.mem_singleton.mp m]; exact .inl h4, fun y m => by
      have := List.all_eq_true.mp h6 y m
      simpa using this⟩
    refine F.okX S (fun vs H Q E q => by obtain ⟨a, rfl, _⟩ := q; rfl) fun cdv A outer s' H vs Q E hr q => ?_
    obtain ⟨a, rfl, q⟩ := q
    rw [hb]
    exact ⟨_, pss_one ps_pass, q⟩
  · cases h
/-- what was laid at a new place is let go again -/
theorem un_away {fs : List Addr} {H1 H2 : Hp} {hp hp2 h2 G : Heap} {a : Addr} {u : HO} (new : hp.objs.size ≤ a) (fresh : H1 a = none) (more : ∀ b o, hp.get? b = some o → hp2.get? b = some o) (U : Un fs [] (upd H1 a u) H2 hp2 h2) (same : ∀ b, b ≠ a → G.get? b = h2.get? b) :
    Un fs [] H1 (L2.del H2 a) hp G := by
  have old : ∀ b o, hp.get? b = some o → b ≠ a := fun b o e z => by
    rw [z] at e
    exact absurd (Heap.lt_size e) (Nat.not_lt.mpr new)
  have away : ∀ b, b ≠ a → upd H1 a u b = H1 b := fun b z => upd_ne z
  have used : ∀ b w, H1 b = some w → b ≠ a := fun b w e z => by rw [z, fresh] at e; cases e
  have gone : ∀ b, b ≠ a → L2.del H2 a b = H2 b := fun b z => L2.del_ne z
  constructor
  case keep => intro b o e n f x; rw [same b (old b o e)]; exact U.keep b o (more b o e) ((away b (old b o e)).trans n) f x
  case slot => intro b o e n f x; rw [same b (old b o e)]; exact U.slot b o (more b o e) ((away b (old b o e)).trans n) f x
  case free => intro b o e n x; exact (gone b (old b o e)).trans (U.free b o (more b o e) ((away b (old b o e)).trans n) x)
  case there => intro b o e x; rw [same b (old b o e)]; exact U.there b o (more b o e) x
  case tups => intro b xs e; exact (gone b (used b _ e)).trans (U.tups b xs ((away b (used b _ e)).trans e))
  case frzs => intro b o v e; exact (gone b (used b _ e)).trans (U.frzs b o v ((away b (used b _ e)).trans e))
  case tbls => intro b ps e; rw [gone b (used b _ e)]; exact U.tbls b ps ((away b (used b _ e)).trans e)
theorem hok_away {P : Program} {w : World} {H2 : Hp} {h2 G : Heap} {a C : Addr} (ea : H2 a = some (exo a C none)) (hok : HOk P w H2 h2) (same : ∀ b, b ≠ a → G.get? b = h2.get? b) : HOk P w (L2.del H2 a) G := by
  intro b o e
  have ba : b ≠ a := fun z => by rw [z, L2.del_same] at e; cases e
  have owner : ∀ c, H2 c = some (.own b) → c ≠ a := fun c q => at_ne ea q exo_own
  refine (hok b o ((L2.del_ne ba).symm.trans e)).stay ?_ ?_ ?_
  · intro c v q y
    rcases q with q | q
    · exact (same c (by rw [q]; exact ba)).trans y
    · exact (same c (owner c q)).trans y
  · exact fun c q => (L2.del_ne (owner c q)).trans q
  · exact fun c xs q => (L2.del_ne (at_ne ea q exo_tup)).trans q
/-- the end of C(): the exception is let go -/
theorem mk_endN {X : Cx} {pins : List (Addr × Obj)} {σ : St} {H1 H2 : Hp} {Q : XK} {s0 s2 : Shared} {hp2 : Heap} {a C : Addr} (T : Raises X (.ref C)) (I : Inv X pins σ H1 s0) (new : s0.heap.objs.size ≤ a) (more : ∀ b o, s0.heap.get? b = some o → hp2.get? b = some o)
    (U : Un (frs X.stack) [] (upd H1 a (exo a C none)) H2 hp2 s2.heap) (hok : HOk X.prog X.w H2 s2.heap) (os : s2.os = s0.os) (bare : AllBare s2.gens) (ea : H2 a = some (exo a C none)) (q : Q (.ref C) none (L2.del H2 a)) : MkP X pins σ Q (.ref a) s2 := by
  obtain ⟨t, lies⟩ := exo_at hok ea
  obtain ⟨G, g1, g2⟩ := restrict s2.heap fun b => !decide (b = a)
  have same : ∀ b, b ≠ a → G.get? b = s2.heap.get? b := fun b z => g1 b (by simp [z])
  have none_a : G.get? a = none := g2 a (by simp)
  obtain ⟨h2, gs, d2, t2, os2⟩ := s2
  obtain ⟨hp, gs0, d0, t0, os0⟩ := s0
  have J : Inv X pins σ (L2.del H2 a) ⟨G, gs, d2, t2, os2⟩ := I.call' (ch := []) os (un_away new (I.hok.fresh new) more U same) (hok_away ea hok same) bare (fun b z => absurd z (by simp))
  have sub : ∀ b o, G.get? b = some o → h2.get? b = some o := fun b o e => by
    have z : b ≠ a := fun z => by rw [z, none_a] at e; cases e
    rw [← same b z]; exact e
  exact ⟨a, _, _, ⟨G, gs, d2, t2, os2⟩, _, .ref C, none, rfl, J, sub, none_a, lies, ⟨rfl, rfl⟩, rfl, rfl, L2.del_same, rfl, bare, T, q⟩
/-- C() -/
def tMk0 (C : Addr) : St → Hp → XK → Prop := fun σ H Q => Q (.ref C) none H
theorem pmk_oex0 {X : Cx} {CX : CXT} {x : Str} {C fI : Addr} {k : Nat} {fd : FuncData} {p pos : Pos} (T : OexC X.K C) (iC : PySem.W.findIn X.K (.ref C) "__init__" = some (some (.ref fI))) (tI : PySem.W.typeIn X.K (.ref fI) = some (.type "function"))
    (F1 : FnOk X.prog X.w X.K X.mg X.base CX k fI fd ["self"] (spIni0 C)) (hr : Room (k + 1) X.A) (hb : Binds X.K fd ["self"] []) (hx : Passes CX X (fun _ _ _ => False)) (hg : Gl X x) (hm : X.mg x = some (.ref C))
    (hdb : (x == ("__debug__" : Str)) = false) :
    PMk X (.Call (.Name x p) [] [] pos) (tMk0 C) := by
  intro pins s σ H Q I h
  obtain ⟨_, _, _, _, bm, _, _, _, _, _, _, _, _, _, _, lies, base⟩ := T.cls
  refine wpAny_Call_Name_kw (ld_glob I hg hm (PySem.W.callWith_K0 (first := []) I.kIn T.kC ?_) hdb)
  show wpAny _ _ (call (.ref C) []) _ _ _
  have new : s.heap.objs.size ≤ s.heap.objs.size + 1 := by omega
  have free : H (s.heap.objs.size + 1) = none := I.hok.fresh new
  let h1 := (s.heap.push (PySem.W.kdv_tup [])).push (PySem.HandSPX.excO C s.heap.objs.size)
  have more : ∀ b o, s.heap.get? b = some o → h1.get? b = some o := fun b o e => Heap.get?_push_of_some _ (Heap.get?_push_of_some _ e)
  have at1 : h1.get? (s.heap.objs.size + 1) = some (PySem.HandSPX.excO C s.heap.objs.size) := by show ((s.heap.push (PySem.W.kdv_tup [])).push (PySem.HandSPX.excO C s.heap.objs.size)).get? _ = _; heap_get
  have J : Inv X pins σ (upd H (s.heap.objs.size + 1) (exo (s.heap.objs.size + 1) C none)) { s with heap := h1 } := I.laid (t' := s.toks) more new (exo_ok at1)
  have wish : spIni0 C [V.ref (s.heap.objs.size + 1)] (upd H (s.heap.objs.size + 1) (exo (s.heap.objs.size + 1) C none)) (fun v H2 => v = .non ∧ H2 = upd H (s.heap.objs.size + 1) (exo (s.heap.objs.size + 1) C none)) (fun _ _ _ => False) := ⟨_, rfl, rfl, rfl⟩
  have run := F1.run _ X.stack { s with heap := h1 } _ ⟨[Value.ref (s.heap.objs.size + 1)], []⟩ [Value.ref (s.heap.objs.size + 1)] _ _ (fun _ _ _ => False) (hr.make C [] []) (J.env0.make C [] []) (hb _ [Value.ref (s.heap.objs.size + 1)] J.kIn rfl) (.cons (show RelV (V.ref _) (Value.ref _) from rfl) .nil) wish
  have back : L2.del (upd H (s.heap.objs.size + 1) (exo (s.heap.objs.size + 1) C none)) (s.heap.objs.size + 1) = H := funext fun b => by
    by_cases z : b = s.heap.objs.size + 1
    · rw [z, L2.del_same, free]
    · rw [L2.del_ne z, upd_ne z]
  refine wpAny_call (PySem.HandSPX.call_own F.excBase_ValueError (fun Y => PySem.HandSPX.refsVE_contains Y bm base) (I.kIn _ _ lies) (PySem.W.looks_findIn I.kIn iC) (fun self => PySem.W.bind_fn I.kIn self tI) (by decide) (codeAny_mono run fun r s2 z => ?_))
  match r, z with
  | .error er, z => exact hx pins σ _ _ er s2 J z
  | .ok (.ret u), z =>
    obtain ⟨v, H2, os2, bare2, un2, hok2, rv, ev, eH⟩ := z
    subst ev eH
    exact ⟨rv, mk_endN (raises_own T.exC T.tyC) I new more un2 hok2 os2 bare2 upd_same (by rw [back]; exact h)⟩
/-- a class of errors without fields as it stands behind the top -/
structure ErrC0 (X : Cx) (k : Nat) (x : Str) (C : Addr) : Prop where
  mgx : X.mg x = some (.ref C)
  T : OexC X.K C
  ini : ∃ (fI : Addr) (fd : FuncData), PySem.W.findIn X.K (.ref C) "__init__" = some (some (.ref fI)) ∧ PySem.W.typeIn X.K (.ref fI) = some (.type "function") ∧
    FnOk X.prog X.w X.K X.mg X.base (L2.CX X.prog X.w) k fI fd ["self"] (spIni0 C) ∧ Binds X.K fd ["self"] []
section
variable {Z : Zt} {W : WX} {X : Cx} {G H : Hp} {σ : St} {A : As} {Bs : List Nat} {k : Nat}
theorem ps_rse0A {c : Nat} {x : Str} {p pos pos2 : Pos} (hc : X.calm = true) (tk : Takes X W) (hr : Room (k + 1) X.A) (E : ErrC0 X k x (Z.ca c)) (hg : Gl X x) (hdb : (x == ("__debug__" : Str)) = false) :
    PS X (.Raise (some (.Call (.Name x p) [] [] pos)) none pos2) (tofS' Z W Bs fun A => some (.ex c [] A)) := by
  obtain ⟨fI, fd, iC, tI, F1, hb⟩ := E.ini
  have hx : Passes (L2.CX X.prog X.w) X (fun _ _ _ => False) := pass_no rfl rfl
  refine ps_imp (ps_raise hc tk (pmk_oex0 E.T iC tI F1 hr hb hx hg E.mgx hdb)) fun D σ H q => ?_
  obtain ⟨G, A, s, q⟩ := q
  exact q none σ G H s .refl (.inl ⟨rfl, rfl⟩)
end
end AI
namespace AI
open PySem PySem.Spec L2
open PyProof.Rows hiding St
/-- an error's class with one field, or ("") with none -/
structure ErrG (X : Cx) (k : Nat) (x f : Str) (C : Addr) : Prop where
  mgx : X.mg x = some (.ref C)
  one : f ≠ "" → ErrC X k x f C
  zero : f = "" → ErrC0 X k x C
end AI
/-! try with clauses, each with a name or none. -/
namespace AI
open PySem PySem.Spec L2
open PyProof.Rows hiding St
/-- the ends of a suite, whose name then goes -/
def goneE (o : Option Nat) (D : Ends) : Ends := match o with
  | none => D
  | some i => ⟨fun u v => D.nx (u.set i none) v, D.rt, fun u v => D.bk (u.set i none) v, fun u v => D.ct (u.set i none) v⟩
def putE (o : Option Nat) (a : Addr) (u : St) : St := match o with
  | none => u
  | some i => u.set i (some (.ref a))
abbrev Clau := Value × Option Nat × (Addr → Value → Option Addr → TS)
def wCls (K : PySem.W.Frag) (Wo : WX) (D : Ends) : List Clau → WX
  | [] => Wo
  | q :: r => fun e d u v => ∃ t, PySem.W.exmOne K e q.1 = some t ∧ (t = true → ∀ p, v p = none → q.2.2 p e d (goneE q.2.1 D) (putE q.2.1 p u) v) ∧ (t = false → wCls K Wo D r e d u v)
def nameAt (X : Cx) (o : Option Nat) (hn : Option Str) : Prop := match o with
  | none => hn = none
  | some i => ∃ n, hn = some n ∧ X.N[i]? = some n ∧ X.env.kindOf n = some .local
inductive ClsOk (X : Cx) : List ExceptHandler → List Clau → Prop
  | nil : ClsOk X [] []
  | cons {x : Str} {c : Value} {o : Option Nat} {hn : Option Str} {ts : Addr → Value → Option Addr → TS} {b : Stmt} {su : List Stmt} {np ep : Pos} {rs : List ExceptHandler} {l : List Clau} (nm : Names X x c) (na : nameAt X o hn)
      (su_ok : ∀ (p : Addr) (q : Obj) (e : Value) (d : Option Addr) (pn : List (Addr × Obj)), Zc e d q → (∃ fs, q.data = .fields fs) → PSs (X.suite p ((p, q) :: pn)) (b :: su) (ts p e d)) (more : ClsOk X rs l) :
      ClsOk X (.ExceptHandler (some (.Name x np)) hn (b :: su) ep :: rs) ((c, o, ts) :: l)
theorem ps_tryN {X : Cx} {body : List Stmt} {h0 : ExceptHandler} {rs : List ExceptHandler} {l : List Clau} {pos : Pos} {tb : WX → TS} {Wo : WX} (stk : X.stack = X.env :: X.outer) (frm : X.env.frame = some X.env.locals) (nd : X.N.Nodup) (tk : Takes X Wo)
    (bd : ∀ (W : WX) (pn : List (Addr × Obj)) (xe : Value → Shared → Prop), Takes (X.tr pn xe) W → PassesOwn (model X.prog X.w) X.A X.env xe → PSs (X.tr pn xe) body (tb W)) (cl : ClsOk X (h0 :: rs) l) :
    PS X (.Try body (h0 :: rs) [] [] pos) (fun D u v => tb (wCls X.K Wo D l) D u v) := by
  constructor
  intro pins s0 u0 v0 D inv0 wish
  have ok0 := inv0.ok
  have afr : X.A.frames = some (X.env :: X.outer) := ok0.frames.trans (congrArg some stk)
  refine wpAny_Try_except ?_
  have begins := (bd (wCls X.K Wo D l) (X.pn ++ pins) (fun e s₁ => wpAny (model X.prog X.w) X.A (noteFrame e X.env) (fun _ s₂ => wpAny (model X.prog X.w) X.A (setFlight e none) (fun _ s₃ => wpAny (model X.prog X.w) X.A (handleBy e X.env (h0 :: rs)) (SP X pins D) X.xe s₃) X.xe s₂) X.xe s₁) (fun y z air => ?_) PassesOwn.looking).run [] s0 u0 v0 D (inv0.toTry _) wish
  · refine wpAny_mono begins (fun fl s1 w1 => ?_) (fun _ _ z => z)
    cases fl with
    | next => obtain ⟨u, v, J, q⟩ := w1; exact wpAny_execs_nil ⟨u, v, J.ofTry ok0, q⟩
    | brk => obtain ⟨u, v, J, q⟩ := w1; exact ⟨u, v, J.ofTry ok0, q⟩
    | cont => obtain ⟨u, v, J, q⟩ := w1; exact ⟨u, v, J.ofTry ok0, q⟩
    | ret y => obtain ⟨w, u, v, J, r, q⟩ := w1; exact ⟨w, u, v, J.ofTry ok0, r, q⟩
  · obtain ⟨p, B, sI, pins', u, v, e, d, rfl, J', nb, up, sky, free, os, ag, w⟩ := air
    have J : Inv X pins u v sI := J'.ofTry ok0
    show wpAny (model X.prog X.w) X.A (noteFrame (.ref p) X.env) _ _ _
    refine Sky.land Zc.steady afr frm (show Sky B (X.env :: X.outer) p (Zc e d) X.env.locals z.heap by rw [← stk]; exact sky) fun h3 fl3 up3 => ?_
    have J3 : Inv X pins u v { z with heap := h3 } := J.landed nb fl3.1 (up.trans up3) os ag
    obtain ⟨o3, vs3, at3, zc3, dat3⟩ := fl3.there
    have out : p ∉ frs (X.env :: X.outer) := fun hm => by
      obtain ⟨_, o', e', no⟩ := fl3.2.2.1.mem hm
      rw [at3] at e'
      cases e'
      exact no _ dat3
    have neL : p ≠ X.env.locals := fun q => out (List.mem_filterMap.mpr ⟨X.env, List.mem_cons_self, frm.trans (congrArg some q.symm)⟩)
    have neF : p ∉ X.fs := fun hm => by
      obtain ⟨en, men, q⟩ := List.mem_filterMap.mp hm
      exact out (List.mem_filterMap.mpr ⟨en, List.mem_cons_of_mem _ men, q⟩)
    have S3 := J3.suite at3 dat3 free neL neF
    clear wish inv0
    have walk : ∀ {rs' : List ExceptHandler} {l' : List Clau}, ClsOk X rs' l' → wCls X.K Wo D l' e d u v → wpAny (model X.prog X.w) X.A (handleBy (.ref p) X.env rs') (SP X pins D) X.xe { z with heap := h3 } := by
      intro rs' l' ck
      induction ck with
      | nil =>
        intro w
        refine wpAny_handleBy_nil ?_
        obtain ⟨k1, k2, k3, oe, fs, T, oT, ts', atp, hz, hd, h1, hr⟩ := id fl3
        unfold PySem.passOn
        refine wpAny_bind (wpAny_field atp hd h1 ?_)
        rw [if_neg (by simp : ¬ ((Value.ref T == Value.none) = true))]
        have last : wpAny (model X.prog X.w) X.A (setFlight (.ref p) X.env.frame) (fun _ s4 => wpAny (model X.prog X.w) X.A (throw (.ref p) : Sem Flow) (SP X pins D) X.xe s4) X.xe { z with heap := h3 } := by
          rw [frm]
          refine HandSPX.setFlight_upZ fl3 fun h4 hh4 up4 => wpAny_throw (tk _ _ ?_)
          exact ⟨p, B, sI, pins, u, v, e, d, rfl, J, nb, (up.trans up3).trans up4, .inr (.inr (stk.symm ▸ hh4)), free, os, ag, w⟩
        first
          | exact wpAny_bind (wpAny_pure (wpAny_bind last))
          | exact wpAny_bind last
      | @cons x c o hn ts b su np ep rs2 l2 nm na suk more ih =>
        intro w
        obtain ⟨t, ht, yes, no⟩ := w
        refine wpAny_handleBy_cons (codeAny_handlers_test ?_) (fun q => by cases q)
        have looks := PySem.W.exm_one (M := model X.prog X.w) J3.kIn (fun A Q E s k q => wpAny_typeOf_ref (k _ _ at3) (by rw [zc3.1]; exact q) : PySem.W.Looks (model X.prog X.w) h3 (typeOf (.ref p)) e) ht
        have clause : ∀ {Q : Value → Shared → Prop} {E : Value → Shared → Prop}, Q c { z with heap := h3 } → wpAny (model X.prog X.w) (X.A.mark (some (.ref p))) (eval (.Name x np) X.env) Q E { z with heap := h3 } := fun {Q E} q => by
          obtain ⟨g1, g2, g3 | ⟨g3, g4, g5⟩⟩ := nm
          · exact ld_glob (X := X.suite p ((p, o3) :: (X.pn ++ pins))) S3 g1 g3 q g2
          · exact ld_blt (X := X.suite p ((p, o3) :: (X.pn ++ pins))) S3 g1 g3 g4 q g5 g2
        refine clause (looks.here ?_)
        cases t with
        | false => exact ih (no rfl)
        | true =>
          cases o with
          | none =>
            have na : hn = none := na
            subst na
            refine codeAny_handlers_suite (HandSPX.lands_againZ fl3 fun h4 fl4 up4 => ?_)
            have J4 : Inv X pins u v { z with heap := h4 } := J.landed nb fl4.1 ((up.trans up3).trans up4) os ag
            obtain ⟨o4, vs4, at4, zc4, dat4⟩ := fl4.there
            refine wpAny_mono ((suk p o4 e d (X.pn ++ pins) zc4 ⟨_, dat4⟩).run [] _ _ v _ (J4.suite at4 dat4 free neL neF) (yes rfl p free)) (fun fl s6 w6 => ?_) (fun _ _ q => q.elim)
            cases fl with
            | next => obtain ⟨u6, v6, S6, q6⟩ := w6; exact ⟨_, _, S6.unsuite ok0, q6⟩
            | brk => obtain ⟨u6, v6, S6, q6⟩ := w6; exact ⟨_, _, S6.unsuite ok0, q6⟩
            | cont => obtain ⟨u6, v6, S6, q6⟩ := w6; exact ⟨_, _, S6.unsuite ok0, q6⟩
            | ret y => obtain ⟨w7, u6, v6, S6, r6, q6⟩ := w6; exact ⟨_, _, _, S6.unsuite ok0, r6, q6⟩
          | some i =>
            obtain ⟨n, rfl, hi, kn⟩ := na
            refine codeAny_handlers_suite_as (HandSPX.lands_againZ fl3 fun h4 fl4 up4 => ?_)
            have J4 : Inv X pins u v { z with heap := h4 } := J.landed nb fl4.1 ((up.trans up3).trans up4) os ag
            obtain ⟨o4, vs4, at4, zc4, dat4⟩ := fl4.there
            refine store_ok (X := X.suite p ((p, o4) :: (X.pn ++ pins))) (v := .ref p) (J4.suite at4 dat4 free neL neF) nd hi (.inl kn : Loc X.env.scope n) rfl (fun s5 S5 => ?_) (.inr kn)
            refine wpAny_mono ((suk p o4 e d (X.pn ++ pins) zc4 ⟨_, dat4⟩).run [] s5 _ v _ S5 (yes rfl p free)) (fun fl s6 w6 => ?_) (fun _ _ q => q.elim)
            have fin : ∀ {u6 : St} {v6 : Hp} {Q : Shared → Prop}, Inv (X.suite p ((p, o4) :: (X.pn ++ pins))) [] u6 v6 s6 → (∀ s7, Inv X pins (u6.set i none) v6 s7 → Q s7) → wpAny (model X.prog X.w) X.A (do bindName X.env n .none; unbindBehindTheSuite X.env n ep) (fun _ s7 => Q s7) X.xe s6 := fun S6 hq => gone_ok (S6.unsuite ok0) nd hi kn hq
            cases fl with
            | next => obtain ⟨u6, v6, S6, q6⟩ := w6; exact fin S6 fun s7 J7 => ⟨_, _, J7, q6⟩
            | brk => obtain ⟨u6, v6, S6, q6⟩ := w6; exact fin S6 fun s7 J7 => ⟨_, _, J7, q6⟩
            | cont => obtain ⟨u6, v6, S6, q6⟩ := w6; exact fin S6 fun s7 J7 => ⟨_, _, J7, q6⟩
            | ret y => obtain ⟨w7, u6, v6, S6, r6, q6⟩ := w6; exact fin S6 fun s7 J7 => ⟨_, _, _, J7, r6, q6⟩
    exact walk cl w
end AI
/-! What a handler's list holds. -/
namespace AI
open PySem PySem.Spec L2
open PyProof.Rows hiding St
/-- what the classes of own errors tell: n of them; bas: names that isinstance asks for -/
structure ErrT (K : PySem.W.Frag) (mg : Str → Option Value) (Z : Zt) (n : Nat) (fl : Nat → Option Str) (bas : List Str) : Prop where
  exm : ∀ c c', c < n → c' < n → PySem.W.exmOne K (.ref (Z.ca c)) (.ref (Z.ca c')) = some (decide (c = c'))
  xf : ∀ c, c < n → XfC K (Z.ca c)
  no : ∀ c f, c < n → fl c = some f → PySem.W.findIn K (.ref (Z.ca c)) f = some none
  isc : ∀ c, c < n → ExcC K (Z.ca c)
  bs : ∀ x, x ∈ bas → ∃ (v : V) (u : Value), (∀ w, RelV v w → w = u) ∧ RelV v u ∧ (mg x = some u ∨ (mg x = none ∧ bootBuiltins x = some u ∧ x ≠ "__name__")) ∧ ∀ c, c < n → PySem.W.kitOne K (.ref (Z.ca c)) u = some true
section
variable {Z : Zt} {X : Cx} {G H : Hp} {σ : St}
/-- what isinstance is asked of -/
def rIsX (K : PySem.W.Frag) (D a : Addr) (d : Option Addr) : List V → Hp → VK → Prop := fun xs H Q => ∃ (c : V) (u : Value) (b : Bool), xs = [.ref a, c] ∧ (∀ w, RelV c w → w = u) ∧ PySem.W.kitOne K (.ref D) u = some b ∧ (d = none ∨ ∃ dd fs, d = some dd ∧ H dd = some (.xd fs)) ∧ Q (.bl b) H
theorem call_isX {a D : Addr} {d : Option Addr} {oe : Obj} {pn : List (Addr × Obj)} (C : ExcC X.K D) (hz : Zc (.ref D) d oe) (hf : ∃ vs, oe.data = .fields vs) : CallR (X.suite a ((a, oe) :: pn)) (.builtin "isinstance") (rIsX X.K D a d) := by
  intro pins s u H xs us Q I rel h
  obtain ⟨c, w, b, rfl, only, kit, hd, q⟩ := h
  cases rel with
  | cons rx rr =>
    cases rr with
    | cons rt rr =>
      cases rr
      cases rx
      have ew := only _ rt
      subst ew
      obtain ⟨here, _⟩ := I.pin (a, oe) (List.mem_append.mpr (.inl List.mem_cons_self))
      obtain ⟨fs0, dat⟩ := hf
      have inst : ∃ od, PySem.W.InstAt s.heap a oe D od := by
        rcases hd with rfl | ⟨dd, fs, rfl, at_⟩
        · refine ⟨none, here, hz.1, by unfold PySem.W.notCls; rw [dat] <;> rfl, ?_⟩
          rw [hz.2]
          trivial
        · have ok : ObjOk X.prog X.w H s.heap dd (.xd fs) := I.hok dd _ at_
          obtain ⟨mA, hns, hr⟩ := ok
          obtain ⟨od, ho, hl⟩ := lookIn_ns hns
          exact ⟨some od, here, hz.1, by unfold PySem.W.notCls; rw [dat] <;> rfl, by rw [hz.2]; exact ho⟩
      obtain ⟨od, J⟩ := inst
      have hcl : (PySem.W.clsIn X.K D).isSome = true := by obtain ⟨cd, hc, _⟩ := PySem.W.any_some C.hd; rw [hc]; rfl
      exact PySem.W.kia_one (PySem.W.kitx_exc hcl C.hg C.hk C.hs C.ha C.hn C.ht C.hm) I.kIn J kit (fun z => nomatch z) fun tk => ⟨.bl b, H, I.kept (t' := tk) fun _ _ z => z, rfl, q⟩
/-- a field of an error -/
theorem xd_field {fs : List (Str × D)} {d : Option Addr} {f : Str} {y : D} (h : XD Z G H fs d) (e : fs.lookup f = some y) : ∃ (dd : Addr) (fv : List (Str × V)) (v : V), d = some dd ∧ H dd = some (.xd fv) ∧ fv.lookup f = some v ∧ Rep Z G y v := by
  rcases h with ⟨rfl, _⟩ | ⟨dd, fv, h1, h2, h3, h4⟩
  · cases e
  · refine ⟨dd, fv, ?_⟩
    have key : ∀ {fs : List (Str × D)} {fv : List (Str × V)}, fv.map (·.1) = fs.map (·.1) → Reps Z G (fs.map (·.2)) (fv.map (·.2)) → fs.lookup f = some y → ∃ v, fv.lookup f = some v ∧ Rep Z G y v := by
      intro fs
      induction fs with
      | nil => intro fv _ _ e; cases e
      | cons p r ih =>
        intro fv e1 e2 e3
        cases fv with
        | nil => cases e1
        | cons q t =>
          rw [List.map_cons, List.map_cons] at e1 e2
          obtain ⟨v, vs, ev, rv, rs⟩ := e2.inv
          obtain ⟨k1, k2⟩ := List.cons.inj e1
          obtain ⟨w1, w2⟩ := List.cons.inj ev
          obtain ⟨pf, pd⟩ := p
          obtain ⟨qf, qv⟩ := q
          dsimp only at k1 w1 rv e3
          subst k1
          subst w1
          rw [List.lookup_cons] at e3 ⊢
          split at e3
          · rename_i hh
            cases e3
            exact ⟨qv, by first | rfl | (rw [hh]), rv⟩
          · rename_i hh
            exact ih k2 (w2 ▸ rs) e3
    obtain ⟨v, e1, e2⟩ := key h3 h4 e
    exact ⟨v, h1, h2, e1, e2⟩
/-- what is known in a suite -/
structure SuK (Z : Zt) (H : Hp) (σ : St) (c : Nat) (i : Option Nat) (p : Addr) (e : Value) (d : Option Addr) (G : Hp) (fs : List (Str × D)) : Prop where
  cls : e = .ref (Z.ca c)
  sub : Sub G H
  xd : XD Z G H fs d
  nm : ∀ j, i = some j → σ[j]? = some (some (.ref p))
/-- an item's reading -/
def itT (Z : Zt) (c : Nat) (i : Option Nat) (p : Addr) (e : Value) (d : Option Addr) (h : Hi) : TE := fun σ H Q => ∃ G fs y, SuK Z H σ c i p e d G fs ∧ hiD fs h = some y ∧ ∀ v, Rep Z G y v → Q v H
def itTs (Z : Zt) (c : Nat) (i : Option Nat) (p : Addr) (e : Value) (d : Option Addr) (hs : List Hi) : TA := fun σ H Q => ∃ G fs ys, SuK Z H σ c i p e d G fs ∧ hisD fs hs = some ys ∧ ∀ vs, Reps Z G ys vs → Q vs H
def plainE (x : Str) : Bool := !(x == ("__debug__" : Str)) && !(x == ("__classdict__" : Str))
def litC : D → Const → Bool
  | .non, .none => true
  | .bl a, .bool b => decide (a = b)
  | .int a, .int b => decide (a = b)
  | .str a, .str b => decide (a = b)
  | _, _ => false
theorem litC_pe {d : D} {c : Const} {j : Nat} {pos : Pos} (h : litC d c = true) : ∃ v, PE X (.Constant c j pos) (tC v) ∧ ∀ G, Rep Z G d v := by
  unfold litC at h
  split at h
  · exact ⟨_, pe_non, fun G => by unfold Rep; rfl⟩
  · have := of_decide_eq_true h; subst this; exact ⟨_, pe_bl, fun G => by unfold Rep; rfl⟩
  · have := of_decide_eq_true h; subst this; exact ⟨_, pe_int, fun G => by unfold Rep; rfl⟩
  · have := of_decide_eq_true h; subst this; exact ⟨_, pe_str, fun G => by unfold Rep; rfl⟩
  · cases h
/-- the look at an item: nm the error's name -/
def hiOk (sc : Scope) (fl : Option Str) (bas : List Str) (nm : Option Str) : Hi → Expr → Bool
  | .lit d, e => match e with
    | .Constant c _ _ => litC d c
    | _ => false
  | .fld f, e => match e with
    | .Attribute (.Name n _) g _ => decide (nm = some n) && (decide (g = f) && decide (fl = some f))
    | _ => false
  | .isi x b, e => match e with
    | .Call (.Name w _) [.Name n _, .Name y _] [] _ => decide (nm = some n) && (decide (w = ("isinstance" : Str)) && (decide (sc.names.lookup w = some .globalImplicit) && (decide (y = x) && (decide (sc.names.lookup y = some .globalImplicit) && (bas.contains y && (b && !(y == ("__debug__" : Str))))))))
    | _ => false
def hisOk (sc : Scope) (fl : Option Str) (bas : List Str) (nm : Option Str) : List Hi → List Expr → Bool
  | [], es => match es with
    | [] => true
    | _ => false
  | h :: r, es => match es with
    | e :: t => hiOk sc fl bas nm h e && hisOk sc fl bas nm r t
    | _ => false
variable {n : Nat} {fl : Nat → Option Str} {bas : List Str} {c : Nat} {p : Addr} {q : Obj} {e : Value} {d : Option Addr} {pn : List (Addr × Obj)} {i : Option Nat} {hn : Option Str}
theorem hi_pe (T : ErrT X.K X.mg Z n fl bas) (hc : c < n) (hm : X.mg "isinstance" = none) (na : nameAt X i hn) (pl : ∀ x, hn = some x → plainE x = true) (hz : Zc e d q) (hf : ∃ vs, q.data = .fields vs) : ∀ {h : Hi} {ex : Expr}, hiOk X.env.scope (fl c) bas hn h ex = true → PE (X.suite p ((p, q) :: pn)) ex (itT Z c i p e d h) := by
  have var : ∀ {x : Str} {pos : Pos}, hn = some x → PE (X.suite p ((p, q) :: pn)) (.Name x pos) (fun σ H Q => (∀ j, i = some j → σ[j]? = some (some (.ref p))) ∧ Q (.ref p) H) := by
    intro x pos ex
    cases i with
    | none => rw [show hn = none from na] at ex; cases ex
    | some j =>
      obtain ⟨y, e1, e2, e3⟩ := na
      rw [e1] at ex
      cases ex
      have hp := pl _ e1
      obtain ⟨p1, p2⟩ := Bool.and_eq_true_iff.mp hp
      refine pe_imp (pe_var (i := j) e2 (.inl e3) (by simpa using p1) (by simpa using p2)) fun σ H Q z => ⟨_, z.1 j rfl, z.2⟩
  have clsN : ∀ {y : Str} {pos : Pos}, X.env.scope.names.lookup y = some .globalImplicit → (y == ("__debug__" : Str)) = false → y ∈ bas → ∃ (v : V) (u : Value), PE (X.suite p ((p, q) :: pn)) (.Name y pos) (tC v) ∧ (∀ w, RelV v w → w = u) ∧ ∀ c, c < n → PySem.W.kitOne X.K (.ref (Z.ca c)) u = some true := by
    intro y pos hg hd hm
    obtain ⟨v, u, only, rel, mgx, kit⟩ := T.bs _ hm
    refine ⟨v, u, ?_, only, kit⟩
    rcases mgx with m | ⟨m1, m2, m3⟩
    · exact pe_glob hg m rel hd
    · exact pe_bltn hg m1 m2 rel m3 hd
  intro h ex ok
  cases h with
  | lit y =>
    dsimp only [hiOk] at ok
    split at ok
    · obtain ⟨v, pe, rep⟩ := litC_pe (X := X.suite p ((p, q) :: pn)) (Z := Z) ok
      exact pe_imp pe fun σ H Q z => by
        obtain ⟨G, fs, y', k, e1, z⟩ := z
        cases e1
        exact z v (rep G)
    · cases ok
  | fld f =>
    dsimp only [hiOk] at ok
    split at ok
    · obtain ⟨o1, o2⟩ := Bool.and_eq_true_iff.mp ok
      obtain ⟨o2, o3⟩ := Bool.and_eq_true_iff.mp o2
      have o1 := of_decide_eq_true o1
      have o2 := of_decide_eq_true o2
      subst o2
      exact pe_imp (pe_xf (T.xf c hc) (T.no c _ hc (of_decide_eq_true o3)) hz hf (var o1) rfl) fun σ H Q z => by
        obtain ⟨G, fs, y, k, e1, z⟩ := z
        obtain ⟨dd, fv, v, q1, q2, q3, q4⟩ := xd_field k.xd e1
        exact ⟨k.nm, rfl, k.cls, dd, fv, v, q1, q2, q3, z v q4⟩
    · cases ok
  | isi x b =>
    dsimp only [hiOk] at ok
    split at ok
    · obtain ⟨o1, ok⟩ := Bool.and_eq_true_iff.mp ok
      obtain ⟨o2, ok⟩ := Bool.and_eq_true_iff.mp ok
      obtain ⟨o3, ok⟩ := Bool.and_eq_true_iff.mp ok
      obtain ⟨o4, ok⟩ := Bool.and_eq_true_iff.mp ok
      obtain ⟨o5, ok⟩ := Bool.and_eq_true_iff.mp ok
      obtain ⟨o6, ok⟩ := Bool.and_eq_true_iff.mp ok
      obtain ⟨o7, o8⟩ := Bool.and_eq_true_iff.mp ok
      have o2 := of_decide_eq_true o2
      subst o2
      have g3 := of_decide_eq_true o3
      have o7 : b = true := o7
      subst o7
      have y8 : ∀ {y : Str}, (!(y == ("__debug__" : Str))) = true → (y == ("__debug__" : Str)) = false := fun h => by simpa using h
      obtain ⟨v, u, cls, only, kit⟩ := clsN (of_decide_eq_true o5) (y8 o8) (List.contains_iff_mem.mp o6)
      by_cases eq : e = .ref (Z.ca c)
      · have hz' : Zc (.ref (Z.ca c)) d q := eq ▸ hz
        exact pe_imp (pe_callB (call_isX (T.isc c hc) hz' hf) g3 hm (by rfl) (pa_cons (var (of_decide_eq_true o1)) (pa_cons cls pa_nil)) (by decide) (by decide) rfl rfl) fun σ H Q z => by
          obtain ⟨G, fs, y, k, e1, z⟩ := z
          cases e1
          refine ⟨k.nm, v, u, true, rfl, only, kit c hc, ?_, z _ (by unfold Rep; rfl)⟩
          rcases k.xd with ⟨_, w⟩ | ⟨dd, fv, w1, w2, _⟩
          · exact .inl w
          · exact .inr ⟨dd, fv, w1, w2⟩
      · exact ⟨fun pins s σ H Q I z => by
          obtain ⟨G, fs, y, k, _⟩ := z
          exact absurd k.cls eq⟩
    · cases ok
end
end AI
/-! Handlers; try. -/
namespace AI
open PySem PySem.Spec L2
open PyProof.Rows hiding St
section
variable {Z : Zt} {W : WX} {X : Cx} {G H G1 H1 G' H' : Hp} {σ σ' σ1 : St} {A A' A1 : As} {Bs : List Nat}
/-- a place that is let go -/
theorem drop_new {i : Nat} {x : Option V} (s1 : StR Z G1 H1 σ1 A1) (c1 : ChS Bs σ A σ1 A1 G H G1 H1) (h : i ∉ Bs) (hi : i < A1.length) : StR Z G1 H1 (σ1.set i x) (A1.set i .no) ∧ ChS Bs σ A (σ1.set i x) (A1.set i .no) G H G1 H1 := by
  have nb : ∀ j ∈ Bs, j ≠ i := fun j m z => h (z ▸ m)
  have hs : i < σ1.length := by rw [s1.len]; exact hi
  have ne : ∀ {j : Nat} {c : Sl}, (A1.set i .no)[j]? = some c → c ≠ .no → j ≠ i := fun {j c} e n z => by
    subst z
    rw [List.getElem?_set_self hi] at e
    cases e
    exact n rfl
  have get : ∀ {j : Nat} {c : Sl}, (A1.set i .no)[j]? = some c → c ≠ .no → A1[j]? = some c := fun {j c} e n => by
    rw [List.getElem?_set_ne (Ne.symm (ne e n))] at e; exact e
  have at_ : ∀ {j : Nat} {c : Sl}, (A1.set i .no)[j]? = some c → c ≠ .no → (σ1.set i x)[j]? = σ1[j]? := fun {j c} e n => by rw [List.getElem?_set_ne (Ne.symm (ne e n))]
  have s2 : StR Z G1 H1 (σ1.set i x) (A1.set i .no) := ⟨s1.sub, by rw [List.length_set, List.length_set]; exact s1.len, fun j d e => by
      obtain ⟨v, a, r⟩ := s1.val j d (get e (by simp))
      exact ⟨v, by rw [at_ e (by simp)]; exact a, r⟩, fun j b e => by
      obtain ⟨p, o, a, r⟩ := s1.own j b (get e (by simp))
      exact ⟨p, o, by rw [at_ e (by simp)]; exact a, r⟩, fun j k c d p e1 e2 a1 a2 => s1.inj j k c d p (get e1 (by simp)) (get e2 (by simp)) (by rw [← at_ e1 (by simp)]; exact a1) (by rw [← at_ e2 (by simp)]; exact a2)⟩
  have ow : ∀ b, Own (σ1.set i x) (A1.set i .no) b → Own σ1 A1 b := fun b ⟨j, c, e, a⟩ => ⟨j, c, get e (by simp), by rw [← at_ e (by simp)]; exact a⟩
  refine ⟨s2, c1.sub, c1.keep, fun b z => c1.own b (ow b z), c1.dom, c1.lim, fun j m => by rw [List.getElem?_set_ne (Ne.symm (nb j m))]; exact c1.same j m, fun j m b z => c1.sl j m b (get z (by simp)), fun j m c p e a => ?_, by rw [List.length_set]; exact c1.len⟩
  rcases c1.st j m c p e a with ⟨d, z⟩ | z
  · exact .inl ⟨d, by rw [List.getElem?_set_ne (Ne.symm (nb j m))]; exact z⟩
  · exact .inr z
variable {n : Nat} {fl : Nat → Option Str} {bas : List Str} {c : Nat} {p : Addr} {q : Obj} {e : Value} {d : Option Addr} {pn : List (Addr × Obj)} {i : Option Nat} {hn : Option Str}
theorem hi_star {sc : Scope} {f : Option Str} {h : Hi} {ex : Expr} (ok : hiOk sc f bas hn h ex = true) : noStar ex = true := by
  cases h <;> (dsimp only [hiOk] at ok; split at ok <;> first | rfl | cases ok)
theorem his_pa (T : ErrT X.K X.mg Z n fl bas) (hc : c < n) (hm : X.mg "isinstance" = none) (na : nameAt X i hn) (pl : ∀ x, hn = some x → plainE x = true) (hz : Zc e d q) (hf : ∃ vs, q.data = .fields vs) : ∀ {hs : List Hi} {es : List Expr}, hisOk X.env.scope (fl c) bas hn hs es = true → PA (X.suite p ((p, q) :: pn)) es (itTs Z c i p e d hs)
  | [], es, ok => by
    unfold hisOk at ok
    split at ok
    · exact pa_imp pa_nil fun σ H Q z => by
        obtain ⟨G, fs, ys, k, e1, z⟩ := z
        cases e1
        exact z [] .nil
    · cases ok
  | h :: r, es, ok => by
    unfold hisOk at ok
    split at ok
    · obtain ⟨o1, o2⟩ := Bool.and_eq_true_iff.mp ok
      exact pa_imp (pa_cons (hi_pe T hc hm na pl hz hf o1) (his_pa T hc hm na pl hz hf o2) (star_no (hi_star o1))) fun σ H Q z => by
        obtain ⟨G, fs, ys, k, e1, z⟩ := z
        unfold hisD at e1
        cases e2 : hiD fs h with
        | none => rw [e2] at e1; cases e1
        | some y =>
          cases e3 : hisD fs r with
          | none => rw [e2, e3] at e1; cases e1
          | some yr =>
            rw [e2, e3] at e1
            cases e1
            exact ⟨G, fs, y, k, e2, fun v rv => ⟨G, fs, yr, k, e3, fun vs rvs => z (v :: vs) (.cons rv rvs)⟩⟩
    · cases ok
/-- a suite's reading -/
def tsA (Z : Zt) (h : Hd) : Addr → Value → Option Addr → TS := fun p e d D σ H => ∃ G fs ys, SuK Z H σ h.c h.i p e d G fs ∧ hisD fs h.its = some ys ∧ short ys = true ∧ ∀ (q : Addr) (xs : List V), H q = none → Reps Z G ys xs → match h.t with
  | some t => D.nx (σ.set t (some (.ref q))) (upd H q (.lst xs))
  | none => D.rt (.ref q) (upd H q (.lst xs))
/-- the look at a suite -/
def suOk (N : List Str) (sc : Scope) (fl : Option Str) (bas : List Str) (hn : Option Str) (h : Hd) : List Stmt → Bool
  | [.Assign [.Name x _] (.List es _) _] => (match h.t with
    | some t => decide (N[t]? = some x) && (decide (sc.names.lookup x = some .local) && hisOk sc fl bas hn h.its es)
    | none => false)
  | [.Return (some (.List es _)) _] => (match h.t with
    | none => hisOk sc fl bas hn h.its es
    | some _ => false)
  | _ => false
theorem su_ps {h : Hd} {b : Stmt} {su : List Stmt} (T : ErrT X.K X.mg Z n fl bas) (hc : h.c < n) (nd : X.N.Nodup) (hm : X.mg "isinstance" = none) (na : nameAt X h.i hn) (pl : ∀ x, hn = some x → plainE x = true) (ok : suOk X.N X.env.scope (fl h.c) bas hn h (b :: su) = true) (hz : Zc e d q) (hf : ∃ vs, q.data = .fields vs) :
    PSs (X.suite p ((p, q) :: pn)) (b :: su) (tsA Z h p e d) := by
  unfold suOk at ok
  split at ok
  · rename_i x p1 es p2 p3 eq
    obtain ⟨rfl, rfl⟩ := List.cons.inj eq
    cases et : h.t with
    | none => rw [et] at ok; cases ok
    | some t =>
      rw [et] at ok
      obtain ⟨o1, o2⟩ := Bool.and_eq_true_iff.mp ok
      obtain ⟨o2, o3⟩ := Bool.and_eq_true_iff.mp o2
      have loc := of_decide_eq_true o2
      refine pss_imp (pss_one (ps_set (X := X.suite p ((p, q) :: pn)) nd (of_decide_eq_true o1) (.inl loc) (pe_lst (his_pa T hc hm na pl hz hf o3)) rfl (.inr loc))) fun D σ H z => ?_
      obtain ⟨G, fs, ys, k, e1, sh, z⟩ := z
      rw [et] at z
      refine ⟨G, fs, ys, k, e1, fun vs rv => ⟨by rw [rv.len]; exact Nat.le_trans (short_of sh) most_le, fun l nl => z l vs nl rv⟩⟩
  · rename_i es p2 p3 eq
    obtain ⟨rfl, rfl⟩ := List.cons.inj eq
    cases et : h.t with
    | some t => rw [et] at ok; cases ok
    | none =>
      rw [et] at ok
      refine pss_imp (pss_one (ps_ret (X := X.suite p ((p, q) :: pn)) (pe_lst (his_pa T hc hm na pl hz hf ok)))) fun D σ H z => ?_
      obtain ⟨G, fs, ys, k, e1, sh, z⟩ := z
      rw [et] at z
      refine ⟨G, fs, ys, k, e1, fun vs rv => ⟨by rw [rv.len]; exact Nat.le_trans (short_of sh) most_le, fun l nl => z l vs nl rv⟩⟩
  · cases ok
end
end AI
/-! try, whole. -/
namespace AI
open PySem PySem.Spec L2
open PyProof.Rows hiding St
section
variable {Z : Zt} {W : WX} {X : Cx} {G H G1 H1 G' H' : Hp} {σ σ' σ1 : St} {A A' A1 : As} {Bs : List Nat}
variable {n : Nat} {fl : Nat → Option Str} {bas : List Str}
def clau (Z : Zt) (h : Hd) : Clau := (.ref (Z.ca h.c), h.i, tsA Z h)
theorem drop_ok {i : Option Nat} {A0 : As} (h : dropA Bs i A = some A0) : (i = none ∧ A0 = A) ∨ ∃ j, i = some j ∧ j ∉ Bs ∧ j < A.length ∧ A0 = A.set j .no := by
  unfold dropA at h
  split at h
  · exact .inl ⟨rfl, (Option.some.inj h).symm⟩
  · rename_i j
    split at h
    · cases h
    · split at h
      · exact .inr ⟨j, rfl, by assumption, by assumption, (Option.some.inj h).symm⟩
      · cases h
/-- what is wished of an error, by its handler -/
theorem wish_of (T : ErrT X.K X.mg Z n fl bas) {c : Nat} {fs : List (Str × D)} {D : Ends} {dx : Option Addr} (hc : c < n) (s0 : StR Z G H σ A) (s1 : StR Z G1 H1 σ1 A1) (c1 : ChS Bs σ A σ1 A1 G H G1 H1) (xd : XD Z G1 H1 fs dx) : ∀ {hs : List Hd}, (∀ h, h ∈ hs → h.c < n) →
    tofO Z W Bs (hdl Bs hs c fs A1) σ A G H D → wCls X.K W D (hs.map (clau Z)) (.ref (Z.ca c)) dx σ1 H1
  | [], _, q => by
    have q : tofO Z W Bs (some (.ex c fs A1)) σ A G H D := q
    exact q dx σ1 G1 H1 s1 c1 xd
  | h :: r, hr, q => by
    refine ⟨_, T.exm c h.c hc (hr h List.mem_cons_self), fun yes p free => ?_, fun no => ?_⟩
    · have ec : c = h.c := of_decide_eq_true yes
      have fd : (h :: r).find? (fun h => h.c == c) = some h := by
        rw [List.find?_cons]
        have : (h.c == c) = true := by rw [ec]; exact beq_self_eq_true _
        rw [this]
      unfold hdl at q
      rw [fd] at q
      dsimp only at q
      cases e1 : hisD fs h.its with
      | none => rw [e1] at q; exact q.elim
      | some ds =>
        rw [e1] at q
        dsimp only at q
        cases e2 : (short ds && !decide (h.i.isSome && h.i = h.t)) with
        | false => rw [e2] at q; exact q.elim
        | true =>
          rw [e2, if_pos rfl] at q
          obtain ⟨sh, ne⟩ := Bool.and_eq_true_iff.mp e2
          -- the place of its name
          have drop : ∀ {A0 : As}, dropA Bs h.i A1 = some A0 → StR Z G1 H1 (putE h.i p σ1) A0 ∧ ChS Bs σ A (putE h.i p σ1) A0 G H G1 H1 ∧ (∀ j, h.i = some j → (putE h.i p σ1)[j]? = some (some (.ref p)) ∧ j ∉ Bs ∧ j < A0.length) := by
            intro A0 e
            rcases drop_ok e with ⟨e3, rfl⟩ | ⟨j, e3, nb, jl, rfl⟩
            · rw [e3]
              exact ⟨s1, c1, fun j z => by cases z⟩
            · rw [e3]
              obtain ⟨s2, c2⟩ := drop_new (x := some (V.ref p)) s1 c1 nb jl
              refine ⟨s2, c2, fun k z => ?_⟩
              cases z
              exact ⟨List.getElem?_set_self (by rw [s1.len]; exact jl), nb, by rw [List.length_set]; exact jl⟩
          cases e4 : dropA Bs h.i A1 with
          | none =>
            cases et : h.t with
            | none => rw [et, e4] at q; exact q.elim
            | some t => rw [et, e4] at q; exact q.elim
          | some A0 =>
            obtain ⟨s2, c2, nm⟩ := drop e4
            refine ⟨G1, fs, ds, ⟨congrArg (fun c => Value.ref (Z.ca c)) ec, s1.sub, xd, fun j z => (nm j z).1⟩, e1, sh, fun l xs nl rx => ?_⟩
            have gl : G1 l = none := s2.sub.none nl
            have s3 := s2.grow (o := HO.lst xs) nl
            have c3 := c2.trans ((Ch.refl.grow (o := HO.lst xs) nl).toS (Bs := Bs))
            cases et : h.t with
            | none =>
              rw [et, e4] at q
              have q : tofO Z W Bs (some (.rt (.o (.l ds)) A0)) σ A G H D := q
              have rt : (goneE h.i D).rt = D.rt := by cases h.i <;> rfl
              show (goneE h.i D).rt (.ref l) (upd H1 l (.lst xs))
              rw [rt]
              have fresh : H l = none := by
                cases z : H l with
                | none => rfl
                | some u =>
                  obtain ⟨u', z'⟩ := c1.dom l u z
                  rw [nl] at z'
                  cases z'
              exact q (.ref l) _ G1 _ s3 c3 ⟨l, .lst xs, rfl, gl, upd_same, ⟨xs, rfl, rx⟩, fun z => s2.notOwn nl (by
                obtain ⟨j, b, z1, z2⟩ := z
                exact ⟨j, b, z1, z2⟩), .inl fresh⟩
            | some t =>
              rw [et, e4] at q
              obtain ⟨A2, e5, fin⟩ := nxo_ok q
              obtain ⟨nt, tl, rfl⟩ := store_inv e5
              have fresh : H l = none := by
                cases z : H l with
                | none => rfl
                | some u =>
                  obtain ⟨u', z'⟩ := c1.dom l u z
                  rw [nl] at z'
                  cases z'
              have no3 : ∀ b p', R.o (.l ds) = .o b → V.ref l = .ref p' → H p' = none → ¬ Own (putE h.i p σ1) A0 p' := fun b p' _ e6 _ z => by
                have e6 := V.ref.inj e6
                subst e6
                exact s2.notOwn nl z
              obtain ⟨s4, c4⟩ := store_new (i := t) (r := .o (.l ds)) (v := .ref l) (Z := Z) (G := G) (H := H) (σ := σ) (A := A) s0 s3 c3 ⟨l, .lst xs, rfl, fresh, gl, upd_same, ⟨xs, rfl, rx⟩⟩ no3 (not_in nt) tl
              show (goneE h.i D).nx ((putE h.i p σ1).set t (some (.ref l))) (upd H1 l (.lst xs))
              cases ei : h.i with
              | none =>
                rw [ei] at s4 c4
                exact fin _ _ _ s4 c4
              | some j =>
                rw [ei] at s4 c4 nm
                obtain ⟨_, nb, jl⟩ := nm j rfl
                have jt : j ≠ t := fun z => by
                  rw [ei, et, z] at ne
                  simp at ne
                have jl4 : j < (A0.set t (Sl.o (.l ds))).length := by rw [List.length_set]; exact jl
                obtain ⟨s5, c5⟩ := drop_new (x := none) s4 c4 nb jl4
                have ea : (A0.set t (R.o (.l ds)).sl).set j .no = A0.set t (R.o (.l ds)).sl := by
                  rw [ei] at e4
                  rcases drop_ok e4 with ⟨z, _⟩ | ⟨j', z, _, _, rfl⟩
                  · cases z
                  · cases z
                    rw [List.set_comm _ _ (Ne.symm jt), List.set_set]
                rw [ea] at s5 c5
                exact fin _ _ _ s5 c5
    · have ec : ¬ (c = h.c) := of_decide_eq_false no
      have fd : (h :: r).find? (fun h => h.c == c) = r.find? (fun h => h.c == c) := by
        rw [List.find?_cons]
        have : (h.c == c) = false := by simpa using fun z => ec z.symm
        rw [this]
      refine wish_of T hc s0 s1 c1 xd (fun g m => hr g (List.mem_cons_of_mem _ m)) ?_
      unfold hdl at q ⊢
      rw [fd] at q
      exact q
/-- the look at the handlers -/
def cname (cls : List (Str × Nat × Str)) (x : Str) (c : Nat) : Bool := match cls.lookup x with
  | some q => decide (q.1 = c)
  | none => false
def hdOk (N : List Str) (sc : Scope) (gl : Str → Bool) (cls : List (Str × Nat × Str)) (fl : Nat → Option Str) (bas : List Str) (n : Nat) : List Hd → List ExceptHandler → Bool
  | [], es => match es with
    | [] => true
    | _ => false
  | h :: r, es => match es with
    | .ExceptHandler (some (.Name x _)) hn (b :: su) _ :: t => cname cls x h.c && (gl x && (!(x == ("__debug__" : Str)) && (decide (h.c < n) && ((match h.i, hn with
      | none, none => true
      | some i, some y => decide (N[i]? = some y) && (decide (sc.names.lookup y = some .local) && plainE y)
      | _, _ => false) && (suOk N sc (fl h.c) bas hn h (b :: su) && hdOk N sc gl cls fl bas n r t)))))
    | _ => false
theorem hd_ok (T : ErrT X.K X.mg Z n fl bas) {cls : List (Str × Nat × Str)} {gl : Str → Bool} (nd : X.N.Nodup) (hm : X.mg "isinstance" = none) (hg : ∀ x, gl x = true → Gl X x) (hcl : ∀ x c, cname cls x c = true → X.mg x = some (.ref (Z.ca c))) : ∀ {hs : List Hd} {es : List ExceptHandler}, hdOk X.N X.env.scope gl cls fl bas n hs es = true → ClsOk X es (hs.map (clau Z)) ∧ ∀ h, h ∈ hs → h.c < n
  | [], es, ok => by
    unfold hdOk at ok
    split at ok
    · exact ⟨.nil, fun h m => by cases m⟩
    · cases ok
  | h :: r, es, ok => by
    unfold hdOk at ok
    split at ok
    · rename_i x np hn b su ep t
      obtain ⟨o1, ok⟩ := Bool.and_eq_true_iff.mp ok
      obtain ⟨o2, ok⟩ := Bool.and_eq_true_iff.mp ok
      obtain ⟨o3, ok⟩ := Bool.and_eq_true_iff.mp ok
      obtain ⟨o4, ok⟩ := Bool.and_eq_true_iff.mp ok
      obtain ⟨o5, ok⟩ := Bool.and_eq_true_iff.mp ok
      obtain ⟨o6, o7⟩ := Bool.and_eq_true_iff.mp ok
      obtain ⟨ih1, ih2⟩ := hd_ok T nd hm hg hcl o7
      have hc := of_decide_eq_true o4
      have na : nameAt X h.i hn ∧ ∀ y, hn = some y → plainE y = true := by
        cases e1 : h.i with
        | none =>
          cases hn with
          | none => exact ⟨rfl, fun y z => by cases z⟩
          | some y => rw [e1] at o5; cases o5
        | some i =>
          cases hn with
          | none => rw [e1] at o5; cases o5
          | some y =>
            rw [e1] at o5
            obtain ⟨q1, q2⟩ := Bool.and_eq_true_iff.mp o5
            obtain ⟨q2, q3⟩ := Bool.and_eq_true_iff.mp q2
            exact ⟨⟨y, rfl, of_decide_eq_true q1, of_decide_eq_true q2⟩, fun z e => by cases e; exact q3⟩
      refine ⟨.cons ⟨hg x o2, by simpa using o3, .inl (hcl x h.c o1)⟩ na.1 (fun p q e d pn hz hf => su_ps T hc nd hm na.1 na.2 o6 hz hf) ih1, fun g m => ?_⟩
      rcases List.mem_cons.mp m with e | m
      · rw [e]; exact hc
      · exact ih2 g m
    · cases ok
theorem ps_triA {body : List Stmt} {h0 : ExceptHandler} {rs : List ExceptHandler} {pos : Pos} {hs : List Hd} {f : As → Option Ot} (T : ErrT X.K X.mg Z n fl bas) (stk : X.stack = X.env :: X.outer) (frm : X.env.frame = some X.env.locals) (nd : X.N.Nodup) (tk : Takes X W)
    (bd : ∀ (W : WX) (pn : List (Addr × Obj)) (xe : Value → Shared → Prop), Takes (X.tr pn xe) W → PassesOwn (model X.prog X.w) X.A X.env xe → PSs (X.tr pn xe) body (tofS' Z W Bs f)) (cl : ClsOk X (h0 :: rs) (hs.map (clau Z))) (hr : ∀ h, h ∈ hs → h.c < n) :
    PS X (.Try body (h0 :: rs) [] [] pos) (tofS' Z W Bs fun A => match f A with
      | some (.ex c fs A1) => if c < n then hdl Bs hs c fs A1 else none
      | x => x) :=
  ps_imp (ps_tryN (tb := fun W => tofS' Z W Bs f) stk frm nd tk bd cl) fun D σ H q => by
    obtain ⟨G, A, s, q⟩ := q
    refine ⟨G, A, s, ?_⟩
    cases e : f A with
    | none => dsimp only at q; rw [e] at q; exact q.elim
    | some x =>
      dsimp only at q
      rw [e] at q
      cases x with
      | nx A1 => exact q
      | bk A1 => exact q
      | ct A1 => exact q
      | rt r A1 => exact q
      | ex c fs A1 =>
        intro dx σ1 G1 H1 s1 c1 xd
        by_cases hc : c < n
        · have q : tofO Z W Bs (if c < n then hdl Bs hs c fs A1 else none) σ A G H D := q
          rw [if_pos hc] at q
          exact wish_of T hc s s1 c1 xd hr q
        · have q : tofO Z W Bs (if c < n then hdl Bs hs c fs A1 else none) σ A G H D := q
          rw [if_neg hc] at q
          exact q.elim
end
end AI
/-! zip of two tuples, drained: tuple(zip(a, b)). -/
namespace AI
open PySem PySem.Spec L2
open PyProof.Rows hiding St
section
variable {prog : Program} {w : World} {A : Around} {E : Value → Shared → Prop} {s : Shared}
/-- where the zip lies whose tuple T is still out -/
structure ZAt (h : Heap) (z TI TO T i1 i2 l1 l2 : Addr) (f : Bool) (k : Nat) (xs ys : Array Value) : Prop where
  z : IsZipHeld h z TI TO T f
  T : ∃ o, h.get? T = some o
  TI : IsPair h TI (.ref i1) (.ref i2)
  i1 : h.IsTupleIter i1 l1 k
  i2 : h.IsTupleIter i2 l2 k
  l1 : h.IsTuple l1 xs
  l2 : h.IsTuple l2 ys
theorem held_item {z TI TO T i1 i2 l1 l2 : Addr} {f : Bool} {k : Nat} {xs ys : Array Value} {x y : Value} {Q : Option Value → Shared → Prop} (D : ZipApart z TI TO i1 i2 l1 l2) (Z : ZAt s.heap z TI TO T i1 i2 l1 l2 f k xs ys) (hx : xs[k]? = some x) (hy : ys[k]? = some y)
    (hQ : ∀ h', IsZipHeld h' z TI TO T true → h'.IsTupleIter i1 l1 (k + 1) → h'.IsTupleIter i2 l2 (k + 1) → IsPair h' s.heap.objs.size x y → h'.objs.size = s.heap.objs.size + 1 → (∀ c o, c ≠ z → c ≠ i1 → c ≠ i2 → s.heap.get? c = some o → h'.get? c = some o) → Q (some (.ref s.heap.objs.size)) { s with heap := h' }) :
    wpAny (model prog w) A (pyNext (.ref z)) Q E s := by
  obtain ⟨oT, hT⟩ := Z.T
  have ty : s.TypeIs (.ref z) "zip" := ⟨_, Z.z, rfl⟩
  have body : ∀ {B : Around} {E' : Value → Shared → Prop}, wpAny (model prog w) B (Builtin.«zip.__next__» ⟨[.ref z], []⟩) (fun fin s' => ∃ v, fin = .done (.ret v) ∧ Q (some v) s') E' s := by
    intro B E'
    show wpAny _ _ (field (.ref z) 2 >>= _) _ _ _
    refine wpAny_bind (wpAny_field Z.z rfl (x := .bool false) rfl ?_)
    show wpAny _ _ (field (.ref z) 3 >>= _) _ _ _
    refine wpAny_bind (wpAny_field Z.z rfl (x := .ref TI) rfl (wpAny_bind (wpAny_seqItems Z.TI rfl ?_)))
    show wpAny _ _ (Builtin.SmallTypes.ownedTupleIsFree (.ref z) >>= _) _ _ _
    refine wpAny_bind (wpAny_tupleHeld_zip Z.z hT fun hA zA sA => ?_)
    simp only [Bool.false_eq_true, if_false]
    refine wpAny_bind ?_
    rw [← Array.forIn_toList]
    simp only [List.forIn_cons, List.forIn_nil]
    refine wpAny_bind (wpAny_bind (wpAny_holding ?_))
    show wpAny _ _ (Builtin.SmallTypes.nextOf (.ref i1) >>= _) _ _ _
    have i1A : hA.IsTupleIter i1 l1 k := Z.i1.at fun o e => sA.extBut _ _ D.i1z e
    have l1A : hA.IsTuple l1 xs := let ⟨o, e, r⟩ := Z.l1; ⟨o, sA.extBut _ _ D.l1z e, r⟩
    refine wpAny_bind (RZ.nextOf_tuple_item (s := { s with heap := hA }) i1A l1A hx fun hB i1B sB => wpAny_pure (wpAny_pure ?_))
    refine wpAny_bind (wpAny_bind (wpAny_holding ?_))
    show wpAny _ _ (Builtin.SmallTypes.nextOf (.ref i2) >>= _) _ _ _
    have i2B : hB.IsTupleIter i2 l2 k := Z.i2.at fun o e => sB.extBut _ _ D.i12.symm (sA.extBut _ _ D.i2z e)
    have l2B : hB.IsTuple l2 ys := let ⟨o, e, r⟩ := Z.l2; ⟨o, sB.extBut _ _ D.l2i1 (sA.extBut _ _ D.l2z e), r⟩
    refine wpAny_bind (RZ.nextOf_tuple_item (s := { s with heap := hB }) i2B l2B hy fun hC i2C sC => wpAny_pure (wpAny_pure (wpAny_pure ?_)))
    show wpAny _ _ (newTuple [x, y] >>= _) _ _ _
    refine wpAny_bind (wpAny_newTuple (wpAny_pure ⟨_, rfl, ?_⟩))
    have size : hC.objs.size = s.heap.objs.size := (sC.1.trans sB.1).trans sA.1
    have keep : ∀ c o, c ≠ z → c ≠ i1 → c ≠ i2 → s.heap.get? c = some o → hC.get? c = some o := fun c o c1 c2 c3 e => sC.extBut _ _ c3 (sB.extBut _ _ c2 (sA.extBut _ _ c1 e))
    have zC : IsZipHeld hC z TI TO T true := sC.extBut _ _ D.i2z.symm (sB.extBut _ _ D.i1z.symm zA)
    have i1C : hC.IsTupleIter i1 l1 (k + 1) := i1B.at fun o e => sC.extBut _ _ D.i12 e
    have pair : IsPair (hC.push { cls := .type "tuple", data := .seq #[x, y] }) hC.objs.size x y := Heap.get?_push_size _ rfl
    show Q (some (.ref hC.objs.size)) _
    have up : ∀ b o, hC.get? b = some o → (hC.push { cls := .type "tuple", data := .seq #[x, y] }).get? b = some o := fun b o e => Heap.get?_push_of_some _ e
    have sz : (hC.push { cls := .type "tuple", data := .seq #[x, y] }).objs.size = hC.objs.size + 1 := Heap.size_push ..
    rw [size] at pair sz ⊢
    exact hQ _ (up _ _ zC) (i1C.at fun o e => up _ o e) (i2C.at fun o e => up _ o e) pair sz fun c o c1 c2 c3 e => up _ _ (keep c o c1 c2 c3 e)
  unfold pyNext
  refine wpAny_bind (wpAny_attempt (wpAny_callSpecial?_slot (name := Str.ofString "__next__") ty PySem.F.slot_zip_next (wpAny_call_entry PySem.F.slot_zip_next ty PySem.F.entry_zip_next (wpAny_mono (body (E' := fun _ _ => False)) (fun fin s1 q => ?_) fun _ _ q => q.elim) (PySem.F.args_zip_next_1 _))))
  obtain ⟨v, e, q⟩ := q
  exact ⟨v, e, wpAny_pure q⟩
theorem held_end {z TI TO T i1 i2 l1 l2 : Addr} {f : Bool} {k : Nat} {xs ys : Array Value} {Q : Option Value → Shared → Prop} (hh : A.handled = none) (D : ZipApart z TI TO i1 i2 l1 l2) (Z : ZAt s.heap z TI TO T i1 i2 l1 l2 f k xs ys) (hend : xs[k]? = none ∨ ys[k]? = none)
    (hQ : ∀ h', (∀ c o, c ≠ z → c ≠ i1 → c ≠ i2 → s.heap.get? c = some o → h'.get? c = some o) → Q none { s with heap := h' }) : wpAny (model prog w) A (pyNext (.ref z)) Q E s := by
  obtain ⟨oT, hT⟩ := Z.T
  have ty : s.TypeIs (.ref z) "zip" := ⟨_, Z.z, rfl⟩
  have body : ∀ {Q' : PySem.Fin → Shared → Prop} {E' : Value → Shared → Prop}, (∀ h' e, (∀ c o, c ≠ z → c ≠ i1 → c ≠ i2 → s.heap.get? c = some o → h'.get? c = some o) → (∃ o, h'.get? e = some o ∧ o.cls = .type "StopIteration") → E' (.ref e) { s with heap := h' }) →
      wpAny (model prog w) A.in1 (Builtin.«zip.__next__» ⟨[.ref z], []⟩) Q' E' s := by
    intro Q' E' hE
    have hh1 : A.in1.handled = none := hh
    show wpAny _ _ (field (.ref z) 2 >>= _) _ _ _
    refine wpAny_bind (wpAny_field Z.z rfl (x := .bool false) rfl ?_)
    show wpAny _ _ (field (.ref z) 3 >>= _) _ _ _
    refine wpAny_bind (wpAny_field Z.z rfl (x := .ref TI) rfl (wpAny_bind (wpAny_seqItems Z.TI rfl ?_)))
    show wpAny _ _ (Builtin.SmallTypes.ownedTupleIsFree (.ref z) >>= _) _ _ _
    refine wpAny_bind (wpAny_tupleHeld_zip Z.z hT fun hA zA sA => ?_)
    simp only [Bool.false_eq_true, if_false]
    refine wpAny_bind ?_
    rw [← Array.forIn_toList]
    simp only [List.forIn_cons, List.forIn_nil]
    refine wpAny_bind (wpAny_bind (wpAny_holding ?_))
    show wpAny _ _ (Builtin.SmallTypes.nextOf (.ref i1) >>= _) _ _ _
    have i1A : hA.IsTupleIter i1 l1 k := Z.i1.at fun o e => sA.extBut _ _ D.i1z e
    have l1A : hA.IsTuple l1 xs := let ⟨o, e, r⟩ := Z.l1; ⟨o, sA.extBut _ _ D.l1z e, r⟩
    cases hx : xs[k]? with
    | none => exact wpAny_bind (RZ.nextOf_tuple_end (s := { s with heap := hA }) hh1 i1A l1A hx fun hB e sB q => hE hB e (fun c o c1 c2 _ g => sB _ _ c2 (sA.extBut _ _ c1 g)) q)
    | some x =>
      have hy : ys[k]? = none := by
        rcases hend with q | q
        · rw [hx] at q; cases q
        · exact q
      refine wpAny_bind (RZ.nextOf_tuple_item (s := { s with heap := hA }) i1A l1A hx fun hB i1B sB => wpAny_pure (wpAny_pure ?_))
      refine wpAny_bind (wpAny_bind (wpAny_holding ?_))
      show wpAny _ _ (Builtin.SmallTypes.nextOf (.ref i2) >>= _) _ _ _
      have i2B : hB.IsTupleIter i2 l2 k := Z.i2.at fun o e => sB.extBut _ _ D.i12.symm (sA.extBut _ _ D.i2z e)
      have l2B : hB.IsTuple l2 ys := let ⟨o, e, r⟩ := Z.l2; ⟨o, sB.extBut _ _ D.l2i1 (sA.extBut _ _ D.l2z e), r⟩
      exact wpAny_bind (RZ.nextOf_tuple_end (s := { s with heap := hB }) hh1 i2B l2B hy fun hC e sC q => hE hC e (fun c o c1 c2 c3 g => sC _ _ c3 (sB.extBut _ _ c2 (sA.extBut _ _ c1 g))) q)
  unfold pyNext
  refine wpAny_bind (wpAny_attempt (wpAny_callSpecial?_slot (name := Str.ofString "__next__") ty PySem.F.slot_zip_next (wpAny_call_entry PySem.F.slot_zip_next ty PySem.F.entry_zip_next (body fun h' e hk q => ?_) (PySem.F.args_zip_next_1 _))))
  obtain ⟨o, ho, hc⟩ := q
  exact wpAny_bind (wpAny_isInstance (T := "StopIteration") (b := true) ⟨o, ho, hc⟩ isSubtype_stop (wpAny_pure (hQ _ hk)))
end
end AI
/-! The loop that drains a zip of two tuples into a list. -/
namespace AI
open PySem PySem.Spec L2
open PyProof.Rows hiding St
/-- a zip at its turn k: fresh, or with a tuple that is still out -/
def ZSt (z TI TO i1 i2 l1 l2 S : Addr) (xs ys : Array Value) (k : Nat) (h : Heap) : Prop :=
  IsPair h TI (.ref i1) (.ref i2) ∧ h.IsTupleIter i1 l1 k ∧ h.IsTupleIter i2 l2 k ∧ h.IsTuple l1 xs ∧ h.IsTuple l2 ys ∧
    ((IsZip h z TI TO .none ∧ ∃ a b, IsPair h TO a b) ∨ ∃ T f, IsZipHeld h z TI TO T f ∧ (∃ o, h.get? T = some o) ∧ T ≠ z ∧ T ≠ i1 ∧ T ≠ i2 ∧ T ≠ S)
theorem isTuple_at {h h' : Heap} {l : Addr} {xs : Array Value} (t : h.IsTuple l xs) (k : ∀ o, h.get? l = some o → h'.get? l = some o) : h'.IsTuple l xs := let ⟨o, e, r⟩ := t; ⟨o, k o e, r⟩
/-- the list stands apart from the zip -/
structure SApart (z TI TO i1 i2 l1 l2 S : Addr) : Prop where
  z : z ≠ S
  TI : TI ≠ S
  TO : TO ≠ S
  i1 : i1 ≠ S
  i2 : i2 ≠ S
  l1 : l1 ≠ S
  l2 : l2 ≠ S
section
variable {prog : Program} {w : World} {A : Around} {E : Value → Shared → Prop} {s : Shared} {z TI TO i1 i2 l1 l2 S : Addr} {xs ys : Array Value} {k : Nat}
theorem zst_keep {h h' : Heap} (B : SApart z TI TO i1 i2 l1 l2 S) (Z : ZSt z TI TO i1 i2 l1 l2 S xs ys k h) (kp : ∀ c o, c ≠ S → h.get? c = some o → h'.get? c = some o) : ZSt z TI TO i1 i2 l1 l2 S xs ys k h' := by
  obtain ⟨a1, a2, a3, a4, a5, a6⟩ := Z
  refine ⟨kp _ _ B.TI a1, a2.at fun o e => kp _ o B.i1 e, a3.at fun o e => kp _ o B.i2 e, isTuple_at a4 fun o e => kp _ o B.l1 e, isTuple_at a5 fun o e => kp _ o B.l2 e, ?_⟩
  rcases a6 with ⟨b1, a, b, b2⟩ | ⟨T, f, b1, ⟨o, b2⟩, b3⟩
  · exact .inl ⟨kp _ _ B.z b1, a, b, kp _ _ B.TO b2⟩
  · exact .inr ⟨T, f, kp _ _ B.z b1, ⟨o, kp _ _ b3.2.2.2 b2⟩, b3⟩
theorem zst_item {x y : Value} {oS : Obj} {Q : Option Value → Shared → Prop} (D : ZipApart z TI TO i1 i2 l1 l2) (Z : ZSt z TI TO i1 i2 l1 l2 S xs ys k s.heap) (hS : s.heap.get? S = some oS) (hx : xs[k]? = some x) (hy : ys[k]? = some y)
    (hQ : ∀ h', ZSt z TI TO i1 i2 l1 l2 S xs ys (k + 1) h' → IsPair h' s.heap.objs.size x y → (∀ c o, c ∉ [z, TO, i1, i2] → s.heap.get? c = some o → h'.get? c = some o) → Q (some (.ref s.heap.objs.size)) { s with heap := h' }) : wpAny (model prog w) A (pyNext (.ref z)) Q E s := by
  obtain ⟨a1, a2, a3, a4, a5, a6⟩ := Z
  have new : ∀ {c : Addr} {o : Obj}, s.heap.get? c = some o → s.heap.objs.size ≠ c := fun e q => absurd (Heap.lt_size e) (by rw [q]; exact Nat.lt_irrefl _)
  have n1 : s.heap.objs.size ≠ i1 := let ⟨_, e, _⟩ := a2; new e
  have n2 : s.heap.objs.size ≠ i2 := let ⟨_, e, _⟩ := a3; new e
  rcases a6 with ⟨b1, a, b, b2⟩ | ⟨T, f, b1, b2, b3, b4, b5, b6⟩
  · refine RZ.pyNext_zipT_item D b1 a1 b2 a2 a3 a4 a5 hx hy fun h' c1 c2 c3 c4 c5 c6 kp => hQ h' ⟨kp _ _ D.TIz D.TITO D.TIi1 D.TIi2 a1, c3, c4, isTuple_at a4 fun o e => kp _ o D.l1z D.l1TO D.l1i1 D.l1i2 e, isTuple_at a5 fun o e => kp _ o D.l2z D.l2TO D.l2i1 D.l2i2 e, .inr ⟨_, false, c1, ⟨_, c5⟩, new b1, n1, n2, new hS⟩⟩ c5 fun c o hc e => ?_
    simp only [List.mem_cons, List.not_mem_nil, or_false, not_or] at hc
    exact kp c o hc.1 hc.2.1 hc.2.2.1 hc.2.2.2 e
  · obtain ⟨oT, eT⟩ := b2
    refine held_item D ⟨b1, ⟨oT, eT⟩, a1, a2, a3, a4, a5⟩ hx hy fun h' c1 c3 c4 c5 c6 kp => hQ h' ⟨kp _ _ D.TIz D.TIi1 D.TIi2 a1, c3, c4, isTuple_at a4 fun o e => kp _ o D.l1z D.l1i1 D.l1i2 e, isTuple_at a5 fun o e => kp _ o D.l2z D.l2i1 D.l2i2 e, .inr ⟨T, true, c1, ⟨oT, kp _ _ b3 b4 b5 eT⟩, b3, b4, b5, b6⟩⟩ c5 fun c o hc e => ?_
    simp only [List.mem_cons, List.not_mem_nil, or_false, not_or] at hc
    exact kp c o hc.1 hc.2.2.1 hc.2.2.2 e
theorem zst_end {Q : Option Value → Shared → Prop} (hh : A.handled = none) (D : ZipApart z TI TO i1 i2 l1 l2) (Z : ZSt z TI TO i1 i2 l1 l2 S xs ys k s.heap) (he : xs[k]? = none ∨ ys[k]? = none)
    (hQ : ∀ h', (∀ c o, c ∉ [z, TO, i1, i2] → s.heap.get? c = some o → h'.get? c = some o) → Q none { s with heap := h' }) : wpAny (model prog w) A (pyNext (.ref z)) Q E s := by
  obtain ⟨a1, a2, a3, a4, a5, a6⟩ := Z
  rcases a6 with ⟨b1, a, b, b2⟩ | ⟨T, f, b1, b2, b3⟩
  · refine RZ.pyNext_zipT_end hh D b1 a1 b2 a2 a3 a4 a5 he fun h' kp => hQ h' fun c o hc e => ?_
    simp only [List.mem_cons, List.not_mem_nil, or_false, not_or] at hc
    exact kp c o hc.1 hc.2.1 hc.2.2.1 hc.2.2.2 e
  · refine held_end hh D ⟨b1, b2, a1, a2, a3, a4, a5⟩ he fun h' kp => hQ h' fun c o hc e => ?_
    simp only [List.mem_cons, List.not_mem_nil, or_false, not_or] at hc
    exact kp c o hc.1 hc.2.2.1 hc.2.2.2 e
end
/-- pairs laid one behind another -/
inductive Laid : Hp → List (V × V) → List V → Hp → Prop
  | nil {H : Hp} : Laid H [] [] H
  | cons {H H' : Hp} {T : Addr} {x y : V} {ps : List (V × V)} {ws : List V} (n : H T = none) (t : Laid (upd H T (.tup [x, y])) ps ws H') : Laid H ((x, y) :: ps) (.ref T :: ws) H'
section
variable {X : Cx} {pins : List (Addr × Obj)} {σ : St} {A : Around} {z TI TO i1 i2 l1 l2 S : Addr} {xv yv : List V} {xa ya : List Value}
theorem zip_loop {res : Value} {R : Result → Shared → Prop} (hh : A.handled = none) (D : ZipApart z TI TO i1 i2 l1 l2) (B : SApart z TI TO i1 i2 l1 l2 S) (rx : Vals xv xa) (ry : Vals yv ya) (big : xv.length ≤ sizeLine) :
    ∀ (m k : Nat) (s : Shared) (H : Hp) (acc : Array Value) (c : Nat) (ws0 : List V), min xv.length yv.length = k + m → Inv X pins σ H s → (∀ b ∈ [z, TO, i1, i2, S], FpOk X pins H b) → (∀ b ∈ [z, TO, i1, i2, S], b < s.heap.objs.size) → ZSt z TI TO i1 i2 l1 l2 S xa.toArray ya.toArray k s.heap →
      s.heap.get? S = some { cls := .type "list", dict := none, data := .seq acc c, slots := #[] } → acc.size = k → Vals ws0 acc.toList →
      (∀ s' H' acc' c' ws, Inv X pins σ H' s' → Laid H ((xv.zip yv).drop k) ws H' → s'.heap.get? S = some { cls := .type "list", dict := none, data := .seq acc' c', slots := #[] } → acc'.size = k + m → Vals (ws0 ++ ws) acc'.toList → FpOk X pins H' S → R (.ok (.ret res)) s') →
      codeAny (model X.prog X.w) A (.builtin "list.extend.loop" ⟨[.ref S, .ref z, res], []⟩) R s := by
  have lx := rx.length
  have ly := ry.length
  intro m
  induction m with
  | zero =>
    intro k s H acc c ws0 hk I fp lt Z hS hacc rw0 hR
    refine codeAny_builtin PySem.F.entry_extend_loop ?_
    rw [Around.under_plainId PySem.F.plain_extend_loop _]
    show wpAny _ A.in1 (pyNext (.ref z) >>= _) _ _ s
    refine wpAny_bind (zst_end hh D Z ?_ fun h' kp => wpAny_pure ?_)
    · rcases Nat.le_total xv.length yv.length with q | q
      · exact .inl (by simp; omega)
      · exact .inr (by simp; omega)
    · have nS : S ∉ [z, TO, i1, i2] := by
        simp only [List.mem_cons, List.not_mem_nil, or_false, not_or]
        exact ⟨B.z.symm, B.TO.symm, B.i1.symm, B.i2.symm⟩
      have J : Inv X pins σ H { s with heap := h' } := I.turnedL (t' := s.toks) (ch := [z, TO, i1, i2]) kp (fun b hb => fp b (by simp only [List.mem_cons, List.not_mem_nil, or_false] at hb ⊢; rcases hb with q | q | q | q <;> simp [q]))
      have dr : (xv.zip yv).drop k = [] := List.drop_eq_nil_of_le (by rw [List.length_zip]; omega)
      exact hR _ H acc c [] J (by rw [dr]; exact .nil) (kp _ _ nS hS) hacc (by rw [List.append_nil]; exact rw0) (fp S (by simp))
  | succ m ih =>
    intro k s H acc c ws0 hk I fp lt Z hS hacc rw0 hR
    have kx : k < xv.length := by omega
    have ky : k < yv.length := by omega
    obtain ⟨u, eu, ru⟩ := rx.get (List.getElem?_eq_getElem kx)
    obtain ⟨v, ev, rv⟩ := ry.get (List.getElem?_eq_getElem ky)
    have nS : S ∉ [z, TO, i1, i2] := by
      simp only [List.mem_cons, List.not_mem_nil, or_false, not_or]
      exact ⟨B.z.symm, B.TO.symm, B.i1.symm, B.i2.symm⟩
    refine codeAny_builtin PySem.F.entry_extend_loop ?_
    rw [Around.under_plainId PySem.F.plain_extend_loop _]
    show wpAny _ A.in1 (pyNext (.ref z) >>= _) _ _ s
    refine wpAny_bind (zst_item D Z hS (x := u) (y := v) (by simpa using eu) (by simpa using ev) fun h' Z' pr kp => ?_)
    have hS' := kp _ _ nS hS
    have Sn : s.heap.objs.size ≠ S := Nat.ne_of_gt (Heap.lt_size hS)
    show wpAny _ A.in1 (updateSeq S (·.push (.ref s.heap.objs.size)) >>= _) _ _ _
    refine wpAny_bind (wpAny_updateSeq hS' rfl (wpAny_pure ⟨plainId_quiet PySem.F.plain_extend_loop _, ?_⟩) (by rw [hacc]; omega) (by rw [Array.size_push, hacc]; omega))
    have kp2 : ∀ b o, b ≠ S → h'.get? b = some o → (h'.update S (Obj.mapSeq (·.push (.ref s.heap.objs.size)))).get? b = some o := fun b o q e => (Heap.get?_update_other _ _ (Ne.symm q)).trans e
    have J : Inv X pins σ (upd H s.heap.objs.size (.tup [xv[k], yv[k]])) { s with heap := h'.update S (Obj.mapSeq (·.push (.ref s.heap.objs.size))) } :=
      I.turnedNew (t' := s.toks) (ch := [z, TO, i1, i2, S]) (fun b o q e => kp2 b o (fun q' => q (by simp [q'])) (kp b o (fun q' => q (by simp only [List.mem_cons, List.not_mem_nil, or_false] at q' ⊢; rcases q' with q' | q' | q' | q' <;> simp [q'])) e)) fp (Nat.le_refl _)
        ⟨by show 2 ≤ sizeLine; decide, [u, v], .cons ru (.cons rv .nil), ⟨_, kp2 _ _ Sn pr, rfl, _, rfl⟩⟩
    have fp' : ∀ b ∈ [z, TO, i1, i2, S], FpOk X pins (upd H s.heap.objs.size (.tup [xv[k], yv[k]])) b := fun b hb => ⟨(upd_ne (Nat.ne_of_lt (lt b hb))).trans (fp b hb).1, (fp b hb).2⟩
    have lt' : ∀ b ∈ [z, TO, i1, i2, S], b < (h'.update S (Obj.mapSeq (·.push (.ref s.heap.objs.size)))).objs.size := fun b hb => Nat.lt_trans (lt b hb) (Heap.lt_size (kp2 _ _ Sn pr))
    refine ih (k + 1) _ _ (acc.push (.ref s.heap.objs.size)) _ (ws0 ++ [.ref s.heap.objs.size]) (by omega) J fp' lt' (zst_keep B Z' kp2) (Heap.get?_update_self _ hS' rfl) (by rw [Array.size_push, hacc]) (by rw [Array.toList_push]; exact rw0.append (.cons (show RelV (V.ref _) (Value.ref _) from rfl) .nil)) ?_
    intro s' H' acc' c' ws I' La hS2 sz rw' fS
    refine hR s' H' acc' c' (.ref s.heap.objs.size :: ws) I' ?_ hS2 (by omega) (by rw [List.append_assoc] at rw'; exact rw') fS
    have kz : k < (xv.zip yv).length := by rw [List.length_zip]; omega
    rw [List.drop_eq_getElem_cons kz, List.getElem_zip]
    exact .cons (I.hok.fresh (Nat.le_refl _)) La
end
end AI
/-! tuple(zip(a, b)) of two tuples. -/
namespace AI
open PySem PySem.Spec L2
open PyProof.Rows hiding St
theorem zip_noLen : typeLookup (.type "zip") "__len__" = pure none := am_miss_of_fast (by decide +kernel)
theorem zip_noHint : typeLookup (.type "zip") "__length_hint__" = pure none := am_miss_of_fast (by decide +kernel)
section
variable {X : Cx} {pins : List (Addr × Obj)} {σ : St} {A : Around} {z TI TO i1 i2 l1 l2 : Addr} {xv yv : List V} {xa ya : List Value} {H : Hp} {s : Shared}
/-- a new zip -/
structure ZNew (X : Cx) (pins : List (Addr × Obj)) (H : Hp) (h : Heap) (z TI TO i1 i2 l1 l2 : Addr) (xs ys : Array Value) : Prop where
  pz : IsZip h z TI TO .none
  pTI : IsPair h TI (.ref i1) (.ref i2)
  pTO : IsPair h TO .none .none
  p1 : h.IsTupleIter i1 l1 0
  p2 : h.IsTupleIter i2 l2 0
  q1 : h.IsTuple l1 xs
  q2 : h.IsTuple l2 ys
  fp : ∀ b ∈ [z, TO, i1, i2], FpOk X pins H b
theorem collect_zip {Q : List Value → Shared → Prop} {E : Value → Shared → Prop} (hh : A.handled = none) (D : ZipApart z TI TO i1 i2 l1 l2) (rx : Vals xv xa) (ry : Vals yv ya) (big : xv.length ≤ sizeLine) (I : Inv X pins σ H s) (N : ZNew X pins H s.heap z TI TO i1 i2 l1 l2 xa.toArray ya.toArray)
    (hQ : ∀ s' H' ws us, Inv X pins σ H' s' → Laid H (xv.zip yv) ws H' → Vals ws us → us.length = min xv.length yv.length → Q us s') : wpAny (model X.prog X.w) A (collect (.ref z)) Q E s := by
  have ltz : z < s.heap.objs.size := Heap.lt_size N.pz
  have lTI : TI < s.heap.objs.size := Heap.lt_size N.pTI
  have lTO : TO < s.heap.objs.size := Heap.lt_size N.pTO
  have li1 : i1 < s.heap.objs.size := let ⟨_, e, _⟩ := N.p1; Heap.lt_size e
  have li2 : i2 < s.heap.objs.size := let ⟨_, e, _⟩ := N.p2; Heap.lt_size e
  have ll1 : l1 < s.heap.objs.size := let ⟨_, e, _⟩ := N.q1; Heap.lt_size e
  have ll2 : l2 < s.heap.objs.size := let ⟨_, e, _⟩ := N.q2; Heap.lt_size e
  have B : SApart z TI TO i1 i2 l1 l2 s.heap.objs.size := ⟨Nat.ne_of_lt ltz, Nat.ne_of_lt lTI, Nat.ne_of_lt lTO, Nat.ne_of_lt li1, Nat.ne_of_lt li2, Nat.ne_of_lt ll1, Nat.ne_of_lt ll2⟩
  have Z0 : ZSt z TI TO i1 i2 l1 l2 s.heap.objs.size xa.toArray ya.toArray 0 s.heap := ⟨N.pTI, N.p1, N.p2, N.q1, N.q2, .inl ⟨N.pz, _, _, N.pTO⟩⟩
  unfold collect
  refine wpAny_bind (wpAny_runValue (codeAny_builtin PySem.F.entry_proto_collect ?_))
  rw [Around.under_plainId PySem.F.plain_proto_collect _]
  show wpAny _ A.in1 (newList [] >>= fun l => again (.builtin "list.__iadd__" ⟨[l, .ref z], []⟩)) _ _ s
  refine wpAny_bind (wpAny_newObj_type (wpAny_pure ⟨plainId_quiet PySem.F.plain_list_iadd _, codeAny_builtin PySem.F.entry_list_iadd ?_⟩))
  rw [Around.under_plainId PySem.F.plain_list_iadd _]
  show wpAny _ A.in1 (Builtin.List.listExtendWith (.ref s.heap.objs.size) (.ref z) (.ref s.heap.objs.size)) _ _ _
  have k0 : ∀ b o, s.heap.get? b = some o → (s.heap.push { cls := .type "list", data := .seq ([] : List Value).toArray }).get? b = some o := fun b o e => Heap.get?_push_of_some _ e
  have S0 : (s.heap.push { cls := .type "list", data := .seq ([] : List Value).toArray }).get? s.heap.objs.size = some { cls := .type "list", data := .seq ([] : List Value).toArray } := Heap.get?_push_size _ rfl
  generalize eh : s.heap.push { cls := .type "list", data := .seq ([] : List Value).toArray } = h0 at k0 S0 ⊢
  have ty : ({ s with heap := h0 } : Shared).TypeIs (.ref z) "zip" := ⟨_, k0 _ _ N.pz, rfl⟩
  unfold Builtin.List.listExtendWith
  refine wpAny_bind (wpAny_typeOf ty ?_)
  have e1 : Builtin.List.listSameRef (.ref s.heap.objs.size) (.ref z) = false := by simp [Builtin.List.listSameRef, B.z.symm]
  have e2 : (Value.type "zip" == Value.type "list") = false := by decide
  have e3 : (Value.type "zip" == Value.type "tuple") = false := by decide
  simp only [e1, e2, e3, Bool.or_false, Bool.false_eq_true, if_false]
  refine wpAny_bind (wpAny_pyIter_zip (s := { s with heap := h0 }) (k0 _ _ N.pz) (wpAny_bind (wpAny_holding ?_)))
  unfold Builtin.List.listLengthHint
  refine wpAny_bind (wpAny_specialOf ty zip_noLen ?_)
  show wpAny _ A.in1 (specialOf (Value.ref z) (Str.ofString "__length_hint__") >>= _) _ _ _
  refine wpAny_bind (wpAny_specialOf ty zip_noHint (wpAny_pure ?_))
  show wpAny _ A.in1 (rule "list.extend.makes-room" >>= fun _ => Builtin.List.listTouch (.ref s.heap.objs.size) >>= fun _ => again (.builtin "list.extend.loop" ⟨[.ref s.heap.objs.size, .ref z, .ref s.heap.objs.size], []⟩)) _ _ _
  refine wpAny_bind (wpAny_rule (wpAny_bind ?_))
  show wpAny _ A.in1 (updateSeq s.heap.objs.size (·.push .none) >>= fun _ => updateSeq s.heap.objs.size (·.pop)) _ _ _
  refine wpAny_bind (wpAny_updateSeq S0 rfl ?_)
  have S1 := Heap.get?_update_self (Obj.mapSeq (·.push Value.none)) S0 rfl
  refine wpAny_updateSeq S1 rfl (wpAny_pure ⟨plainId_quiet PySem.F.plain_extend_loop _, ?_⟩)
  have S2 := Heap.get?_update_self (Obj.mapSeq (·.pop)) S1 rfl
  have up : ∀ b o, b ≠ s.heap.objs.size → s.heap.get? b = some o → ((h0.update s.heap.objs.size (Obj.mapSeq (·.push Value.none))).update s.heap.objs.size (Obj.mapSeq (·.pop))).get? b = some o := fun b o ne e =>
    (Heap.get?_update_other _ _ (Ne.symm ne)).trans ((Heap.get?_update_other _ _ (Ne.symm ne)).trans (k0 b o e))
  have J : Inv X pins σ H { s with heap := (h0.update s.heap.objs.size (Obj.mapSeq (·.push Value.none))).update s.heap.objs.size (Obj.mapSeq (·.pop)) } := I.kept (t' := s.toks) fun b o e => up b o (Nat.ne_of_lt (Heap.lt_size e)) e
  have lt1 := Heap.lt_size S2
  refine zip_loop hh D B rx ry big (min xv.length yv.length) 0 _ H _ _ [] (by omega) J (fun b hb => ?_) (fun b hb => ?_) (zst_keep B Z0 up) S2 rfl .nil fun s' H' acc' c' ws I' La hS' sz rw' _ => ?_
  · by_cases q : b = s.heap.objs.size
    · rw [q]; exact I.fpOk (Nat.le_refl _) (I.hok.fresh (Nat.le_refl _))
    · exact N.fp b (by simp only [List.mem_cons, List.not_mem_nil, or_false] at hb ⊢; rcases hb with r | r | r | r | r <;> simp_all)
  · simp only [List.mem_cons, List.not_mem_nil, or_false] at hb
    rcases hb with r | r | r | r | r <;> rw [r] <;> first | exact lt1 | (refine Nat.lt_trans ?_ lt1; assumption)
  · show wpAny _ A (load s.heap.objs.size >>= _) _ _ s'
    refine wpAny_bind (wpAny_load hS' (wpAny_pure (hQ s' H' ws _ I' ?_ rw' ?_)))
    · exact La
    · rw [Array.length_toList, sz, Nat.zero_add]
end
end AI
/-! tuple(zip(a, b)) of two tuples: the call, the expression. -/
namespace AI
open PySem PySem.Spec L2
open PyProof.Rows hiding St
section
variable {X : Cx} {pins : List (Addr × Obj)} {σ : St} {A : Around} {z TI TO i1 i2 l1 l2 : Addr} {xv yv : List V} {xa ya : List Value} {H : Hp} {s : Shared} {E : Value → Shared → Prop}
/-- what tuple(zip(..)) hands back -/
def TZ (X : Cx) (pins : List (Addr × Obj)) (σ : St) (H : Hp) (ps : List (V × V)) (u : Value) (s' : Shared) : Prop := ∃ (H' : Hp) (ws : List V) (q : Addr), u = .ref q ∧ Inv X pins σ (upd H' q (.tup ws)) s' ∧ Laid H ps ws H' ∧ H' q = none
theorem code_tuple_zip (hh : A.handled = none) (D : ZipApart z TI TO i1 i2 l1 l2) (rx : Vals xv xa) (ry : Vals yv ya) (big : xv.length ≤ sizeLine) (I : Inv X pins σ H s) (N : ZNew X pins H s.heap z TI TO i1 i2 l1 l2 xa.toArray ya.toArray) :
    codeAny (model X.prog X.w) A (.call (.builtin "tuple.__new__") ⟨[.type "tuple", .ref z], []⟩) (wants (fun u s' => s'.TypeIs u "tuple" ∧ TZ X pins σ H (xv.zip yv) u s') E) s := by
  refine codeAny_of_tree ?_
  show wpAny _ A.in1 (do checkBuiltinCall "tuple.__new__" ⟨[.type "tuple", .ref z], []⟩; again (.builtin "tuple.__new__" ⟨[.type "tuple", .ref z], []⟩)) _ _ s
  refine wpAny_bind (wpAny_of_eq (PySem.F.newCall_tuple_1 _) (wpAny_pure ⟨plainId_quiet PySem.F.plain_tuple_new _, codeAny_builtin PySem.F.entry_tuple_new ?_⟩))
  rw [Around.under_plainId PySem.F.plain_tuple_new _]
  have f1 := PySem.sub_tuple_self
  have f2 := PySem.init_tuple_lookup
  have f3 := PySem.madeHere_tuple
  have ty : s.TypeIs (.ref z) "zip" := ⟨_, N.pz, rfl⟩
  have hh1 : A.in1.handled = none := hh
  wp_walk using wpAny_typeOf ty, collect_zip (A := A.in1) hh1 D rx ry big I N
  intro s1 H1 ws us I1 La rw1 len
  show wpAny _ _ (Builtin.Tuple.tupleExact us.toArray >>= fun v => ret v) _ _ _
  unfold Builtin.Tuple.tupleExact
  have sz : us.toArray.size ≤ sizeLine := by rw [List.size_toArray, len]; omega
  refine wpAny_bind (wpAny_newObj_type (wpAny_pure ?_) sz)
  refine ⟨⟨_, Heap.get?_push_size _ rfl, rfl⟩, H1, ws, _, rfl, ?_, La, I1.hok.fresh (Nat.le_refl _)⟩
  exact I1.laid (t' := s1.toks) (fun b o e => Heap.get?_push_of_some _ e) (Nat.le_refl _) (show ObjOk X.prog X.w _ _ _ (.tup ws) from ⟨by have e := rw1.length; rw [List.size_toArray] at sz; omega, us, rw1, IsTup.new _ _⟩)
theorem call_tuple_zip {Q : Value → Shared → Prop} (hh : A.handled = none) (D : ZipApart z TI TO i1 i2 l1 l2) (rx : Vals xv xa) (ry : Vals yv ya) (big : xv.length ≤ sizeLine) (I : Inv X pins σ H s) (N : ZNew X pins H s.heap z TI TO i1 i2 l1 l2 xa.toArray ya.toArray)
    (hQ : ∀ u s', TZ X pins σ H (xv.zip yv) u s' → Q u s') : wpAny (model X.prog X.w) A (call (.type "tuple") [.ref z]) Q E s := by
  refine callType_codes (Q₁ := fun obj s₁ => s₁.TypeIs obj "tuple" ∧ Q obj s₁) PySem.F.called_tuple (PySem.F.typeCall_tuple_1 _) PySem.F.entry_object_init ?_ fun obj s₁ h₁ => ?_
  · refine codeAny_mono (code_tuple_zip (A := A.in1) (E := E) hh D rx ry big I N) fun r s' q => ?_
    rcases r with e | (v | _ | _ | _) <;> first | exact q | exact ⟨q.1, hQ _ _ q.2⟩ | exact q.elim
  · exact ⟨h₁.1, PySem.F.args_object_init_2 obj _, object_init_meets PySem.F.called_tuple.init.lookup PySem.F.called_tuple.made (by decide) X.prog X.w A.in1 _ s₁ ⟨h₁.1, rfl, h₁.2⟩⟩
end
end AI
/-! tuple(zip(a, b)) as an expression. -/
namespace AI
open PySem PySem.Spec L2
open PyProof.Rows hiding St
section
variable {Z : Zt} {W : WX} {X : Cx} {σ : St} {A : As} {P : Pm}
theorem laid_rep {H H' : Hp} {ps : List (V × V)} {ws : List V} (La : Laid H ps ws H') : ∀ {G : Hp} {xs ys : List D} {xv yv : List V}, ps = xv.zip yv → StR Z G H σ A → Reps Z G xs xv → Reps Z G ys yv →
    ∃ G', StR Z G' H' σ A ∧ Ch σ A A G H G' H' ∧ Reps Z G' (zipD xs ys) ws := by
  induction La with
  | @nil H =>
    intro G xs ys xv yv e s rx ry
    refine ⟨G, s, .refl, ?_⟩
    have : zipD xs ys = [] := by
      cases xv with
      | nil =>
        have e := rx.len
        have : xs = [] := List.eq_nil_of_length_eq_zero (by simpa using e.symm)
        subst this
        unfold zipD
        rfl
      | cons a as =>
        cases yv with
        | nil =>
          have e := ry.len
          have : ys = [] := List.eq_nil_of_length_eq_zero (by simpa using e.symm)
          subst this
          cases xs <;> rfl
        | cons b bs => cases e
    rw [this]
    exact .nil
  | @cons H H' T x y ps ws n t ih =>
    intro G xs ys xv yv e s rx ry
    cases xv with
    | nil => cases e
    | cons a as =>
      cases yv with
      | nil => cases e
      | cons b bs =>
        rw [List.zip_cons_cons] at e
        injection e with e1 e2
        injection e1 with ex ey
        subst ex ey
        cases xs with
        | nil => have := rx.len; cases this
        | cons d ds =>
          cases ys with
          | nil => have := ry.len; cases this
          | cons d' ds' =>
            obtain ⟨_, _, e, r1, r2⟩ := rx.inv
            cases e
            obtain ⟨_, _, e, r3, r4⟩ := ry.inv
            cases e
            have g : G T = none := s.sub.none n
            have sb : Sub G (upd G T (.tup [x, y])) := sub_upd g
            have s1 : StR Z (upd G T (.tup [x, y])) (upd H T (.tup [x, y])) σ A := (s.grow n).freeze g upd_same fun z => s.notOwn n z
            have c1 : Ch σ A A G H (upd G T (.tup [x, y])) (upd H T (.tup [x, y])) := (Ch.refl.grow n).freeze g (.inl n)
            obtain ⟨G', s2, c2, r⟩ := ih e2 s1 (r2.mono sb) (r4.mono sb)
            refine ⟨G', s2, c1.trans c2, ?_⟩
            unfold zipD
            refine .cons (rep_tup.mpr ⟨T, [x, y], rfl, .of (c2.sub _ _ upd_same), ?_⟩) r
            exact ((Reps.cons r1 (Reps.cons r3 Reps.nil)).mono sb).mono c2.sub
def tTz (K : PySem.W.Frag) (ta : TA) : TE := fun σ H Q => ta σ H fun vs H1 => ∃ (a b : Addr) (xs ys : List V), vs = [.ref a, .ref b] ∧ SqT K H1 a xs ∧ SqT K H1 b ys ∧ ∀ H' ws q, Laid H1 (xs.zip ys) ws H' → H' q = none → Q (.ref q) (upd H' q (.tup ws))
theorem pe_tz {a b : Expr} {ta : TA} {p p2 q pos : Pos} (hc : X.calm = true) (hg : Gl X "tuple") (hm : X.mg "tuple" = none) (hg2 : Gl X "zip") (hm2 : X.mg "zip" = none) (pa : PA X [a, b] ta) (na : noStar a = true) (nb : noStar b = true) :
    PE X (.Call (.Name "tuple" p) [.Call (.Name "zip" p2) [a, b] [] q] [] pos) (tTz X.K ta) := by
  refine ⟨fun pins s σ H Q I h => ?_⟩
  refine Call_ (ld_blt I hg hm boot_tuple (PyProof.Rows.callWith_type1 (args_cons ?_ rfl) rfl))
  refine Call_ (ld_blt I hg2 hm2 PyProof.Rows.boot_zip (PyProof.Rows.callWith_type1 (thn (pa.run q pins s σ H _ I h) fun us s1 ⟨vs, H1, I1, r1, w⟩ => ?_) (star_no na) (by rw [star_no nb]; rfl)))
  obtain ⟨l1, l2, xs, ys, e, t1, t2, w⟩ := w
  subst e
  cases r1 with
  | cons r r1 =>
    cases r1 with
    | cons r' r1 =>
      cases r1
      cases r
      cases r'
      obtain ⟨xa, rx, p1, big⟩ := I1.tuple t1
      obtain ⟨ya, ry, p2, _⟩ := I1.tuple t2
      obtain ⟨o1, at1, _⟩ := id p1
      obtain ⟨o2, at2, _⟩ := id p2
      refine RZ.call_zipT (show s1.heap.IsTuple l1 xa.toArray from p1) (show s1.heap.IsTuple l2 ya.toArray from p2) fun h' hz hTI hTO h1 h2 hsz kp => args_nil ?_
      have J : Inv X pins σ H1 { s1 with heap := h' } := I1.kept (t' := s1.toks) kp
      refine call_tuple_zip (J.ok.hd hc) (PySem.W.ktu_apart s1.heap.objs.size l1 l2 (Heap.lt_size at1) (Heap.lt_size at2)) rx ry big J ⟨hz, hTI, hTO, h1, h2, isTuple_at p1 fun o e => kp _ o e, isTuple_at p2 fun o e => kp _ o e, fun b hb => ?_⟩ fun u s' tz => ?_
      · have le : s1.heap.objs.size ≤ b := by
          simp only [List.mem_cons, List.not_mem_nil, or_false] at hb
          rcases hb with r | r | r | r <;> rw [r] <;> first | exact Nat.le_refl _ | exact Nat.le_add_right _ _
        have f := I1.fpOk le (I1.hok.fresh le)
        exact f
      · obtain ⟨H', ws, d, rfl, I', La, n⟩ := tz
        exact ⟨.ref d, _, I', rfl, w H' ws d La n⟩
theorem pe_tzipA {a b : Expr} {f g : E2} {p p2 q pos : Pos} (hc : X.calm = true) (hK : X.K = Z.K) (hg : Gl X "tuple") (hm : X.mg "tuple" = none) (hg2 : Gl X "zip") (hm2 : X.mg "zip" = none) (ha : SE Z W X a f) (hb : SE Z W X b g) (na : noStar a = true) (nb : noStar b = true) :
    PE X (.Call (.Name "tuple" p) [.Call (.Name "zip" p2) [a, b] [] q] [] pos) (tof Z W fun A => Rs.bind (f.d A) fun x A1 => Rs.bind (g.d A1) fun y A2 => toV A2 (tzipD x y)) := by
  refine pe_imp (pe_tz hc hg hm hg2 hm2 (pa_cons ha.d (pa_cons hb.d pa_nil (star_no nb)) (star_no na)) na nb) fun σ H Q w => ?_
  obtain ⟨G, A, s, w⟩ := w
  refine tofG.bind s sh_R w fun x A1 v G1 H1 s1 c1 r1 h1 => ?_
  refine tofG.bind s1 sh_R h1 fun y A2 u G2 H2 s2 c2 r2 h2 => ?_
  cases x with
  | tup xs =>
    cases y with
    | tup ys =>
      have h3 : tofS Z W (RR Z) (toV A2 (if short xs && short ys then some (.tup (zipD xs ys)) else none)) σ A2 G2 H2 Q := h2
      cases e : short xs && short ys with
      | false => rw [e] at h3; exact h3.elim
      | true =>
        rw [e] at h3
        have k : Fin Z σ A2 G2 H2 (RR Z) (.v (.tup (zipD xs ys))) Q := h3
        obtain ⟨a1, xv, rfl, t1, q1⟩ := rep_tup.mp (show Rep Z G1 (.tup xs) v from r1)
        obtain ⟨a2, yv, rfl, t2, q2⟩ := rep_tup.mp (show Rep Z G2 (.tup ys) u from r2)
        refine ⟨a1, a2, xv, yv, rfl, by rw [hK]; exact s2.sub.sqt (c2.sub.sqt t1), by rw [hK]; exact s2.sub.sqt t2, fun H' ws d La n => ?_⟩
        obtain ⟨G', s3, c3, r⟩ := laid_rep La rfl s2 (q1.mono c2.sub) q2
        have g : G' d = none := s3.sub.none n
        have n2 : H2 d = none := by
          cases z : H2 d with
          | none => rfl
          | some o =>
            obtain ⟨u, z⟩ := c3.dom d o z
            rw [n] at z
            cases z
        exact k (.ref d) (upd G' d (.tup ws)) (upd H' d (.tup ws)) ((s3.grow n).freeze g upd_same fun z => s3.notOwn n z) ((c3.grow n).freeze g (.inl n2)) (rep_tup.mpr ⟨d, ws, rfl, .of upd_same, r.mono (sub_upd g)⟩)
    | _ => exact h2.elim
  | _ => exact h2.elim
end
end AI
/-! A look that says: this text is that term. Expressions. -/
namespace AI
open PySem PySem.Spec L2
open PyProof.Rows hiding St
/-- what is known of a def's names -/
structure Sg where
  N : List Str
  sc : Scope
  fnS : Option Scope
  defs : List (Str × Nat × Nat × List (Nat × List Str × List Nat))
  gls : List (Str × Nat)
  blt : List Str
  cls : List (Str × Nat × Str) := []
  bas : List Str := []
def visK : Option NameKind → Bool
  | some .local => true
  | some .cell => true
  | some .free => true
  | _ => false
def locK : Option NameKind → Bool
  | some .local => true
  | some .cell => true
  | _ => false
def plainNm (x : Str) : Bool := !(x == ("__debug__" : Str)) && !(x == ("__classdict__" : Str))
def Sg.var (s : Sg) (i : Nat) (x : Str) : Bool := decide (s.N[i]? = some x) && visK (s.sc.names.lookup x) && plainNm x
def Sg.gl (s : Sg) (x : Str) : Bool := decide (s.sc.names.lookup x = some .globalImplicit)
def Sg.bl (s : Sg) (x : Str) : Bool := s.gl x && s.blt.contains x
def Sg.tgt (s : Sg) (i : Nat) (x : Str) : Bool := decide (s.N[i]? = some x) && locK (s.sc.names.lookup x) && (decide (s.sc.names.lookup x = some .local) || (match s.fnS with
  | none => true
  | some z => z.names.lookup x == some .cell))
def relab (scope sc : Scope) : Scope :=
  { scope with names := scope.names.map fun (n, k) => if (k == .free && sc.kind == .function && sc.names.lookup n == some .cell) then (n, .cell) else (n, k) }
def Sg.blk (s : Sg) (scope : Scope) : Sg := { s with sc := relab scope s.sc, fnS := some scope }
structure XO (Z : Zt) (W : WX) (X : Cx) (s : Sg) (P : Pm) (k : Nat) : Prop where
  hN : X.N = s.N
  nd : X.N.Nodup
  hs : X.env.scope = s.sc
  hK : X.K = Z.K
  hc : X.calm = true
  tk : Takes X W
  hr : Room k X.A
  hf : ∀ x, (s.fnS = none ∨ ∃ z, s.fnS = some z ∧ (z.names.lookup x == some .cell) = true) → X.fn x = true
  df : ∀ x j np kw, s.defs.lookup x = some (j, np, kw) → DefOk Z X k x j np kw (P.orc j)
  dv : ∀ j rs rc, P.orc j rs = some rc → ∃ np, rs.length = np ∧ DefV Z X k j np (P.orc j)
  gl : ∀ x j, s.gls.lookup x = some j → ∃ d v u, P.gl j = some d ∧ X.mg x = some u ∧ RelV v u ∧ ∀ G, Rep Z G d v
  bl : ∀ x, s.blt.contains x = true → X.mg x = none
  er : ∀ x c f, s.cls.lookup x = some (c, f) → ErrG X (k - 1) x f (Z.ca c)
  k2 : 2 ≤ k
  et : ErrT X.K X.mg Z s.cls.length (fun c => (s.cls[c]?).map fun q => q.2.2) s.bas
section
variable {Z : Zt} {W : WX} {X : Cx} {s : Sg} {P : Pm} {k : Nat}
theorem XO.hu (x : XO Z W X s P k) : X.A.units + 64 < cLine := by have := x.hr.un; omega
theorem XO.blk {st : Shared} {H : Hp} {scope : Scope} {C : Addr} {cl : List (Str × Addr)} {fp : List Addr} (x : XO Z W X s P k) : XO Z W0 (X.blk st H scope (compEnvC scope cl C X.env) fp) (s.blk scope) P k where
  hN := x.hN
  nd := x.nd
  hs := by
    show relabel scope X.env = relab scope s.sc
    unfold relabel relab Env.kindOf
    rw [x.hs]
  hK := x.hK
  hc := x.hc
  tk := takes0
  hr := x.hr
  hf := fun y h => by
    rcases h with h | ⟨z, h, q⟩
    · cases h
    · cases h; exact q
  df := fun y j np kw h => by
    obtain ⟨h1, h2, h3, h4⟩ := x.df y j np kw h
    exact ⟨h1, h2, h3, h4⟩
  dv := fun j rs rc h => by
    obtain ⟨np, h1, fd, ps, h2, h3, h4⟩ := x.dv j rs rc h
    exact ⟨np, h1, fd, ps, h2, h3, h4⟩
  gl := x.gl
  bl := x.bl
  er := fun y c f h => ⟨(x.er y c f h).mgx, fun e => ⟨((x.er y c f h).one e).mgx, ((x.er y c f h).one e).T, ((x.er y c f h).one e).no, ((x.er y c f h).one e).ini⟩, fun e => ⟨((x.er y c f h).zero e).mgx, ((x.er y c f h).zero e).T, ((x.er y c f h).zero e).ini⟩⟩
  k2 := x.k2
  et := x.et
/-- within a try -/
theorem XO.tr {W' : WX} {pn : List (Addr × Obj)} {xe : Value → Shared → Prop} (x : XO Z W X s P k) (tk : Takes (X.tr pn xe) W') : XO Z W' (X.tr pn xe) s P k where
  hN := x.hN
  nd := x.nd
  hs := x.hs
  hK := x.hK
  hc := x.hc
  tk := tk
  hr := x.hr
  hf := x.hf
  df := fun y j np kw h => by
    obtain ⟨h1, h2, h3, h4⟩ := x.df y j np kw h
    exact ⟨h1, h2, h3, h4⟩
  dv := fun j rs rc h => by
    obtain ⟨np, h1, fd, ps, h2, h3, h4⟩ := x.dv j rs rc h
    exact ⟨np, h1, fd, ps, h2, h3, h4⟩
  gl := x.gl
  bl := x.bl
  er := fun y c f h => ⟨(x.er y c f h).mgx, fun e => ⟨((x.er y c f h).one e).mgx, ((x.er y c f h).one e).T, ((x.er y c f h).one e).no, ((x.er y c f h).one e).ini⟩, fun e => ⟨((x.er y c f h).zero e).mgx, ((x.er y c f h).zero e).T, ((x.er y c f h).zero e).ini⟩⟩
  k2 := x.k2
  et := x.et
theorem visK_of {sc : Scope} {x : Str} (h : visK (sc.names.lookup x) = true) : Vis sc x := by
  unfold Vis
  generalize sc.names.lookup x = o at h
  unfold visK at h
  split at h <;> simp_all
theorem locK_of {sc : Scope} {x : Str} (h : locK (sc.names.lookup x) = true) : L2.Loc sc x := by
  unfold L2.Loc
  generalize sc.names.lookup x = o at h
  unfold locK at h
  split at h <;> simp_all
theorem XO.var (x : XO Z W X s P k) {i : Nat} {y : Str} (h : s.var i y = true) : X.N[i]? = some y ∧ Vis X.env.scope y ∧ (y == ("__debug__" : Str)) = false ∧ (y == ("__classdict__" : Str)) = false := by
  unfold Sg.var plainNm at h
  simp only [Bool.and_eq_true, Bool.not_eq_true', decide_eq_true_eq] at h
  obtain ⟨⟨h1, h2⟩, h3, h4⟩ := h
  exact ⟨by rw [x.hN]; exact h1, by rw [x.hs]; exact visK_of h2, h3, h4⟩
theorem XO.glb (x : XO Z W X s P k) {y : Str} (h : s.gl y = true) : Gl X y := by
  show X.env.scope.names.lookup y = some .globalImplicit
  rw [x.hs]
  exact of_decide_eq_true h
theorem XO.blt (x : XO Z W X s P k) {y : Str} (h : s.bl y = true) : Gl X y ∧ X.mg y = none := by
  obtain ⟨h1, h2⟩ := Bool.and_eq_true_iff.mp h
  exact ⟨x.glb h1, x.bl y h2⟩
theorem XO.tgt (x : XO Z W X s P k) {i : Nat} {y : Str} (h : s.tgt i y = true) : X.N[i]? = some y ∧ L2.Loc X.env.scope y ∧ (X.fn y = true ∨ X.env.scope.names.lookup y = some .local) := by
  unfold Sg.tgt at h
  simp only [Bool.and_eq_true, Bool.or_eq_true, decide_eq_true_eq] at h
  obtain ⟨⟨h1, h2⟩, h3⟩ := h
  refine ⟨by rw [x.hN]; exact h1, by rw [x.hs]; exact locK_of h2, ?_⟩
  rcases h3 with h3 | h3
  · exact .inr (by rw [x.hs]; exact h3)
  · left
    refine x.hf y ?_
    cases e : s.fnS with
    | none => exact .inl rfl
    | some z => rw [e] at h3; exact .inr ⟨z, rfl, h3⟩
end
/-! ### the look -/
def litOk : D → Const → Bool
  | .non, .none => true
  | .bl a, .bool b => decide (a = b)
  | .int a, .int b => decide (a = b)
  | .str a, .str b => decide (a = b)
  | _, _ => false
def notSet : Expr → Bool
  | .Set _ _ _ => false
  | _ => true
theorem folded_no {e : Expr} (h : notSet e = true) {env : Env} (x : Value) : foldedSetIterable e env x = pure x := by
  cases e <;> first | rfl | cases h
mutual
def chkT (s : Sg) : Tg → Expr → Bool
  | .n i, e => match e with
    | .Name x _ => s.tgt i x
    | _ => false
  | .t ts, e => match e with
    | .Tuple es _ _ => chkTs s ts es
    | _ => false
def chkTs (s : Sg) : List Tg → List Expr → Bool
  | [], es => match es with
    | [] => true
    | _ => false
  | t :: ts, es => match es with
    | e :: r => chkT s t e && chkTs s ts r
    | _ => false
end
def tyNames (s : Sg) : List Ty → List Expr → Bool
  | [], es => match es with
    | [] => true
    | _ => false
  | t :: ts, es => match es with
    | .Name x _ :: r => decide (x = PySem.Str.ofString t.nm) && s.bl x && tyNames s ts r
    | _ => false
def Sg.own (s : Sg) (own : List Nat) : List (Str × Nat) := own.map fun i => ((s.N[i]?).getD ("" : Str), i)
def isTup : Expr → Bool
  | .Tuple _ _ _ => true
  | _ => false
def starNm (st : Bool) : Ex → Nat
  | _ => 0
def hasDef (s : Sg) (x : Str) (j n : Nat) : Bool := match s.defs.lookup x with
  | some (j', n', _) => j' == j && n' == n
  | none => false
def hasKw (s : Sg) (x : Str) (j n : Nat) (ks : List Str) (perm : List Nat) : Bool := match s.defs.lookup x with
  | some (j', n', kw) => j' == j && n' == perm.length && kw.any fun sh => decide (sh = (n, ks, perm))
  | none => false
/-- the keywords' names, their values -/
def kwSplit : List Keyword → Option (List Str × List Expr)
  | [] => some ([], [])
  | ⟨some x, e, _⟩ :: r => (kwSplit r).map fun z => (x :: z.1, e :: z.2)
  | ⟨none, _, _⟩ :: _ => none
def hasFn (s : Sg) (x : Str) (j : Nat) : Bool := match s.defs.lookup x with
  | some (j', _, _) => j' == j
  | none => false
def isNilX : Exs → Bool
  | .nil => true
  | _ => false
def hasGl (s : Sg) (x : Str) (j : Nat) : Bool := match s.gls.lookup x with
  | some j' => j' == j
  | none => false
mutual
def chkE (s : Sg) : Ex → Expr → Bool
  | .var i, e => match e with
    | .Name x _ => s.var i x
    | _ => false
  | .lit d, e => match e with
    | .Constant c _ _ => litOk d c
    | _ => false
  | .glo j, e => match e with
    | .Name x _ => s.gl x && hasGl s x j && plainNm x
    | _ => false
  | .op o a b, e => match e with
    | .BinOp l o' r _ => decide (o' = o) && chkE s a l && chkE s b r
    | _ => false
  | .cmp o a b, e => match e with
    | .Compare l [o'] [r] _ => decide (o' = o) && !behindInMarks o r && chkE s a l && chkE s b r
    | _ => false
  | .chn o p a b c, e => match e with
    | .Compare l [o', p'] [r, t] _ => decide (o' = o) && decide (p' = p) && !lastMarks [o, p] [r, t] && chkE s a l && chkE s b r && chkE s c t
    | _ => false
  | .not a, e => match e with
    | .UnaryOp .Not x _ => chkE s a x
    | _ => false
  | .neg a, e => match e with
    | .UnaryOp .USub x _ => chkE s a x
    | _ => false
  | .bo o es, e => match e with
    | .BoolOp o' xs _ => decide (o' = o) && chkL s es xs && plainX es && neX es
    | _ => false
  | .orv a b, e => match e with
    | .BoolOp .Or [l, r] _ => chkE s a l && chkE s b r
    | _ => false
  | .ite c a b, e => match e with
    | .IfExp t l r _ => chkE s c t && chkE s a l && chkE s b r
    | _ => false
  | .tup es, e => match e with
    | .Tuple xs _ _ => chkL s es xs
    | _ => false
  | .lst es, e => match e with
    | .List xs _ => chkL s es xs
    | _ => false
  | .call j es, e => match e with
    | .Call (.Name x _) (y :: ys) [] _ => s.gl x && hasDef s x j (lenX es) && chkL s es (y :: ys) && plainX es
    | _ => false
  | .call0 j, e => match e with
    | .Call (.Name x _) [] [] _ => s.gl x && hasDef s x j 0
    | _ => false
  | .callk j es ks perm, e => match e with
    | .Call (.Name x _) xs kws _ => s.gl x && chkL s es xs && plainX es && plainX ks && (match kwSplit kws with
      | some (nms, ys) => hasKw s x j xs.length nms perm && chkL s ks ys
      | none => false)
    | _ => false
  | .bi b es, e => match e with
    | .Call (.Name x _) (y :: ys) [] _ => decide (x = b.nm) && s.bl x && chkL s es (y :: ys) && plainX es
    | _ => false
  | .isi a ts, e => match e with
    | .Call (.Name x _) [y, t] [] _ => decide (x = ("isinstance" : Str)) && s.bl x && chkE s a y && noStar y && decide (ts.length ≤ most) && (match t with
      | .Name z p => (match ts with
        | [t1] => decide (z = PySem.Str.ofString t1.nm) && s.bl z
        | _ => false)
      | .Tuple zs _ _ => tyNames s ts zs
      | _ => false)
    | _ => false
  | .lset a, e => match e with
    | .Call (.Name x _) [.Call (.Name y _) [z] [] _] [] _ => decide (x = ("len" : Str)) && s.bl x && decide (y = ("set" : Str)) && s.bl y && noStar z && chkE s a z
    | _ => false
  | .sset a, e => match e with
    | .Call (.Name x _) [.Call (.Name y _) [z] [] _] [] _ => decide (x = ("sorted" : Str)) && s.bl x && decide (y = ("set" : Str)) && s.bl y && noStar z && chkE s a z
    | _ => false
  | .ix a b, e => match e with
    | .Subscript x y _ => simpleIx y && chkE s a x && chkE s b y
    | _ => false
  | .ixv i b, e => match e with
    | .Subscript (.Name x _) y _ => s.var i x && simpleIx y && chkE s b y
    | _ => false
  | .sl a lo hi, e => match e with
    | .Subscript x (.Slice l h none _) _ => chkE s a x && chkO s lo l && chkO s hi h
    | _ => false
  | .app i a, e => match e with
    | .Call (.Attribute (.Name x _) m q) [y] [] pos => s.var i x && decide (m = ("append" : Str)) && (q.endLine == pos.line) && noStar y && chkE s a y
    | _ => false
  | .popv i a, e => match e with
    | .Call (.Attribute (.Name x _) m q) [y] [] pos => s.var i x && decide (m = ("pop" : Str)) && (q.endLine == pos.line) && noStar y && chkE s a y
    | _ => false
  | .popl i, e => match e with
    | .Call (.Attribute (.Name x _) m q) [] [] pos => s.var i x && decide (m = ("pop" : Str)) && (q.endLine == pos.line)
    | _ => false
  | .ext i a, e => match e with
    | .Call (.Attribute (.Name x _) m q) [y] [] pos => s.var i x && decide (m = ("extend" : Str)) && (q.endLine == pos.line) && noStar y && chkE s a y
    | _ => false
  | .sm m a es, e => match e with
    | .Call (.Attribute y nm q) [] [] pos => decide (nm = m.nm) && isNilX es && notAttrC y && (q.endLine == pos.line) && chkE s a y
    | _ => false
  | .fnv j, e => match e with
    | .Name x _ => s.gl x && hasFn s x j
    | _ => false
  | .fz a, e => chkE s a e
  | .isiv i ts, e => match e with
    | .Call (.Name x _) [.Name y _, t] [] _ => decide (x = ("isinstance" : Str)) && s.bl x && s.var i y && decide (ts.length ≤ most) && (match t with
      | .Name z p => (match ts with
        | [t1] => decide (z = PySem.Str.ofString t1.nm) && s.bl z
        | _ => false)
      | .Tuple zs _ _ => tyNames s ts zs
      | _ => false)
    | _ => false
  | .slv i lo hi, e => match e with
    | .Subscript (.Name x _) (.Slice l h none _) _ => s.var i x && chkO s lo l && chkO s hi h
    | _ => false
  | .dmk a, e => match e with
    | .Call (.Name x _) [y] [] _ => decide (x = ("dict" : Str)) && s.bl x && noStar y && chkE s a y
    | _ => false
  | .ind neg a b, e => match e with
    | .Compare l [o] [r] _ => decide (o = if neg then .NotIn else .In) && !behindInMarks o r && chkE s a l && chkE s b r
    | _ => false
  | .dget o k x, e => match e with
    | .Call (.Attribute y m q) [z, t] [] pos => decide (m = ("get" : Str)) && plainBase y && (q.endLine == pos.line) && noStar z && noStar t && chkE s o y && chkE s k z && chkE s x t
    | _ => false
  | .dgetv i k x, e => match e with
    | .Call (.Attribute (.Name y _) m q) [z, t] [] pos => decide (m = ("get" : Str)) && s.var i y && (q.endLine == pos.line) && noStar z && noStar t && chkE s k z && chkE s x t
    | _ => false
  | .dnew, e => match e with
    | .Dict [] [] _ => true
    | _ => false
  | .dix i b, e => match e with
    | .Subscript (.Name x _) y _ => s.var i x && simpleIx y && chkE s b y
    | _ => false
  | .callx f es, e => match e with
    | .Call fe (y :: ys) [] _ => !isAttr fe && chkE s f fe && chkL s es (y :: ys) && plainX es
    | _ => false
  | .comp2 elt tg it c tg1 it1 c1 own own1, e => match e with
    | .ListComp x [⟨t, i, ifs, 0⟩, ⟨t1, i1, ifs1, 0⟩] scope _ => blkC s.N s.sc scope (s.own own) && notSet i && notSet i1 && chkI s it t i && chkT (s.blk scope) tg t && (tgs tg).all (fun j => own.contains j) && chkI (s.blk scope) it1 t1 i1 && chkT (s.blk scope) tg1 t1 && (tgs tg1).all (fun j => own1.contains j) && own1.all (fun j => own.contains j) && chkE (s.blk scope) elt x && (match ifs with
      | [] => isNoX c
      | [y] => chkO (s.blk scope) c (some y)
      | _ => false) && (match ifs1 with
      | [] => isNoX c1
      | [y] => chkO (s.blk scope) c1 (some y)
      | _ => false)
    | _ => false
  | .comp elt tg it c own, e => match e with
    | .ListComp x [⟨t, i, ifs, 0⟩] scope _ => blkC s.N s.sc scope (s.own own) && notSet i && chkI s it t i && chkT (s.blk scope) tg t && (tgs tg).all (fun j => own.contains j) && chkE (s.blk scope) elt x && (match ifs with
      | [] => isNoX c
      | [y] => chkO (s.blk scope) c (some y)
      | _ => false)
    | _ => false
  | .dcomp kx vx tg it own, e => match e with
    | .DictComp x y [⟨t, i, [], 0⟩] scope _ => blkC s.N s.sc scope (s.own own) && notSet i && chkI s it t i && chkT (s.blk scope) tg t && (tgs tg).all (fun j => own.contains j) && chkE (s.blk scope) kx x && chkE (s.blk scope) vx y
    | _ => false
  | .lrng a, e => match e with
    | .Call (.Name x _) [.Call (.Name y _) [z] [] _] [] _ => decide (x = ("list" : Str)) && s.bl x && decide (y = ("range" : Str)) && s.bl y && noStar z && chkE s a z
    | _ => false
  | .tzip a b, e => match e with
    | .Call (.Name x _) [.Call (.Name y _) [z, t] [] _] [] _ => decide (x = ("tuple" : Str)) && s.bl x && decide (y = ("zip" : Str)) && s.bl y && noStar z && noStar t && chkE s a z && chkE s b t
    | _ => false
  | .rev a, e => match e with
    | .Subscript x (.Slice none none (some (.UnaryOp .USub (.Constant (.int 1) _ _) _)) _) _ => chkE s a x
    | _ => false
def chkL (s : Sg) : Exs → List Expr → Bool
  | .nil, es => match es with
    | [] => true
    | _ => false
  | .cons st a r, es => match es with
    | x :: xs => (match st with
      | true => (match x with
        | .Starred y _ => chkE s a y
        | _ => false)
      | false => noStar x && chkE s a x) && chkL s r xs
    | _ => false
def chkO (s : Sg) : Exo → Option Expr → Bool
  | .none, e => match e with
    | none => true
    | _ => false
  | .some a, e => match e with
    | some x => chkE s a x
    | _ => false
def chkI (s : Sg) : It → Expr → Expr → Bool
  | .e a, _, i => chkE s a i
  | .zip a b, t, i => match i with
    | .Call (.Name x _) [y, z] [] _ => isTup t && decide (x = ("zip" : Str)) && s.bl x && noStar y && noStar z && chkE s a y && chkE s b z
    | _ => false
  | .enum a, t, i => match i with
    | .Call (.Name x _) [y] [] _ => isTup t && decide (x = ("enumerate" : Str)) && s.bl x && noStar y && chkE s a y
    | _ => false
  | .rng1 a, _, i => match i with
    | .Call (.Name x _) [y] [] _ => decide (x = ("range" : Str)) && s.bl x && noStar y && chkE s a y
    | _ => false
  | .rng2 a b, _, i => match i with
    | .Call (.Name x _) [y, z] [] _ => decide (x = ("range" : Str)) && s.bl x && noStar y && noStar z && chkE s a y && chkE s b z
    | _ => false
def plainX : Exs → Bool
  | .nil => true
  | .cons st _ r => !st && plainX r
def neX : Exs → Bool
  | .nil => false
  | _ => true
def lenX : Exs → Nat
  | .nil => 0
  | .cons _ _ r => lenX r + 1
def isNoX : Exo → Bool
  | .none => true
  | _ => false
end
end AI
/-! What the look says holds: expressions. -/
namespace AI
open PySem PySem.Spec L2
open PyProof.Rows hiding St
section
variable {Z : Zt} {P : Pm} {k : Nat}
theorem and2 {a b : Bool} (h : (a && b) = true) : a = true ∧ b = true := Bool.and_eq_true_iff.mp h
mutual
theorem chkT_ok {W : WX} {X : Cx} {s : Sg} (x : XO Z W X s P k) : ∀ {tg : Tg} {e : Expr}, chkT s tg e = true → TgOk X tg e
  | .n i, e, h => by
    unfold chkT at h
    split at h
    · obtain ⟨h1, h2, h3⟩ := x.tgt h
      exact .n h1 h2 h3
    · cases h
  | .t ts, e, h => by
    unfold chkT at h
    split at h
    · exact .t (chkTs_ok x h)
    · cases h
theorem chkTs_ok {W : WX} {X : Cx} {s : Sg} (x : XO Z W X s P k) : ∀ {ts : List Tg} {es : List Expr}, chkTs s ts es = true → TgsOk X ts es
  | [], es, h => by
    unfold chkTs at h
    split at h
    · exact .nil
    · cases h
  | t :: ts, es, h => by
    unfold chkTs at h
    split at h
    · obtain ⟨h1, h2⟩ := and2 h
      exact .cons (chkT_ok x h1) (chkTs_ok x h2)
    · cases h
end
theorem litOk_pe {X : Cx} {W : WX} {d : D} {c : Const} {j : Nat} {pos : Pos} (h : litOk d c = true) : PE X (.Constant c j pos) (tof Z W fun A => some (.ok (.v d) A)) := by
  unfold litOk at h
  split at h
  · exact pe_litA pe_non fun G => by unfold Rep; rfl
  · have := of_decide_eq_true h; subst this; exact pe_litA pe_bl fun G => by unfold Rep; rfl
  · have := of_decide_eq_true h; subst this; exact pe_litA pe_int fun G => by unfold Rep; rfl
  · have := of_decide_eq_true h; subst this; exact pe_litA pe_str fun G => by unfold Rep; rfl
  · cases h
theorem blt_pos {W : WX} {X : Cx} {s : Sg} (x : XO Z W X s P k) {y z : Str} (h : y = z) (h2 : s.bl y = true) : Gl X z ∧ X.mg z = none := by subst h; exact x.blt h2
theorem tyNames_ok {W : WX} {X : Cx} {s : Sg} (x : XO Z W X s P k) : ∀ {ts : List Ty} {es : List Expr}, tyNames s ts es = true →
    (∀ t ∈ ts, Gl X (PySem.Str.ofString t.nm) ∧ X.mg (PySem.Str.ofString t.nm) = none) ∧ Paired (fun (t : Ty) (e : Expr) => ∃ p, e = .Name (PySem.Str.ofString t.nm) p) ts es
  | [], es, h => by
    unfold tyNames at h
    split at h
    · exact ⟨fun t z => (nomatch z), .nil⟩
    · cases h
  | t :: ts, es, h => by
    unfold tyNames at h
    split at h
    · obtain ⟨h1, h2⟩ := and2 h
      obtain ⟨h1, h3⟩ := and2 h1
      have h1 := of_decide_eq_true h1
      subst h1
      obtain ⟨q1, q2⟩ := tyNames_ok x h2
      refine ⟨fun t' z => ?_, .cons ⟨_, rfl⟩ q2⟩
      rcases List.mem_cons.mp z with rfl | z
      · exact x.blt h3
      · exact q1 t' z
    · cases h
theorem own_snd {s : Sg} {own : List Nat} : (s.own own).map (·.2) = own := by
  unfold Sg.own
  rw [List.map_map]
  induction own with
  | nil => rfl
  | cons i own ih => rw [List.map_cons, ih]; rfl
theorem plainX_ok : ∀ {es : Exs}, plainX es = true → plainL (evL P es) = true
  | .nil, _ => rfl
  | .cons st e r, h => by
    obtain ⟨h1, h2⟩ := and2 (by unfold plainX at h; exact h)
    have h1 : st = false := by simpa using h1
    subst h1
    show plainL (⟨false, isVar e, ev P e⟩ :: evL P r) = true
    have := plainX_ok h2
    unfold plainL at this ⊢
    rw [List.all_cons, this]
    rfl
theorem lenX_ok : ∀ {es : Exs}, (evL P es).length = lenX es
  | .nil => rfl
  | .cons st e r => by
    show (_ :: evL P r).length = _
    rw [List.length_cons, lenX_ok]
    rfl
theorem neX_ok {es : Exs} (h : neX es = true) : evL P es ≠ [] := by
  cases es with
  | nil => cases h
  | cons st e r => exact fun z => by cases z
theorem nmOk {W : WX} {X : Cx} {s : Sg} (x : XO Z W X s P k) {i : Ex} {e : Expr} (h : chkE s i e = true) : NmOk X e (isVar i) := by
  intro j hj
  cases i <;> first | cases hj | skip
  unfold chkE at h
  split at h
  · obtain ⟨h1, h2, h3, h4⟩ := x.var h
    exact ⟨_, _, rfl, h1, h2, h3, h4⟩
  · cases h
theorem hasDef_ok {s : Sg} {x : Str} {j n : Nat} (h : hasDef s x j n = true) : ∃ kw, s.defs.lookup x = some (j, n, kw) := by
  unfold hasDef at h
  split at h
  · rename_i j' n' kw e
    obtain ⟨h1, h2⟩ := and2 h
    exact ⟨kw, by rw [e, eq_of_beq h1, eq_of_beq h2]⟩
  · cases h
theorem hasKw_ok {s : Sg} {x : Str} {j n : Nat} {ks : List Str} {perm : List Nat} (h : hasKw s x j n ks perm = true) : ∃ kw, s.defs.lookup x = some (j, perm.length, kw) ∧ (n, ks, perm) ∈ kw := by
  unfold hasKw at h
  split at h
  · rename_i j' n' kw e
    obtain ⟨h1, h3⟩ := and2 h
    obtain ⟨h1, h2⟩ := and2 h1
    refine ⟨kw, by rw [e, eq_of_beq h1, eq_of_beq h2], ?_⟩
    obtain ⟨sh, m, q⟩ := List.any_eq_true.mp h3
    rw [← of_decide_eq_true q]
    exact m
  · cases h
theorem kwSplit_ok : ∀ {kws : List Keyword} {nms : List Str} {ys : List Expr}, kwSplit kws = some (nms, ys) → KwsOk kws nms ys
  | [], _, _, h => by cases h; exact .nil
  | ⟨none, _, _⟩ :: _, _, _, h => by cases h
  | ⟨some x, e, p⟩ :: r, nms, ys, h => by
    unfold kwSplit at h
    cases q : kwSplit r with
    | none => rw [q] at h; cases h
    | some z =>
      rw [q] at h
      cases h
      exact .cons (kwSplit_ok q)
theorem hasGl_ok {s : Sg} {x : Str} {j : Nat} (h : hasGl s x j = true) : s.gls.lookup x = some j := by
  unfold hasGl at h
  split at h
  · rename_i j' e
    rw [e, eq_of_beq h]
  · cases h
theorem hasFn_ok {s : Sg} {x : Str} {j : Nat} (h : hasFn s x j = true) : ∃ np kw, s.defs.lookup x = some (j, np, kw) := by
  unfold hasFn at h
  split at h
  · rename_i j' n' kw e
    exact ⟨n', kw, by rw [e, eq_of_beq h]⟩
  · cases h
theorem isNilX_ok {es : Exs} (h : isNilX es = true) : es = .nil := by
  cases es with
  | nil => rfl
  | cons _ _ _ => cases h
theorem plainNm_ok {x : Str} (h : plainNm x = true) : (x == ("__debug__" : Str)) = false := by
  unfold plainNm at h
  simp only [Bool.and_eq_true, Bool.not_eq_true'] at h
  exact h.1
theorem isTup_ok {e : Expr} (h : isTup e = true) : ∃ es k p, e = .Tuple es k p := by
  cases e <;> first | exact ⟨_, _, _, rfl⟩ | cases h
theorem tests_ok {Xb : Cx} {s : Sg} {ifs : List Expr} {c : Exo} (h7 : (match ifs with
    | [] => isNoX c
    | [y] => chkO s c (some y)
    | _ => false) = true) (ih : ∀ y, chkO s c (some y) = true → ∃ g, evO P c = some g ∧ SE Z W0 Xb y g) : PTs Xb ifs (tofb Z W0 (evc (evO P c))) := by
  split at h7
  · cases c with
    | none => exact ⟨fun pins s σ H Q I q => pts_nil.run pins s σ H Q I (by obtain ⟨G, A, s', q⟩ := q; exact q true G H s' .refl rfl)⟩
    | some c => cases h7
  · obtain ⟨g, z2, z3⟩ := ih _ h7
    rw [z2]
    exact pts_one z3.t
  · cases h7
mutual
theorem chkE_ok : ∀ {i : Ex} {W : WX} {X : Cx} {s : Sg} (_ : XO Z W X s P k) {e : Expr}, chkE s i e = true → SE Z W X e (ev P i)
  | .var i, W, X, s, x, e, h => by
    unfold chkE at h
    split at h
    · obtain ⟨h1, h2, h3, h4⟩ := x.var h
      exact se_varA x.hK h1 h2 h3 h4
    · cases h
  | .lit d, W, X, s, x, e, h => by
    unfold chkE at h
    split at h
    · exact se_plain x.hK (litOk_pe h) fun _ => rfl
    · cases h
  | .glo j, W, X, s, x, e, h => by
    unfold chkE at h
    split at h
    · obtain ⟨h1, h3⟩ := and2 h
      obtain ⟨h1, h2⟩ := and2 h1
      obtain ⟨d, v, u, e1, e2, r, rp⟩ := x.gl _ j (hasGl_ok h2)
      have := pe_litA (Z := Z) (W := W) (pe_glob (pos := by assumption) (x.glb h1) e2 r (plainNm_ok h3)) rp
      exact se_plain x.hK (by rw [e1]; exact this) fun _ => rfl
    · cases h
  | .op o a b, W, X, s, x, e, h => by
    unfold chkE at h
    split at h
    · obtain ⟨h1, h3⟩ := and2 h
      obtain ⟨h1, h2⟩ := and2 h1
      have h1 := of_decide_eq_true h1
      subst h1
      exact se_plain x.hK (pe_opA x.hK (chkE_ok x h2) (chkE_ok x h3)) fun _ => rfl
    · cases h
  | .cmp o a b, W, X, s, x, e, h => by
    unfold chkE at h
    split at h
    · obtain ⟨h1, h4⟩ := and2 h
      obtain ⟨h1, h3⟩ := and2 h1
      obtain ⟨h1, h2⟩ := and2 h1
      have h1 := of_decide_eq_true h1
      subst h1
      exact se_cmp x.hK x.hu (by simpa using h2) (chkE_ok x h3) (chkE_ok x h4)
    · cases h
  | .chn o p a b c, W, X, s, x, e, h => by
    unfold chkE at h
    split at h
    · obtain ⟨h1, h6⟩ := and2 h
      obtain ⟨h1, h5⟩ := and2 h1
      obtain ⟨h1, h4⟩ := and2 h1
      obtain ⟨h1, h3⟩ := and2 h1
      obtain ⟨h1, h2⟩ := and2 h1
      have h1 := of_decide_eq_true h1
      have h2 := of_decide_eq_true h2
      subst h1
      subst h2
      exact se_chn x.hK x.hu (by simpa using h3) (chkE_ok x h4) (chkE_ok x h5) (chkE_ok x h6)
    · cases h
  | .not a, W, X, s, x, e, h => by
    unfold chkE at h
    split at h
    · exact se_not (chkE_ok x h)
    · cases h
  | .neg a, W, X, s, x, e, h => by
    unfold chkE at h
    split at h
    · exact se_plain x.hK (pe_negA (chkE_ok x h)) fun _ => rfl
    · cases h
  | .bo o es, W, X, s, x, e, h => by
    unfold chkE at h
    split at h
    · obtain ⟨h1, h4⟩ := and2 h
      obtain ⟨h1, h3⟩ := and2 h1
      obtain ⟨h1, h2⟩ := and2 h1
      have h1 := of_decide_eq_true h1
      subst h1
      exact se_bo (chkL_ok x h2) (plainX_ok h3) (neX_ok h4)
    · cases h
  | .orv a b, W, X, s, x, e, h => by
    unfold chkE at h
    split at h
    · obtain ⟨h1, h2⟩ := and2 h
      exact se_noT (pe_orA x.hK (chkE_ok x h1) (chkE_ok x h2))
    · cases h
  | .ite c a b, W, X, s, x, e, h => by
    unfold chkE at h
    split at h
    · obtain ⟨h1, h3⟩ := and2 h
      obtain ⟨h1, h2⟩ := and2 h1
      exact se_noT (pe_iteA (chkE_ok x h1) (chkE_ok x h2) (chkE_ok x h3))
    · cases h
  | .tup es, W, X, s, x, e, h => by
    unfold chkE at h
    split at h
    · exact se_plain x.hK (pe_tupA x.hK (chkL_ok x h)) fun _ => rfl
    · cases h
  | .lst es, W, X, s, x, e, h => by
    unfold chkE at h
    split at h
    · exact se_plain x.hK (pe_lstA x.hK (chkL_ok x h)) fun _ => rfl
    · cases h
  | .call j es, W, X, s, x, e, h => by
    unfold chkE at h
    split at h
    · obtain ⟨h1, h4⟩ := and2 h
      obtain ⟨h1, h3⟩ := and2 h1
      obtain ⟨h1, h2⟩ := and2 h1
      obtain ⟨kw, q⟩ := hasDef_ok h2
      exact se_plain x.hK (pe_callA x.hr (x.glb h1) x.tk (x.df _ j _ kw q) (chkL_ok x h3) (plainX_ok h4) lenX_ok) fun _ => rfl
    · cases h
  | .call0 j, W, X, s, x, e, h => by
    unfold chkE at h
    split at h
    · obtain ⟨h1, h2⟩ := and2 h
      obtain ⟨kw, q⟩ := hasDef_ok h2
      exact se_plain x.hK (pe_call0A x.hr (x.glb h1) (x.df _ j _ kw q)) fun _ => rfl
    · cases h
  | .callk j es ks perm, W, X, s, x, e, h => by
    unfold chkE at h
    split at h
    · obtain ⟨h1, h5⟩ := and2 h
      obtain ⟨h1, h4⟩ := and2 h1
      obtain ⟨h1, h3⟩ := and2 h1
      obtain ⟨h1, h2⟩ := and2 h1
      split at h5
      · rename_i nms ys eq
        obtain ⟨h5, h6⟩ := and2 h5
        obtain ⟨kw, q1, q2⟩ := hasKw_ok h5
        exact se_plain x.hK (pe_callkA x.hK x.hr (x.glb h1) x.tk (x.df _ j _ kw q1) (chkL_ok x h2) (plainX_ok h3) (kwSplit_ok eq) (chkL_ok x h6) (plainX_ok h4) q2 rfl) fun _ => rfl
      · cases h5
    · cases h
  | .bi b es, W, X, s, x, e, h => by
    unfold chkE at h
    split at h
    · obtain ⟨h1, h4⟩ := and2 h
      obtain ⟨h1, h3⟩ := and2 h1
      obtain ⟨h1, h2⟩ := and2 h1
      have h1 := of_decide_eq_true h1
      subst h1
      obtain ⟨g, m⟩ := x.blt h2
      exact se_plain x.hK (pe_biA x.hK x.hc g m (chkL_ok x h3) (plainX_ok h4)) fun _ => rfl
    · cases h
  | .isi a ts, W, X, s, x, e, h => by
    unfold chkE at h
    split at h
    · obtain ⟨h1, h6⟩ := and2 h
      obtain ⟨h1, h5⟩ := and2 h1
      obtain ⟨h1, h4⟩ := and2 h1
      obtain ⟨h1, h3⟩ := and2 h1
      obtain ⟨h1, h2⟩ := and2 h1
      have h1 := of_decide_eq_true h1
      subst h1
      obtain ⟨g, m⟩ := x.blt h2
      split at h6
      · split at h6
        · obtain ⟨q1, q2⟩ := and2 h6
          have q1 := of_decide_eq_true q1
          subst q1
          obtain ⟨g2, m2⟩ := x.blt q2
          exact se_plain x.hK (pe_isi1 x.hK g m g2 m2 (chkE_ok x h3) h4) fun _ => rfl
        · cases h6
      · obtain ⟨q1, q2⟩ := tyNames_ok x h6
        exact se_plain x.hK (pe_isiN x.hK g m q1 q2 (chkE_ok x h3) h4 (of_decide_eq_true h5)) fun _ => rfl
      · cases h6
    · cases h
  | .lset a, W, X, s, x, e, h => by
    unfold chkE at h
    split at h
    · obtain ⟨h1, h6⟩ := and2 h
      obtain ⟨h1, h5⟩ := and2 h1
      obtain ⟨h1, h4⟩ := and2 h1
      obtain ⟨h1, h3⟩ := and2 h1
      obtain ⟨h1, h2⟩ := and2 h1
      obtain ⟨g1, m1⟩ := blt_pos x (of_decide_eq_true h1) h2
      obtain ⟨g2, m2⟩ := blt_pos x (of_decide_eq_true h3) h4
      have h1 := of_decide_eq_true h1
      have h3 := of_decide_eq_true h3
      subst h1
      subst h3
      exact se_plain x.hK (pe_lsetA x.hK x.hc g1 m1 g2 m2 (chkE_ok x h6) h5) fun _ => rfl
    · cases h
  | .sset a, W, X, s, x, e, h => by
    unfold chkE at h
    split at h
    · obtain ⟨h1, h6⟩ := and2 h
      obtain ⟨h1, h5⟩ := and2 h1
      obtain ⟨h1, h4⟩ := and2 h1
      obtain ⟨h1, h3⟩ := and2 h1
      obtain ⟨h1, h2⟩ := and2 h1
      obtain ⟨g1, m1⟩ := blt_pos x (of_decide_eq_true h1) h2
      obtain ⟨g2, m2⟩ := blt_pos x (of_decide_eq_true h3) h4
      have h1 := of_decide_eq_true h1
      have h3 := of_decide_eq_true h3
      subst h1
      subst h3
      exact se_plain x.hK (pe_ssetA x.hK x.hc g1 m1 g2 m2 (chkE_ok x h6) h5) fun _ => rfl
    · cases h
  | .ix a b, W, X, s, x, e, h => by
    unfold chkE at h
    split at h
    · obtain ⟨h1, h3⟩ := and2 h
      obtain ⟨h1, h2⟩ := and2 h1
      exact se_plain x.hK (pe_ixA x.hK h1 (chkE_ok x h2) (chkE_ok x h3)) fun _ => rfl
    · cases h
  | .ixv i b, W, X, s, x, e, h => by
    unfold chkE at h
    split at h
    · obtain ⟨h1, h3⟩ := and2 h
      obtain ⟨h1, h2⟩ := and2 h1
      obtain ⟨q1, q2, q3, q4⟩ := x.var h1
      exact se_plain x.hK (pe_ixvA x.hK h2 q1 q2 q3 q4 (chkE_ok x h3)) fun _ => rfl
    · cases h
  | .sl a lo hi, W, X, s, x, e, h => by
    unfold chkE at h
    split at h
    · obtain ⟨h1, h3⟩ := and2 h
      obtain ⟨h1, h2⟩ := and2 h1
      exact se_plain x.hK (pe_slA x.hK (chkE_ok x h1) (chkO_ok x h2) (chkO_ok x h3)) fun _ => rfl
    · cases h
  | .app i a, W, X, s, x, e, h => by
    unfold chkE at h
    split at h
    · obtain ⟨h1, h5⟩ := and2 h
      obtain ⟨h1, h4⟩ := and2 h1
      obtain ⟨h1, h3⟩ := and2 h1
      obtain ⟨h1, h2⟩ := and2 h1
      obtain ⟨q1, q2, q3, q4⟩ := x.var h1
      have e2 := of_decide_eq_true h2
      subst e2
      exact se_plain x.hK (pe_appA q1 q2 q3 q4 h3 (chkE_ok x h5) h4) fun _ => rfl
    · cases h
  | .popv i a, W, X, s, x, e, h => by
    unfold chkE at h
    split at h
    · obtain ⟨h1, h5⟩ := and2 h
      obtain ⟨h1, h4⟩ := and2 h1
      obtain ⟨h1, h3⟩ := and2 h1
      obtain ⟨h1, h2⟩ := and2 h1
      obtain ⟨q1, q2, q3, q4⟩ := x.var h1
      have e2 := of_decide_eq_true h2
      subst e2
      exact se_plain x.hK (pe_popA q1 q2 q3 q4 h3 (chkE_ok x h5) h4) fun _ => rfl
    · cases h
  | .popl i, W, X, s, x, e, h => by
    unfold chkE at h
    split at h
    · obtain ⟨h1, h3⟩ := and2 h
      obtain ⟨h1, h2⟩ := and2 h1
      obtain ⟨q1, q2, q3, q4⟩ := x.var h1
      have e2 := of_decide_eq_true h2
      subst e2
      exact se_plain x.hK (pe_poplA q1 q2 q3 q4 h3) fun _ => rfl
    · cases h
  | .ext i a, W, X, s, x, e, h => by
    unfold chkE at h
    split at h
    · obtain ⟨h1, h5⟩ := and2 h
      obtain ⟨h1, h4⟩ := and2 h1
      obtain ⟨h1, h3⟩ := and2 h1
      obtain ⟨h1, h2⟩ := and2 h1
      obtain ⟨q1, q2, q3, q4⟩ := x.var h1
      have e2 := of_decide_eq_true h2
      subst e2
      exact se_plain x.hK (pe_extA q1 q2 q3 q4 h3 (chkE_ok x h5) h4) fun _ => rfl
    · cases h
  | .sm m a es, W, X, s, x, e, h => by
    unfold chkE at h
    split at h
    · obtain ⟨h1, h5⟩ := and2 h
      obtain ⟨h1, h4⟩ := and2 h1
      obtain ⟨h1, h3⟩ := and2 h1
      obtain ⟨h1, h2⟩ := and2 h1
      have h1 := of_decide_eq_true h1
      subst h1
      have h2 := isNilX_ok h2
      subst h2
      exact se_plain x.hK (pe_smA (chkE_ok x h5) h3 h4) fun _ => rfl
    · cases h
  | .fnv j, W, X, s, x, e, h => by
    unfold chkE at h
    split at h
    · obtain ⟨h1, h2⟩ := and2 h
      obtain ⟨np, kw, q⟩ := hasFn_ok h2
      exact se_plain x.hK (pe_fnvA x.hK (x.glb h1) (x.df _ j np kw q)) fun _ => rfl
    · cases h
  | .fz a, W, X, s, x, e, h => by
    unfold chkE at h
    exact se_noT (pe_fzA (chkE_ok x h))
  | .isiv i ts, W, X, s, x, e, h => by
    unfold chkE at h
    split at h
    · obtain ⟨h1, h6⟩ := and2 h
      obtain ⟨h1, h5⟩ := and2 h1
      obtain ⟨h1, h3⟩ := and2 h1
      obtain ⟨h1, h2⟩ := and2 h1
      have h1 := of_decide_eq_true h1
      subst h1
      obtain ⟨g, m⟩ := x.blt h2
      obtain ⟨q1, q2, q3, q4⟩ := x.var h3
      split at h6
      · split at h6
        · obtain ⟨p1, p2⟩ := and2 h6
          have p1 := of_decide_eq_true p1
          subst p1
          obtain ⟨g2, m2⟩ := x.blt p2
          exact se_plain x.hK (pe_isiv1 x.hK q1 q2 q3 q4 g m g2 m2) fun _ => rfl
        · cases h6
      · obtain ⟨p1, p2⟩ := tyNames_ok x h6
        exact se_plain x.hK (pe_isivN x.hK q1 q2 q3 q4 g m p1 p2 (of_decide_eq_true h5)) fun _ => rfl
      · cases h6
    · cases h
  | .slv i lo hi, W, X, s, x, e, h => by
    unfold chkE at h
    split at h
    · obtain ⟨h1, h3⟩ := and2 h
      obtain ⟨h1, h2⟩ := and2 h1
      obtain ⟨q1, q2, q3, q4⟩ := x.var h1
      exact se_plain x.hK (pe_slvA x.hK q1 q2 q3 q4 (chkO_ok x h2) (chkO_ok x h3)) fun _ => rfl
    · cases h
  | .dmk a, W, X, s, x, e, h => by
    unfold chkE at h
    split at h
    · obtain ⟨h1, h4⟩ := and2 h
      obtain ⟨h1, h3⟩ := and2 h1
      obtain ⟨h1, h2⟩ := and2 h1
      obtain ⟨g1, m1⟩ := blt_pos x (of_decide_eq_true h1) h2
      have h1 := of_decide_eq_true h1
      subst h1
      exact se_plain x.hK (pe_dmkA x.hK x.hc g1 m1 (chkE_ok x h4) h3) fun _ => rfl
    · cases h
  | .ind neg a b, W, X, s, x, e, h => by
    unfold chkE at h
    split at h
    · obtain ⟨h1, h4⟩ := and2 h
      obtain ⟨h1, h3⟩ := and2 h1
      obtain ⟨h1, h2⟩ := and2 h1
      exact se_ind (of_decide_eq_true h1) x.hK (by have := x.hr.un; have := x.k2; omega) (by simpa using h2) (chkE_ok x h3) (chkE_ok x h4)
    · cases h
  | .dget o k x', W, X, s, x, e, h => by
    unfold chkE at h
    split at h
    · obtain ⟨h1, h8⟩ := and2 h
      obtain ⟨h1, h7⟩ := and2 h1
      obtain ⟨h1, h6⟩ := and2 h1
      obtain ⟨h1, h5⟩ := and2 h1
      obtain ⟨h1, h4⟩ := and2 h1
      obtain ⟨h1, h3⟩ := and2 h1
      obtain ⟨h1, h2⟩ := and2 h1
      have h1 := of_decide_eq_true h1
      subst h1
      exact se_plain x.hK (pe_dgetA x.hu h2 h3 h4 h5 (chkE_ok x h6) (chkE_ok x h7) (chkE_ok x h8)) fun _ => rfl
    · cases h
  | .dgetv i k x', W, X, s, x, e, h => by
    unfold chkE at h
    split at h
    · obtain ⟨h1, h7⟩ := and2 h
      obtain ⟨h1, h6⟩ := and2 h1
      obtain ⟨h1, h5⟩ := and2 h1
      obtain ⟨h1, h4⟩ := and2 h1
      obtain ⟨h1, h3⟩ := and2 h1
      obtain ⟨h1, h2⟩ := and2 h1
      have h1 := of_decide_eq_true h1
      subst h1
      obtain ⟨q1, q2, q3, q4⟩ := x.var h2
      exact se_plain x.hK (pe_dgetvA x.hu q1 q2 q3 q4 h3 h4 h5 (chkE_ok x h6) (chkE_ok x h7)) fun _ => rfl
    · cases h
  | .dnew, W, X, s, x, e, h => by
    unfold chkE at h
    split at h
    · exact se_plain x.hK pe_dnewA fun _ => rfl
    · cases h
  | .dix i b, W, X, s, x, e, h => by
    unfold chkE at h
    split at h
    · obtain ⟨h1, h3⟩ := and2 h
      obtain ⟨h1, h2⟩ := and2 h1
      obtain ⟨q1, q2, q3, q4⟩ := x.var h1
      exact se_plain x.hK (pe_dixA x.hu h2 q1 q2 q3 q4 (chkE_ok x h3)) fun _ => rfl
    · cases h
  | .callx f es, W, X, s, x, e, h => by
    unfold chkE at h
    split at h
    · rename_i fe0 y0 ys0 pos0
      obtain ⟨h1, h4⟩ := and2 h
      obtain ⟨h1, h3⟩ := and2 h1
      obtain ⟨h1, h2⟩ := and2 h1
      have h1 : isAttr fe0 = false := by simpa using h1
      exact se_plain x.hK (pe_callxA x.hK x.hr x.tk x.dv h1 (chkE_ok x h2) (chkL_ok x h3) (plainX_ok h4)) fun _ => rfl
    · cases h
  | .comp2 elt tg it c tg1 it1 c1 own own1, W, X, s, x, e, h => by
    unfold chkE at h
    split at h
    · rename_i x0 t0 i0 ifs0 t1 i1 ifs1 scope0 pos0
      obtain ⟨h1, h13⟩ := and2 h
      obtain ⟨h1, h12⟩ := and2 h1
      obtain ⟨h1, h11⟩ := and2 h1
      obtain ⟨h1, h10⟩ := and2 h1
      obtain ⟨h1, h9⟩ := and2 h1
      obtain ⟨h1, h8⟩ := and2 h1
      obtain ⟨h1, h7⟩ := and2 h1
      obtain ⟨h1, h6⟩ := and2 h1
      obtain ⟨h1, h5⟩ := and2 h1
      obtain ⟨h1, h4⟩ := and2 h1
      obtain ⟨h1, h3⟩ := and2 h1
      obtain ⟨h1, h2⟩ := and2 h1
      have ok := blkOk_by h1
      rw [← x.hN, ← x.hs] at ok
      have q := pe_comp2A (Z := Z) (W := W) (X := X) (elt := x0) (tg := t0) (it := i0) (ifs := ifs0) (tg1 := t1) (it1 := i1) (ifs1 := ifs1) (scope := scope0) (pos := pos0) (ti := tg) (ti1 := tg1) (fe := ev P elt) (fc := evO P c) (fc1 := evO P c1) (vs1 := own1) x.hc x.nd (chkI_ok x h4) ok (fun _ _ _ _ _ => pg_asg x.blk.hK x.blk.hc x.blk.nd (chkT_ok x.blk h5)) (fun _ _ _ _ _ => tests_ok h12 fun y q => by
          rcases chkO_ok x.blk q with ⟨z, _⟩ | ⟨e, g, z1, z2, z3⟩
          · cases z
          · cases z1
            exact ⟨g, z2, z3⟩)
        (fun _ _ _ _ _ => chkI_ok x.blk h7) (fun _ _ _ _ _ => pg_asg x.blk.hK x.blk.hc x.blk.nd (chkT_ok x.blk h8)) (fun _ _ _ _ _ => tests_ok h13 fun y q => by
          rcases chkO_ok x.blk q with ⟨z, _⟩ | ⟨e, g, z1, z2, z3⟩
          · cases z
          · cases z1
            exact ⟨g, z2, z3⟩) (fun _ _ _ _ _ => (chkE_ok x.blk h11).d) (folded_no h2) (fun env => folded_no h3) (fun i m => by
          rw [own_snd]
          exact List.contains_iff_mem.mp (List.all_eq_true.mp h6 i m)) (fun i m => List.contains_iff_mem.mp (List.all_eq_true.mp h9 i m)) (fun i m => by
          rw [own_snd]
          exact List.contains_iff_mem.mp (List.all_eq_true.mp h10 i m))
      rw [own_snd] at q
      exact se_plain x.hK q fun _ => rfl
    · cases h
  | .comp elt tg it c own, W, X, s, x, e, h => by
    unfold chkE at h
    split at h
    · rename_i x0 t0 i0 ifs0 scope0 pos0
      obtain ⟨h1, h7⟩ := and2 h
      obtain ⟨h1, h6⟩ := and2 h1
      obtain ⟨h1, h5⟩ := and2 h1
      obtain ⟨h1, h4⟩ := and2 h1
      obtain ⟨h1, h3⟩ := and2 h1
      obtain ⟨h1, h2⟩ := and2 h1
      have ok := blkOk_by h1
      rw [← x.hN, ← x.hs] at ok
      have q := pe_compA (Z := Z) (W := W) (X := X) (elt := x0) (tg := t0) (it := i0) (ifs := ifs0) (scope := scope0) (pos := pos0) (ti := tg) (fe := ev P elt) (fc := evO P c) x.hc x.nd (chkI_ok x h3) ok (fun _ _ _ _ _ => pg_asg x.blk.hK x.blk.hc x.blk.nd (chkT_ok x.blk h4)) (fun _ _ _ _ _ => by
        split at h7
        · cases c with
          | none => exact ⟨fun pins s σ H Q I q => pts_nil.run pins s σ H Q I (by obtain ⟨G, A, s', q⟩ := q; exact q true G H s' .refl rfl)⟩
          | some c => cases h7
        · rcases chkO_ok x.blk h7 with ⟨z, _⟩ | ⟨e, g, z1, z2, z3⟩
          · cases z
          · cases z1
            rw [z2]
            exact pts_one z3.t
        · cases h7) (fun _ _ _ _ _ => (chkE_ok x.blk h6).d) (folded_no h2) (fun i m => by
          rw [own_snd]
          exact List.contains_iff_mem.mp (List.all_eq_true.mp h5 i m))
      rw [own_snd] at q
      exact se_plain x.hK q fun _ => rfl
    · cases h
  | .dcomp kx vx tg it own, W, X, s, x, e, h => by
    unfold chkE at h
    split at h
    · obtain ⟨h1, h7⟩ := and2 h
      obtain ⟨h1, h6⟩ := and2 h1
      obtain ⟨h1, h5⟩ := and2 h1
      obtain ⟨h1, h4⟩ := and2 h1
      obtain ⟨h1, h3⟩ := and2 h1
      obtain ⟨h1, h2⟩ := and2 h1
      have ok := blkOk_by h1
      rw [← x.hN, ← x.hs] at ok
      have q := pe_dcompA (Z := Z) (W := W) (X := X) (pos := by assumption) x.hc x.nd (chkI_ok x h3) ok (fun _ _ _ _ _ => pg_asg x.blk.hK x.blk.hc x.blk.nd (chkT_ok x.blk h4)) (fun _ _ _ _ _ => (chkE_ok x.blk h6).d) (fun _ _ _ _ _ => (chkE_ok x.blk h7).d) (folded_no h2) (fun i m => by
          rw [own_snd]
          exact List.contains_iff_mem.mp (List.all_eq_true.mp h5 i m))
      rw [own_snd] at q
      exact se_plain x.hK q fun _ => rfl
    · cases h
  | .lrng a, W, X, s, x, e, h => by
    unfold chkE at h
    split at h
    · obtain ⟨h1, h6⟩ := and2 h
      obtain ⟨h1, h5⟩ := and2 h1
      obtain ⟨h1, h4⟩ := and2 h1
      obtain ⟨h1, h3⟩ := and2 h1
      obtain ⟨h1, h2⟩ := and2 h1
      obtain ⟨g1, m1⟩ := blt_pos x (of_decide_eq_true h1) h2
      obtain ⟨g2, m2⟩ := blt_pos x (of_decide_eq_true h3) h4
      have h1 := of_decide_eq_true h1
      have h3 := of_decide_eq_true h3
      subst h1
      subst h3
      exact se_plain x.hK (pe_lrngA x.hc g1 m1 g2 m2 (chkE_ok x h6) h5) fun _ => rfl
    · cases h
  | .tzip a b, W, X, s, x, e, h => by
    unfold chkE at h
    split at h
    · obtain ⟨h1, h8⟩ := and2 h
      obtain ⟨h1, h7⟩ := and2 h1
      obtain ⟨h1, h6⟩ := and2 h1
      obtain ⟨h1, h5⟩ := and2 h1
      obtain ⟨h1, h4⟩ := and2 h1
      obtain ⟨h1, h3⟩ := and2 h1
      obtain ⟨h1, h2⟩ := and2 h1
      obtain ⟨g1, m1⟩ := blt_pos x (of_decide_eq_true h1) h2
      obtain ⟨g2, m2⟩ := blt_pos x (of_decide_eq_true h3) h4
      have h1 := of_decide_eq_true h1
      have h3 := of_decide_eq_true h3
      subst h1
      subst h3
      exact se_plain x.hK (pe_tzipA x.hc x.hK g1 m1 g2 m2 (chkE_ok x h7) (chkE_ok x h8) h5 h6) fun _ => rfl
    · cases h
  | .rev a, W, X, s, x, e, h => by
    unfold chkE at h
    split at h
    · exact se_plain x.hK (pe_revA x.hK (chkE_ok x h)) fun _ => rfl
    · cases h
theorem chkL_ok : ∀ {i : Exs} {W : WX} {X : Cx} {s : Sg} (_ : XO Z W X s P k) {es : List Expr}, chkL s i es = true → SEs Z W X es (evL P i)
  | .nil, W, X, s, x, es, h => by
    unfold chkL at h
    split at h
    · exact .nil
    · cases h
  | .cons st a r, W, X, s, x, es, h => by
    unfold chkL at h
    split at h
    · obtain ⟨h1, h2⟩ := and2 h
      split at h1
      · split at h1
        · exact .star (chkE_ok x h1) (chkL_ok x h2)
        · cases h1
      · obtain ⟨h3, h4⟩ := and2 h1
        exact .cons (chkE_ok x h4) h3 (nmOk x h4) (chkL_ok x h2)
    · cases h
theorem chkO_ok : ∀ {i : Exo} {W : WX} {X : Cx} {s : Sg} (_ : XO Z W X s P k) {o : Option Expr}, chkO s i o = true → (o = none ∧ evO P i = none) ∨ ∃ e g, o = some e ∧ evO P i = some g ∧ SE Z W X e g
  | .none, W, X, s, x, o, h => by
    unfold chkO at h
    split at h
    · exact .inl ⟨rfl, rfl⟩
    · cases h
  | .some a, W, X, s, x, o, h => by
    unfold chkO at h
    split at h
    · exact .inr ⟨_, _, rfl, rfl, chkE_ok x h⟩
    · cases h
theorem chkI_ok : ∀ {i : It} {W : WX} {X : Cx} {s : Sg} (_ : XO Z W X s P k) {t e : Expr}, chkI s i t e = true → PI X t e (tofI Z W (evI P i))
  | .e a, W, X, s, x, t, e, h => by
    unfold chkI at h
    exact pi_eA x.hK (chkE_ok x h)
  | .zip a b, W, X, s, x, t, e, h => by
    unfold chkI at h
    split at h
    · obtain ⟨h1, h7⟩ := and2 h
      obtain ⟨h1, h6⟩ := and2 h1
      obtain ⟨h1, h5⟩ := and2 h1
      obtain ⟨h1, h4⟩ := and2 h1
      obtain ⟨h1, h3⟩ := and2 h1
      obtain ⟨h1, h2⟩ := and2 h1
      obtain ⟨es, kk, p, rfl⟩ := isTup_ok h1
      have h2 := of_decide_eq_true h2
      subst h2
      obtain ⟨g, m⟩ := x.blt h3
      exact pi_zipA' x.hK g m (chkE_ok x h6) (chkE_ok x h7) h4 h5
    · cases h
  | .enum a, W, X, s, x, t, e, h => by
    unfold chkI at h
    split at h
    · obtain ⟨h1, h5⟩ := and2 h
      obtain ⟨h1, h4⟩ := and2 h1
      obtain ⟨h1, h3⟩ := and2 h1
      obtain ⟨h1, h2⟩ := and2 h1
      obtain ⟨es, kk, p, rfl⟩ := isTup_ok h1
      have h2 := of_decide_eq_true h2
      subst h2
      obtain ⟨g, m⟩ := x.blt h3
      exact pi_enumA x.hK g m (chkE_ok x h5) h4
    · cases h
  | .rng1 a, W, X, s, x, t, e, h => by
    unfold chkI at h
    split at h
    · obtain ⟨h1, h4⟩ := and2 h
      obtain ⟨h1, h3⟩ := and2 h1
      obtain ⟨h1, h2⟩ := and2 h1
      have h1 := of_decide_eq_true h1
      subst h1
      obtain ⟨g, m⟩ := x.blt h2
      exact pi_rng1A g m (chkE_ok x h4) h3
    · cases h
  | .rng2 a b, W, X, s, x, t, e, h => by
    unfold chkI at h
    split at h
    · obtain ⟨h1, h6⟩ := and2 h
      obtain ⟨h1, h5⟩ := and2 h1
      obtain ⟨h1, h4⟩ := and2 h1
      obtain ⟨h1, h3⟩ := and2 h1
      obtain ⟨h1, h2⟩ := and2 h1
      have h1 := of_decide_eq_true h1
      subst h1
      obtain ⟨g, m⟩ := x.blt h2
      exact pi_rng2A g m (chkE_ok x h5) (chkE_ok x h6) h3 h4
    · cases h
end
end
end AI
/-! A look that says: this text is that term. Statements. -/
namespace AI
open PySem PySem.Spec L2
open PyProof.Rows hiding St
def notComp : Expr → Bool
  | .ListComp _ _ _ _ => false
  | .SetComp _ _ _ _ => false
  | .DictComp _ _ _ _ _ => false
  | _ => true
theorem sw_no {e : Expr} (h : notComp e = true) {t : Option Expr} {l : Nat} {env : Env} : swapsWith e t l env = pure false := by
  cases e <;> first | rfl | cases h
def isSubs : Expr → Bool
  | .Subscript _ _ _ => true
  | .Tuple _ _ _ => true
  | _ => false
theorem sw_sub {e t : Expr} (h : isSubs t = true) {l : Nat} {env : Env} : swapsWithSole [t] e l env = pure false := by
  cases t <;> first | (cases e <;> rfl) | cases h
theorem sw_put {e o i : Expr} {p : Pos} {l : Nat} {env : Env} : swapsWith e (some (.Subscript o i p)) l env = pure false := by
  cases e <;> rfl
/-- on another line -/
def swLine (e : Expr) (p : Pos) : Bool := match e with
  | .ListComp _ _ _ pos => !(p.line == pos.line)
  | .DictComp _ _ _ _ pos => !(p.line == pos.line)
  | .SetComp _ _ _ _ => false
  | _ => true
theorem sw_line {e : Expr} {x : Str} {p : Pos} (h : swLine e p = true) {l : Nat} {env : Env} : swapsWith e (some (.Name x p)) l env = pure false := by
  cases e with
  | ListComp a b c pos =>
    have q : (p.line == pos.line) = false := by simpa [swLine] using h
    unfold swapsWith
    simp only [Expr.pos, q, Bool.and_false, Bool.false_and]
    try rfl
  | DictComp a b c d pos =>
    have q : (p.line == pos.line) = false := by simpa [swLine] using h
    unfold swapsWith
    simp only [Expr.pos, q, Bool.and_false, Bool.false_and]
    try rfl
  | SetComp a b c d => cases h
  | _ => rfl
theorem sw_cell {e : Expr} {x : Str} {p : Pos} {env : Env} (h : (env.kindOf x == some .local) = false) (h2 : (match e with | .SetComp _ _ _ _ => false | _ => true) = true) {l : Nat} : swapsWith e (some (.Name x p)) l env = pure false := by
  cases e with
  | ListComp a b c pos =>
    unfold swapsWith
    simp only [h, Bool.and_false, Bool.false_and]
    try rfl
  | DictComp a b c d pos =>
    unfold swapsWith
    simp only [h, Bool.and_false, Bool.false_and]
    try rfl
  | SetComp a b c d => cases h2
  | _ => rfl
def notSetC : Expr → Bool
  | .SetComp _ _ _ _ => false
  | _ => true
def notTup : Expr → Bool
  | .Tuple _ _ _ => false
  | _ => true
theorem ss_no {t e : Expr} (h : notTup e = true) {env : Env} : swappedStores [t] e env = pure none := by
  cases t <;> cases e <;> first | rfl | cases h
/-- no stores are swapped -/
def notLoc (s : Sg) : Expr → Bool
  | .Name x _ => !(s.sc.names.lookup x == some .local)
  | _ => true
def ssOk (s : Sg) (t e : Expr) : Bool := match t, e with
  | .Tuple ts _ _, .Tuple vs _ _ => vs.all (foldedForSure 8) || !(ts.length == 2 || ts.length == 3) || ts.any (notLoc s)
  | _, .Tuple _ _ _ => false
  | _, _ => true
theorem fmap_le {α β : Type} {f : α → Option β} : ∀ {l : List α}, (l.filterMap f).length ≤ l.length
  | [] => by simp
  | a :: r => by
    have := fmap_le (f := f) (l := r)
    cases e : f a with
    | none => rw [List.filterMap_cons_none e, List.length_cons]; omega
    | some b => rw [List.filterMap_cons_some e, List.length_cons, List.length_cons]; omega
theorem fmap_lt {α β : Type} {f : α → Option β} : ∀ {l : List α} {a : α}, a ∈ l → f a = none → (l.filterMap f).length < l.length
  | b :: r, a, m, e => by
    rcases List.mem_cons.mp m with rfl | m
    · rw [List.filterMap_cons_none e, List.length_cons]
      have := fmap_le (f := f) (l := r)
      omega
    · have := fmap_lt m e
      cases e2 : f b with
      | none => rw [List.filterMap_cons_none e2, List.length_cons]; omega
      | some c => rw [List.filterMap_cons_some e2, List.length_cons, List.length_cons]; omega
theorem ss_ok {s : Sg} {t e : Expr} (h : ssOk s t e = true) {env : Env} (hs : env.scope = s.sc) : swappedStores [t] e env = pure none := by
  unfold ssOk at h
  split at h
  · rename_i ts k1 p1 vs k2 p2
    unfold swappedStores
    dsimp only
    split
    · rfl
    · rename_i n1
      split
      · rfl
      · split
        · rfl
        · rename_i n2
          rcases Bool.or_eq_true_iff.mp h with h | h
          · rcases Bool.or_eq_true_iff.mp h with h | h
            · rw [h]; rfl
            · exfalso
              apply n1
              rw [h]
              rfl
          · exfalso
            apply n2
            obtain ⟨a, m, ha⟩ := List.any_eq_true.mp h
            refine Bool.or_eq_true_iff.mpr (.inl ?_)
            rw [bne_iff_ne]
            refine Nat.ne_of_lt (fmap_lt m ?_)
            cases a with
            | Name x p =>
              have ha : (s.sc.names.lookup x == some NameKind.local) = false := by
                unfold notLoc at ha
                simpa using ha
              have k : env.kindOf x = s.sc.names.lookup x := by unfold Env.kindOf; rw [hs]
              dsimp only
              rw [k, ha]
              rfl
            | _ => rfl
  · cases h
  · rename_i n m
    cases e <;> first | (cases t <;> rfl) | exact (n _ _ _ rfl).elim | exact (m _ _ _ rfl).elim
/-- two by two -/
def parOk (s : Sg) (x y : Str) (px py : Pos) (a b : Expr) : Bool :=
  decide (s.sc.kind = .function) && decide (s.sc.names.lookup x = some .local) && decide (s.sc.names.lookup y = some .local) && (py.line == px.line) && decide (x ≠ y) && noStar a && noStar b && !([a, b].all (foldedForSure 8)) && !([a, b].all (constantsAlone 8))
theorem par_ok {s : Sg} {x y : Str} {px py : Pos} {a b : Expr} (h : parOk s x y px py a b = true) {env : Env} (hs : env.scope = s.sc) {kt k2 pt pt2} :
    swappedStores [.Tuple [.Name x px, .Name y py] kt pt] (.Tuple [a, b] k2 pt2) env = pure (some [x, y]) := by
  unfold parOk at h
  simp only [Bool.and_eq_true, Bool.not_eq_true', decide_eq_true_eq] at h
  obtain ⟨⟨⟨⟨⟨⟨⟨⟨h1, h2⟩, h3⟩, h4⟩, h5⟩, h6⟩, h7⟩, h8⟩, h9⟩ := h
  have b1 : env.blockKind = .function := by unfold Env.blockKind; rw [hs, h1]; rfl
  have k1 : env.kindOf x = some .local := by unfold Env.kindOf; rw [hs]; exact h2
  have k2 : env.kindOf y = some .local := by unfold Env.kindOf; rw [hs]; exact h3
  unfold swappedStores
  have e1 : ((!([Expr.Name x px, Expr.Name y py].length == 2 || [Expr.Name x px, Expr.Name y py].length == 3)) || [a, b].length != [Expr.Name x px, Expr.Name y py].length || env.blockKind != .function) = false := by rw [b1]; rfl
  dsimp only
  rw [e1, if_neg (by decide)]
  refine Eq.trans (if_neg ?st) ?_
  case st =>
    intro z
    rw [List.any_cons, List.any_cons, List.any_nil, Bool.or_false, Bool.or_eq_true] at z
    rcases z with z | z
    · cases a <;> first | (cases z; done) | (cases h6; done)
    · cases b <;> first | (cases z; done) | (cases h7; done)
  have hyx : (y == x) = false := by simpa using Ne.symm h5
  have e2 : ([x, y].eraseDups).length = 2 := by simp [List.eraseDups_cons, hyx]
  simp only [List.filterMap_cons, List.filterMap_nil, List.head?_cons, Option.map_some, Option.getD_some, Expr.pos, k1, k2, beq_self_eq_true, h4, Bool.and_self, if_true, Bool.true_and, e2, h8, h9, List.length_cons, List.length_nil]
  rfl
/-- three by three -/
def par3Ok (s : Sg) (x y z : Str) (px py pz : Pos) (a b c : Expr) : Bool :=
  decide (s.sc.kind = .function) && decide (s.sc.names.lookup x = some .local) && decide (s.sc.names.lookup y = some .local) && decide (s.sc.names.lookup z = some .local) && (py.line == px.line) && (pz.line == px.line) && decide (x ≠ y) && decide (x ≠ z) && decide (y ≠ z) && noStar a && noStar b && noStar c && !([a, b, c].all (foldedForSure 8)) && !([a, b, c].all (constantsAlone 8))
theorem par3_ok {s : Sg} {x y z : Str} {px py pz : Pos} {a b c : Expr} (h : par3Ok s x y z px py pz a b c = true) {env : Env} (hs : env.scope = s.sc) {kt k2 pt pt2} :
    swappedStores [.Tuple [.Name x px, .Name y py, .Name z pz] kt pt] (.Tuple [a, b, c] k2 pt2) env = pure (some [x, y, z]) := by
  unfold par3Ok at h
  simp only [Bool.and_eq_true, Bool.not_eq_true', decide_eq_true_eq] at h
  obtain ⟨⟨⟨⟨⟨⟨⟨⟨⟨⟨⟨⟨⟨h1, h2⟩, h3⟩, h3z⟩, h4⟩, h4z⟩, hxy⟩, hxz⟩, hyz⟩, h6⟩, h7⟩, h7c⟩, h8⟩, h9⟩ := h
  have b1 : env.blockKind = .function := by unfold Env.blockKind; rw [hs, h1]; rfl
  have k1 : env.kindOf x = some .local := by unfold Env.kindOf; rw [hs]; exact h2
  have k2 : env.kindOf y = some .local := by unfold Env.kindOf; rw [hs]; exact h3
  have k3 : env.kindOf z = some .local := by unfold Env.kindOf; rw [hs]; exact h3z
  unfold swappedStores
  have e1 : ((!([Expr.Name x px, Expr.Name y py, Expr.Name z pz].length == 2 || [Expr.Name x px, Expr.Name y py, Expr.Name z pz].length == 3)) || [a, b, c].length != [Expr.Name x px, Expr.Name y py, Expr.Name z pz].length || env.blockKind != .function) = false := by rw [b1]; rfl
  dsimp only
  rw [e1, if_neg (by decide)]
  refine Eq.trans (if_neg ?st) ?_
  case st =>
    intro w
    rw [List.any_cons, List.any_cons, List.any_cons, List.any_nil, Bool.or_false, Bool.or_eq_true, Bool.or_eq_true] at w
    rcases w with w | w | w
    · cases a <;> first | (cases w; done) | (cases h6; done)
    · cases b <;> first | (cases w; done) | (cases h7; done)
    · cases c <;> first | (cases w; done) | (cases h7c; done)
  have hyx : (y == x) = false := by simpa using Ne.symm hxy
  have hzx : (z == x) = false := by simpa using Ne.symm hxz
  have hzy : (z == y) = false := by simpa using Ne.symm hyz
  have e2 : ([x, y, z].eraseDups).length = 3 := by simp [List.eraseDups_cons, hyx, hzx, hzy]
  simp only [List.filterMap_cons, List.filterMap_nil, List.head?_cons, Option.map_some, Option.getD_some, Expr.pos, k1, k2, k3, beq_self_eq_true, h4, h4z, Bool.and_self, if_true, Bool.true_and, e2, h8, h9, List.length_cons, List.length_nil]
  rfl
/-- name = [..] on one line -/
def lcOk (s : Sg) (x : Str) (p : Pos) (v : Expr) : Bool := match v with
  | .DictComp _ _ _ scope pos => decide (s.sc.kind = .function) && decide (s.sc.names.lookup x = some .local) && (p.line == pos.line) && !(scope.names.any fun (n, k) => n == x && (k == .local || k == .cell))
  | .ListComp _ [_] scope pos => decide (s.sc.kind = .function) && decide (s.sc.names.lookup x = some .local) && (p.line == pos.line) && !(scope.names.any fun (n, k) => n == x && (k == .local || k == .cell))
  | _ => false
def isFz : Ex → Bool
  | .fz _ => true
  | _ => false
mutual
def chkS (s : Sg) : Sm' → Stmt → Bool
  | .asg tg e, st => match st with
    | .Assign [t] v _ => (match tg with
      | .n i => (match t with
        | .Name x p => s.tgt i x && ((chkE s e v && (swLine v p || (!(s.sc.names.lookup x == some .local) && notSetC v))) || lcOk s x p v && !isFz e && chkE s e v)
        | _ => false)
      | .t ts => isTup t && chkT s (.t ts) t && chkE s e v && ssOk s t v)
    | _ => false
  | .par is es, st => match st with
    | .Assign [.Tuple [.Name x px, .Name y py] _ _] (.Tuple [a, b] _ _) _ => (match is with
      | [i, j] => (match es with
        | .cons false ea (.cons false eb .nil) => parOk s x y px py a b && s.tgt i x && s.tgt j y && !(i == j) && chkE s ea a && chkE s eb b
        | _ => false)
      | _ => false)
    | .Assign [.Tuple [.Name x px, .Name y py, .Name z pz] _ _] (.Tuple [a, b, c] _ _) _ => (match is with
      | [i, j, l] => (match es with
        | .cons false ea (.cons false eb (.cons false ec .nil)) => par3Ok s x y z px py pz a b c && s.tgt i x && s.tgt j y && s.tgt l z && !(i == j) && !(i == l) && !(j == l) && chkE s ea a && chkE s eb b && chkE s ec c
        | _ => false)
      | _ => false)
    | _ => false
  | .setix i b e, st => match st with
    | .Assign [.Subscript (.Name x _) y _] v _ => s.var i x && simpleIx y && chkE s b y && chkE s e v
    | _ => false
  | .dput i b e, st => match st with
    | .Assign [.Subscript (.Name x _) y _] v _ => s.var i x && simpleIx y && chkE s b y && chkE s e v
    | _ => false
  | .dels i e, st => match st with
    | .Delete [.Subscript (.Name x _) (.Slice (some z) none none _) _] _ => s.var i x && chkE s e z
    | _ => false
  | .ret e, st => match st with
    | .Return (some v) _ => chkE s e v
    | _ => false
  | .retn, st => match st with
    | .Return none _ => true
    | _ => false
  | .ife c a b, st => match st with
    | .If t p q _ => chkE s c t && chkSs s a p && chkSs s b q
    | _ => false
  | .whl c b, st => match st with
    | .While t p [] _ => chkE s c t && chkSs s b p
    | _ => false
  | .for tg it b, st => match st with
    | .For t i p [] _ => notSet i && chkI s it t i && chkT s tg t && chkSs s b p
    | _ => false
  | .expr e, st => match st with
    | .Expr v _ => notComp v && chkE s e v
    | _ => false
  | .pass, st => match st with
    | .Pass _ => true
    | _ => false
  | .brk, st => match st with
    | .Break _ => true
    | _ => false
  | .cont, st => match st with
    | .Continue _ => true
    | _ => false
  | .rse c f es, st => match st with
    | .Raise (some (.Call (.Name x _) [e] [] _)) none _ => (match f with
      | some f => (match es with
        | .cons false ea .nil => decide (s.cls.lookup x = some (c, f)) && s.gl x && !(x == ("__debug__" : Str)) && noStar e && !decide (f = "") && chkE s ea e
        | _ => false)
      | none => false)
    | .Raise (some (.Call (.Name x _) [] [] _)) none _ => (match f with
      | some _ => false
      | none => (match es with
        | .nil => decide (s.cls.lookup x = some (c, ("" : Str))) && s.gl x && !(x == ("__debug__" : Str))
        | _ => false))
    | _ => false
  | .tri n b hs, st => match st with
    | .Try p (h0 :: rs) [] [] _ => decide (n = s.cls.length) && s.blt.contains ("isinstance" : Str) && hdOk s.N s.sc s.gl s.cls (fun c => (s.cls[c]?).map fun q => q.2.2) s.bas n hs (h0 :: rs) && chkSs s b p
    | _ => false
def chkSs (s : Sg) : Sms → List Stmt → Bool
  | .nil, ss => match ss with
    | [] => true
    | _ => false
  | .cons i r, ss => match ss with
    | st :: t => chkS s i st && chkSs s r t
    | _ => false
end
section
variable {Z : Zt} {P : Pm} {k : Nat}
theorem dot_ok {e : Expr} (h : simpleIx e = true) {o : Expr} {pos : Pos} {env : Env} (v : Value) : assign (.Subscript o e pos) env v = (do
      let ov ← holding [v] (eval o env)
      let iv ← holding [v, ov] (eval e env)
      standAt pos
      holding [v, ov, iv] (setItem ov iv v)
      release [v, ov, iv] []) := by
  cases e <;> first | rfl | cases h
theorem swD_true {a b : Expr} {c : List Comprehension} {scope : Scope} {pos py : Pos} {y : Str} {l : Nat} {env : Env} (hk : env.scope.kind = .function) (hy : env.scope.names.lookup y = some .local) (hl : (py.line == pos.line) = true)
    (ha : (scope.names.any fun (n, k) => n == y && (k == .local || k == .cell)) = false) : swapsWith (.DictComp a b c scope pos) (some (.Name y py)) l env = pure true := by
  have ky : env.kindOf y = some .local := hy
  have hb : env.blockKind = .function := by unfold Env.blockKind; rw [hk]; rfl
  unfold swapsWith
  simp only [hb, ky, ha, Expr.pos, hl]
  rfl
theorem lc_asg {e : Ex} {W : WX} {X : Cx} {s : Sg} {Bs : List Nat} {i : Nat} {z : Str} {p pos : Pos} {v : Expr} (x : XO Z W X s P k) (q1 : X.N[i]? = some z) (h2 : lcOk s z p v = true) (h0 : isFz e = false) (h3 : chkE s e v = true) :
    PS X (.Assign [.Name z p] v pos) (tofS' Z W Bs (sx P Bs (.asg (.n i) e))) := by
  unfold lcOk at h2
  split at h2
  · rename_i a b c scope0 pos0
    obtain ⟨h2, g4⟩ := and2 h2
    obtain ⟨h2, g3⟩ := and2 h2
    obtain ⟨g1, g2⟩ := and2 h2
    have g1 := of_decide_eq_true g1
    have g2 := of_decide_eq_true g2
    have hsw : ∀ (l : Nat), swapsWith (.DictComp a b c scope0 pos0) (some (.Name z p)) l X.env = pure true := fun l =>
      swD_true (by rw [x.hs]; exact g1) (by rw [x.hs]; exact g2) g3 (by simpa using g4)
    cases e with
    | dcomp kx vx tg it own =>
      unfold chkE at h3
      split at h3
      · rename_i x0 y0 t0 i0 scope1 pos1 eq
        injection eq with e1 e2 e3 e4 e5
        subst e1
        subst e2
        subst e3
        subst e4
        obtain ⟨h1, h7⟩ := and2 h3
        obtain ⟨h1, h6⟩ := and2 h1
        obtain ⟨h1, h5⟩ := and2 h1
        obtain ⟨h1, h4⟩ := and2 h1
        obtain ⟨h1, h3⟩ := and2 h1
        obtain ⟨h1, h2⟩ := and2 h1
        have ok := blkOk_by h1
        rw [← x.hN, ← x.hs] at ok
        have q : PS X (.Assign [.Name z p] (.DictComp a b [⟨t0, i0, [], 0⟩] scope0 pos0) pos) (tofS' Z W Bs fun A => Ot.of (dcompA (evI P it) tg (ev P kx) (ev P vx) ((s.own own).map (·.2)) A) fun r A1 => nxo (store Bs i r.sl A1)) :=
          ps_imp (ps_setDcA x.nd x.hc q1 (by rw [x.hs]; exact g2) ok (hsw _) (chkI_ok x h3) (fun _ _ _ _ _ => pg_asg x.blk.hK x.blk.hc x.blk.nd (chkT_ok x.blk h4)) (fun _ _ _ _ _ => (chkE_ok x.blk h6).d) (fun _ _ _ _ _ => (chkE_ok x.blk h7).d) (folded_no h2)) fun D σ H q => by
            obtain ⟨G, A, s', q⟩ := q
            exact tdc_of (fun i m => by
              rw [own_snd]
              exact List.contains_iff_mem.mp (List.all_eq_true.mp h5 i m)) (asg_name s' q)
        rw [own_snd] at q
        exact q
      · cases h3
    | fz _ => exact Bool.noConfusion h0
    | _ => (unfold chkE at h3; first | (cases h3; done) | (split at h3 <;> first | (cases h3; done) | (rename_i eq; cases eq)))
  · rename_i a b scope0 pos0
    obtain ⟨h2, g4⟩ := and2 h2
    obtain ⟨h2, g3⟩ := and2 h2
    obtain ⟨g1, g2⟩ := and2 h2
    have g1 := of_decide_eq_true g1
    have g2 := of_decide_eq_true g2
    have hsw : ∀ (l : Nat), swapsWith (.ListComp a [b] scope0 pos0) (some (.Name z p)) l X.env = pure true := fun l =>
      sw_true (by rw [x.hs]; exact g1) (by rw [x.hs]; exact g2) g3 (by simpa using g4)
    cases e with
    | comp elt tg it c own =>
      unfold chkE at h3
      split at h3
      · rename_i x0 t0 i0 ifs0 scope1 pos1 eq
        injection eq with e1 e2 e3 e4
        injection e2 with e2 _
        subst e1
        subst e2
        subst e3
        subst e4
        obtain ⟨h1, h7⟩ := and2 h3
        obtain ⟨h1, h6⟩ := and2 h1
        obtain ⟨h1, h5⟩ := and2 h1
        obtain ⟨h1, h4⟩ := and2 h1
        obtain ⟨h1, h3⟩ := and2 h1
        obtain ⟨h1, h2⟩ := and2 h1
        have ok := blkOk_by h1
        rw [← x.hN, ← x.hs] at ok
        have q := ps_asgLc (Z := Z) (W := W) (Bs := Bs) (X := X) (i := i) (y := z) (py := p) (spos := pos) (elt := a) (tg := t0) (it := i0) (ifs := ifs0) (scope := scope0) (pos := pos0) (ti := tg) (fe := ev P elt) (fc := evO P c) x.hc x.nd q1 (by rw [x.hs]; exact g2) (hsw _) (chkI_ok x h3) ok (fun _ _ _ _ _ => pg_asg x.blk.hK x.blk.hc x.blk.nd (chkT_ok x.blk h4)) (fun _ _ _ _ _ => by
          split at h7
          · cases c with
            | none => exact ⟨fun pins s σ H Q I q => pts_nil.run pins s σ H Q I (by obtain ⟨G, A, s', q⟩ := q; exact q true G H s' .refl rfl)⟩
            | some c => cases h7
          · rcases chkO_ok x.blk h7 with ⟨z, _⟩ | ⟨e, g, z1, z2, z3⟩
            · cases z
            · cases z1
              rw [z2]
              exact pts_one z3.t
          · cases h7) (fun _ _ _ _ _ => (chkE_ok x.blk h6).d) (folded_no h2) (fun i m => by
            rw [own_snd]
            exact List.contains_iff_mem.mp (List.all_eq_true.mp h5 i m))
        rw [own_snd] at q
        exact q
      · cases h3
    | fz _ => exact Bool.noConfusion h0
    | _ => (unfold chkE at h3; first | (cases h3; done) | (split at h3 <;> first | (cases h3; done) | (rename_i eq; cases eq)))
  · cases h2
/-- a def's own frame -/
structure YO (X : Cx) : Prop where
  po : PassesOwn (model X.prog X.w) X.A X.env X.xe
  stk : X.stack = X.env :: X.outer
  frm : X.env.frame = some X.env.locals
mutual
theorem chkS_ok : ∀ {i : Sm'} {W : WX} {X : Cx} {s : Sg} {Bs : List Nat} (_ : XO Z W X s P k) (_ : YO X) {st : Stmt}, chkS s i st = true → PS X st (tofS' Z W Bs (sx P Bs i))
  | .asg tg e, W, X, s, Bs, x, y, st, h => by
    unfold chkS at h
    split at h
    · rename_i t v pos
      split at h
      · split at h
        · rename_i z p
          obtain ⟨h1, h2⟩ := and2 h
          obtain ⟨q1, q2, q3⟩ := x.tgt h1
          rcases Bool.or_eq_true_iff.mp h2 with h2 | h2
          · obtain ⟨h2, h3⟩ := and2 h2
            refine ps_asgA x.nd q1 q2 (chkE_ok x h2) ?_ q3
            rcases Bool.or_eq_true_iff.mp h3 with h3 | h3
            · exact sw_line h3
            · obtain ⟨h3, h4⟩ := and2 h3
              refine sw_cell ?_ (by cases v <;> first | rfl | cases h4)
              show (X.env.scope.names.lookup z == some .local) = false
              rw [x.hs]
              simpa using h3
          · obtain ⟨h2, h3⟩ := and2 h2
            obtain ⟨h2, h4⟩ := and2 h2
            exact lc_asg x q1 h2 (by simpa using h4) h3
        · cases h
      · obtain ⟨h1, h4⟩ := and2 h
        obtain ⟨h1, h3⟩ := and2 h1
        obtain ⟨h1, h2⟩ := and2 h1
        obtain ⟨es, kk, pp, rfl⟩ := isTup_ok h1
        exact ps_asgTA (chkE_ok x h3) (pg_asg x.hK x.hc x.nd (chkT_ok x h2)) (sw_sub rfl) (ss_ok h4 x.hs) rfl
    · cases h
  | .par is es, W, X, s, Bs, x, y, st, h => by
    unfold chkS at h
    split at h
    · split at h
      · split at h
        · obtain ⟨h1, h6⟩ := and2 h
          obtain ⟨h1, h5⟩ := and2 h1
          obtain ⟨h1, h4⟩ := and2 h1
          obtain ⟨h1, h3⟩ := and2 h1
          obtain ⟨h1, h2⟩ := and2 h1
          obtain ⟨q1, _, _⟩ := x.tgt h2
          obtain ⟨p1, _, _⟩ := x.tgt h3
          have hw := fun {kt k2 pt pt2} => par_ok h1 x.hs (kt := kt) (k2 := k2) (pt := pt) (pt2 := pt2)
          unfold parOk at h1
          simp only [Bool.and_eq_true, Bool.not_eq_true', decide_eq_true_eq] at h1
          obtain ⟨⟨⟨⟨⟨⟨⟨⟨_, g2⟩, g3⟩, _⟩, _⟩, g6⟩, g7⟩, _⟩, _⟩ := h1
          exact ps_parA x.hc x.nd q1 p1 (by simpa using h4) (by rw [x.hs]; exact g2) (by rw [x.hs]; exact g3) (chkE_ok x h5) (chkE_ok x h6) g6 g7 hw
        · cases h
      · cases h
    · split at h
      · split at h
        · obtain ⟨h1, c3⟩ := and2 h
          obtain ⟨h1, c2⟩ := and2 h1
          obtain ⟨h1, c1⟩ := and2 h1
          obtain ⟨h1, n3⟩ := and2 h1
          obtain ⟨h1, n2⟩ := and2 h1
          obtain ⟨h1, n1⟩ := and2 h1
          obtain ⟨h1, t3⟩ := and2 h1
          obtain ⟨h1, t2⟩ := and2 h1
          obtain ⟨h1, t1⟩ := and2 h1
          obtain ⟨q1, _, _⟩ := x.tgt t1
          obtain ⟨q2, _, _⟩ := x.tgt t2
          obtain ⟨q3, _, _⟩ := x.tgt t3
          have hw := fun {kt k2 pt pt2} => par3_ok h1 x.hs (kt := kt) (k2 := k2) (pt := pt) (pt2 := pt2)
          unfold par3Ok at h1
          simp only [Bool.and_eq_true, Bool.not_eq_true', decide_eq_true_eq] at h1
          obtain ⟨⟨⟨⟨⟨⟨⟨⟨⟨⟨⟨⟨⟨_, g2⟩, g3⟩, g4⟩, _⟩, _⟩, _⟩, _⟩, _⟩, g6⟩, g7⟩, g8⟩, _⟩, _⟩ := h1
          exact ps_par3A x.hc x.nd q1 q2 q3 (by simpa using n1) (by simpa using n2) (by simpa using n3) (by rw [x.hs]; exact g2) (by rw [x.hs]; exact g3) (by rw [x.hs]; exact g4) (chkE_ok x c1) (chkE_ok x c2) (chkE_ok x c3) g6 g7 g8 hw
        · cases h
      · cases h
    · cases h
  | .setix i b e, W, X, s, Bs, x, y, st, h => by
    unfold chkS at h
    split at h
    · obtain ⟨h1, h4⟩ := and2 h
      obtain ⟨h1, h3⟩ := and2 h1
      obtain ⟨h1, h2⟩ := and2 h1
      obtain ⟨q1, q2, q3, q4⟩ := x.var h1
      exact ps_setixA q1 q2 q3 q4 (chkE_ok x h3) (chkE_ok x h4) (sw_sub rfl) rfl (dot_ok h2) rfl
    · cases h
  | .dput i b e, W, X, s, Bs, x, y, st, h => by
    unfold chkS at h
    split at h
    · obtain ⟨h1, h4⟩ := and2 h
      obtain ⟨h1, h3⟩ := and2 h1
      obtain ⟨h1, h2⟩ := and2 h1
      obtain ⟨q1, q2, q3, q4⟩ := x.var h1
      exact ps_dputA x.hu q1 q2 q3 q4 (chkE_ok x h3) (chkE_ok x h4) sw_put
    · cases h
  | .dels i e, W, X, s, Bs, x, y, st, h => by
    unfold chkS at h
    split at h
    · obtain ⟨h1, h2⟩ := and2 h
      obtain ⟨q1, q2, q3, q4⟩ := x.var h1
      exact ps_delA q1 q2 q3 q4 (chkE_ok x h2)
    · cases h
  | .ret e, W, X, s, Bs, x, y, st, h => by
    unfold chkS at h
    split at h
    · cases e with
      | var i =>
        unfold chkE at h
        split at h
        · obtain ⟨h1, h2, h3, h4⟩ := x.var h
          exact ps_retV h1 h2 h3 h4
        · cases h
      | _ => exact ps_retA (chkE_ok x h)
    · cases h
  | .retn, W, X, s, Bs, x, y, st, h => by
    unfold chkS at h
    split at h
    · exact ps_retnA
    · cases h
  | .ife c a b, W, X, s, Bs, x, y, st, h => by
    unfold chkS at h
    split at h
    · obtain ⟨h1, h3⟩ := and2 h
      obtain ⟨h1, h2⟩ := and2 h1
      exact ps_ifA (chkE_ok x h1) (chkSs_ok x y h2) (chkSs_ok x y h3)
    · cases h
  | .whl c b, W, X, s, Bs, x, y, st, h => by
    unfold chkS at h
    split at h
    · obtain ⟨h1, h2⟩ := and2 h
      exact ps_whlA y.po (chkE_ok x h1) (chkSs_ok x y h2)
    · cases h
  | .for tg it b, W, X, s, Bs, x, y, st, h => by
    unfold chkS at h
    split at h
    · obtain ⟨h1, h4⟩ := and2 h
      obtain ⟨h1, h3⟩ := and2 h1
      obtain ⟨h1, h2⟩ := and2 h1
      exact ps_forA y.po x.hc (chkI_ok x h2) (pg_asg x.hK x.hc x.nd (chkT_ok x h3)) (chkSs_ok x y h4) (folded_no h1)
    · cases h
  | .expr e, W, X, s, Bs, x, y, st, h => by
    unfold chkS at h
    split at h
    · obtain ⟨h1, h2⟩ := and2 h
      exact ps_exprA (chkE_ok x h2) (sw_no h1)
    · cases h
  | .pass, W, X, s, Bs, x, y, st, h => by
    unfold chkS at h
    split at h
    · exact ps_passA
    · cases h
  | .brk, W, X, s, Bs, x, y, st, h => by
    unfold chkS at h
    split at h
    · exact ps_brkA
    · cases h
  | .cont, W, X, s, Bs, x, y, st, h => by
    unfold chkS at h
    split at h
    · exact ps_contA
    · cases h
  | .rse c f es, W, X, s, Bs, x, y, st, h => by
    unfold chkS at h
    split at h
    · split at h
      · split at h
        · obtain ⟨h1, h5⟩ := and2 h
          obtain ⟨h1, h6⟩ := and2 h1
          obtain ⟨h1, h4⟩ := and2 h1
          obtain ⟨h1, h3⟩ := and2 h1
          obtain ⟨h1, h2⟩ := and2 h1
          have hk : k - 1 + 1 = k := by have := x.k2; omega
          exact ps_rseA x.hc x.tk (by rw [hk]; exact x.hr) ((x.er _ _ _ (of_decide_eq_true h1)).one (by simpa using h6)) (x.glb h2) (chkE_ok x h5) h4 (by simpa using h3)
        · cases h
      · cases h
    · split at h
      · cases h
      · split at h
        · obtain ⟨h1, h3⟩ := and2 h
          obtain ⟨h1, h2⟩ := and2 h1
          have hk : k - 1 + 1 = k := by have := x.k2; omega
          exact ps_rse0A x.hc x.tk (by rw [hk]; exact x.hr) ((x.er _ _ _ (of_decide_eq_true h1)).zero rfl) (x.glb h2) (by simpa using h3)
        · cases h
    · cases h
  | .tri n b hs, W, X, s, Bs, x, y, st, h => by
    unfold chkS at h
    split at h
    · obtain ⟨h1, h4⟩ := and2 h
      obtain ⟨h1, h3⟩ := and2 h1
      obtain ⟨h1, h2⟩ := and2 h1
      have hn := of_decide_eq_true h1
      subst hn
      rw [← x.hN, ← x.hs] at h3
      obtain ⟨cl, hr⟩ := hd_ok (X := X) x.et x.nd (x.bl _ h2) (fun z e => x.glb e) (fun z c e => by
        unfold cname at e
        split at e
        · rename_i q eq
          have e := of_decide_eq_true e
          subst e
          exact (x.er z q.1 q.2 eq).mgx
        · cases e) h3
      exact ps_triA x.et y.stk y.frm x.nd x.tk (fun W' pn xe tk po => chkSs_ok (x.tr tk) ⟨po, y.stk, y.frm⟩ h4) cl hr
    · cases h
theorem chkSs_ok : ∀ {i : Sms} {W : WX} {X : Cx} {s : Sg} {Bs : List Nat} (_ : XO Z W X s P k) (_ : YO X) {ss : List Stmt}, chkSs s i ss = true → PSs X ss (tofS' Z W Bs (sxs P Bs i))
  | .nil, W, X, s, Bs, x, y, ss, h => by
    unfold chkSs at h
    split at h
    · exact pss_nilA
    · cases h
  | .cons i r, W, X, s, Bs, x, y, ss, h => by
    unfold chkSs at h
    split at h
    · obtain ⟨h1, h2⟩ := and2 h
      exact pss_consA (chkS_ok x y h1) (chkSs_ok x y h2)
    · cases h
end
end
end AI
/-! All the defs of a text. -/
namespace AI
open PySem PySem.Spec L2
open PyProof.Rows hiding St
/-- a def as it stands behind the top -/
structure DefIn (K : PySem.W.Frag) (mg : Str → Option Value) (f : Df) (st : Stmt) (a : Addr) : Prop where
  mgf : mg f.nm = some (.ref a)
  kp : PySem.W.keepIn K (.ref a) = true
  fn : ∃ fd, FunG K f.nm f.nm st a fd ∧ Binds K fd f.ps [] ∧ (∀ sh ∈ f.kws, KwOk fd f.ps sh) ∧ ((∀ us : List Value, us.length = f.ps.length → bindArgs fd ⟨us, []⟩ = pure (f.ps.zip us)) ∨ 1 < f.ps.length)
theorem defIn_mk {K : PySem.W.Frag} {h : Heap} {mg : Str → Option Value} {f : Df} {st : Stmt} {nm : Str} {ps : List Str} {a : Addr} {od an : Option Addr} {sl : Array (Option Value)} {oc kV dc pm cd ct : Value} (X : K.In h) (G : h.Ns mainGlobals mg)
    (n1 : f.nm = nm) (n2 : f.ps = ps) (a1 : PySem.W.nsIn K mainGlobals nm = some (some (.ref a))) (l1 : K.lookup a = some ⟨oc, od, .func (PySem.W.fnOf nm nm (defArgs st) (defBody st) (defScope st) .none kV dc pm an cd ct), sl⟩) (c1 : PySem.W.codeIn K cd nm = true) (k1 : PySem.W.keepIn K (.ref a) = true)
    (b : ∀ us : List Value, us.length = ps.length → bindArgs (PySem.W.fnOf nm nm (defArgs st) (defBody st) (defScope st) .none kV dc pm an cd ct) ⟨us, []⟩ = pure (ps.zip us))
    (kw : ∀ sh ∈ f.kws, KwOk (PySem.W.fnOf nm nm (defArgs st) (defBody st) (defScope st) .none kV dc pm an cd ct) ps sh) : ∃ a, DefIn K mg f st a := by
  subst n1
  subst n2
  exact ⟨a, PySem.W.mg_of X G a1, k1, _, ⟨⟨oc, od, .none, kV, dc, pm, an, cd, ct, sl, rfl, l1, c1⟩⟩, .all b, kw, .inl b⟩
/-- the same of a def with defaults, where every parameter is given -/
theorem defIn_mkD {K : PySem.W.Frag} {h : Heap} {mg : Str → Option Value} {f : Df} {st : Stmt} {nm : Str} {ps : List Str} {a dT : Addr} {od an : Option Addr} {sl : Array (Option Value)} {oc kV dc pm cd ct : Value} {o : Obj} {its : Array Value} {n : Nat} (X : K.In h) (G : h.Ns mainGlobals mg)
    (n1 : f.nm = nm) (n2 : f.ps = ps) (a1 : PySem.W.nsIn K mainGlobals nm = some (some (.ref a))) (l1 : K.lookup a = some ⟨oc, od, .func (PySem.W.fnOf nm nm (defArgs st) (defBody st) (defScope st) (.ref dT) kV dc pm an cd ct), sl⟩) (c1 : PySem.W.codeIn K cd nm = true) (k1 : PySem.W.keepIn K (.ref a) = true)
    (lT : K.lookup dT = some o) (oT : o.data = .seq its n) (l2 : 1 < ps.length)
    (b : ∀ us : List Value, us.length = ps.length → ∃ k, bindArgs (PySem.W.fnOf nm nm (defArgs st) (defBody st) (defScope st) (.ref dT) kV dc pm an cd ct) ⟨us, []⟩ = seqItems? (.ref dT) >>= k ∧ k (some its) = pure (ps.zip us))
    (kw : ∀ sh ∈ f.kws, KwOk (PySem.W.fnOf nm nm (defArgs st) (defBody st) (defScope st) (.ref dT) kV dc pm an cd ct) ps sh) : ∃ a, DefIn K mg f st a := by
  subst n1
  subst n2
  refine ⟨a, PySem.W.mg_of X G a1, k1, _, ⟨⟨oc, od, .ref dT, kV, dc, pm, an, cd, ct, sl, rfl, l1, c1⟩⟩, fun s us X hl => ?_, kw, .inr l2⟩
  rw [List.append_nil] at hl ⊢
  obtain ⟨k, e1, e2⟩ := b us hl
  refine BindsTo.of_looks fun M => ?_
  rw [e1]
  exact looks_items X lT oT (.of_pure e2)
def AllIn (K : PySem.W.Frag) (mg : Str → Option Value) : List Df → List Stmt → Prop
  | [], _ => True
  | _ :: _, [] => False
  | f :: fs, st :: sts => (∃ a, DefIn K mg f st a) ∧ AllIn K mg fs sts
theorem AllIn.get {K : PySem.W.Frag} {mg : Str → Option Value} : ∀ {fs : List Df} {sts : List Stmt} {j : Nat} {f : Df}, AllIn K mg fs sts → fs[j]? = some f → ∃ st a, sts[j]? = some st ∧ DefIn K mg f st a
  | [], _, _, _, _, e => by simp at e
  | _ :: _, [], _, _, h, _ => h.elim
  | g :: fs, st :: sts, 0, f, h, e => by
    cases e
    obtain ⟨a, h⟩ := h.1
    exact ⟨st, a, rfl, h⟩
  | g :: fs, st :: sts, j + 1, f, h, e => AllIn.get (j := j) h.2 e
def defsOf : Nat → List Df → List (Str × Nat × Nat × List (Nat × List Str × List Nat))
  | _, [] => []
  | j, f :: fs => (f.nm, j, f.ps.length, f.kws) :: defsOf (j + 1) fs
theorem defsOf_get : ∀ {fs : List Df} {k : Nat} {x : Str} {j np : Nat} {kw}, (defsOf k fs).lookup x = some (j, np, kw) → ∃ (i : Nat) (f : Df), j = k + i ∧ fs[i]? = some f ∧ f.nm = x ∧ f.ps.length = np ∧ f.kws = kw
  | [], _, _, _, _, _, h => by cases h
  | f :: fs, k, x, j, np, kw, h => by
    unfold defsOf at h
    rw [List.lookup_cons] at h
    split at h
    · rename_i e
      have e := eq_of_beq e
      have h := Option.some.inj h
      cases h
      exact ⟨0, f, rfl, rfl, e.symm, rfl, rfl⟩
    · obtain ⟨i, g, h1, h2, h3⟩ := defsOf_get h
      exact ⟨i + 1, g, by omega, h2, h3⟩
def sgOf (T : List Df) (gls : List (Str × Nat)) (blt : List Str) (cls : List (Str × Nat × Str)) (bas : List Str) (f : Df) (st : Stmt) : Sg := ⟨f.N, defScope st, none, defsOf 0 T, gls, blt, cls, bas⟩
def scD (N P : List Str) (sc : Scope) : Bool :=
  decide (sc.kind = .function) && !sc.isCoroutine && !sc.isGenerator && decide N.Nodup && decide (N.take P.length = P) && P.all (fun x => decide (sc.names.lookup x = some .local) || decide (sc.names.lookup x = some .cell)) && sc.names.all (fun y => !decide (y.2 = .free))
theorem scD_ok {N P : List Str} {sc : Scope} (h : scD N P sc = true) : FnScope N P sc := by
  unfold scD at h
  simp only [Bool.and_eq_true, Bool.not_eq_true', decide_eq_true_eq, List.all_eq_true, Bool.or_eq_true, decide_eq_false_iff_not] at h
  obtain ⟨⟨⟨⟨⟨⟨h1, h2⟩, h3⟩, h4⟩, h5⟩, h6⟩, h7⟩ := h
  exact ⟨h1, h2, h3, h4, h5, h6, h7⟩
def chkD (T : List Df) (gls : List (Str × Nat)) (blt : List Str) (cls : List (Str × Nat × Str)) (bas : List Str) (f : Df) (st : Stmt) : Bool :=
  chkSs (sgOf T gls blt cls bas f st) f.body (defBody st) && scD f.N f.ps (defScope st) && decide (f.ps.length ≤ f.N.length) && !(f.nm == ("__debug__" : Str))
def chkAll (T : List Df) (gls : List (Str × Nat)) (blt : List Str) (cls : List (Str × Nat × Str)) (bas : List Str) : List Df → List Stmt → Bool
  | [], _ => true
  | _ :: _, [] => false
  | f :: fs, st :: sts => chkD T gls blt cls bas f st && chkAll T gls blt cls bas fs sts
theorem chkAll_get {T : List Df} {gls : List (Str × Nat)} {blt : List Str} {cls : List (Str × Nat × Str)} {bas : List Str} : ∀ {fs : List Df} {sts : List Stmt} {j : Nat} {f : Df} {st : Stmt}, chkAll T gls blt cls bas fs sts = true → fs[j]? = some f → sts[j]? = some st → chkD T gls blt cls bas f st = true
  | [], _, _, _, _, _, e, _ => by simp at e
  | _ :: _, [], _, _, _, h, _, _ => by cases h
  | g :: fs, t :: sts, 0, f, st, h, e1, e2 => by
    cases e1
    cases e2
    exact (and2 h).1
  | g :: fs, t :: sts, j + 1, f, st, h, e1, e2 => chkAll_get (j := j) (and2 h).2 e1 e2
theorem sp_none {Z : Zt} {np : Nat} {P : Program} {w : World} {K : PySem.W.Frag} {mg : Str → Option Value} {base : Heap} {CX : CXT} {k : Nat} {a : Addr} {fd : FuncData} {ps : List Str} (hl : ps.length = np) : FnOk P w K mg base CX k a fd ps (spR Z np fun _ => none) :=
  ⟨fun vs H Q E h => h.1.trans hl.symm, fun A outer s H args us vs Q E _ _ _ _ h => by
    obtain ⟨_, _, _, _, z⟩ := h
    exact z.elim⟩
/-- an error's class as it stands behind the top -/
structure ErrIn (K : PySem.W.Frag) (mg : Str → Option Value) (x f : Str) (C : Addr) : Prop where
  mgx : mg x = some (.ref C)
  T : OexC K C
  no : PySem.W.findIn K (.ref C) f = some none
  ini : ∃ (fI : Addr) (fd : FuncData) (st : Stmt) (qual : Str), PySem.W.findIn K (.ref C) "__init__" = some (some (.ref fI)) ∧ PySem.W.typeIn K (.ref fI) = some (.type "function") ∧ FunG K "__init__" qual st fI fd ∧ (f ≠ "" → iniOk f st = true ∧ Binds K fd (iniPs st) []) ∧ (f = "" → iniOk0 st = true ∧ Binds K fd ["self"] [])
theorem errIn_mk {K : PySem.W.Frag} {h : Heap} {mg : Str → Option Value} {x f qual : Str} {C fI : Addr} {st : Stmt} {nm q : Str} {N : Addr} {bs bm : List Value} {sn : List Str} {sub : List Value} {ab : Bool} {col : Option Bool} {dd od an : Option Addr} {m0 m1 m2 m3 m5 : Option Value} {sl : Array (Option Value)} {oc kV dc pm cd ct : Value} (X : K.In h) (G : h.Ns mainGlobals mg)
    (a1 : PySem.W.nsIn K mainGlobals x = some (some (.ref C))) (xL : K.lookup C = some (excClassObj nm q C N bs bm true sn sub ab col dd m0 m1 m2 m3 m5 "ValueError.__new__")) (hbm : PySem.HandSPX.refsVE bm = true)
    (sa : PySem.W.findIn K (.ref C) "__setattr__" = some (some (.builtin "object.__setattr__"))) (eC : PySem.W.subIn K (.ref C) (.type "BaseException") = some true) (tC : PySem.W.typeIn K (.ref C) = some (.type "type")) (kC : PySem.W.keepIn K (.ref C) = true)
    (no : PySem.W.findIn K (.ref C) f = some none) (i1 : PySem.W.findIn K (.ref C) "__init__" = some (some (.ref fI))) (t1 : PySem.W.typeIn K (.ref fI) = some (.type "function"))
    (l1 : K.lookup fI = some ⟨oc, od, .func (PySem.W.fnOf "__init__" qual (defArgs st) (defBody st) (defScope st) .none kV dc pm an cd ct), sl⟩) (c1 : PySem.W.codeIn K cd qual = true) (ok : iniOk f st = true) (hf : f ≠ "")
    (b : ∀ us : List Value, us.length = (iniPs st).length → bindArgs (PySem.W.fnOf "__init__" qual (defArgs st) (defBody st) (defScope st) .none kV dc pm an cd ct) ⟨us, []⟩ = pure ((iniPs st).zip us)) : ErrIn K mg x f C :=
  ⟨PySem.W.mg_of X G a1, ⟨⟨nm, q, N, bs, bm, sn, sub, ab, col, dd, m0, m1, m2, m3, m5, xL, hbm⟩, sa, eC, tC, kC⟩, no, fI, _, st, qual, i1, t1, ⟨⟨oc, od, .none, kV, dc, pm, an, cd, ct, sl, rfl, l1, c1⟩⟩, fun _ => ⟨ok, .all b⟩, fun e => absurd e hf⟩
theorem errIn_mk0 {K : PySem.W.Frag} {h : Heap} {mg : Str → Option Value} {x qual : Str} {C fI : Addr} {st : Stmt} {nm q : Str} {N : Addr} {bs bm : List Value} {sn : List Str} {sub : List Value} {ab : Bool} {col : Option Bool} {dd od an : Option Addr} {m0 m1 m2 m3 m5 : Option Value} {sl : Array (Option Value)} {oc kV dc pm cd ct : Value} (X : K.In h) (G : h.Ns mainGlobals mg)
    (a1 : PySem.W.nsIn K mainGlobals x = some (some (.ref C))) (xL : K.lookup C = some (excClassObj nm q C N bs bm true sn sub ab col dd m0 m1 m2 m3 m5 "ValueError.__new__")) (hbm : PySem.HandSPX.refsVE bm = true)
    (sa : PySem.W.findIn K (.ref C) "__setattr__" = some (some (.builtin "object.__setattr__"))) (eC : PySem.W.subIn K (.ref C) (.type "BaseException") = some true) (tC : PySem.W.typeIn K (.ref C) = some (.type "type")) (kC : PySem.W.keepIn K (.ref C) = true)
    (no : PySem.W.findIn K (.ref C) "" = some none) (i1 : PySem.W.findIn K (.ref C) "__init__" = some (some (.ref fI))) (t1 : PySem.W.typeIn K (.ref fI) = some (.type "function"))
    (l1 : K.lookup fI = some ⟨oc, od, .func (PySem.W.fnOf "__init__" qual (defArgs st) (defBody st) (defScope st) .none kV dc pm an cd ct), sl⟩) (c1 : PySem.W.codeIn K cd qual = true) (ok : iniOk0 st = true)
    (b : ∀ us : List Value, us.length = (["self"] : List Str).length → bindArgs (PySem.W.fnOf "__init__" qual (defArgs st) (defBody st) (defScope st) .none kV dc pm an cd ct) ⟨us, []⟩ = pure ((["self"] : List Str).zip us)) : ErrIn K mg x "" C :=
  ⟨PySem.W.mg_of X G a1, ⟨⟨nm, q, N, bs, bm, sn, sub, ab, col, dd, m0, m1, m2, m3, m5, xL, hbm⟩, sa, eC, tC, kC⟩, no, fI, _, st, qual, i1, t1, ⟨⟨oc, od, .none, kV, dc, pm, an, cd, ct, sl, rfl, l1, c1⟩⟩, fun e => absurd rfl e, fun _ => ⟨ok, .all b⟩⟩
/-- every def keeps its promise at every depth -/
theorem all_ok {Z : Zt} {P : Program} {w : World} {mg : Str → Option Value} {base : Heap} {T : List Df} {gl : Nat → Option D} {gls : List (Str × Nat)} {blt : List Str} {cls : List (Str × Nat × Str)} {bas : List Str} {sts : List Stmt}
    (hce : ∀ x c f, cls.lookup x = some (c, f) → ErrIn Z.K mg x f (Z.ca c)) (het : ErrT Z.K mg Z cls.length (fun c => (cls[c]?).map fun q => q.2.2) bas)
    (hd : ∀ j f, T[j]? = some f → ∃ st, sts[j]? = some st ∧ DefIn Z.K mg f st (Z.fa j)) (hg : ∀ x j, gls.lookup x = some j → ∃ d v u, gl j = some d ∧ mg x = some u ∧ RelV v u ∧ ∀ G, Rep Z G d v) (hb : ∀ x, blt.contains x = true → mg x = none)
    (hc : chkAll T gls blt cls bas T sts = true) : ∀ (n j : Nat) (f : Df) (fd : FuncData) (st : Stmt), T[j]? = some f → sts[j]? = some st → FunG Z.K f.nm f.nm st (Z.fa j) fd → FnOk P w Z.K mg base (L2.CX P w) (n + 2) (Z.fa j) fd f.ps (spR Z f.ps.length (run T gl n j)) := by
  intro n
  induction n with
  | zero => exact fun j f fd st _ _ _ => sp_none rfl
  | succ n ih =>
    intro j f fd st e1 e2 F
    have er : run T gl (n + 1) j = runD ⟨run T gl n, gl⟩ f := by
      funext rs
      show (match T[j]? with | some f => runD ⟨run T gl n, gl⟩ f rs | none => none) = _
      rw [e1]
    rw [er]
    have c := chkAll_get hc e1 e2
    unfold chkD at c
    obtain ⟨c, c4⟩ := and2 c
    obtain ⟨c, c3⟩ := and2 c
    obtain ⟨c1, c2⟩ := and2 c
    refine def_ok F (scD_ok c2) (of_decide_eq_true c3) fun cdv A outer s H E Bs hr => ?_
    have x : XO Z (fun cls d _ H => E cls d H) (cxOf (L2.CX P w) P w Z.K mg base f.N f.nm (defScope st) (Z.fa j) cdv A outer s H E) (sgOf T gls blt cls bas f st) ⟨run T gl n, gl⟩ (n + 2) := {
      hN := rfl
      nd := (scD_ok c2).nd
      hs := rfl
      hK := rfl
      hc := rfl
      tk := takes_of rfl rfl rfl rfl
      hr := hr
      hf := fun _ _ => rfl
      df := fun y i np kw h => by
        obtain ⟨i', g, h1, h2, h3, h4, h5⟩ := defsOf_get h
        have h1 : i = i' := by omega
        subst h1
        obtain ⟨st', s1, D⟩ := hd i g h2
        obtain ⟨fd', F', b, bk, _⟩ := D.fn
        have cg := chkAll_get hc h2 s1
        refine ⟨by rw [← h3]; exact D.mgf, D.kp, ⟨fd', g.ps, ?_, b, h4, by rw [← h5]; exact bk⟩, ?_⟩
        · rw [← h4]
          exact ih i g fd' st' h2 s1 F'
        · rw [← h3]
          have := (and2 cg).2
          simpa using this
      dv := fun i rs rc h => by
        have h : run T gl n i rs = some rc := h
        cases n with
        | zero => cases h
        | succ n' =>
          have h' : (match T[i]? with | some f => runD ⟨run T gl n', gl⟩ f rs | none => none) = some rc := h
          cases e3 : T[i]? with
          | none => rw [e3] at h'; cases h'
          | some g =>
            rw [e3] at h'
            dsimp only at h'
            have hl : rs.length = g.ps.length := by
              unfold runD at h'
              split at h'
              · assumption
              · cases h'
            obtain ⟨st', s1, D⟩ := hd i g e3
            obtain ⟨fd', F', b, bk, _⟩ := D.fn
            exact ⟨g.ps.length, hl, fd', g.ps, ih i g fd' st' e3 s1 F', b, rfl⟩
      gl := hg
      bl := hb
      er := fun y c g e => by
        obtain ⟨h1, h2, h3, fI, fd', st', qual, h4, h5, h6, h7, h8⟩ := hce y c g e
        exact ⟨h1, fun ne => ⟨h1, h2, h3, fI, fd', iniPs st', h4, h5, ini_ok h6 (h7 ne).1, (h7 ne).2⟩, fun eq => ⟨h1, h2, fI, fd', h4, h5, ini_ok0 h6 (h8 eq).1, (h8 eq).2⟩⟩
      k2 := Nat.le_add_left 2 n
      et := het }
    exact chkSs_ok x ⟨passes_of rfl, rfl, rfl⟩ c1
/-- what a law is asked -/
def spLaw (K : PySem.W.Frag) (m : Nat) : Sp := fun vs H Q _ => ∃ (a : Addr) (ns : List Int), vs = [.ref a] ∧ SqL K H a (ns.map V.int) ∧ ns.length ≤ m ∧ ∀ H', Q (.bl true) H'
theorem reps_ints {Z : Zt} {G : Hp} : ∀ ns : List Int, Reps Z G (ns.map D.int) (ns.map V.int)
  | [] => .nil
  | n :: ns => .cons (by unfold Rep; rfl) (reps_ints ns)
theorem law_ok {P : Program} {w : World} {K : PySem.W.Frag} {mg : Str → Option Value} {T : List Df} {gl : Nat → Option D} {gls : List (Str × Nat)} {blt : List Str} {cls : List (Str × Nat × Str)} {bas : List Str} {ca : Nat → Addr} {sts : List Stmt} {m n jl : Nat} {fl : Df} {fa : Addr}
    (hce : ∀ x c f, cls.lookup x = some (c, f) → ErrIn K mg x f (ca c)) (het : ∀ Z : Zt, Z.ca = ca → ErrT K mg Z cls.length (fun c => (cls[c]?).map fun q => q.2.2) bas)
    (hd : AllIn K mg T sts) (hg : ∀ x j, gls.lookup x = some j → ∃ d v u, gl j = some d ∧ mg x = some u ∧ RelV v u ∧ ∀ Z : Zt, Z.K = K → ∀ G, Rep Z G d v) (hb : ∀ x, blt.contains x = true → mg x = none) (hc : chkAll T gls blt cls bas T sts = true)
    (hl : T[jl]? = some fl) (hn : fl.nm = "law") (hp : fl.ps = [("script" : Str)]) (hfa : mg "law" = some (.ref fa)) (hrun : ∀ ns : List Int, ns.length ≤ m → ∃ back, run T gl n jl [.v (.ro (ns.map D.int))] = some (.ok (.v (.bl true)) back)) :
    ∃ fd : FuncData, (∀ (s : Shared) (v : Value), BindsTo s fd ⟨[v], []⟩ [(("script" : Str), v)]) ∧ ∀ base : Heap, K.In base → base.Ns mainGlobals mg → FnOk P w K mg base (L2.CX P w) (n + 2) fa fd [("script" : Str)] (spLaw K m) := by
  have hx : ∀ j : Nat, ∃ a : Addr, ∀ f : Df, T[j]? = some f → ∃ st, sts[j]? = some st ∧ DefIn K mg f st a := fun j => by
    cases e : T[j]? with
    | none => exact ⟨0, fun f z => by cases z⟩
    | some f =>
      obtain ⟨st, a, h1, h2⟩ := hd.get e
      exact ⟨a, fun g z => by
        have z := Option.some.inj z
        subst z
        exact ⟨st, h1, h2⟩⟩
  let Z : Zt := ⟨K, fun j => Classical.choose (hx j), ca⟩
  have hd' : ∀ j f, T[j]? = some f → ∃ st, sts[j]? = some st ∧ DefIn Z.K mg f st (Z.fa j) := fun j => Classical.choose_spec (hx j)
  obtain ⟨st, e2, DI⟩ := hd' jl fl hl
  obtain ⟨fd, F, _, _, b⟩ := DI.fn
  have b : ∀ us : List Value, us.length = fl.ps.length → bindArgs fd ⟨us, []⟩ = pure (fl.ps.zip us) := by
    rcases b with b | b
    · exact b
    · rw [hp] at b
      exact absurd b (by decide)
  have ea : Z.fa jl = fa := by
    have z := DI.mgf
    rw [hn, hfa] at z
    exact (Value.ref.inj (Option.some.inj z)).symm
  refine ⟨fd, fun s v => .of_eq ?_, fun base _ _ => ?_⟩
  · have := b [v] (by rw [hp]; rfl)
    rw [hp] at this
    exact this
  · have ok := all_ok (Z := Z) (P := P) (w := w) (base := base) (gl := gl) hce (het Z rfl) hd' (fun x j h => by
      obtain ⟨d, v, u, h1, h2, h3, h4⟩ := hg x j h
      exact ⟨d, v, u, h1, h2, h3, h4 Z rfl⟩) hb hc n jl fl fd st hl e2 F
    rw [ea, hp] at ok
    refine ok.imp fun vs H Q E h => ?_
    obtain ⟨a, ns, rfl, hS, hlen, q⟩ := h
    obtain ⟨back, er⟩ := hrun ns hlen
    refine ⟨rfl, H, [.v (.ro (ns.map D.int))], ⟨.refl _, rfl, fun i d h => ?_, fun i b h => ?_, fun i j b c p h1 => ?_⟩, ?_⟩
    · cases i with
      | zero =>
        have h : Sl.v (.ro (ns.map D.int)) = .v d := Option.some.inj h
        injection h with h
        subst h
        exact ⟨_, rfl, by unfold Rep; exact ⟨a, _, rfl, hS, reps_ints ns⟩⟩
      | succ i => simp at h
    · cases i with
      | zero => exact nomatch h
      | succ i => simp at h
    · cases i with
      | zero => exact nomatch h1
      | succ i => simp at h1
    · rw [er]
      intro v G' H' _ _ rr
      have rr : Rep Z G' (.bl true) v := rr
      unfold Rep at rr
      subst rr
      exact q H'
/-- a text without own errors -/
theorem no_err {K : PySem.W.Frag} {mg : Str → Option Value} : (∀ x c f, ([] : List (Str × Nat × Str)).lookup x = some (c, f) → ErrIn K mg x f ((fun _ => 0 : Nat → Addr) c)) ∧ ∀ Z : Zt, Z.ca = (fun _ => 0) → ErrT K mg Z ([] : List (Str × Nat × Str)).length (fun c => (([] : List (Str × Nat × Str))[c]?).map fun q => q.2.2) [] :=
  ⟨fun _ _ _ h => (by cases h), fun Z _ => ⟨fun c _ h => absurd h (Nat.not_lt_zero c), fun c h => absurd h (Nat.not_lt_zero c), fun c _ h => absurd h (Nat.not_lt_zero c), fun c h => absurd h (Nat.not_lt_zero c), fun x h => (by cases h)⟩⟩
/-! constants of the text -/
theorem gl_int {K : PySem.W.Frag} {h : Heap} {mg : Str → Option Value} {x : Str} {i : Int} {t} (X : K.In h) (G : h.Ns mainGlobals mg) (e : PySem.W.nsIn K mainGlobals x = some (some (.int i t))) : ∃ v u, mg x = some u ∧ RelV v u ∧ ∀ Z : Zt, Z.K = K → ∀ G, Rep Z G (.int i) v :=
  ⟨.int i, _, PySem.W.mg_of X G e, ⟨_, rfl⟩, fun Z _ G => by unfold Rep; rfl⟩
theorem gl_str {K : PySem.W.Frag} {h : Heap} {mg : Str → Option Value} {x : Str} {i : Str} {t} (X : K.In h) (G : h.Ns mainGlobals mg) (e : PySem.W.nsIn K mainGlobals x = some (some (.str i t))) : ∃ v u, mg x = some u ∧ RelV v u ∧ ∀ Z : Zt, Z.K = K → ∀ G, Rep Z G (.str i) v :=
  ⟨.str i, _, PySem.W.mg_of X G e, ⟨_, rfl⟩, fun Z _ G => by unfold Rep; rfl⟩
theorem gl_tup {K : PySem.W.Frag} {h : Heap} {mg : Str → Option Value} {x : Str} {ds : List D} {vs : List V} {a : Addr} {od} {its : Array Value} {n sl} (X : K.In h) (G : h.Ns mainGlobals mg) (e : PySem.W.nsIn K mainGlobals x = some (some (.ref a))) (l : K.lookup a = some ⟨.type "tuple", od, .seq its n, sl⟩) (hz : its.size ≤ sizeLine)
    (r : Vals vs its.toList) (rp : ∀ (Z : Zt) G, Reps Z G ds vs) : ∃ v u, mg x = some u ∧ RelV v u ∧ ∀ Z : Zt, Z.K = K → ∀ G, Rep Z G (.tup ds) v :=
  ⟨.ref a, _, PySem.W.mg_of X G e, rfl, fun Z hK G => by
    unfold Rep
    exact ⟨a, vs, rfl, by rw [hK]; exact .inr ⟨_, its, n, l, rfl, rfl, hz, r⟩, rp Z G⟩⟩
end AI
namespace AI
open PySem PySem.Spec L2
open PyProof.Rows hiding St
def AllNone (mg : Str → Option Value) : List Str → Prop
  | [] => True
  | x :: r => mg x = none ∧ AllNone mg r
theorem AllNone.get {mg : Str → Option Value} : ∀ {l : List Str}, AllNone mg l → ∀ x, l.contains x = true → mg x = none
  | [], _, x, h => by simp at h
  | y :: r, a, x, h => by
    rcases List.mem_cons.mp (List.contains_iff_mem.mp h) with e | e
    · rw [e]; exact a.1
    · exact AllNone.get a.2 x (List.contains_iff_mem.mpr e)
def GlIs (K : PySem.W.Frag) (mg : Str → Option Value) (gl : Nat → Option D) (x : Str) (j : Nat) : Prop := ∃ d v u, gl j = some d ∧ mg x = some u ∧ RelV v u ∧ ∀ Z : Zt, Z.K = K → ∀ G, Rep Z G d v
def AllGl (K : PySem.W.Frag) (mg : Str → Option Value) (gl : Nat → Option D) : List (Str × Nat) → Prop
  | [] => True
  | x :: r => GlIs K mg gl x.1 x.2 ∧ AllGl K mg gl r
theorem AllGl.get {K : PySem.W.Frag} {mg : Str → Option Value} {gl : Nat → Option D} : ∀ {l : List (Str × Nat)}, AllGl K mg gl l → ∀ x j, l.lookup x = some j → GlIs K mg gl x j
  | [], _, x, j, h => by cases h
  | (y, i) :: r, a, x, j, h => by
    rw [List.lookup_cons] at h
    split at h
    · rename_i e
      have e := eq_of_beq e
      have h := Option.some.inj h
      subst e
      subst h
      exact a.1
    · exact AllGl.get a.2 x j h
theorem gl_of {K : PySem.W.Frag} {mg : Str → Option Value} {gl : Nat → Option D} {x : Str} {j : Nat} {d : D} (e : gl j = some d) (h : ∃ v u, mg x = some u ∧ RelV v u ∧ ∀ Z : Zt, Z.K = K → ∀ G, Rep Z G d v) : GlIs K mg gl x j := by
  obtain ⟨v, u, h1, h2, h3⟩ := h
  exact ⟨d, v, u, e, h1, h2, h3⟩
end AI
namespace AI
open PySem PySem.Spec L2
open PyProof.Rows hiding St
/-- the first def of a class -/
def iniOf : Stmt → Stmt
  | .ClassDef _ _ _ (b :: _) _ _ _ _ _ _ _ => b
  | _ => .Pass ⟨0, 0, 0, 0⟩
def AllErr (K : PySem.W.Frag) (mg : Str → Option Value) (ca : Nat → Addr) : List (Str × Nat × Str) → Prop
  | [] => True
  | q :: r => ErrIn K mg q.1 q.2.2 (ca q.2.1) ∧ AllErr K mg ca r
theorem AllErr.get {K : PySem.W.Frag} {mg : Str → Option Value} {ca : Nat → Addr} : ∀ {l : List (Str × Nat × Str)}, AllErr K mg ca l → ∀ x c f, l.lookup x = some (c, f) → ErrIn K mg x f (ca c)
  | [], _, x, c, f, h => by cases h
  | (y, d, g) :: r, a, x, c, f, h => by
    rw [List.lookup_cons] at h
    split at h
    · rename_i e
      have e := eq_of_beq e
      have h := Option.some.inj h
      subst e
      cases h
      exact a.1
    · exact AllErr.get a.2 x c f h
/-- what isinstance and except ask of an error's class -/
structure ErrQ (K : PySem.W.Frag) (C : Addr) (f : Str) : Prop where
  xf : XfC K C
  no : PySem.W.findIn K (.ref C) f = some none
  isc : ExcC K C
theorem errQ_mk {K : PySem.W.Frag} {C : Addr} {f : Str} (ga : PySem.W.findIn K (.ref C) "__getattribute__" = some (some (.builtin "BaseException.__getattribute__"))) (gg : PySem.W.findIn K (.ref C) "__getattr__" = some none) (eC : PySem.W.subIn K (.ref C) (.type "BaseException") = some true) (hd : PySem.W.hasDictIn K C = true) (no : PySem.W.findIn K (.ref C) f = some none)
    (ha : PySem.W.findIn K (.ref C) "__class__" = some (some (.builtin "object.__class__"))) (hn : PySem.W.specialIn K (.builtin "object.__class__") "__get__" = some (some (.builtin "getset_descriptor.__get__"))) (ht : PySem.W.takesIn K (.builtin "object.__class__") = some true) (hm : PySem.W.mroIn K C (.type "object") = some true) : ErrQ K C f :=
  ⟨⟨ga, gg, eC, hd⟩, no, ⟨ga, gg, eC, hd, ha, hn, ht, hm⟩⟩
theorem errT_mk {K : PySem.W.Frag} {mg : Str → Option Value} {ca : Nat → Addr} {n : Nat} {fl : Nat → Option Str} {bas : List Str} (exm : ∀ c c', c < n → c' < n → PySem.W.exmOne K (.ref (ca c)) (.ref (ca c')) = some (decide (c = c'))) (q : ∀ c, c < n → ∃ f, fl c = some f ∧ ErrQ K (ca c) f)
    (bs : ∀ x, x ∈ bas → ∃ (v : V) (u : Value), (∀ w, RelV v w → w = u) ∧ RelV v u ∧ (mg x = some u ∨ (mg x = none ∧ bootBuiltins x = some u ∧ x ≠ "__name__")) ∧ ∀ c, c < n → PySem.W.kitOne K (.ref (ca c)) u = some true) (Z : Zt) (hz : Z.ca = ca) : ErrT K mg Z n fl bas := by
  subst hz
  refine ⟨exm, fun c h => ?_, fun c f h e => ?_, fun c h => ?_, bs⟩
  · obtain ⟨f, _, q⟩ := q c h; exact q.xf
  · obtain ⟨g, e2, q⟩ := q c h
    rw [e] at e2
    cases e2
    exact q.no
  · obtain ⟨f, _, q⟩ := q c h; exact q.isc
/-- an own class that isinstance asks for -/
theorem bas_own {K : PySem.W.Frag} {h : Heap} {mg : Str → Option Value} {x : Str} {R : Addr} {n : Nat} {ca : Nat → Addr} (X : K.In h) (G : h.Ns mainGlobals mg) (a : PySem.W.nsIn K mainGlobals x = some (some (.ref R))) (k : ∀ c, c < n → PySem.W.kitOne K (.ref (ca c)) (.ref R) = some true) :
    ∃ (v : V) (u : Value), (∀ w, RelV v w → w = u) ∧ RelV v u ∧ (mg x = some u ∨ (mg x = none ∧ bootBuiltins x = some u ∧ x ≠ "__name__")) ∧ ∀ c, c < n → PySem.W.kitOne K (.ref (ca c)) u = some true :=
  ⟨.ref R, .ref R, fun _ r => r, rfl, .inl (PySem.W.mg_of X G a), k⟩
end AI
namespace AI
open PySem PySem.Spec L2
theorem kit_trueB {K : PySem.W.Frag} {C : Addr} {ty : String} (s : PySem.W.subIn K (.ref C) (.type ty) = some true) (m : PySem.W.kitMeta ty = true) : PySem.W.kitOne K (.ref C) (.type ty) = some true := by
  unfold PySem.W.kitOne
  split
  · rfl
  · show (if PySem.W.kitMeta ty = true then PySem.W.subIn K (.ref C) (.type ty) else none) = some true
    rw [m]
    exact s
theorem bas_ve {K : PySem.W.Frag} {mg : Str → Option Value} {n : Nat} {ca : Nat → Addr} (m : mg "ValueError" = none) (k : ∀ c, c < n → PySem.W.kitOne K (.ref (ca c)) (.type "ValueError") = some true) :
    ∃ (v : V) (u : Value), (∀ w, RelV v w → w = u) ∧ RelV v u ∧ (mg "ValueError" = some u ∨ (mg "ValueError" = none ∧ bootBuiltins "ValueError" = some u ∧ ("ValueError" : Str) ≠ "__name__")) ∧ ∀ c, c < n → PySem.W.kitOne K (.ref (ca c)) u = some true :=
  ⟨.ty "ValueError", .type "ValueError", fun _ r => r, rfl, .inr ⟨m, by decide +kernel, by decide⟩, k⟩
/-- isinstance by the class's chain -/
theorem kit_true {K : PySem.W.Frag} {C R : Addr} (tR : PySem.W.typeIn K (.ref R) = some (.type "type")) (iR : PySem.W.isClsIn K R = true) (s : PySem.W.subIn K (.ref C) (.ref R) = some true) : PySem.W.kitOne K (.ref C) (.ref R) = some true := by
  unfold PySem.W.kitOne
  split
  · rfl
  · have i : (PySem.W.clsIn K R).isSome = true := iR
    show (if ((PySem.W.clsIn K R).isSome && PySem.W.typeIn K (.ref R) == some (.type "type")) = true then PySem.W.subIn K (.ref C) (.ref R) else none) = some true
    rw [i, tR]
    exact s
end AI
/-! Runs of defs, step by step: what is wanted of the end is kept as G, what is still to come as ks. -/
namespace Cm
open PySem AI
theorem run_of {T : List Df} {gl : Nat → Option D} {j : Nat} {f : Df} (h : T[j]? = some f) (n : Nat) (rs : List R) : run T gl (n + 1) j rs = runD ⟨run T gl n, gl⟩ f rs := by
  show (match T[j]? with | some f => runD ⟨run T gl n, gl⟩ f rs | none => none) = _
  rw [h]
/-- what counts of a def -/
structure Same (f g : Df) : Prop where
  ps : f.ps.length = g.ps.length
  N : f.N.length = g.N.length
  nb : f.nb = g.nb
  body : f.body = g.body
def At (T : List Df) (j : Nat) (g : Df) : Prop := ∃ f, T[j]? = some f ∧ Same f g
theorem run_at {T : List Df} {gl : Nat → Option D} {j : Nat} {g : Df} (h : At T j g) (n : Nat) (rs : List R) : run T gl (n + 1) j rs = runD ⟨run T gl n, gl⟩ g rs := by
  obtain ⟨f, e, s⟩ := h
  rw [run_of e]
  unfold runD
  rw [s.ps, s.N, s.nb, s.body]
section
variable {P : Pm} {Bs : List Nat} {G : Option Ot → Prop}
def seq (P : Pm) (Bs : List Nat) (o : Option Ot) (r : Sms) : Option Ot := match o with
  | some (.nx A) => sxs P Bs r A
  | x => x
def K (P : Pm) (Bs : List Nat) : List Sms → Option Ot → Option Ot
  | [], o => o
  | r :: ks, o => K P Bs ks (seq P Bs o r)
theorem K_rt {v : R} {A : As} : ∀ {ks : List Sms}, K P Bs ks (some (.rt v A)) = some (.rt v A)
  | [] => rfl
  | r :: ks => by unfold K; exact K_rt
/-- a statement that goes on -/
theorem st {s : Sm'} {r : Sms} {ks : List Sms} {A A1 : As} (h1 : sx P Bs s A = some (.nx A1)) (h2 : G (K P Bs ks (sxs P Bs r A1))) : G (K P Bs ks (sxs P Bs (.cons s r) A)) := by
  unfold sxs
  rw [h1]
  exact h2
theorem stNil {r : Sms} {ks : List Sms} {A : As} (h : G (K P Bs ks (sxs P Bs r A))) : G (K P Bs (r :: ks) (sxs P Bs .nil A)) := by
  unfold K sxs
  exact h
theorem stR {s : Sm'} {r : Sms} {ks : List Sms} {A A1 : As} {v : R} (h1 : sx P Bs s A = some (.rt v A1)) (h2 : G (some (.rt v A1))) : G (K P Bs ks (sxs P Bs (.cons s r) A)) := by
  unfold sxs
  rw [h1]
  dsimp only
  rw [K_rt]
  exact h2
theorem seqK {r : Sms} {ks : List Sms} {o : Option Ot} : K P Bs (r :: ks) o = K P Bs ks (seq P Bs o r) := rfl
theorem stT {c : Ex} {a b r : Sms} {ks : List Sms} {A A1 : As} (h : (ev P c).t A = some (.ok true A1)) (k : G (K P Bs (r :: ks) (sxs P Bs a A1))) : G (K P Bs ks (sxs P Bs (.cons (.ife c a b) r) A)) := by
  have e : sxs P Bs (.cons (.ife c a b) r) A = seq P Bs (sxs P Bs a A1) r := by
    rw [sxs, sx, h]
    rfl
  rw [e]
  exact k
theorem stF {c : Ex} {a b r : Sms} {ks : List Sms} {A A1 : As} (h : (ev P c).t A = some (.ok false A1)) (k : G (K P Bs (r :: ks) (sxs P Bs b A1))) : G (K P Bs ks (sxs P Bs (.cons (.ife c a b) r) A)) := by
  have e : sxs P Bs (.cons (.ife c a b) r) A = seq P Bs (sxs P Bs b A1) r := by
    rw [sxs, sx, h]
    rfl
  rw [e]
  exact k
/-- a def, by its body -/
theorem runD_G {f : Df} {rs : List R} {A0 e : As} {Φ : R → As → Prop} {Bs : List Nat} (h0 : rs.length = f.ps.length) (he : entry f.nb 0 rs = e) (hB : lent 0 e = Bs) (hA : e ++ List.replicate (f.N.length - f.ps.length) .no = A0)
    (h : ∀ G : Option Ot → Prop, (∀ r A, Φ r (backOf rs e A) → G (some (.rt r A))) → G (K P Bs [] (sxs P Bs f.body A0))) : ∃ r b, runD P f rs = some (.ok r b) ∧ Φ r b := by
  subst he
  subst hB
  subst hA
  obtain ⟨r, A, e1, e2⟩ := h (fun o => ∃ r A, o = some (.rt r A) ∧ Φ r (backOf rs (entry f.nb 0 rs) A)) fun r A q => ⟨r, A, rfl, q⟩
  refine ⟨r, _, ?_, e2⟩
  unfold runD
  rw [if_pos h0]
  dsimp only
  have e1 : sxs P (lent 0 (entry f.nb 0 rs)) f.body (entry f.nb 0 rs ++ List.replicate (f.N.length - f.ps.length) .no) = some (.rt r A) := e1
  rw [e1]
/-- a loop, turn by turn -/
theorem loop_ok {tg : D → As → Option As} {body : As → Option Ot} {Inv : Nat → As → Prop} : ∀ {ds : List D} {i : Nat} {A : As}, Inv i A →
    (∀ k d A, Inv (i + k) A → ds[k]? = some d → ∃ A1 A2, tg d A = some A1 ∧ (body A1 = some (.nx A2) ∨ body A1 = some (.ct A2)) ∧ Inv (i + k + 1) A2) → ∃ A', loop tg body ds A = some (.nx A') ∧ Inv (i + ds.length) A'
  | [], i, A, h, _ => ⟨A, rfl, h⟩
  | d :: ds, i, A, h, step => by
    obtain ⟨A1, A2, e1, e2, h2⟩ := step 0 d A h rfl
    obtain ⟨A', e3, h3⟩ := loop_ok (ds := ds) (i := i + 1) (A := A2) (Inv := Inv) (tg := tg) (body := body) h2 fun k d A q e => by
      have := step (k + 1) d A (by rw [show i + (k + 1) = i + 1 + k by omega]; exact q) e
      rw [show i + (k + 1) + 1 = i + 1 + k + 1 by omega] at this
      exact this
    refine ⟨A', ?_, by rw [List.length_cons, show i + (ds.length + 1) = i + 1 + ds.length by omega]; exact h3⟩
    unfold loop
    rw [e1]
    dsimp only
    rcases e2 with e2 | e2 <;> rw [e2] <;> exact e3
end
def take : Df := { nm := ⟨#[95, 108, 97, 119, 95, 116, 97, 107, 101]⟩, ps := [⟨#[98, 111, 120]⟩, ⟨#[115, 105, 122, 101, 95, 115, 111]⟩], N := [⟨#[98, 111, 120]⟩, ⟨#[115, 105, 122, 101, 95, 115, 111]⟩, ⟨#[115, 111, 109, 101]⟩, ⟨#[111, 110, 99, 101]⟩, ⟨#[102, 97, 114]⟩, ⟨#[97, 103, 97, 105, 110]⟩], nb := [], body :=
      (.cons (.ife (.cmp .Gt (.ixv 0 (.lit (.int 0))) (.lit (.int 0))) (.cons (.asg (.n 2) (.op .Mod (.bi .int (.cons false (.ixv 0 (.lit (.int 0))) .nil)) (.var 1)))
      (.cons (.setix 0 (.lit (.int 0)) (.op .FloorDiv (.ixv 0 (.lit (.int 0))) (.var 1)))
      (.cons (.ret (.var 2))
      .nil))) .nil)
      (.cons (.setix 0 (.lit (.int 2)) (.op .Add (.ixv 0 (.lit (.int 2))) (.lit (.int 1))))
      (.cons (.asg (.n 3) (.op .Mod (.bi .int (.cons false (.op .Mult (.op .Add (.ixv 0 (.lit (.int 1))) (.op .Mult (.lit (.int 48271)) (.ixv 0 (.lit (.int 2))))) (.op .Add (.lit (.int 39373)) (.ixv 0 (.lit (.int 2))))) .nil)) (.lit (.int 2147483647))))
      (.cons (.asg (.n 4) (.op .Add (.op .Mod (.bi .int (.cons false (.var 3) .nil)) (.lit (.int 40009))) (.lit (.int 7))))
      (.cons (.asg (.n 5) (.op .Mod (.bi .int (.cons false (.op .Mult (.op .Add (.op .Add (.var 3) (.ixv 0 (.lit (.int 2)))) (.op .FloorDiv (.ixv 0 (.lit (.int 1))) (.lit (.int 1000003)))) (.var 4)) .nil)) (.lit (.int 2147483629))))
      (.cons (.ret (.op .Mod (.bi .int (.cons false (.op .FloorDiv (.op .Mod (.bi .int (.cons false (.op .Add (.op .Mult (.var 5) (.lit (.int 48271))) (.var 3)) .nil)) (.lit (.int 2147483587))) (.lit (.int 64))) .nil)) (.var 1)))
      .nil)))))) }
theorem take_ok {T : List Df} {gl : Nat → Option D} {j : Nat} (h : At T j take) (n : Nat) {x y z k : Int} (hx : 0 ≤ x) (hy : 0 ≤ y) (hy2 : y < 2 ^ 62) (hz : 0 ≤ z) (hz2 : z < 1000000) (hk : 1 ≤ k) (hk2 : k < 1073741824) :
    ∃ r b, run T gl (n + 1) j [.o (.l [.int x, .int y, .int z]), .v (.int k)] = some (.ok r b) ∧ ∃ v x' z' : Int, r = .v (.int v) ∧ b = [.o (.l [.int x', .int y, .int z']), .no] ∧ 0 ≤ v ∧ v < k ∧ 0 ≤ x' ∧ 0 ≤ z' ∧ z' ≤ z + 1 := by
  rw [run_at h]
  have e1 : ¬ k = 0 := by omega
  have e2 : k.natAbs < 1073741824 := by omega
  refine runD_G rfl (by simp [entry, take] <;> rfl) (by simp [lent] <;> rfl) (by simp [take] <;> rfl) fun G fin => ?_
  by_cases p : 0 < x
  · refine stT (by (simp [sxs, sx, ev, evL, evO, evI, mkE, E2.d, evb, evbt, evs, evp, eva, evo, evc, evr, isVar, Rs.bind, Ot.of, frz, R.dd, Ob.dd, R.sl, toR, toV, toB, toL, nxo, store, asgT, asgTs, setA, ownL, peekA, varA, putA, doOp, doCmp, doBi, doIx, L2.atI, L2.ixN, truD, p] <;> try first | rfl | exact ⟨rfl, rfl⟩)) ?_
    refine st (by (simp [sxs, sx, ev, evL, evO, evI, mkE, E2.d, evb, evbt, evs, evp, eva, evo, evc, evr, isVar, Rs.bind, Ot.of, frz, R.dd, Ob.dd, R.sl, toR, toV, toB, toL, nxo, store, asgT, asgTs, setA, ownL, peekA, varA, putA, doOp, doCmp, doBi, doIx, L2.atI, L2.ixN, truD, e1] <;> try first | rfl | exact ⟨rfl, rfl⟩)) ?_
    refine st (by (simp [sxs, sx, ev, evL, evO, evI, mkE, E2.d, evb, evbt, evs, evp, eva, evo, evc, evr, isVar, Rs.bind, Ot.of, frz, R.dd, Ob.dd, R.sl, toR, toV, toB, toL, nxo, store, asgT, asgTs, setA, ownL, peekA, varA, putA, doOp, doCmp, doBi, doIx, L2.atI, L2.ixN, truD, e1, e2] <;> try first | rfl | exact ⟨rfl, rfl⟩)) ?_
    refine stR (by (simp [sxs, sx, ev, evL, evO, evI, mkE, E2.d, evb, evbt, evs, evp, eva, evo, evc, evr, isVar, Rs.bind, Ot.of, frz, R.dd, Ob.dd, R.sl, toR, toV, toB, toL, nxo, store, asgT, asgTs, setA, ownL, peekA, varA, putA, doOp, doCmp, doBi, doIx, L2.atI, L2.ixN, truD, e1] <;> try first | rfl | exact ⟨rfl, rfl⟩)) (fin _ _ ⟨x.fmod k, x.fdiv k, z, rfl, by simp [backOf], Int.fmod_nonneg_of_pos _ (by omega), Int.fmod_lt_of_pos _ (by omega), Int.fdiv_nonneg hx (by omega), hz, by omega⟩)
  · have q : x = 0 := by omega
    subst q
    have m1 : (-18446744073709551616 < y + 48271 * (z + 1) ∧ y + 48271 * (z + 1) < 18446744073709551616) := by omega
    have m2 : (-18446744073709551616 < z + 1 ∧ z + 1 < 18446744073709551616) := by omega
    refine stF (by (simp [sxs, sx, ev, evL, evO, evI, mkE, E2.d, evb, evbt, evs, evp, eva, evo, evc, evr, isVar, Rs.bind, Ot.of, frz, R.dd, Ob.dd, R.sl, toR, toV, toB, toL, nxo, store, asgT, asgTs, setA, ownL, peekA, varA, putA, doOp, doCmp, doBi, doIx, L2.atI, L2.ixN, truD] <;> try first | rfl | exact ⟨rfl, rfl⟩)) (stNil ?_)
    refine st (by (simp [sxs, sx, ev, evL, evO, evI, mkE, E2.d, evb, evbt, evs, evp, eva, evo, evc, evr, isVar, Rs.bind, Ot.of, frz, R.dd, Ob.dd, R.sl, toR, toV, toB, toL, nxo, store, asgT, asgTs, setA, ownL, peekA, varA, putA, doOp, doCmp, doBi, doIx, L2.atI, L2.ixN, truD] <;> try first | rfl | exact ⟨rfl, rfl⟩)) ?_
    refine st (by (simp [sxs, sx, ev, evL, evO, evI, mkE, E2.d, evb, evbt, evs, evp, eva, evo, evc, evr, isVar, Rs.bind, Ot.of, frz, R.dd, Ob.dd, R.sl, toR, toV, toB, toL, nxo, store, asgT, asgTs, setA, ownL, peekA, varA, putA, doOp, doCmp, doBi, doIx, L2.atI, L2.ixN, truD, m1, m2] <;> try first | rfl | exact ⟨rfl, rfl⟩)) ?_
    generalize hq : ((y + 48271 * (z + 1)) * (39373 + (z + 1))).fmod 2147483647 = q
    refine st (by (simp [sxs, sx, ev, evL, evO, evI, mkE, E2.d, evb, evbt, evs, evp, eva, evo, evc, evr, isVar, Rs.bind, Ot.of, frz, R.dd, Ob.dd, R.sl, toR, toV, toB, toL, nxo, store, asgT, asgTs, setA, ownL, peekA, varA, putA, doOp, doCmp, doBi, doIx, L2.atI, L2.ixN, truD] <;> try first | rfl | exact ⟨rfl, rfl⟩)) ?_
    have m3 : (-18446744073709551616 < (q.fmod 40009 + 7) ∧ (q.fmod 40009 + 7) < 18446744073709551616) := by
      have := Int.fmod_nonneg_of_pos q (show (0 : Int) < 40009 by decide)
      have := Int.fmod_lt_of_pos q (show (0 : Int) < 40009 by decide)
      omega
    refine st (by (simp [sxs, sx, ev, evL, evO, evI, mkE, E2.d, evb, evbt, evs, evp, eva, evo, evc, evr, isVar, Rs.bind, Ot.of, frz, R.dd, Ob.dd, R.sl, toR, toV, toB, toL, nxo, store, asgT, asgTs, setA, ownL, peekA, varA, putA, doOp, doCmp, doBi, doIx, L2.atI, L2.ixN, truD, m3] <;> try first | rfl | exact ⟨rfl, rfl⟩)) ?_
    refine stR (by (simp [sxs, sx, ev, evL, evO, evI, mkE, E2.d, evb, evbt, evs, evp, eva, evo, evc, evr, isVar, Rs.bind, Ot.of, frz, R.dd, Ob.dd, R.sl, toR, toV, toB, toL, nxo, store, asgT, asgTs, setA, ownL, peekA, varA, putA, doOp, doCmp, doBi, doIx, L2.atI, L2.ixN, truD, e1] <;> try first | rfl | exact ⟨rfl, rfl⟩)) (fin _ _ ⟨_, 0, z + 1, rfl, by simp [backOf], Int.fmod_nonneg_of_pos _ (by omega), Int.fmod_lt_of_pos _ (by omega), by omega, by omega, by omega⟩)
end Cm
namespace Cm
open PySem AI
/-- a box of draws: three numbers -/
structure Bx (t : Int) (b : Ob) : Prop where
  ex : ∃ x y z : Int, b = .l [.int x, .int y, .int z] ∧ 0 ≤ x ∧ 0 ≤ y ∧ y < 2 ^ 62 ∧ 0 ≤ z ∧ z ≤ t
theorem Bx.mono {t u : Int} {b : Ob} (h : Bx t b) (l : t ≤ u) : Bx u b := by
  obtain ⟨x, y, z, e, h1, h2, h3, h4, h5⟩ := h
  exact ⟨x, y, z, e, h1, h2, h3, h4, by omega⟩
theorem take_bx {T : List Df} {gl : Nat → Option D} {j : Nat} (h : At T j take) (n : Nat) {t : Int} {b : Ob} (hb : Bx t b) (ht : t < 1000000) {k : Int} (hk : 1 ≤ k) (hk2 : k < 1073741824) :
    ∃ (v : Int) (b' : Ob), run T gl (n + 1) j [.o b, .v (.int k)] = some (.ok (.v (.int v)) [.o b', .no]) ∧ 0 ≤ v ∧ v < k ∧ Bx (t + 1) b' := by
  obtain ⟨x, y, z, rfl, h1, h2, h3, h4, h5⟩ := hb
  obtain ⟨r, b, e, v, x', z', rfl, rfl, q1, q2, q3, q4, q5⟩ := take_ok (gl := gl) h n h1 h2 h3 h4 (by omega : z < 1000000) hk hk2
  exact ⟨v, _, e, q1, q2, x', y, z', rfl, q3, h2, h3, q4, by omega⟩
def of (jt : Nat) : Df := { nm := ⟨#[95, 108, 97, 119, 95, 111, 102]⟩, ps := [⟨#[98, 111, 120]⟩, ⟨#[103, 111, 111, 100, 115, 95, 115, 111]⟩], N := [⟨#[98, 111, 120]⟩, ⟨#[103, 111, 111, 100, 115, 95, 115, 111]⟩], nb := [], body :=
      (.cons (.ret (.ixv 1 (.call jt (.cons false (.var 0) (.cons false (.bi .len (.cons false (.var 1) .nil)) .nil)))))
      .nil) }
theorem ix_nat {ds : List D} {v : Int} (h0 : 0 ≤ v) (h1 : v < ds.length) : ∃ d, L2.atI ds v = some d ∧ d ∈ ds := by
  refine ⟨ds[v.toNat]'(by omega), ?_, List.getElem_mem _⟩
  unfold L2.atI L2.ixN
  rw [if_pos h0, if_pos h1]
  exact List.getElem?_eq_getElem _
/-- one of these -/
theorem of_own {T : List Df} {gl : Nat → Option D} {j jt : Nat} (h : At T j (of jt)) (ht : At T jt take) (n : Nat) {t : Int} {b : Ob} (hb : Bx t b) (lt : t < 1000000) {ds : List D} (ne : ds ≠ []) (hl : ds.length < 1000) :
    ∃ (d : D) (b' : Ob), run T gl (n + 2) j [.o b, .o (.l ds)] = some (.ok (.v d) [.o b', .o (.l ds)]) ∧ d ∈ ds ∧ Bx (t + 1) b' := by
  rw [run_at h]
  have hp : 0 < ds.length := List.length_pos_iff.mpr ne
  obtain ⟨v, b', e, q1, q2, q3⟩ := take_bx (gl := gl) ht n hb lt (k := ds.length) (by omega) (by omega)
  obtain ⟨d, e2, m⟩ := ix_nat q1 q2
  have key := runD_G (P := ⟨run T gl (n + 1), gl⟩) (f := of jt) (rs := [.o b, .o (.l ds)]) (Φ := fun r bk => r = .v d ∧ bk = [.o b', .o (.l ds)]) rfl (by simp [entry, of] <;> rfl) (by simp [lent] <;> rfl) (by simp [of] <;> rfl) fun G fin => by
    refine stR (A1 := [.o b', .o (.l ds)]) (v := .v d) ?_ (fin _ _ ⟨rfl, by simp [backOf]⟩)
    (simp [sxs, sx, ev, evL, evO, evI, mkE, E2.d, evb, evbt, evs, evp, eva, evo, evc, evr, isVar, Rs.bind, Ot.of, frz, R.dd, Ob.dd, R.sl, toR, toV, toB, toL, nxo, store, asgT, asgTs, setA, ownL, peekA, varA, putA, doOp, doCmp, doBi, doIx, truD, doCall, arRs, arR, slots, nodup, giveBack, e, e2] <;> try first | rfl | exact ⟨rfl, rfl⟩)
  obtain ⟨r, bk, e3, rfl, rfl⟩ := key
  exact ⟨d, b', e3, m, q3⟩
theorem stFor {P : Pm} {Bs : List Nat} {G : Option Ot → Prop} {tg : Tg} {it : It} {b r : Sms} {ks : List Sms} {A A1 : As} {ds : List D} (Inv : Nat → As → Prop) (h : evI P it A = some (.ok ds A1)) (h0 : Inv 0 A1)
    (step : ∀ k d A, Inv k A → ds[k]? = some d → ∃ A1 A2, asgT Bs tg d A = some A1 ∧ (sxs P Bs b A1 = some (.nx A2) ∨ sxs P Bs b A1 = some (.ct A2)) ∧ Inv (k + 1) A2)
    (fin : ∀ A', Inv ds.length A' → G (K P Bs ks (sxs P Bs r A'))) : G (K P Bs ks (sxs P Bs (.cons (.for tg it b) r) A)) := by
  obtain ⟨A', e, hi⟩ := loop_ok (tg := asgT Bs tg) (body := fun B => sxs P Bs b B) (Inv := Inv) (ds := ds) (i := 0) h0 fun k d A q e => by
    have := step k d A (by rw [Nat.zero_add] at q; exact q) e
    rw [Nat.zero_add]
    exact this
  rw [Nat.zero_add] at hi
  refine st (A1 := A') ?_ (fin A' hi)
  rw [sx, h]
  exact e
/-- what is drawn out of a pool: by its places -/
def pick (jt : Nat) : Df := { nm := ⟨#[95, 108, 97, 119, 95, 112, 105, 99, 107]⟩, ps := [⟨#[98, 111, 120]⟩, ⟨#[103, 111, 111, 100, 115, 95, 115, 111]⟩, ⟨#[99, 111, 117, 110, 116, 95, 115, 111]⟩], N := [⟨#[98, 111, 120]⟩, ⟨#[103, 111, 111, 100, 115, 95, 115, 111]⟩, ⟨#[99, 111, 117, 110, 116, 95, 115, 111]⟩, ⟨#[112, 111, 111, 108, 95, 115, 111]⟩, ⟨#[102, 111, 117, 110, 100]⟩, ⟨#[116, 117, 114, 110]⟩], nb := [], body :=
      (.cons (.par [3, 4] (.cons false (.bi .list (.cons false (.var 1) .nil)) (.cons false (.lst .nil) .nil)))
      (.cons (.for (.n 5) (.rng1 (.bi .min2 (.cons false (.bi .int (.cons false (.var 2) .nil)) (.cons false (.bi .len (.cons false (.var 3) .nil)) .nil)))) (.cons (.expr (.app 4 (.popv 3 (.call jt (.cons false (.var 0) (.cons false (.bi .len (.cons false (.var 3) .nil)) .nil))))))
      .nil))
      (.cons (.ret (.var 4))
      .nil))) }
theorem erase_perm {α : Type} : ∀ {l : List α} {i : Nat} {d : α}, l[i]? = some d → l.Perm (d :: l.eraseIdx i)
  | [], _, _, h => by simp at h
  | a :: l, 0, d, h => by cases h; exact List.Perm.refl _
  | a :: l, i + 1, d, h => by
    have ih := erase_perm (l := l) (i := i) (d := d) (by simpa using h)
    exact (List.Perm.cons a ih).trans (List.Perm.swap d a _)
theorem rngD_len : ∀ (n : Nat) (lo : Int), (rngD lo n).length = n
  | 0, _ => rfl
  | n + 1, lo => by unfold rngD; rw [List.length_cons, rngD_len]
theorem pick_own {T : List Df} {gl : Nat → Option D} {j jt : Nat} (h : At T j (pick jt)) (ht : At T jt take) (n : Nat) {t : Int} {b : Ob} (hb : Bx t b) (h0 : 0 ≤ t) (lt : t < 900000) {ds : List D} (hl : ds.length < 1000) {k : Int} (hk : 0 ≤ k) (hk2 : k < 1000) :
    ∃ (xs rest : List D) (b' : Ob), run T gl (n + 2) j [.o b, .o (.l ds), .v (.int k)] = some (.ok (.o (.l xs)) [.o b', .o (.l ds), .no]) ∧ (xs ++ rest).Perm ds ∧ xs.length = min k.toNat ds.length ∧ Bx (t + 1000) b' := by
  rw [run_at h]
  have key := runD_G (P := ⟨run T gl (n + 1), gl⟩) (f := pick jt) (rs := [.o b, .o (.l ds), .v (.int k)]) (Φ := fun r bk => ∃ (xs rest : List D) (b' : Ob), r = .o (.l xs) ∧ bk = [.o b', .o (.l ds), .no] ∧ (xs ++ rest).Perm ds ∧ xs.length = min k.toNat ds.length ∧ Bx (t + 1000) b')
    rfl (by simp [entry, pick] <;> rfl) (by simp [lent] <;> rfl) (by simp [pick] <;> rfl) fun G fin => by
    refine st (A1 := [.o b, .o (.l ds), .v (.int k), .o (.l ds), .o (.l []), .no]) (by (simp [sxs, sx, ev, evL, evO, evI, mkE, E2.d, evb, evbt, evs, evp, eva, evo, evc, evr, isVar, Rs.bind, Ot.of, frz, R.dd, Ob.dd, R.sl, toR, toV, toB, toL, nxo, store, asgT, asgTs, setA, ownL, peekA, varA, putA, doOp, doCmp, doBi, doIx, truD, doCall, arRs, arR, slots, nodup, giveBack, short] <;> try first | rfl | exact ⟨rfl, rfl⟩)) ?_
    have hm : ((if (ds.length : Int) < k then (ds.length : Int) else k)).toNat = min k.toNat ds.length := by
      by_cases q : (ds.length : Int) < k
      · rw [if_pos q]; omega
      · rw [if_neg q]; omega
    have hr : rng1I (.int (if (ds.length : Int) < k then (ds.length : Int) else k)) = some (rngD 0 (min k.toNat ds.length)) := by
      show (if okI _ then _ else _) = _
      rw [hm, if_pos]
      unfold okI
      refine decide_eq_true ?_
      split <;> omega
    refine stFor (ds := rngD 0 (min k.toNat ds.length)) (A1 := [.o b, .o (.l ds), .v (.int k), .o (.l ds), .o (.l []), .no]) (fun i A => ∃ (xs rest : List D) (b' : Ob) (tn : Sl), A = [.o b', .o (.l ds), .v (.int k), .o (.l rest), .o (.l xs), tn] ∧ (xs ++ rest).Perm ds ∧ xs.length = i ∧ Bx (t + i) b') (by (simp [sxs, sx, ev, evL, evO, evI, mkE, E2.d, evb, evbt, evs, evp, eva, evo, evc, evr, isVar, Rs.bind, Ot.of, frz, R.dd, Ob.dd, R.sl, toR, toV, toB, toL, nxo, store, asgT, asgTs, setA, ownL, peekA, varA, putA, doOp, doCmp, doBi, doIx, truD, doCall, arRs, arR, slots, nodup, giveBack, hr] <;> try first | rfl | exact ⟨rfl, rfl⟩)) ⟨[], ds, b, .no, rfl, List.Perm.refl _, rfl, by simpa using hb⟩ ?_ ?_
    · rintro i d A ⟨xs, rest, b', tn, rfl, hp, hx, hb'⟩ hd
      have il : i < min k.toNat ds.length := by have := (List.getElem?_eq_some_iff.mp hd).1; rw [rngD_len] at this; exact this
      have hlen := hp.length_eq
      rw [List.length_append] at hlen
      obtain ⟨v, b'', e, q1, q2, q3⟩ := take_bx (gl := gl) ht n hb' (by omega) (k := rest.length) (by omega) (by omega)
      have hv : v.toNat < rest.length := by omega
      have e2 : rest[v.toNat]? = some (rest[v.toNat]'hv) := List.getElem?_eq_getElem hv
      have sh : short xs = true := decide_eq_true (by have : xs.length ≤ 1000 := by omega
                                                      exact Nat.le_trans this (by decide))
      have c1 : (0 ≤ v ∧ v < rest.length ∧ v < 4611686018427387904) := by omega
      refine ⟨_, [.o b'', .o (.l ds), .v (.int k), .o (.l (rest.eraseIdx v.toNat)), .o (.l (xs ++ [rest[v.toNat]'hv])), .v d], by (simp [sxs, sx, ev, evL, evO, evI, mkE, E2.d, evb, evbt, evs, evp, eva, evo, evc, evr, isVar, Rs.bind, Ot.of, frz, R.dd, Ob.dd, R.sl, toR, toV, toB, toL, nxo, store, asgT, asgTs, setA, ownL, peekA, varA, putA, doOp, doCmp, doBi, doIx, truD, doCall, arRs, arR, slots, nodup, giveBack] <;> try first | rfl | exact ⟨rfl, rfl⟩), .inl (by (simp [sxs, sx, ev, evL, evO, evI, mkE, E2.d, evb, evbt, evs, evp, eva, evo, evc, evr, isVar, Rs.bind, Ot.of, frz, R.dd, Ob.dd, R.sl, toR, toV, toB, toL, nxo, store, asgT, asgTs, setA, ownL, peekA, varA, putA, doOp, doCmp, doBi, doIx, truD, doCall, arRs, arR, slots, nodup, giveBack, e, popA, appA, sh, c1, e2] <;> try first | rfl | exact ⟨rfl, rfl⟩)), xs ++ [rest[v.toNat]'hv], rest.eraseIdx v.toNat, b'', .v d, rfl, ?_, by simp [hx], ?_⟩
      · rw [List.append_assoc]
        exact (List.Perm.append_left xs (erase_perm e2).symm).trans hp
      · have z : t + (i : Int) + 1 = t + ((i + 1 : Nat) : Int) := by omega
        rw [← z]; exact q3
    · rintro A' ⟨xs, rest, b', tn, rfl, hp, hx, hb'⟩
      rw [rngD_len] at hx hb'
      refine stR (by (simp [sxs, sx, ev, evL, evO, evI, mkE, E2.d, evb, evbt, evs, evp, eva, evo, evc, evr, isVar, Rs.bind, Ot.of, frz, R.dd, Ob.dd, R.sl, toR, toV, toB, toL, nxo, store, asgT, asgTs, setA, ownL, peekA, varA, putA, doOp, doCmp, doBi, doIx, truD, doCall, arRs, arR, slots, nodup, giveBack] <;> try first | rfl | exact ⟨rfl, rfl⟩)) (fin _ _ ⟨xs, rest, b', rfl, by simp [backOf], hp, hx, hb'.mono (by omega)⟩)
  obtain ⟨r, bk, e3, xs, rest, b', rfl, rfl, q⟩ := key
  exact ⟨xs, rest, b', e3, q⟩
end Cm
namespace Cm
open PySem AI
def cellsD : Df := { nm := ⟨#[95, 108, 97, 119, 95, 99, 101, 108, 108, 115]⟩, ps := [⟨#[115, 99, 114, 105, 112, 116]⟩, ⟨#[116, 111, 112, 95, 115, 111]⟩], N := [⟨#[115, 99, 114, 105, 112, 116]⟩, ⟨#[116, 111, 112, 95, 115, 111]⟩, ⟨#[99, 101, 108, 108, 115, 95, 115, 111]⟩, ⟨#[107]⟩, ⟨#[99, 101, 108, 108]⟩, ⟨#[97, 116, 95, 115, 111]⟩], nb := [], body :=
      (.cons (.asg (.n 2) (.orv (.bi .list (.cons false (.sl (.var 0) .none (.some (.var 1))) .nil)) (.lst (.cons false (.lit (.int 0)) .nil))))
      (.cons (.for (.t [(.n 3), (.n 4)]) (.enum (.sl (.var 0) (.some (.var 1)) (.some (.lit (.int 63))))) (.cons (.asg (.n 5) (.op .Mod (.bi .int (.cons false (.var 3) .nil)) (.var 1)))
      (.cons (.setix 2 (.var 5) (.op .Add (.ixv 2 (.var 5)) (.op .Mult (.var 4) (.op .Add (.var 3) (.lit (.int 2))))))
      .nil)))
      (.cons (.ret (.var 2))
      .nil))) }
theorem cut_front {ds : List D} {k : Nat} : cutD ds none (some (k : Int)) = ds.take k := by
  have h : ¬ ((k : Int) < 0) := by omega
  simp [cutD, HT.sIx, h]
theorem cut_back {ds : List D} {k m : Nat} : cutD ds (some (k : Int)) (some (m : Int)) = (ds.drop (min k ds.length)).take (min m ds.length - min k ds.length) := by
  have h : ¬ ((k : Int) < 0) := by omega
  have h2 : ¬ ((m : Int) < 0) := by omega
  simp [cutD, HT.sIx, h, h2]
theorem enum_at : ∀ {l : List D} {k i : Nat} {d : D}, (enumD k l)[i]? = some d → ∃ a, l[i]? = some a ∧ d = .tup [.int (k + i : Nat), a]
  | [], _, _, _, h => by simp [enumD] at h
  | a :: l, k, 0, d, h => by
    unfold enumD at h
    cases h
    exact ⟨a, rfl, rfl⟩
  | a :: l, k, i + 1, d, h => by
    unfold enumD at h
    obtain ⟨x, e1, e2⟩ := enum_at (l := l) (k := k + 1) (i := i) (by simpa using h)
    exact ⟨x, by simpa using e1, by rw [e2, show k + 1 + i = k + (i + 1) by omega]⟩
theorem set_ints {cs : List Int} {m : Nat} {y : Int} : (cs.map D.int).set m (.int y) = (cs.set m y).map D.int := by rw [List.map_set]
theorem cells_ok {T : List Df} {gl : Nat → Option D} {j : Nat} (h : At T j cellsD) (n : Nat) (ns : List Int) (hl : ns.length ≤ 63) :
    ∃ r b, run T gl (n + 1) j [.v (.ro (ns.map D.int)), .v (.int 3)] = some (.ok r b) ∧ b = [.no, .no] ∧ ∃ cs : List Int, r = .o (.l (cs.map D.int)) ∧ 1 ≤ cs.length ∧ cs.length ≤ 3 := by
  rw [run_at h]
  refine runD_G rfl (by simp [entry, cellsD] <;> rfl) (by simp [lent] <;> rfl) (by simp [cellsD] <;> rfl) fun G fin => ?_
  have c1 : cutD (ns.map D.int) none (some 3) = (ns.take 3).map D.int := by
    have := cut_front (ds := ns.map D.int) (k := 3)
    rw [show ((3 : Nat) : Int) = 3 from rfl] at this
    rw [this, List.map_take]
  have ok3 : okI 3 = true := by decide
  have ok63 : okI 63 = true := by decide
  -- the first row: what is left of it
  have first : ∃ cs : List Int, 1 ≤ cs.length ∧ cs.length ≤ 3 ∧ (3 < ns.length → cs.length = 3) ∧ sx ⟨run T gl n, gl⟩ [] (.asg (.n 2) (.orv (.bi .list (.cons false (.sl (.var 0) .none (.some (.var 1))) .nil)) (.lst (.cons false (.lit (.int 0)) .nil)))) [.v (.ro (ns.map D.int)), .v (.int 3), .no, .no, .no, .no] = some (.nx [.v (.ro (ns.map D.int)), .v (.int 3), .o (.l (cs.map D.int)), .no, .no, .no]) := by
    by_cases z : ns = []
    · subst z
      exact ⟨[0], by decide, by decide, by simp, by (simp [sxs, sx, ev, evL, evO, evI, mkE, E2.d, evb, evbt, evs, evp, eva, evo, evc, evr, isVar, Rs.bind, Ot.of, frz, R.dd, Ob.dd, R.sl, toR, toV, toB, toL, nxo, store, asgT, asgTs, setA, ownL, peekA, varA, putA, doOp, doCmp, doBi, doIx, truD, doCall, arRs, arR, slots, nodup, giveBack, optI, ok3, doSl, short, cutD, HT.sIx] <;> try first | rfl | exact ⟨rfl, rfl⟩)⟩
    · have hp : 0 < ns.length := List.length_pos_iff.mpr z
      refine ⟨ns.take 3, by rw [List.length_take]; omega, by rw [List.length_take]; omega, fun q => by rw [List.length_take]; omega, ?_⟩
      have ne : ((ns.take 3).map D.int).isEmpty = false := by
        cases ns with
        | nil => exact (z rfl).elim
        | cons a r => rfl
      generalize ns.map D.int = ms at c1
      generalize (ns.take 3).map D.int = us at c1 ne
      (simp [sxs, sx, ev, evL, evO, evI, mkE, E2.d, evb, evbt, evs, evp, eva, evo, evc, evr, isVar, Rs.bind, Ot.of, frz, R.dd, Ob.dd, R.sl, toR, toV, toB, toL, nxo, store, asgT, asgTs, setA, ownL, peekA, varA, putA, doOp, doCmp, doBi, doIx, truD, doCall, arRs, arR, slots, nodup, giveBack, optI, ok3, doSl, c1, ne] <;> try first | rfl | exact ⟨rfl, rfl⟩)
  obtain ⟨cs, h1, h2, h3, e⟩ := first
  refine st e ?_
  refine stFor (ds := enumD 0 (cutD (ns.map D.int) (some 3) (some 63))) (A1 := [.v (.ro (ns.map D.int)), .v (.int 3), .o (.l (cs.map D.int)), .no, .no, .no]) (fun i A => ∃ (zs : List Int) (x1 x2 x3 : Sl), A = [.v (.ro (ns.map D.int)), .v (.int 3), .o (.l (zs.map D.int)), x1, x2, x3] ∧ zs.length = cs.length) (by (simp [sxs, sx, ev, evL, evO, evI, mkE, E2.d, evb, evbt, evs, evp, eva, evo, evc, evr, isVar, Rs.bind, Ot.of, frz, R.dd, Ob.dd, R.sl, toR, toV, toB, toL, nxo, store, asgT, asgTs, setA, ownL, peekA, varA, putA, doOp, doCmp, doBi, doIx, truD, doCall, arRs, arR, slots, nodup, giveBack, optI, ok3, ok63, doSl, enumI] <;> try first | rfl | exact ⟨rfl, rfl⟩)) ⟨cs, .no, .no, .no, rfl, rfl⟩ ?_ ?_
  · rintro k d A ⟨zs, x1, x2, x3, rfl, hz⟩ hd
    obtain ⟨x, ex, rfl⟩ := enum_at hd
    rw [Nat.zero_add]
    have c2 := cut_back (ds := ns.map D.int) (k := 3) (m := 63)
    rw [show ((3 : Nat) : Int) = 3 from rfl, show ((63 : Nat) : Int) = 63 from rfl] at c2
    rw [c2] at ex
    have kl := (List.getElem?_eq_some_iff.mp ex).1
    rw [List.length_take, List.length_drop, List.length_map] at kl
    have hn : 3 < ns.length := by omega
    have zl : zs.length = 3 := by rw [hz, h3 hn]
    obtain ⟨c, rfl⟩ : ∃ c : Int, x = .int c := by
      have m := List.mem_of_getElem? ex
      obtain ⟨c, _, e⟩ := List.mem_map.mp (List.mem_of_mem_drop (List.mem_of_mem_take m))
      exact ⟨c, e.symm⟩
    have q1 := Int.fmod_nonneg_of_pos (k : Int) (show (0 : Int) < 3 by decide)
    have q2 := Int.fmod_lt_of_pos (k : Int) (show (0 : Int) < 3 by decide)
    generalize hf : ((k : Int)).fmod 3 = f at q1 q2
    have lf : f.toNat < zs.length := by omega
    have e1 : L2.atI (zs.map D.int) f = some (.int zs[f.toNat]) := by
      unfold L2.atI L2.ixN
      rw [if_pos q1, if_pos (by rw [List.length_map]; omega)]
      show (zs.map D.int)[f.toNat]? = _
      rw [List.getElem?_map, List.getElem?_eq_getElem lf]
      rfl
    have e2 : L2.ixN zs.length f = some f.toNat := by
      unfold L2.ixN
      rw [if_pos q1, if_pos (by omega)]
    have m1 : (-18446744073709551616 < (k : Int) + 2 ∧ (k : Int) + 2 < 18446744073709551616) := by omega
    exact ⟨_, _, by (simp [sxs, sx, ev, evL, evO, evI, mkE, E2.d, evb, evbt, evs, evp, eva, evo, evc, evr, isVar, Rs.bind, Ot.of, frz, R.dd, Ob.dd, R.sl, toR, toV, toB, toL, nxo, store, asgT, asgTs, setA, ownL, peekA, varA, putA, doOp, doCmp, doBi, doIx, truD, doCall, arRs, arR, slots, nodup, giveBack] <;> try first | rfl | exact ⟨rfl, rfl⟩), .inl (by (simp [sxs, sx, ev, evL, evO, evI, mkE, E2.d, evb, evbt, evs, evp, eva, evo, evc, evr, isVar, Rs.bind, Ot.of, frz, R.dd, Ob.dd, R.sl, toR, toV, toB, toL, nxo, store, asgT, asgTs, setA, ownL, peekA, varA, putA, doOp, doCmp, doBi, doIx, truD, doCall, arRs, arR, slots, nodup, giveBack, e1, e2, m1, hf] <;> try first | rfl | exact ⟨rfl, rfl⟩)), zs.set f.toNat (zs[f.toNat] + c * ((k : Int) + 2)), .v (.int k), .v (.int c), .v (.int f), by rw [← set_ints], by rw [List.length_set]; exact hz⟩
  · rintro A' ⟨zs, x1, x2, x3, rfl, hz⟩
    exact stR (by (simp [sxs, sx, ev, evL, evO, evI, mkE, E2.d, evb, evbt, evs, evp, eva, evo, evc, evr, isVar, Rs.bind, Ot.of, frz, R.dd, Ob.dd, R.sl, toR, toV, toB, toL, nxo, store, asgT, asgTs, setA, ownL, peekA, varA, putA, doOp, doCmp, doBi, doIx, truD, doCall, arRs, arR, slots, nodup, giveBack] <;> try first | rfl | exact ⟨rfl, rfl⟩)) (fin _ _ ⟨by simp [backOf], zs, rfl, by omega, by omega⟩)
end Cm
namespace Cm
open PySem AI
def boxD (c : Int) : Df := { nm := ⟨#[95, 108, 97, 119, 95, 98, 111, 120]⟩, ps := [⟨#[115, 99, 114, 105, 112, 116]⟩, ⟨#[107]⟩], N := [⟨#[115, 99, 114, 105, 112, 116]⟩, ⟨#[107]⟩, ⟨#[99, 101, 108, 108]⟩], nb := [], body :=
      (.cons (.asg (.n 2) (.ite (.cmp .Lt (.var 1) (.bi .len (.cons false (.var 0) .nil))) (.ixv 0 (.var 1)) (.lit (.int 0))))
      (.cons (.ret (.lst (.cons false (.op .Mult (.bi .abs (.cons false (.var 2) .nil)) (.bi .int (.cons false (.cmp .GtE (.bi .abs (.cons false (.var 2) .nil)) (.op .Pow (.lit (.int 10)) (.lit (.int 18)))) .nil))) (.cons false (.op .Add (.op .Add (.op .Mod (.bi .int (.cons false (.var 2) .nil)) (.lit (.int 2305843009213693951))) (.op .Mult (.lit (.int 39373)) (.var 1))) (.lit (.int c))) (.cons false (.lit (.int 0)) .nil)))))
      .nil)) }
theorem box_ok {T : List Df} {gl : Nat → Option D} {j : Nat} {c : Int} (h : At T j (boxD c)) (hc : 0 ≤ c) (hc2 : c < 1000000000) (n : Nat) (cs : List Int) {k : Nat} (hk : k < 1000) :
    ∃ r b, run T gl (n + 1) j [.o (.l (cs.map D.int)), .v (.int k)] = some (.ok r b) ∧ b = [.o (.l (cs.map D.int)), .no] ∧ ∃ o, r = .o o ∧ Bx 0 o := by
  rw [run_at h]
  refine runD_G rfl (by simp [entry, boxD] <;> rfl) (by simp [lent] <;> rfl) (by simp [boxD] <;> rfl) fun G fin => ?_
  have first : ∃ v : Int, sx ⟨run T gl n, gl⟩ [0] (.asg (.n 2) (.ite (.cmp .Lt (.var 1) (.bi .len (.cons false (.var 0) .nil))) (.ixv 0 (.var 1)) (.lit (.int 0)))) [.o (.l (cs.map D.int)), .v (.int k), .no] = some (.nx [.o (.l (cs.map D.int)), .v (.int k), .v (.int v)]) := by
    by_cases z : k < cs.length
    · have e : L2.atI (cs.map D.int) (k : Int) = some (.int cs[k]) := by
        unfold L2.atI L2.ixN
        rw [if_pos (by omega), if_pos (by rw [List.length_map]; omega)]
        show (cs.map D.int)[((k : Nat) : Int).toNat]? = _
        rw [Int.toNat_natCast, List.getElem?_map, List.getElem?_eq_getElem z]
        rfl
      exact ⟨cs[k], by (simp [sxs, sx, ev, evL, evO, evI, mkE, E2.d, evb, evbt, evs, evp, eva, evo, evc, evr, isVar, Rs.bind, Ot.of, frz, R.dd, Ob.dd, R.sl, toR, toV, toB, toL, nxo, store, asgT, asgTs, setA, ownL, peekA, varA, putA, doOp, doCmp, doBi, doIx, truD, doCall, arRs, arR, slots, nodup, giveBack, z, e] <;> try first | rfl | exact ⟨rfl, rfl⟩)⟩
    · exact ⟨0, by (simp [sxs, sx, ev, evL, evO, evI, mkE, E2.d, evb, evbt, evs, evp, eva, evo, evc, evr, isVar, Rs.bind, Ot.of, frz, R.dd, Ob.dd, R.sl, toR, toV, toB, toL, nxo, store, asgT, asgTs, setA, ownL, peekA, varA, putA, doOp, doCmp, doBi, doIx, truD, doCall, arRs, arR, slots, nodup, giveBack, z] <;> try first | rfl | exact ⟨rfl, rfl⟩)⟩
  obtain ⟨v, e⟩ := first
  refine st e ?_
  have q1 := Int.fmod_nonneg_of_pos v (show (0 : Int) < 2305843009213693951 by decide)
  have q2 := Int.fmod_lt_of_pos v (show (0 : Int) < 2305843009213693951 by decide)
  have m1 : (-18446744073709551616 < (k : Int) ∧ (k : Int) < 18446744073709551616) := by omega
  generalize ha : (if v < 0 then -v else v) = a
  have a0 : 0 ≤ a := by rw [← ha]; split <;> omega
  by_cases g : (1000000000000000000 : Int) ≤ a
  · exact stR (by (simp [sxs, sx, ev, evL, evO, evI, mkE, E2.d, evb, evbt, evs, evp, eva, evo, evc, evr, isVar, Rs.bind, Ot.of, frz, R.dd, Ob.dd, R.sl, toR, toV, toB, toL, nxo, store, asgT, asgTs, setA, ownL, peekA, varA, putA, doOp, doCmp, doBi, doIx, truD, doCall, arRs, arR, slots, nodup, giveBack, m1, ha, g, short, most] <;> try first | rfl | exact ⟨rfl, rfl⟩)) (fin _ _ ⟨by simp [backOf], _, rfl, a, v.fmod 2305843009213693951 + 39373 * k + c, 0, by simp, a0, by omega, by omega, by omega, by omega⟩)
  · exact stR (by (simp [sxs, sx, ev, evL, evO, evI, mkE, E2.d, evb, evbt, evs, evp, eva, evo, evc, evr, isVar, Rs.bind, Ot.of, frz, R.dd, Ob.dd, R.sl, toR, toV, toB, toL, nxo, store, asgT, asgTs, setA, ownL, peekA, varA, putA, doOp, doCmp, doBi, doIx, truD, doCall, arRs, arR, slots, nodup, giveBack, m1, ha, g, short, most] <;> try first | rfl | exact ⟨rfl, rfl⟩)) (fin _ _ ⟨by simp [backOf], _, rfl, 0, v.fmod 2305843009213693951 + 39373 * k + c, 0, by simp, by omega, by omega, by omega, by omega, by omega⟩)
end Cm
namespace Cm
open PySem AI
/-- a comprehension without a condition, or one that always holds -/
theorem turns_inv {tg : D → As → Option As} {test : As → Option (Rs Bool)} {elt : As → Option (Rs D)} {wp : As → As} {Inv : As → Prop} {Py : Nat → D → Prop} : ∀ {ds acc : List D} {i : Nat} {A : As}, Inv A → acc.length + ds.length ≤ most →
    (∀ k d A, Inv A → ds[k]? = some d → ∃ A1 A2 A3 y, tg d (wp A) = some A1 ∧ test A1 = some (.ok true A2) ∧ elt A2 = some (.ok y A3) ∧ Inv A3 ∧ Py (i + k) y) →
    ∃ ys A', turns tg test elt wp ds acc A = some (.ok (acc ++ ys) A') ∧ Inv A' ∧ ys.length = ds.length ∧ ∀ k y, ys[k]? = some y → Py (i + k) y
  | [], acc, i, A, h, _, _ => ⟨[], A, by unfold turns; simp, h, rfl, fun k y e => by simp at e⟩
  | d :: ds, acc, i, A, h, hl, step => by
    obtain ⟨A1, A2, A3, y, e1, e2, e3, h3, p⟩ := step 0 d A h rfl
    rw [List.length_cons] at hl
    obtain ⟨ys, A', e4, h4, l4, p4⟩ := turns_inv (ds := ds) (acc := acc ++ [y]) (i := i + 1) (A := A3) (Inv := Inv) (Py := Py) (tg := tg) (test := test) (elt := elt) (wp := wp) h3 (by rw [List.length_append]; simp; omega) fun k d A q e => by
      obtain ⟨B1, B2, B3, z, f1, f2, f3, f4, f5⟩ := step (k + 1) d A q e
      exact ⟨B1, B2, B3, z, f1, f2, f3, f4, by rw [show i + 1 + k = i + (k + 1) by omega]; exact f5⟩
    refine ⟨y :: ys, A', ?_, h4, by rw [List.length_cons, l4]; rfl, fun k z e => ?_⟩
    · unfold turns
      rw [e1]
      dsimp only
      rw [e2]
      dsimp only
      rw [if_pos rfl, e3]
      dsimp only
      rw [if_pos (decide_eq_true (by omega)), e4, List.append_assoc]
      rfl
    · cases k with
      | zero => cases e; exact p
      | succ k => have := p4 k z (by simpa using e); rw [show i + 1 + k = i + (k + 1) by omega] at this; exact this
theorem bls_all : ∀ {ys : List D}, (∀ (k : Nat) (y : D), ys[k]? = some y → y = D.bl true) → ∃ bs, bls ys = some bs ∧ bs.all id = true
  | [], _ => ⟨[], rfl, rfl⟩
  | y :: ys, h => by
    have e : y = D.bl true := h 0 y rfl
    subst e
    obtain ⟨bs, e1, e2⟩ := bls_all (ys := ys) fun k y e => h (k + 1) y (by simpa using e)
    exact ⟨true :: bs, by unfold bls; rw [e1]; rfl, by rw [List.all_cons, e2]; rfl⟩
theorem rng_at : ∀ {n i : Nat} {lo : Int} {d : D}, (rngD lo n)[i]? = some d → d = .int (lo + i)
  | 0, _, _, _, h => by simp [rngD] at h
  | n + 1, 0, lo, d, h => by unfold rngD at h; cases h; simp
  | n + 1, i + 1, lo, d, h => by
    unfold rngD at h
    have := rng_at (n := n) (i := i) (lo := lo + 1) (by simpa using h)
    rw [this]
    congr 1
    omega
theorem comp_ok {P : Pm} {it : It} {tg : Tg} {elt : Ex} {c : Exo} {own : List Nat} {A A1 A2 : As} {ds ys : List D} (hi : evI P it A = some (.ok ds A1)) (ht : turns (asgT [] tg) (evc (evO P c)) (ev P elt).d (fun B => wipeA B own) ds [] (wipeA A1 own) = some (.ok ys A2)) :
    (ev P (.comp elt tg it c own)).v A = some (.ok (.o (.l ys)) (unwipe A1 A2 own)) := by
  show compA (evI P it) tg (ev P elt) (evO P c) own A = _
  unfold compA
  rw [hi]
  dsimp only [Rs.bind]
  rw [ht]
theorem all_ok {P : Pm} {it : It} {tg : Tg} {elt : Ex} {c : Exo} {own : List Nat} {A A1 : As} {ys : List D} (h : (ev P (.comp elt tg it c own)).v A = some (.ok (.o (.l ys)) A1)) (p : ∀ (k : Nat) (y : D), ys[k]? = some y → y = D.bl true) :
    (ev P (.bi .all (.cons false (.comp elt tg it c own) .nil))).v A = some (.ok (.v (.bl true)) A1) := by
  obtain ⟨bs, b1, b2⟩ := bls_all p
  have e : (ev P (.bi .all (.cons false (.comp elt tg it c own) .nil))).v A = Rs.bind (evp (evL P (.cons false (.comp elt tg it c own) .nil)) A) fun ds A1 => toR A1 (doBi .all ds) := rfl
  rw [e]
  simp only [evL, evp, isVar, E2.d, h, frz, Rs.bind, R.dd, Ob.dd, doBi, b1, Option.map_some, b2, toR]
theorem and_ok {P : Pm} {a b : Ex} {A A1 A2 : As} {r : R} (h1 : (ev P a).v A = some (.ok (.v (.bl true)) A1)) (h2 : (ev P b).v A1 = some (.ok r A2)) : (ev P (.bo .And (.cons false a (.cons false b .nil)))).v A = some (.ok r A2) := by
  simp only [ev, evL, evb, E2.d, h1, frz, Rs.bind, R.dd, if_true, h2]
theorem ret_ok {P : Pm} {Bs : List Nat} {e : Ex} {A A1 : As} {r : R} (hv : isVar e = none) (h : (ev P e).v A = some (.ok r A1)) : sx P Bs (.ret e) A = some (.rt r A1) := by
  simp only [sx, evr, hv, h, Ot.of]
theorem call0_ok {P : Pm} {j : Nat} {A : As} {r : R} {bk : As} (h : P.orc j [] = some (.ok r bk)) : (ev P (.call0 j)).v A = some (.ok r A) := by
  simp only [ev, mkE, h]
/-! range(len(..)): by three equations (all at once, the kernel looks into okI) -/
theorem rng1_step {P : Pm} {e : Ex} {A : As} : evI P (.rng1 e) A = Rs.bind ((ev P e).d A) fun x A1 => toL A1 (rng1I x) := rfl
theorem rng1_end {A : As} {n : Int} {ds : List D} (hr : rng1I (.int n) = some ds) : (Rs.bind (some (Rs.ok (D.int n) A)) fun x A1 => toL A1 (rng1I x)) = some (.ok ds A) := by
  show toL A (rng1I (.int n)) = _
  rw [hr]
  rfl
theorem rng1_len {n : Nat} (h : n ≤ 1000) : rng1I (.int (n : Int)) = some (rngD 0 n) := by
  have okc : okI (n : Int) = true := by
    unfold okI
    exact decide_eq_true (by omega)
  unfold rng1I
  simp only [okc, if_true, Int.toNat_natCast]
theorem len_own {P : Pm} {x y : Sl} {zs : List D} : (ev P (.bi .len (.cons false (.var 1) .nil))).d [x, .o (.l zs), y] = some (.ok (.int zs.length) [x, .o (.l zs), y]) := rfl
/-- the law's own head, with a part by hand -/
def lawD (jc jh jr jb : Nat) : Df := { nm := ⟨#[108, 97, 119]⟩, ps := [⟨#[115, 99, 114, 105, 112, 116]⟩], N := [⟨#[115, 99, 114, 105, 112, 116]⟩, ⟨#[99, 101, 108, 108, 115]⟩, ⟨#[107]⟩], nb := [], body :=
      (.cons (.asg (.n 1) (.call jc (.cons false (.var 0) (.cons false (.lit (.int 3)) .nil))))
      (.cons (.ret (.bo .And (.cons false (.call0 jh) (.cons false (.bi .all (.cons false (.comp (.call jr (.cons false (.call jb (.cons false (.var 1) (.cons false (.var 2) .nil))) .nil)) (.n 2) (.rng1 (.bi .len (.cons false (.var 1) .nil))) .none [2]) .nil)) .nil))))
      .nil)) }
theorem law_head {T : List Df} {gl : Nat → Option D} {jl jc jh jr jb : Nat} {c : Int} (hl : At T jl (lawD jc jh jr jb)) (h1 : At T jc cellsD) (h2 : At T jb (boxD c)) (hc : 0 ≤ c) (hc2 : c < 1000000000) (n : Nat) (hh : run T gl (n + 1) jh [] = some (.ok (.v (.bl true)) []))
    (hr : ∀ b, Bx 0 b → ∃ bk, run T gl (n + 1) jr [.o b] = some (.ok (.v (.bl true)) bk) ∧ bk.length = 1) (ns : List Int) (hn : ns.length ≤ 63) : ∃ back, run T gl (n + 2) jl [.v (.ro (ns.map D.int))] = some (.ok (.v (.bl true)) back) := by
  rw [run_at hl]
  obtain ⟨r, b, e1, rfl, cs, rfl, c1, c2⟩ := cells_ok (gl := gl) h1 n ns hn
  have key := runD_G (P := ⟨run T gl (n + 1), gl⟩) (f := lawD jc jh jr jb) (rs := [.v (.ro (ns.map D.int))]) (Φ := fun r _ => r = .v (.bl true)) rfl (by simp [entry, lawD] <;> rfl) (by simp [lent] <;> rfl) (by simp [lawD] <;> rfl) fun G fin => by
    refine st (A1 := [.v (.ro (ns.map D.int)), .o (.l (cs.map D.int)), .no]) (by (simp [sxs, sx, ev, evL, evO, evI, mkE, E2.d, evb, evbt, evs, evp, eva, evo, evc, evr, isVar, Rs.bind, Ot.of, frz, R.dd, Ob.dd, R.sl, toR, toV, toB, toL, nxo, store, asgT, asgTs, setA, ownL, peekA, varA, putA, doOp, doCmp, doBi, doIx, truD, doCall, arRs, arR, slots, nodup, giveBack, e1] <;> try first | rfl | exact ⟨rfl, rfl⟩)) ?_
    -- the comprehension
    have comp : ∃ ys A', (ev ⟨run T gl (n + 1), gl⟩ (.comp (.call jr (.cons false (.call jb (.cons false (.var 1) (.cons false (.var 2) .nil))) .nil)) (.n 2) (.rng1 (.bi .len (.cons false (.var 1) .nil))) .none [2])).v [.v (.ro (ns.map D.int)), .o (.l (cs.map D.int)), .no] = some (.ok (.o (.l ys)) A') ∧ ∀ (k : Nat) (y : D), ys[k]? = some y → y = D.bl true := by
      obtain ⟨ys, A', e, _, _, p⟩ := turns_inv (tg := asgT [] (.n 2)) (test := evc (evO ⟨run T gl (n + 1), gl⟩ .none)) (elt := (ev ⟨run T gl (n + 1), gl⟩ (.call jr (.cons false (.call jb (.cons false (.var 1) (.cons false (.var 2) .nil))) .nil))).d) (wp := fun B => wipeA B [2])
        (Inv := fun A => ∃ x, A = [.v (.ro (ns.map D.int)), .o (.l (cs.map D.int)), x]) (Py := fun _ y => y = D.bl true) (ds := rngD 0 cs.length) (acc := []) (i := 0) (A := [.v (.ro (ns.map D.int)), .o (.l (cs.map D.int)), .no]) ⟨_, rfl⟩ (by rw [rngD_len]; simp; exact Nat.le_trans c2 (by decide)) (by
          rintro k d A ⟨x, rfl⟩ hd
          have kl := (List.getElem?_eq_some_iff.mp hd).1
          rw [rngD_len] at kl
          have ed := rng_at hd
          subst ed
          rw [Int.zero_add]
          obtain ⟨r2, b2, e2, rfl, o, rfl, bo⟩ := box_ok (gl := gl) h2 hc hc2 n cs (k := k) (by omega)
          obtain ⟨bk, e3, lb⟩ := hr o bo
          obtain ⟨z, rfl⟩ : ∃ z, bk = [z] := by
            match bk, lb with
            | [z], _ => exact ⟨z, rfl⟩
          exact ⟨[.v (.ro (ns.map D.int)), .o (.l (cs.map D.int)), .v (.int k)], _, [.v (.ro (ns.map D.int)), .o (.l (cs.map D.int)), .v (.int k)], .bl true, by (simp [sxs, sx, ev, evL, evO, evI, mkE, E2.d, evb, evbt, evs, evp, eva, evo, evc, evr, isVar, Rs.bind, Ot.of, frz, R.dd, Ob.dd, R.sl, toR, toV, toB, toL, nxo, store, asgT, asgTs, setA, ownL, peekA, varA, putA, doOp, doCmp, doBi, doIx, truD, doCall, arRs, arR, slots, nodup, giveBack, wipeA] <;> try first | rfl | exact ⟨rfl, rfl⟩), by (simp [sxs, sx, ev, evL, evO, evI, mkE, E2.d, evb, evbt, evs, evp, eva, evo, evc, evr, isVar, Rs.bind, Ot.of, frz, R.dd, Ob.dd, R.sl, toR, toV, toB, toL, nxo, store, asgT, asgTs, setA, ownL, peekA, varA, putA, doOp, doCmp, doBi, doIx, truD, doCall, arRs, arR, slots, nodup, giveBack] <;> try first | rfl | exact ⟨rfl, rfl⟩), by (simp [sxs, sx, ev, evL, evO, evI, mkE, E2.d, evb, evbt, evs, evp, eva, evo, evc, evr, isVar, Rs.bind, Ot.of, frz, R.dd, Ob.dd, R.sl, toR, toV, toB, toL, nxo, store, asgT, asgTs, setA, ownL, peekA, varA, putA, doOp, doCmp, doBi, doIx, truD, doCall, arRs, arR, slots, nodup, giveBack, e2, e3] <;> try first | rfl | exact ⟨rfl, rfl⟩), ⟨_, rfl⟩, rfl⟩)
      rw [List.nil_append] at e
      have hi : evI ⟨run T gl (n + 1), gl⟩ (.rng1 (.bi .len (.cons false (.var 1) .nil))) [.v (.ro (ns.map D.int)), .o (.l (cs.map D.int)), .no] = some (.ok (rngD 0 cs.length) [.v (.ro (ns.map D.int)), .o (.l (cs.map D.int)), .no]) := by
        rw [rng1_step, len_own, List.length_map]
        exact rng1_end (rng1_len (by omega))
      have w : wipeA [.v (.ro (ns.map D.int)), .o (.l (cs.map D.int)), .no] [2] = [.v (.ro (ns.map D.int)), .o (.l (cs.map D.int)), .no] := rfl
      exact ⟨ys, _, comp_ok hi (w.symm ▸ e), p⟩
    obtain ⟨ys, A', e2, p⟩ := comp
    have e3 := all_ok e2 p
    exact stR (ret_ok rfl (and_ok (call0_ok hh) e3)) (fin _ _ rfl)
  obtain ⟨r, bk, e3, rfl⟩ := key
  exact ⟨bk, e3⟩
end Cm
/-! Texts in order; what is drawn out of a pool of texts. -/
namespace Cm
open PySem AI
theorem ltL_irr : ∀ {l : List Nat}, ltL l l = false
  | [] => rfl
  | a :: l => by unfold ltL; simp; exact ltL_irr
theorem ltL_tri : ∀ {a b : List Nat}, ltL a b = false → ltL b a = false → a = b
  | [], [], _, _ => rfl
  | [], _ :: _, h, _ => by simp [ltL] at h
  | _ :: _, [], _, h => by simp [ltL] at h
  | x :: l, y :: r, h1, h2 => by
    unfold ltL at h1 h2
    by_cases p : x < y
    · simp [p] at h1
    · by_cases q : y < x
      · simp [q] at h2
      · have e : x = y := by omega
        subst e
        simp at h1 h2
        rw [ltL_tri h1 h2]
theorem ltL_trans : ∀ {a b c : List Nat}, ltL a b = true → ltL b c = true → ltL a c = true
  | _, [], _, h, _ => by cases ‹List Nat› <;> simp [ltL] at h
  | _, _ :: _, [], _, h => by simp [ltL] at h
  | [], _ :: _, _ :: _, _, _ => rfl
  | x :: l, y :: r, z :: s, h1, h2 => by
    unfold ltL at h1 h2 ⊢
    by_cases p : x < y
    · by_cases q : y < z
      · rw [if_pos (by omega)]
      · rw [if_neg q] at h2
        by_cases e : y = z
        · subst e; rw [if_pos p]
        · rw [if_neg e] at h2; cases h2
    · rw [if_neg p] at h1
      by_cases e : x = y
      · subst e
        rw [if_pos rfl] at h1
        by_cases q : x < z
        · rw [if_pos q]
        · rw [if_neg q] at h2 ⊢
          by_cases e : x = z
          · subst e
            rw [if_pos rfl] at h2 ⊢
            exact ltL_trans h1 h2
          · rw [if_neg e] at h2; cases h2
      · rw [if_neg e] at h1; cases h1
theorem ltS_irr {a : Str} : ltS a a = false := ltL_irr
theorem ltS_trans {a b c : Str} (h : ltS a b = true) (k : ltS b c = true) : ltS a c = true := ltL_trans h k
theorem ltS_tri {a b : Str} (h : ltS a b = false) (ne : a ≠ b) : ltS b a = true := by
  cases k : ltS b a with
  | true => rfl
  | false =>
    have e := ltL_tri h k
    exact (ne (by cases a; cases b; simp at e; rw [e])).elim
/-- written one after the other -/
def Asc (l : List Str) : Prop := l.Pairwise fun a b => ltS a b = true
theorem mem_insS {x : Str} : ∀ {l : List Str} {a : Str}, a ∈ insS x l ↔ a = x ∨ a ∈ l
  | [], a => by simp [insS]
  | y :: r, a => by
    unfold insS
    by_cases p : ltS y x = true
    · rw [if_pos p, List.mem_cons, mem_insS, List.mem_cons]
      constructor
      · rintro (h | h | h)
        · exact .inr (.inl h)
        · exact .inl h
        · exact .inr (.inr h)
      · rintro (h | h | h)
        · exact .inr (.inl h)
        · exact .inl h
        · exact .inr (.inr h)
    · rw [if_neg p, List.mem_cons]
theorem asc_insS {x : Str} : ∀ {l : List Str}, Asc l → x ∉ l → Asc (insS x l)
  | [], _, _ => by unfold insS Asc; simp
  | y :: r, h, nx => by
    have h' := List.pairwise_cons.mp h
    unfold insS
    by_cases p : ltS y x = true
    · rw [if_pos p]
      refine List.pairwise_cons.mpr ⟨fun a m => ?_, asc_insS h'.2 fun m => nx (List.mem_cons_of_mem _ m)⟩
      rcases mem_insS.mp m with e | m
      · rw [e]; exact p
      · exact h'.1 a m
    · rw [if_neg p]
      have q : ltS x y = true := ltS_tri (by simpa using p) fun e => nx (by rw [e]; exact List.mem_cons_self)
      refine List.pairwise_cons.mpr ⟨fun a m => ?_, h⟩
      rcases List.mem_cons.mp m with e | m
      · rw [e]; exact q
      · exact ltS_trans q (h'.1 a m)
theorem mem_sortS : ∀ {l : List Str} {a : Str}, a ∈ sortS l ↔ a ∈ l
  | [], a => by simp [sortS]
  | x :: r, a => by unfold sortS; rw [mem_insS, mem_sortS, List.mem_cons]
theorem asc_sortS : ∀ {l : List Str}, l.Nodup → Asc (sortS l)
  | [], _ => by unfold sortS Asc; simp
  | x :: r, h => by
    have h' := List.nodup_cons.mp h
    unfold sortS
    exact asc_insS (asc_sortS h'.2) fun m => h'.1 (mem_sortS.mp m)
theorem len_insS {x : Str} : ∀ {l : List Str}, (insS x l).length = l.length + 1
  | [] => rfl
  | y :: r => by
    unfold insS
    by_cases p : ltS y x = true
    · rw [if_pos p, List.length_cons, len_insS, List.length_cons]
    · rw [if_neg p]; rfl
theorem len_sortS : ∀ {l : List Str}, (sortS l).length = l.length
  | [] => rfl
  | x :: r => by unfold sortS; rw [len_insS, len_sortS, List.length_cons]
theorem asc_nodup {l : List Str} (h : Asc l) : l.Nodup := by
  refine List.Pairwise.imp ?_ h
  intro a b q e
  rw [e, ltS_irr] at q
  cases q
theorem asc_sub {l m : List Str} (hl : Asc l) (h : m.Sublist l) : Asc m := List.Pairwise.sublist h hl
/-- two that ascend, one within the other -/
theorem asc_sublist : ∀ {m l : List Str}, Asc l → Asc m → (∀ a, a ∈ l → a ∈ m) → l.Sublist m
  | [], l, _, _, h => by
    cases l with
    | nil => exact List.Sublist.refl _
    | cons a r => exact (by simpa using h a List.mem_cons_self)
  | b :: m, [], _, _, _ => List.nil_sublist _
  | b :: m, a :: l, hl, hm, h => by
    have hl' := List.pairwise_cons.mp hl
    have hm' := List.pairwise_cons.mp hm
    by_cases e : a = b
    · subst e
      refine List.Sublist.cons_cons a (asc_sublist hl'.2 hm'.2 fun c q => ?_)
      rcases List.mem_cons.mp (h c (List.mem_cons_of_mem _ q)) with e | k
      · have := hl'.1 c q
        rw [e, ltS_irr] at this
        cases this
      · exact k
    · refine List.Sublist.cons b (asc_sublist hl hm'.2 fun c q => ?_)
      rcases List.mem_cons.mp (h c q) with e2 | k
      · exfalso
        have ha := List.mem_cons.mp (h a List.mem_cons_self)
        rcases ha with e3 | k
        · exact e e3
        · have q1 := hm'.1 a k
          rcases List.mem_cons.mp q with e3 | k2
          · exact e (e3 ▸ e2 ▸ rfl)
          · have q2 := hl'.1 c k2
            rw [e2] at q2
            have := ltS_trans q1 q2
            rw [ltS_irr] at this
            cases this
      · exact k
theorem sortS_sub {l m : List Str} (hl : l.Nodup) (hm : Asc m) (h : ∀ a, a ∈ l → a ∈ m) : (sortS l).Sublist m := asc_sublist (asc_sortS hl) hm fun a q => h a (mem_sortS.mp q)
theorem dedupS_nodup : ∀ {l : List Str}, l.Nodup → dedupS l = l
  | [], _ => rfl
  | x :: r, h => by
    have h' := List.nodup_cons.mp h
    unfold dedupS
    rw [if_neg h'.1, dedupS_nodup h'.2]
/-- all parts of a list -/
def subl {α : Type} : List α → List (List α)
  | [] => [[]]
  | a :: l => subl l ++ (subl l).map (a :: ·)
theorem mem_subl {α : Type} : ∀ {m l : List α}, l.Sublist m → l ∈ subl m
  | [], l, h => by
    cases h
    simp [subl]
  | a :: m, l, h => by
    unfold subl
    cases h with
    | cons _ h => exact List.mem_append_left _ (mem_subl h)
    | cons_cons _ h => exact List.mem_append_right _ (List.mem_map.mpr ⟨_, mem_subl h, rfl⟩)
def strOf : D → Str
  | .str s => s
  | _ => ⟨#[]⟩
theorem map_strOf (l : List Str) : (l.map D.str).map strOf = l := by
  rw [List.map_map]
  exact List.map_id _
theorem strs_of_mem : ∀ {xs : List D}, (∀ x, x ∈ xs → ∃ s, x = D.str s) → ∃ ss : List Str, xs = ss.map D.str
  | [], _ => ⟨[], rfl⟩
  | x :: xs, h => by
    obtain ⟨s, rfl⟩ := h x List.mem_cons_self
    obtain ⟨ss, rfl⟩ := strs_of_mem (xs := xs) fun y m => h y (List.mem_cons_of_mem _ m)
    exact ⟨s :: ss, rfl⟩
theorem pick_strs {xs rest : List D} {ts : List Str} (h : (xs ++ rest).Perm (ts.map D.str)) (nd : ts.Nodup) : ∃ ss : List Str, xs = ss.map D.str ∧ ss.Nodup ∧ ∀ a, a ∈ ss → a ∈ ts := by
  have hm : ∀ x, x ∈ xs ++ rest → ∃ s, x = D.str s := fun x m => by
    obtain ⟨s, _, e⟩ := List.mem_map.mp (h.mem_iff.mp m)
    exact ⟨s, e.symm⟩
  obtain ⟨ss, rfl⟩ := strs_of_mem (xs := xs) fun x m => hm x (List.mem_append_left _ m)
  obtain ⟨rs, rfl⟩ := strs_of_mem (xs := rest) fun x m => hm x (List.mem_append_right _ m)
  rw [← List.map_append] at h
  have h2 := h.map strOf
  rw [map_strOf, map_strOf] at h2
  have nd2 := h2.nodup_iff.mpr nd
  exact ⟨ss, rfl, (List.nodup_append.mp nd2).1, fun a m => h2.mem_iff.mp (List.mem_append_left _ m)⟩
theorem strsD_map : ∀ {l : List Str}, strsD (l.map D.str) = some l
  | [] => rfl
  | x :: r => by
    show (strsD (r.map D.str)).map _ = _
    rw [strsD_map]
    rfl
theorem sortD_strs {l : List Str} (h : l.length < 64) : sortD (l.map D.str) = some ((sortS l).map D.str) := by
  unfold sortD
  rw [if_pos (by rw [List.length_map]; exact h)]
  cases l with
  | nil => rfl
  | cons a r =>
    have e : intsD ((a :: r).map D.str) = none := rfl
    rw [e]
    dsimp only
    rw [strsD_map]
/-- a comprehension with any condition -/
theorem turns_any {tg : D → As → Option As} {test : As → Option (Rs Bool)} {elt : As → Option (Rs D)} {wp : As → As} {Inv : Nat → List D → As → Prop} : ∀ {ds acc : List D} {i : Nat} {A : As}, Inv i acc A → acc.length + ds.length ≤ most →
    (∀ k d acc A, Inv (i + k) acc A → ds[k]? = some d → ∃ A1 A2 b, tg d (wp A) = some A1 ∧ test A1 = some (.ok b A2) ∧ (b = false → Inv (i + k + 1) acc A2) ∧ (b = true → ∃ y A3, elt A2 = some (.ok y A3) ∧ Inv (i + k + 1) (acc ++ [y]) A3)) →
    ∃ ys A', turns tg test elt wp ds acc A = some (.ok ys A') ∧ Inv (i + ds.length) ys A'
  | [], acc, i, A, h, _, _ => ⟨acc, A, rfl, h⟩
  | d :: ds, acc, i, A, h, hl, step => by
    rw [List.length_cons] at hl
    obtain ⟨A1, A2, b, e1, e2, hf, ht⟩ := step 0 d acc A h rfl
    have nxt : ∀ k d acc A, Inv (i + 1 + k) acc A → ds[k]? = some d → ∃ A1 A2 b, tg d (wp A) = some A1 ∧ test A1 = some (.ok b A2) ∧ (b = false → Inv (i + 1 + k + 1) acc A2) ∧ (b = true → ∃ y A3, elt A2 = some (.ok y A3) ∧ Inv (i + 1 + k + 1) (acc ++ [y]) A3) := fun k d acc A q e => by
      have := step (k + 1) d acc A (by rw [show i + (k + 1) = i + 1 + k by omega]; exact q) (by simpa using e)
      rw [show i + (k + 1) + 1 = i + 1 + k + 1 by omega] at this
      exact this
    unfold turns
    rw [e1]
    dsimp only
    rw [e2]
    dsimp only
    rw [List.length_cons, show i + (ds.length + 1) = i + 1 + ds.length by omega]
    cases b with
    | false =>
      rw [if_neg (by decide)]
      exact turns_any (i := i + 1) (hf rfl) (by omega) nxt
    | true =>
      obtain ⟨y, A3, e3, h3⟩ := ht rfl
      rw [if_pos rfl, e3]
      dsimp only
      rw [if_pos (decide_eq_true (by omega))]
      exact turns_any (i := i + 1) (acc := acc ++ [y]) h3 (by rw [List.length_append]; simp; omega) nxt
end Cm
/-! _law_row: a drawn row. -/
namespace Cm
open PySem AI
def sa : Str := ⟨#[97]⟩
def sCopy : Str := ⟨#[99, 111, 112, 121]⟩
def six : List Str := [⟨#[97]⟩, ⟨#[98]⟩, ⟨#[99]⟩, ⟨#[99, 101, 108, 108]⟩, ⟨#[109, 97, 114, 107]⟩, ⟨#[116, 111]⟩]
def fns : List Str := [⟨#[102]⟩, ⟨#[103]⟩, ⟨#[109, 97, 114, 107]⟩, ⟨#[99, 101, 108, 108, 115]⟩]
theorem six_asc : Asc six := by unfold Asc; decide
/-- a drawn move -/
structure Mv (ts : List Str) (d : D) : Prop where
  ex : ∃ (nm : Str) (reads : List Str) (cell : Str), d = .tup [.str nm, .tup (reads.map D.str), .str cell] ∧ reads.Nodup ∧ (∀ a, a ∈ reads → a ∈ ts) ∧ reads.length ≤ 3 ∧ cell ∈ ts ∧ (nm = sCopy ∧ reads.length = 1 ∨ nm ∈ fns)
/-- a drawn row -/
structure Rw (c m : Nat) (d : D) : Prop where
  ex : ∃ (ts wd : List Str) (acts : List D) (sp : List Int), d = .tup [.tup (ts.map D.str), .tup (wd.map D.str), .tup acts, .tup (sp.map D.int)] ∧ ts.Sublist six ∧ 2 ≤ ts.length ∧ ts.length ≤ c ∧ wd.Sublist ts ∧ wd ≠ [] ∧ acts.length ≤ m ∧ (∀ a, a ∈ acts → Mv ts a) ∧ sp.Pairwise (· < ·) ∧ ∀ k, k ∈ sp → 1 ≤ k ∧ k < acts.length
def rowD (jt jo jp : Nat) : Df := { nm := ⟨#[95, 108, 97, 119, 95, 114, 111, 119]⟩, ps := [⟨#[98, 111, 120]⟩, ⟨#[99, 101, 108, 108, 115, 95, 115, 111]⟩, ⟨#[109, 111, 118, 101, 115, 95, 115, 111]⟩], N := [⟨#[98, 111, 120]⟩, ⟨#[99, 101, 108, 108, 115, 95, 115, 111]⟩, ⟨#[109, 111, 118, 101, 115, 95, 115, 111]⟩, ⟨#[116, 97, 103, 115]⟩, ⟨#[97, 99, 116, 115]⟩, ⟨#[108, 97, 112]⟩, ⟨#[114, 101, 97, 100, 115, 95, 115, 111]⟩, ⟨#[115, 112, 111, 116, 115, 95, 115, 111]⟩, ⟨#[107]⟩, ⟨#[119, 97, 110, 116, 101, 100, 95, 115, 111]⟩], nb := [], body :=
      (.cons (.asg (.n 3) (.bi .sorted (.cons false (.call jp (.cons false (.var 0) (.cons false (.lst (.cons false (.lit (.str ⟨#[97]⟩)) (.cons false (.lit (.str ⟨#[98]⟩)) (.cons false (.lit (.str ⟨#[99]⟩)) (.cons false (.lit (.str ⟨#[99, 101, 108, 108]⟩)) (.cons false (.lit (.str ⟨#[109, 97, 114, 107]⟩)) (.cons false (.lit (.str ⟨#[116, 111]⟩)) .nil))))))) (.cons false (.op .Add (.lit (.int 2)) (.call jt (.cons false (.var 0) (.cons false (.op .Sub (.var 1) (.lit (.int 1))) .nil)))) .nil)))) .nil)))
      (.cons (.asg (.n 4) (.lst .nil))
      (.cons (.for (.n 5) (.rng1 (.call jt (.cons false (.var 0) (.cons false (.op .Add (.var 2) (.lit (.int 1))) .nil)))) (.cons (.asg (.n 6) (.call jp (.cons false (.var 0) (.cons false (.var 3) (.cons false (.call jt (.cons false (.var 0) (.cons false (.op .Add (.bi .min2 (.cons false (.lit (.int 3)) (.cons false (.bi .len (.cons false (.var 3) .nil)) .nil))) (.lit (.int 1))) .nil))) .nil)))))
      (.cons (.ife (.bo .And (.cons false (.cmp .Eq (.bi .len (.cons false (.var 6) .nil)) (.lit (.int 1))) (.cons false (.cmp .Eq (.call jt (.cons false (.var 0) (.cons false (.lit (.int 2)) .nil))) (.lit (.int 0))) .nil))) (.cons (.expr (.app 4 (.tup (.cons false (.lit (.str ⟨#[99, 111, 112, 121]⟩)) (.cons false (.bi .tuple (.cons false (.var 6) .nil)) (.cons false (.call jo (.cons false (.var 0) (.cons false (.var 3) .nil))) .nil))))))
      .nil) (.cons (.expr (.app 4 (.tup (.cons false (.call jo (.cons false (.var 0) (.cons false (.lst (.cons false (.lit (.str ⟨#[102]⟩)) (.cons false (.lit (.str ⟨#[103]⟩)) (.cons false (.lit (.str ⟨#[109, 97, 114, 107]⟩)) (.cons false (.lit (.str ⟨#[99, 101, 108, 108, 115]⟩)) .nil))))) .nil))) (.cons false (.bi .tuple (.cons false (.var 6) .nil)) (.cons false (.call jo (.cons false (.var 0) (.cons false (.var 3) .nil))) .nil))))))
      .nil))
      .nil)))
      (.cons (.asg (.n 7) (.bi .tuple (.cons false (.comp (.var 8) (.n 8) (.e (.sl (.lrng (.bi .len (.cons false (.var 4) .nil))) (.some (.lit (.int 1))) .none)) (.some (.cmp .Eq (.call jt (.cons false (.var 0) (.cons false (.lit (.int 3)) .nil))) (.lit (.int 0)))) [8]) .nil)))
      (.cons (.asg (.n 9) (.bi .sorted (.cons false (.call jp (.cons false (.var 0) (.cons false (.var 3) (.cons false (.op .Add (.lit (.int 1)) (.call jt (.cons false (.var 0) (.cons false (.bi .len (.cons false (.var 3) .nil)) .nil)))) .nil)))) .nil)))
      (.cons (.ret (.tup (.cons false (.bi .tuple (.cons false (.var 3) .nil)) (.cons false (.bi .tuple (.cons false (.var 9) .nil)) (.cons false (.bi .tuple (.cons false (.var 4) .nil)) (.cons false (.var 7) .nil))))))
      .nil)))))) }
section
variable {P : Pm} {Bs : List Nat} {G : Option Ot → Prop}
theorem stEnd {A : As} (h : G (some (.nx A))) : G (K P Bs [] (sxs P Bs .nil A)) := by
  unfold K sxs
  exact h
/-- a loop, its body by steps -/
theorem stForG {tg : Tg} {it : It} {b r : Sms} {ks : List Sms} {A A1 : As} {ds : List D} (Inv : Nat → As → Prop) (h : evI P it A = some (.ok ds A1)) (h0 : Inv 0 A1)
    (step : ∀ k d A, Inv k A → ds[k]? = some d → ∃ A1, asgT Bs tg d A = some A1 ∧ ∀ G : Option Ot → Prop, (∀ A, Inv (k + 1) A → G (some (.nx A))) → G (K P Bs [] (sxs P Bs b A1)))
    (fin : ∀ A', Inv ds.length A' → G (K P Bs ks (sxs P Bs r A'))) : G (K P Bs ks (sxs P Bs (.cons (.for tg it b) r) A)) := by
  refine stFor Inv h h0 (fun k d A hi hd => ?_) fin
  obtain ⟨A1, e1, s⟩ := step k d A hi hd
  obtain ⟨A2, e2, h2⟩ := s (fun o => ∃ A2, o = some (.nx A2) ∧ Inv (k + 1) A2) fun A h => ⟨A, rfl, h⟩
  exact ⟨A1, A2, e1, .inl e2, h2⟩
end
theorem eqD_int {i j : Int} : eqD (.int i) (.int j) = some (decide (i = j)) := by
  simp [eqD, toPD, SeqAt.shaped, PyData.canLay0, PyData.depth, PyData.eqv]
  rfl
theorem rngD_drop : ∀ {L : Nat} {lo : Int}, (rngD lo L).drop 1 = rngD (lo + 1) (L - 1)
  | 0, _ => rfl
  | L + 1, _ => rfl
theorem cut_one {ds : List D} : cutD ds (some 1) none = ds.drop 1 := by
  cases ds with
  | nil => rfl
  | cons a r =>
    have h : ¬ ((1 : Int) < 0) := by omega
    have e : min 1 (r.length + 1) = 1 := by omega
    simp [cutD, HT.sIx, h, e]
theorem rng_drop {L : Nat} : cutD (rngD 0 L) (some 1) none = rngD 1 (L - 1) := by
  rw [cut_one, rngD_drop]
  rfl
theorem asg_ok {P : Pm} {Bs : List Nat} {i : Nat} {e : Ex} {A A1 A2 : As} {r : R} (h : (ev P e).v A = some (.ok r A1)) (hs : store Bs i r.sl A1 = some A2) : sx P Bs (.asg (.n i) e) A = some (.nx A2) := by
  simp only [sx, h, Ot.of, hs, nxo]
theorem bi_comp {P : Pm} {b : Bi} {it : It} {tg : Tg} {elt : Ex} {c : Exo} {own : List Nat} {A A1 : As} {ys : List D} {r : R} (h : (ev P (.comp elt tg it c own)).v A = some (.ok (.o (.l ys)) A1)) (hb : doBi b [.lst ys] = some r) : (ev P (.bi b (.cons false (.comp elt tg it c own) .nil))).v A = some (.ok r A1) := by
  have e3 : (ev P (.bi b (.cons false (.comp elt tg it c own) .nil))).v A = Rs.bind (evp (evL P (.cons false (.comp elt tg it c own) .nil)) A) fun ds A1 => toR A1 (doBi b ds) := rfl
  rw [e3]
  simp only [evL, evp, isVar, E2.d, h, frz, Rs.bind, R.dd, Ob.dd, hb, toR]
theorem lrng_ok {P : Pm} {a : Ex} {A A1 : As} {n : Int} {ds : List D} (h : (ev P a).d A = some (.ok (.int n) A1)) (hr : rng1I (.int n) = some ds) (hs : short ds = true) : (ev P (.lrng a)).d A = some (.ok (.lst ds) A1) := by
  have e : (ev P (.lrng a)).v A = Rs.bind ((ev P a).d A) fun x A1 => toR A1 ((rng1I x).bind fun ds => if short ds then some (.o (.l ds)) else none) := rfl
  have e2 : (ev P (.lrng a)).v A = toR A1 ((rng1I (.int n)).bind fun ds => if short ds then some (.o (.l ds)) else none) := by rw [e, h]; rfl
  rw [hr] at e2
  have e3 : (some ds).bind (fun ds => if short ds then some (R.o (.l ds)) else none) = some (.o (.l ds)) := by
    show (if short ds then some (R.o (.l ds)) else none) = _
    rw [if_pos hs]
  rw [e3] at e2
  simp only [E2.d, e2, toR, frz, R.dd, Ob.dd]
theorem from1_ok {P : Pm} {a : Ex} {A A1 : As} {ds : List D} (h : (ev P a).d A = some (.ok (.lst ds) A1)) : evI P (.e (.sl a (.some (.lit (.int 1))) .none)) A = some (.ok (cutD ds (some 1) none) A1) := by
  have e : evI P (.e (.sl a (.some (.lit (.int 1))) .none)) A = Rs.bind (frz (Rs.bind ((ev P a).d A) fun x A1 => Rs.bind (optI (evo (evO P (.some (.lit (.int 1)))) A1)) fun l A2 => Rs.bind (optI (evo (evO P .none) A2)) fun h A3 => toR A3 (doSl x l h))) fun x A1 => toL A1 (itD x) := rfl
  have o : optI (evo (evO P (.some (.lit (.int 1)))) A1) = some (.ok (some 1) A1) := by
    show (if okI 1 then some (Rs.ok (some (1 : Int)) A1) else none) = _
    rw [if_pos (by decide)]
  rw [e, h]
  show Rs.bind (frz (Rs.bind (optI (evo (evO P (.some (.lit (.int 1)))) A1)) fun l A2 => Rs.bind (optI (evo (evO P .none) A2)) fun h A3 => toR A3 (doSl (.lst ds) l h))) (fun x A1 => toL A1 (itD x)) = _
  rw [o]
  rfl
theorem of_strs {T : List Df} {gl : Nat → Option D} {j jt : Nat} (h : At T j (of jt)) (ht : At T jt take) (n : Nat) {t : Int} {b : Ob} (hb : Bx t b) (lt : t < 1000000) {ss : List Str} (ne : ss ≠ []) (hl : ss.length < 1000) :
    ∃ (s : Str) (b' : Ob), run T gl (n + 2) j [.o b, .o (.l (ss.map D.str))] = some (.ok (.v (.str s)) [.o b', .o (.l (ss.map D.str))]) ∧ s ∈ ss ∧ Bx (t + 1) b' := by
  obtain ⟨d, b', e, m, q⟩ := of_own (gl := gl) h ht n hb lt (ds := ss.map D.str) (by simpa using ne) (by rw [List.length_map]; exact hl)
  obtain ⟨s, m2, rfl⟩ := List.mem_map.mp m
  exact ⟨s, b', e, m2, q⟩
theorem pick_sorted {T : List Df} {gl : Nat → Option D} {j jt : Nat} (h : At T j (pick jt)) (ht : At T jt take) (n : Nat) {t : Int} {b : Ob} (hb : Bx t b) (h0 : 0 ≤ t) (lt : t < 900000) {ts : List Str} (ha : Asc ts) (hl : ts.length < 60) {k : Int} (hk : 0 ≤ k) (hk2 : k < 1000) :
    ∃ (ss : List Str) (b' : Ob), run T gl (n + 2) j [.o b, .o (.l (ts.map D.str)), .v (.int k)] = some (.ok (.o (.l (ss.map D.str))) [.o b', .o (.l (ts.map D.str)), .no]) ∧ ss.Nodup ∧ (∀ a, a ∈ ss → a ∈ ts) ∧ ss.length = min k.toNat ts.length ∧ Bx (t + 1000) b' ∧ sortD (ss.map D.str) = some ((sortS ss).map D.str) ∧ (sortS ss).Sublist ts ∧ (sortS ss).length = min k.toNat ts.length := by
  obtain ⟨xs, rest, b', e, p, q1, q2⟩ := pick_own (gl := gl) h ht n hb h0 lt (ds := ts.map D.str) (by rw [List.length_map]; omega) hk hk2
  obtain ⟨ss, rfl, nd, sub⟩ := pick_strs p (asc_nodup ha)
  rw [List.length_map, List.length_map] at q1
  exact ⟨ss, b', e, nd, sub, q1, q2, sortD_strs (by omega), sortS_sub nd ha sub, by rw [len_sortS]; exact q1⟩
def rowSix : Ex := .lst (.cons false (.lit (.str ⟨#[97]⟩)) (.cons false (.lit (.str ⟨#[98]⟩)) (.cons false (.lit (.str ⟨#[99]⟩)) (.cons false (.lit (.str ⟨#[99, 101, 108, 108]⟩)) (.cons false (.lit (.str ⟨#[109, 97, 114, 107]⟩)) (.cons false (.lit (.str ⟨#[116, 111]⟩)) .nil))))))
theorem row_ok {T : List Df} {gl : Nat → Option D} {j jt jo jp : Nat} (h : At T j (rowD jt jo jp)) (ht : At T jt take) (ho : At T jo (of jt)) (hp : At T jp (pick jt)) (n : Nat) {t : Int} {b : Ob} (hb : Bx t b) (h0 : 0 ≤ t) (lt : t < 700000) {c m : Nat} (hc : 2 ≤ c) (hc2 : c ≤ 5) (hm : m ≤ 20) :
    ∃ r bk, run T gl (n + 3) j [.o b, .v (.int c), .v (.int m)] = some (.ok r bk) ∧ ∃ (d : D) (b' : Ob), r = .v d ∧ bk = [.o b', .no, .no] ∧ Rw c m d ∧ Bx (t + 50000) b' := by
  rw [run_at h]
  refine runD_G rfl (by simp [entry, rowD] <;> rfl) (by simp [lent] <;> rfl) (by simp [rowD] <;> rfl) fun G fin => ?_
  -- tags
  obtain ⟨v1, b1, e1, p1, p2, hb1⟩ := take_bx (gl := gl) ht (n + 1) hb (by omega) (k := (c : Int) - 1) (by omega) (by omega)
  obtain ⟨ss, b2, e2, nd, sub, ln, hb2, sd, sl, ln2⟩ := pick_sorted (gl := gl) hp ht n hb1 (by omega) (by omega) six_asc (by decide) (k := 2 + v1) (by omega) (by omega)
  have e2' : run T gl (n + 2) jp [.o b1, .o (.l [.str ⟨#[97]⟩, .str ⟨#[98]⟩, .str ⟨#[99]⟩, .str ⟨#[99, 101, 108, 108]⟩, .str ⟨#[109, 97, 114, 107]⟩, .str ⟨#[116, 111]⟩]), .v (.int (2 + v1))] = some (.ok (.o (.l (ss.map D.str))) [.o b2, .o (.l [.str ⟨#[97]⟩, .str ⟨#[98]⟩, .str ⟨#[99]⟩, .str ⟨#[99, 101, 108, 108]⟩, .str ⟨#[109, 97, 114, 107]⟩, .str ⟨#[116, 111]⟩]), .no]) := e2
  refine st (A1 := [.o b2, .v (.int c), .v (.int m), .o (.l ((sortS ss).map D.str)), .no, .no, .no, .no, .no, .no]) (by (simp [sxs, sx, ev, evL, evO, evI, mkE, E2.d, evb, evbt, evs, evp, eva, evo, evc, evr, isVar, Rs.bind, Ot.of, frz, R.dd, Ob.dd, R.sl, toR, toV, toB, toL, nxo, store, asgT, asgTs, setA, ownL, peekA, varA, putA, doOp, doCmp, doBi, doIx, truD, doCall, arRs, arR, slots, nodup, giveBack, e1, e2', sd, short, most] <;> try first | rfl | exact ⟨rfl, rfl⟩)) ?_
  have six6 : six.length = 6 := rfl
  rw [six6] at ln2
  generalize hts : sortS ss = ts at sl ln2
  have ta : Asc ts := asc_sub six_asc sl
  have tl : 2 ≤ ts.length ∧ ts.length ≤ c := by omega
  have tne : ts ≠ [] := by intro z; rw [z] at tl; simp at tl
  refine st (A1 := [.o b2, .v (.int c), .v (.int m), .o (.l (ts.map D.str)), .o (.l []), .no, .no, .no, .no, .no]) (by (simp [sxs, sx, ev, evL, evO, evI, mkE, E2.d, evb, evbt, evs, evp, eva, evo, evc, evr, isVar, Rs.bind, Ot.of, frz, R.dd, Ob.dd, R.sl, toR, toV, toB, toL, nxo, store, asgT, asgTs, setA, ownL, peekA, varA, putA, doOp, doCmp, doBi, doIx, truD, doCall, arRs, arR, slots, nodup, giveBack, short, most] <;> try first | rfl | exact ⟨rfl, rfl⟩)) ?_
  -- acts
  obtain ⟨v2, b3, e3, p3, p4, hb3⟩ := take_bx (gl := gl) ht (n + 1) hb2 (by omega) (k := (m : Int) + 1) (by omega) (by omega)
  obtain ⟨w, rfl⟩ : ∃ w : Nat, v2 = w := ⟨v2.toNat, by omega⟩
  have he : (ev ⟨run T gl (n + 2), gl⟩ (.call jt (.cons false (.var 0) (.cons false (.op .Add (.var 2) (.lit (.int 1))) .nil)))).d [.o b2, .v (.int c), .v (.int m), .o (.l (ts.map D.str)), .o (.l []), .no, .no, .no, .no, .no] = some (.ok (.int w) [.o b3, .v (.int c), .v (.int m), .o (.l (ts.map D.str)), .o (.l []), .no, .no, .no, .no, .no]) := by (simp [sxs, sx, ev, evL, evO, evI, mkE, E2.d, evb, evbt, evs, evp, eva, evo, evc, evr, isVar, Rs.bind, Ot.of, frz, R.dd, Ob.dd, R.sl, toR, toV, toB, toL, nxo, store, asgT, asgTs, setA, ownL, peekA, varA, putA, doOp, doCmp, doBi, doIx, truD, doCall, arRs, arR, slots, nodup, giveBack, e3] <;> try first | rfl | exact ⟨rfl, rfl⟩)
  refine stForG (ds := rngD 0 w) (A1 := [.o b3, .v (.int c), .v (.int m), .o (.l (ts.map D.str)), .o (.l []), .no, .no, .no, .no, .no]) (fun i A => ∃ (b' : Ob) (acts : List D) (x5 x6 : Sl), A = [.o b', .v (.int c), .v (.int m), .o (.l (ts.map D.str)), .o (.l acts), x5, x6, .no, .no, .no] ∧ acts.length = i ∧ (∀ a, a ∈ acts → Mv ts a) ∧ Bx (t + 1002 + 2000 * i) b') (by rw [rng1_step, he]; exact rng1_end (rng1_len (by omega))) ⟨b3, [], .no, .no, rfl, rfl, fun a m => (by simp at m), hb3.mono (by omega)⟩ ?_ ?_
  · rintro i d A ⟨b', acts, x5, x6, rfl, al, am, hb'⟩ hd
    have il : i < w := by have := (List.getElem?_eq_some_iff.mp hd).1; rw [rngD_len] at this; exact this
    refine ⟨[.o b', .v (.int c), .v (.int m), .o (.l (ts.map D.str)), .o (.l acts), .v d, x6, .no, .no, .no], by (simp [sxs, sx, ev, evL, evO, evI, mkE, E2.d, evb, evbt, evs, evp, eva, evo, evc, evr, isVar, Rs.bind, Ot.of, frz, R.dd, Ob.dd, R.sl, toR, toV, toB, toL, nxo, store, asgT, asgTs, setA, ownL, peekA, varA, putA, doOp, doCmp, doBi, doIx, truD, doCall, arRs, arR, slots, nodup, giveBack] <;> try first | rfl | exact ⟨rfl, rfl⟩), fun G fin => ?_⟩
    have sh : acts.length ≤ 1000000 := by omega
    -- reads
    obtain ⟨v4, b4, e4, p5, p6, hb4⟩ := take_bx (gl := gl) ht (n + 1) hb' (by omega) (k := (if (ts.length : Int) < 3 then (ts.length : Int) else 3) + 1) (by split <;> omega) (by split <;> omega)
    obtain ⟨rs, b5, e5, rnd, rsub, rln, hb5, _⟩ := pick_sorted (gl := gl) hp ht n hb4 (by omega) (by omega) ta (by omega) (k := v4) (by omega) (by split at p6 <;> omega)
    have rl : rs.length ≤ 3 := by split at p6 <;> omega
    refine st (A1 := [.o b5, .v (.int c), .v (.int m), .o (.l (ts.map D.str)), .o (.l acts), .v d, .o (.l (rs.map D.str)), .no, .no, .no]) (by (simp [sxs, sx, ev, evL, evO, evI, mkE, E2.d, evb, evbt, evs, evp, eva, evo, evc, evr, isVar, Rs.bind, Ot.of, frz, R.dd, Ob.dd, R.sl, toR, toV, toB, toL, nxo, store, asgT, asgTs, setA, ownL, peekA, varA, putA, doOp, doCmp, doBi, doIx, truD, doCall, arRs, arR, slots, nodup, giveBack, e4, e5] <;> try first | rfl | exact ⟨rfl, rfl⟩)) ?_
    -- copy, or not
    have cond : ∃ (bb : Bool) (b6 : Ob), (ev ⟨run T gl (n + 2), gl⟩ (.bo .And (.cons false (.cmp .Eq (.bi .len (.cons false (.var 6) .nil)) (.lit (.int 1))) (.cons false (.cmp .Eq (.call jt (.cons false (.var 0) (.cons false (.lit (.int 2)) .nil))) (.lit (.int 0))) .nil)))).t [.o b5, .v (.int c), .v (.int m), .o (.l (ts.map D.str)), .o (.l acts), .v d, .o (.l (rs.map D.str)), .no, .no, .no] = some (.ok bb [.o b6, .v (.int c), .v (.int m), .o (.l (ts.map D.str)), .o (.l acts), .v d, .o (.l (rs.map D.str)), .no, .no, .no]) ∧ (bb = true → rs.length = 1) ∧ Bx (t + 1002 + 2000 * i + 1002) b6 := by
      by_cases one : rs.length = 1
      · obtain ⟨v6, b6, e6, _, _, hb6⟩ := take_bx (gl := gl) ht (n + 1) hb5 (by omega) (k := 2) (by omega) (by omega)
        exact ⟨decide (v6 = 0), b6, by (simp [sxs, sx, ev, evL, evO, evI, mkE, E2.d, evb, evbt, evs, evp, eva, evo, evc, evr, isVar, Rs.bind, Ot.of, frz, R.dd, Ob.dd, R.sl, toR, toV, toB, toL, nxo, store, asgT, asgTs, setA, ownL, peekA, varA, putA, doOp, doCmp, doBi, doIx, truD, doCall, arRs, arR, slots, nodup, giveBack, eqD_int, one, e6] <;> try first | rfl | exact ⟨rfl, rfl⟩), fun _ => one, hb6.mono (by omega)⟩
      · have one' : ¬ ((rs.length : Int) = 1) := by omega
        exact ⟨false, b5, by (simp [sxs, sx, ev, evL, evO, evI, mkE, E2.d, evb, evbt, evs, evp, eva, evo, evc, evr, isVar, Rs.bind, Ot.of, frz, R.dd, Ob.dd, R.sl, toR, toV, toB, toL, nxo, store, asgT, asgTs, setA, ownL, peekA, varA, putA, doOp, doCmp, doBi, doIx, truD, doCall, arRs, arR, slots, nodup, giveBack, eqD_int, one'] <;> try first | rfl | exact ⟨rfl, rfl⟩), fun z => (by cases z), hb5.mono (by omega)⟩
    obtain ⟨bb, b6, ec, h1, hb6⟩ := cond
    obtain ⟨s7, b7, e7, m7, hb7⟩ := of_strs (gl := gl) ho ht n hb6 (by omega) tne (by omega)
    cases bb with
    | true =>
      refine stT ec ?_
      refine st (A1 := [.o b7, .v (.int c), .v (.int m), .o (.l (ts.map D.str)), .o (.l (acts ++ [.tup [.str sCopy, .tup (rs.map D.str), .str s7]])), .v d, .o (.l (rs.map D.str)), .no, .no, .no]) (by (simp [sxs, sx, ev, evL, evO, evI, mkE, E2.d, evb, evbt, evs, evp, eva, evo, evc, evr, isVar, Rs.bind, Ot.of, frz, R.dd, Ob.dd, R.sl, toR, toV, toB, toL, nxo, store, asgT, asgTs, setA, ownL, peekA, varA, putA, doOp, doCmp, doBi, doIx, truD, doCall, arRs, arR, slots, nodup, giveBack, e7, appA, sh, short, most, sCopy] <;> try first | rfl | exact ⟨rfl, rfl⟩)) ?_
      refine stNil (stEnd (fin _ ⟨_, _, _, _, rfl, by simp [al], fun a q => ?_, hb7.mono (by omega)⟩))
      rcases List.mem_append.mp q with q | q
      · exact am a q
      · rw [List.mem_singleton.mp q]
        exact ⟨_, _, _, rfl, rnd, rsub, rl, m7, .inl ⟨rfl, h1 rfl⟩⟩
    | false =>
      refine stF ec ?_
      obtain ⟨s8, b8, e8, m8, hb8⟩ := of_strs (gl := gl) ho ht n hb6 (by omega) (ss := fns) (by decide) (by decide)
      have e8' : run T gl (n + 2) jo [.o b6, .o (.l [.str ⟨#[102]⟩, .str ⟨#[103]⟩, .str ⟨#[109, 97, 114, 107]⟩, .str ⟨#[99, 101, 108, 108, 115]⟩])] = some (.ok (.v (.str s8)) [.o b8, .o (.l [.str ⟨#[102]⟩, .str ⟨#[103]⟩, .str ⟨#[109, 97, 114, 107]⟩, .str ⟨#[99, 101, 108, 108, 115]⟩])]) := e8
      obtain ⟨s9, b9, e9, m9, hb9⟩ := of_strs (gl := gl) ho ht n hb8 (by omega) tne (by omega)
      refine st (A1 := [.o b9, .v (.int c), .v (.int m), .o (.l (ts.map D.str)), .o (.l (acts ++ [.tup [.str s8, .tup (rs.map D.str), .str s9]])), .v d, .o (.l (rs.map D.str)), .no, .no, .no]) (by (simp [sxs, sx, ev, evL, evO, evI, mkE, E2.d, evb, evbt, evs, evp, eva, evo, evc, evr, isVar, Rs.bind, Ot.of, frz, R.dd, Ob.dd, R.sl, toR, toV, toB, toL, nxo, store, asgT, asgTs, setA, ownL, peekA, varA, putA, doOp, doCmp, doBi, doIx, truD, doCall, arRs, arR, slots, nodup, giveBack, e8', e9, appA, sh, short, most] <;> try first | rfl | exact ⟨rfl, rfl⟩)) ?_
      refine stNil (stEnd (fin _ ⟨_, _, _, _, rfl, by simp [al], fun a q => ?_, hb9.mono (by omega)⟩))
      rcases List.mem_append.mp q with q | q
      · exact am a q
      · rw [List.mem_singleton.mp q]
        exact ⟨_, _, _, rfl, rnd, rsub, rl, m9, .inr m8⟩
  · rintro A' ⟨b', acts, x5, x6, rfl, al, am, hb'⟩
    rw [rngD_len] at al hb'
    -- spots
    have comp : ∃ (sp : List Int) (b4 : Ob), (ev ⟨run T gl (n + 2), gl⟩ (.comp (.var 8) (.n 8) (.e (.sl (.lrng (.bi .len (.cons false (.var 4) .nil))) (.some (.lit (.int 1))) .none)) (.some (.cmp .Eq (.call jt (.cons false (.var 0) (.cons false (.lit (.int 3)) .nil))) (.lit (.int 0)))) [8])).v [.o b', .v (.int c), .v (.int m), .o (.l (ts.map D.str)), .o (.l acts), x5, x6, .no, .no, .no] = some (.ok (.o (.l (sp.map D.int))) [.o b4, .v (.int c), .v (.int m), .o (.l (ts.map D.str)), .o (.l acts), x5, x6, .no, .no, .no]) ∧ sp.Pairwise (· < ·) ∧ (∀ k, k ∈ sp → 1 ≤ k ∧ k < acts.length) ∧ Bx (t + 1002 + 2000 * m + 100) b4 := by
      have hr : rng1I (.int (acts.length : Int)) = some (rngD 0 acts.length) := rng1_len (by omega)
      have shr : short (rngD 0 acts.length) = true := decide_eq_true (by rw [rngD_len]; exact Nat.le_trans (show acts.length ≤ 1000 by omega) (by decide))
      have ok1 : okI 1 = true := by decide
      have hi : evI ⟨run T gl (n + 2), gl⟩ (.e (.sl (.lrng (.bi .len (.cons false (.var 4) .nil))) (.some (.lit (.int 1))) .none)) [.o b', .v (.int c), .v (.int m), .o (.l (ts.map D.str)), .o (.l acts), x5, x6, .no, .no, .no] = some (.ok (rngD 1 (acts.length - 1)) [.o b', .v (.int c), .v (.int m), .o (.l (ts.map D.str)), .o (.l acts), x5, x6, .no, .no, .no]) := by
        rw [← rng_drop]
        exact from1_ok (lrng_ok (by (simp [sxs, sx, ev, evL, evO, evI, mkE, E2.d, evb, evbt, evs, evp, eva, evo, evc, evr, isVar, Rs.bind, Ot.of, frz, R.dd, Ob.dd, R.sl, toR, toV, toB, toL, nxo, store, asgT, asgTs, setA, ownL, peekA, varA, putA, doOp, doCmp, doBi, doIx, truD, doCall, arRs, arR, slots, nodup, giveBack] <;> try first | rfl | exact ⟨rfl, rfl⟩)) hr shr)
      obtain ⟨ys, A2, e, sp, b4, x8, rfl, rfl, spa, spb, hb4⟩ := turns_any (tg := asgT [] (.n 8)) (test := evc (evO ⟨run T gl (n + 2), gl⟩ (.some (.cmp .Eq (.call jt (.cons false (.var 0) (.cons false (.lit (.int 3)) .nil))) (.lit (.int 0)))))) (elt := (ev ⟨run T gl (n + 2), gl⟩ (.var 8)).d) (wp := fun B => wipeA B [8])
        (Inv := fun i acc A => ∃ (sp : List Int) (b4 : Ob) (x8 : Sl), acc = sp.map D.int ∧ A = [.o b4, .v (.int c), .v (.int m), .o (.l (ts.map D.str)), .o (.l acts), x5, x6, .no, x8, .no] ∧ sp.Pairwise (· < ·) ∧ (∀ k, k ∈ sp → 1 ≤ k ∧ k ≤ i) ∧ Bx (t + 1002 + 2000 * w + i) b4)
        (ds := rngD 1 (acts.length - 1)) (acc := []) (i := 0) (A := [.o b', .v (.int c), .v (.int m), .o (.l (ts.map D.str)), .o (.l acts), x5, x6, .no, .no, .no]) ⟨[], b', .no, rfl, rfl, List.Pairwise.nil, fun k q => (by simp at q), hb'.mono (by omega)⟩ (by rw [rngD_len]; show 0 + (acts.length - 1) ≤ most; exact Nat.le_trans (show _ ≤ 1000 by omega) (by decide)) (by
          rintro k d acc A ⟨sp, b4, x8, rfl, rfl, spa, spb, hb4⟩ hd
          have kl := (List.getElem?_eq_some_iff.mp hd).1
          rw [rngD_len] at kl
          have ed := rng_at hd
          subst ed
          obtain ⟨v6, b6, e6, _, _, hb6⟩ := take_bx (gl := gl) ht (n + 1) hb4 (by omega) (k := 3) (by omega) (by omega)
          refine ⟨[.o b4, .v (.int c), .v (.int m), .o (.l (ts.map D.str)), .o (.l acts), x5, x6, .no, .v (.int (1 + k)), .no], [.o b6, .v (.int c), .v (.int m), .o (.l (ts.map D.str)), .o (.l acts), x5, x6, .no, .v (.int (1 + k)), .no], decide (v6 = 0), by (simp [sxs, sx, ev, evL, evO, evI, mkE, E2.d, evb, evbt, evs, evp, eva, evo, evc, evr, isVar, Rs.bind, Ot.of, frz, R.dd, Ob.dd, R.sl, toR, toV, toB, toL, nxo, store, asgT, asgTs, setA, ownL, peekA, varA, putA, doOp, doCmp, doBi, doIx, truD, doCall, arRs, arR, slots, nodup, giveBack, wipeA] <;> try first | rfl | exact ⟨rfl, rfl⟩), by (simp [sxs, sx, ev, evL, evO, evI, mkE, E2.d, evb, evbt, evs, evp, eva, evo, evc, evr, isVar, Rs.bind, Ot.of, frz, R.dd, Ob.dd, R.sl, toR, toV, toB, toL, nxo, store, asgT, asgTs, setA, ownL, peekA, varA, putA, doOp, doCmp, doBi, doIx, truD, doCall, arRs, arR, slots, nodup, giveBack, e6, eqD_int] <;> try first | rfl | exact ⟨rfl, rfl⟩), fun _ => ⟨sp, b6, _, rfl, rfl, spa, fun q m => ?_, hb6.mono (by omega)⟩, fun _ => ⟨.int (1 + k), _, by (simp [sxs, sx, ev, evL, evO, evI, mkE, E2.d, evb, evbt, evs, evp, eva, evo, evc, evr, isVar, Rs.bind, Ot.of, frz, R.dd, Ob.dd, R.sl, toR, toV, toB, toL, nxo, store, asgT, asgTs, setA, ownL, peekA, varA, putA, doOp, doCmp, doBi, doIx, truD, doCall, arRs, arR, slots, nodup, giveBack] <;> try first | rfl | exact ⟨rfl, rfl⟩), sp ++ [1 + (k : Int)], b6, _, by simp, rfl, ?_, fun q m => ?_, hb6.mono (by omega)⟩⟩
          · have := spb q m
            omega
          · refine List.pairwise_append.mpr ⟨spa, by simp, fun x m y m2 => ?_⟩
            have := spb x m
            rw [List.mem_singleton.mp m2]
            omega
          · rcases List.mem_append.mp m with m | m
            · have := spb q m
              omega
            · rw [List.mem_singleton.mp m]
              omega)
      rw [rngD_len] at spb hb4
      exact ⟨sp, b4, comp_ok hi e, spa, fun k m => by have := spb k m; omega, hb4.mono (by omega)⟩
    obtain ⟨sp, b4, e4, spa, spb, hb4⟩ := comp
    refine st (A1 := [.o b4, .v (.int c), .v (.int m), .o (.l (ts.map D.str)), .o (.l acts), x5, x6, .v (.tup (sp.map D.int)), .no, .no]) (asg_ok (bi_comp e4 rfl) (by (simp [sxs, sx, ev, evL, evO, evI, mkE, E2.d, evb, evbt, evs, evp, eva, evo, evc, evr, isVar, Rs.bind, Ot.of, frz, R.dd, Ob.dd, R.sl, toR, toV, toB, toL, nxo, store, asgT, asgTs, setA, ownL, peekA, varA, putA, doOp, doCmp, doBi, doIx, truD, doCall, arRs, arR, slots, nodup, giveBack] <;> try first | rfl | exact ⟨rfl, rfl⟩))) ?_
    -- wanted
    obtain ⟨v5, b5, e5, p5, p6, hb5⟩ := take_bx (gl := gl) ht (n + 1) hb4 (by omega) (k := (ts.length : Int)) (by omega) (by omega)
    obtain ⟨ws, b6, e6, wnd, wsub, wln, hb6, wsd, wsl, wln2⟩ := pick_sorted (gl := gl) hp ht n hb5 (by omega) (by omega) ta (by omega) (k := 1 + v5) (by omega) (by omega)
    refine st (A1 := [.o b6, .v (.int c), .v (.int m), .o (.l (ts.map D.str)), .o (.l acts), x5, x6, .v (.tup (sp.map D.int)), .no, .o (.l ((sortS ws).map D.str))]) (by (simp [sxs, sx, ev, evL, evO, evI, mkE, E2.d, evb, evbt, evs, evp, eva, evo, evc, evr, isVar, Rs.bind, Ot.of, frz, R.dd, Ob.dd, R.sl, toR, toV, toB, toL, nxo, store, asgT, asgTs, setA, ownL, peekA, varA, putA, doOp, doCmp, doBi, doIx, truD, doCall, arRs, arR, slots, nodup, giveBack, e5, e6, wsd] <;> try first | rfl | exact ⟨rfl, rfl⟩)) ?_
    refine stR (A1 := [.o b6, .v (.int c), .v (.int m), .o (.l (ts.map D.str)), .o (.l acts), x5, x6, .v (.tup (sp.map D.int)), .no, .o (.l ((sortS ws).map D.str))]) (v := .v (.tup [.tup (ts.map D.str), .tup ((sortS ws).map D.str), .tup acts, .tup (sp.map D.int)])) (by (simp [sxs, sx, ev, evL, evO, evI, mkE, E2.d, evb, evbt, evs, evp, eva, evo, evc, evr, isVar, Rs.bind, Ot.of, frz, R.dd, Ob.dd, R.sl, toR, toV, toB, toL, nxo, store, asgT, asgTs, setA, ownL, peekA, varA, putA, doOp, doCmp, doBi, doIx, truD, doCall, arRs, arR, slots, nodup, giveBack, short, most] <;> try first | rfl | exact ⟨rfl, rfl⟩)) (fin _ _ ⟨_, _, rfl, by simp [backOf], ?_, hb6.mono (by omega)⟩)
    exact ⟨ts, sortS ws, acts, sp, rfl, sl, tl.1, tl.2, wsl, by intro z; rw [z] at wln2; simp at wln2; omega, by omega, am, spa, spb⟩
end Cm
/-! Tests and values put together; all([..]) over anything. -/
namespace Cm
open PySem AI
theorem short_of {l : List D} (h : l.length ≤ 1000) : short l = true := decide_eq_true (Nat.le_trans h (by decide))
section
variable {P : Pm} {Bs : List Nat} {A A1 A2 A3 : As}
theorem not_t {a : Ex} {b : Bool} (h : (ev P a).t A = some (.ok b A1)) : (ev P (.not a)).t A = some (.ok (!b) A1) := by
  simp only [ev, h, Rs.bind]
theorem not_v {a : Ex} {b : Bool} (h : (ev P a).v A = some (.ok (.v (.bl b)) A1)) : (ev P (.not a)).v A = some (.ok (.v (.bl (!b))) A1) := by
  simp only [ev, E2.d, h, frz, R.dd, Rs.bind]
theorem bi_t {b : Bi} {es : Exs} {x : Bool} (h : (ev P (.bi b es)).v A = some (.ok (.v (.bl x)) A1)) : (ev P (.bi b es)).t A = some (.ok x A1) := by
  have e : (ev P (.bi b es)).t A = Rs.bind ((ev P (.bi b es)).v A) fun x A1 => match truD x.dd with | some b => some (.ok b A1) | none => none := rfl
  rw [e, h]
  rfl
theorem call_t {j : Nat} {es : Exs} {x : Bool} (h : (ev P (.call j es)).v A = some (.ok (.v (.bl x)) A1)) : (ev P (.call j es)).t A = some (.ok x A1) := by
  have e : (ev P (.call j es)).t A = Rs.bind ((ev P (.call j es)).v A) fun x A1 => match truD x.dd with | some b => some (.ok b A1) | none => none := rfl
  rw [e, h]
  rfl
theorem orT {a : Ex} {r : Exs} (h : (ev P a).t A = some (.ok true A1)) (hr : r ≠ .nil) : (ev P (.bo .Or (.cons false a r))).t A = some (.ok true A1) := by
  cases r with
  | nil => exact (hr rfl).elim
  | cons s e q => simp only [ev, evL, evbt, h, Rs.bind, if_true]
theorem orF {a : Ex} {s : Bool} {e : Ex} {q : Exs} (h : (ev P a).t A = some (.ok false A1)) : (ev P (.bo .Or (.cons false a (.cons s e q)))).t A = (ev P (.bo .Or (.cons s e q))).t A1 := by
  simp only [ev, evL, evbt, h, Rs.bind, if_false, Bool.false_eq_true]
theorem or1 {a : Ex} : (ev P (.bo .Or (.cons false a .nil))).t A = (ev P a).t A := by
  simp only [ev, evL, evbt]
theorem and_v {a : Ex} {s : Bool} {e : Ex} {q : Exs} (h : (ev P a).v A = some (.ok (.v (.bl true)) A1)) : (ev P (.bo .And (.cons false a (.cons s e q)))).v A = (ev P (.bo .And (.cons s e q))).v A1 := by
  simp only [ev, evL, evb, E2.d, h, frz, Rs.bind, R.dd, if_true]
theorem and_f {a : Ex} {s : Bool} {e : Ex} {q : Exs} (h : (ev P a).v A = some (.ok (.v (.bl false)) A1)) : (ev P (.bo .And (.cons false a (.cons s e q)))).v A = some (.ok (.v (.bl false)) A1) := by
  simp only [ev, evL, evb, E2.d, h, frz, Rs.bind, R.dd, if_false, Bool.false_eq_true]
theorem and1 {a : Ex} : (ev P (.bo .And (.cons false a .nil))).v A = (ev P a).v A := by
  simp only [ev, evL, evb]
/-- all([.. for .. in ..]) -/
theorem all_comp {it : It} {tg : Tg} {elt : Ex} {own : List Nat} {ds : List D} (f : D → Bool) (Inv : As → Prop) (hi : evI P it A = some (.ok ds A1)) (h0 : Inv (wipeA A1 own)) (hl : ds.length ≤ most)
    (step : ∀ d A, Inv A → d ∈ ds → ∃ A2 A3, asgT [] tg d (wipeA A own) = some A2 ∧ (ev P elt).d A2 = some (.ok (.bl (f d)) A3) ∧ Inv A3) :
    ∃ A', (ev P (.bi .all (.cons false (.comp elt tg it .none own) .nil))).v A = some (.ok (.v (.bl (ds.all f))) (unwipe A1 A' own)) ∧ Inv A' := by
  obtain ⟨ys, A', e, q, rfl⟩ : ∃ ys A', turns (asgT [] tg) (evc (evO P .none)) (ev P elt).d (fun B => wipeA B own) ds [] (wipeA A1 own) = some (.ok ys A') ∧ Inv A' ∧ ys = ds.map fun d => .bl (f d) := by
    obtain ⟨ys, A', e, q, hA⟩ := turns_any (tg := asgT [] tg) (test := evc (evO P .none)) (elt := (ev P elt).d) (wp := fun B => wipeA B own) (Inv := fun i acc A => acc = (ds.take i).map (fun d => D.bl (f d)) ∧ Inv A) (ds := ds) (acc := []) (i := 0) (A := wipeA A1 own) ⟨rfl, h0⟩ (by simpa using hl) (by
      rintro k d acc A ⟨rfl, hA⟩ hd
      obtain ⟨A2, A3, e1, e2, e3⟩ := step d A hA (List.mem_of_getElem? hd)
      refine ⟨A2, A2, true, e1, rfl, fun z => (by cases z), fun _ => ⟨_, A3, e2, ?_, e3⟩⟩
      rw [Nat.zero_add, List.take_add_one, hd, List.map_append]
      rfl)
    rw [Nat.zero_add, List.take_length] at q
    exact ⟨ys, A', e, hA, q⟩
  have e2 := comp_ok (c := .none) hi e
  refine ⟨A', ?_, q⟩
  have bl : ∀ {l : List D}, bls (l.map fun d => D.bl (f d)) = some (l.map f) := by
    intro l
    induction l with
    | nil => rfl
    | cons a r ih => show (bls (r.map fun d => D.bl (f d))).map _ = _; rw [ih]; rfl
  have e3 : (ev P (.bi .all (.cons false (.comp elt tg it .none own) .nil))).v A = Rs.bind (evp (evL P (.cons false (.comp elt tg it .none own) .nil)) A) fun ds A1 => toR A1 (doBi .all ds) := rfl
  rw [e3]
  simp only [evL, evp, isVar, E2.d, e2, frz, Rs.bind, R.dd, Ob.dd, doBi, bl, Option.map_some, toR]
  simp [List.all_map]
end
end Cm
/-! A dict of names; runs with one written end; comparisons of texts. -/
namespace Cm
open PySem AI
theorem runD_eq {P : Pm} {f : Df} {rs : List R} {A0 e : As} {r : R} {bk : As} {Bs : List Nat} (h0 : rs.length = f.ps.length) (he : entry f.nb 0 rs = e) (hB : lent 0 e = Bs) (hA : e ++ List.replicate (f.N.length - f.ps.length) .no = A0)
    (h : ∀ G : Option Ot → Prop, (∀ A, backOf rs e A = bk → G (some (.rt r A))) → G (K P Bs [] (sxs P Bs f.body A0))) : runD P f rs = some (.ok r bk) := by
  obtain ⟨r', b', e1, rfl, rfl⟩ := runD_G (Φ := fun r' b' => r' = r ∧ b' = bk) h0 he hB hA fun G fin => h G fun A e => fin _ _ ⟨rfl, e⟩
  exact e1
/-- a dict that holds these names -/
def KD (ts : List Str) : D := .dct (ts.map fun s => Sum.inr s) (ts.map fun _ => .bl true)
def KO (ts : List Str) : Ob := .d (ts.map fun s => Sum.inr s) (ts.map fun _ => .bl true)
theorem KO_dd {ts : List Str} : (KO ts).dd = KD ts := rfl
theorem doIn_kd {ts : List Str} {s : Str} : doIn (.str s) (KD ts) = some (decide (s ∈ ts)) := by
  show some ((ts.map fun s => (Sum.inr s : L2.Key)).any fun x => decide (x = Sum.inr s)) = _
  congr 1
  rw [List.any_map]
  by_cases h : s ∈ ts
  · rw [decide_eq_true h]
    exact List.any_eq_true.mpr ⟨s, h, by simp⟩
  · rw [decide_eq_false h]
    refine List.any_eq_false.mpr fun x m => ?_
    have : x ≠ s := fun e => h (e ▸ m)
    simpa using this
theorem eqD_str {a b : Str} (ha : PyData.strOk a = true) (hb : PyData.strOk b = true) : eqD (.str a) (.str b) = some (decide (a = b)) := by
  have : eqD (.str a) (.str b) = some (a == b) := by
    simp [eqD, toPD, SeqAt.shaped, PyData.canLay0, PyData.depth, PyData.eqv, ha, hb]
  rw [this]
  congr 1
theorem eqD_bl {a b : Bool} : eqD (.bl a) (.bl b) = some (decide (a = b)) := by
  have : eqD (.bl a) (.bl b) = some (a == b) := by
    simp [eqD, toPD, SeqAt.shaped, PyData.canLay0, PyData.depth, PyData.eqv]
  rw [this]
  cases a <;> cases b <;> rfl
theorem lset_strs {l : List Str} (h : l.Nodup) (hl : l.length ≤ 4000) : lsetD (.tup (l.map D.str)) = some (.v (.int l.length)) := by
  unfold lsetD seqD
  dsimp only
  rw [if_pos (by rw [List.length_map]; exact hl)]
  cases l with
  | nil => rfl
  | cons a r =>
    have e : intsD ((a :: r).map D.str) = none := rfl
    rw [e]
    dsimp only
    rw [strsD_map]
    dsimp only
    rw [dedupS_nodup h]
theorem putK_new {k : L2.Key} {y : D} {ks : List L2.Key} {ds : List D} (h : k ∉ ks) : putK k y ks ds = (ks ++ [k], ds ++ [y]) := by
  unfold putK
  rw [if_neg]
  intro q
  obtain ⟨x, m, e⟩ := List.any_eq_true.mp q
  exact h ((of_decide_eq_true e) ▸ m)
theorem var_ev {P : Pm} {A : As} {i : Nat} {d : D} (h : A[i]? = some (.v d)) : (ev P (.var i)).d A = some (.ok d A) := by
  show frz (varA i A) = _
  unfold varA
  rw [h]
  rfl
theorem dturns_kd {P : Pm} {i : Nat} : ∀ {ss pre : List Str} {A : As}, i < A.length → (pre ++ ss).Nodup → (pre ++ ss).length ≤ 1000 →
    ∃ x, dturns (asgT [] (.n i)) (ev P (.var i)).d (ev P (.lit (.bl true))).d (fun B => wipeA B [i]) (ss.map D.str) (pre.map fun s => Sum.inr s) (pre.map fun _ => .bl true) A = some (.ok ((pre ++ ss).map (fun s => Sum.inr s), (pre ++ ss).map fun _ => .bl true) (A.set i x))
  | [], pre, A, hi, _, _ => ⟨A[i], by rw [List.append_nil, List.set_getElem_self]; rfl⟩
  | s :: ss, pre, A, hi, nd, hl => by
    have hn : s ∉ pre := fun m => by
      have := (List.nodup_append.mp nd).2.2 s m s List.mem_cons_self
      exact this rfl
    have nd2 : ((pre ++ [s]) ++ ss).Nodup := by rw [List.append_assoc]; exact nd
    have hl2 : ((pre ++ [s]) ++ ss).length ≤ 1000 := by rw [List.append_assoc]; exact hl
    obtain ⟨x, e⟩ := dturns_kd (P := P) (i := i) (ss := ss) (pre := pre ++ [s]) (A := A.set i (.v (.str s))) (by rw [List.length_set]; exact hi) nd2 hl2
    refine ⟨x, ?_⟩
    have t1 : asgT [] (.n i) (.str s) (wipeA A [i]) = some (A.set i (.v (.str s))) := by
      show store [] i (.v (.str s)) (A.set i .no) = _
      unfold store
      rw [if_neg (by simp), if_pos (by rw [List.length_set]; exact hi), List.set_set]
    have t2 : (A.set i (.v (.str s)))[i]? = some (Sl.v (.str s)) := by rw [List.getElem?_set_self hi]
    have t3 := var_ev (P := P) t2
    have t4 : (ev P (.lit (.bl true))).d (A.set i (.v (.str s))) = some (.ok (.bl true) (A.set i (.v (.str s)))) := rfl
    have t5 := putK_new (k := (Sum.inr s : L2.Key)) (y := .bl true) (ks := pre.map fun s => Sum.inr s) (ds := pre.map fun _ => .bl true) (fun m => by
      obtain ⟨a, m, e⟩ := List.mem_map.mp m
      cases e
      exact hn m)
    have t6 : decide ((pre.map fun s => (Sum.inr s : L2.Key)).length < most) = true := decide_eq_true (by
      rw [List.length_map]
      rw [List.length_append] at hl
      exact Nat.lt_of_le_of_lt (show pre.length ≤ 1000 by omega) (by decide))
    rw [List.map_append, List.map_append, List.append_assoc, List.set_set] at e
    unfold dturns
    show (match asgT [] (.n i) (.str s) (wipeA A [i]) with | none => none | some A1 => _) = _
    rw [t1]
    dsimp only
    rw [t3]
    dsimp only
    rw [t4]
    dsimp only [keyD]
    rw [if_pos t6, t5]
    dsimp only
    exact e
theorem set_get_self {A : As} {i : Nat} {x y z : Sl} (h : A[i]? = some y) : ((A.set i x).set i z).set i y = A := by
  rw [List.set_set, List.set_set]
  obtain ⟨l, e⟩ := List.getElem?_eq_some_iff.mp h
  rw [← e]
  exact List.set_getElem_self _
/-- {cell: True for cell in ..} -/
theorem dcomp_kd {P : Pm} {i : Nat} {it : It} {A A1 : As} {ts : List Str} (hi : evI P it A = some (.ok (ts.map D.str) A1)) (h : i < A1.length) (nd : ts.Nodup) (hl : ts.length ≤ 1000) : (ev P (.dcomp (.var i) (.lit (.bl true)) (.n i) it [i])).v A = some (.ok (.o (KO ts)) A1) := by
  obtain ⟨x, e⟩ := dturns_kd (P := P) (i := i) (ss := ts) (pre := []) (A := wipeA A1 [i]) (by show i < (A1.set i .no).length; rw [List.length_set]; exact h) nd hl
  have q : (ev P (.dcomp (.var i) (.lit (.bl true)) (.n i) it [i])).v A = dcompA (evI P it) (.n i) (ev P (.var i)) (ev P (.lit (.bl true))) [i] A := rfl
  rw [q]
  unfold dcompA
  rw [hi]
  show Rs.bind (dturns (asgT [] (.n i)) (ev P (.var i)).d (ev P (.lit (.bl true))).d (fun B => wipeA B [i]) (ts.map D.str) [] [] (wipeA A1 [i])) _ = _
  have e' : dturns (asgT [] (.n i)) (ev P (.var i)).d (ev P (.lit (.bl true))).d (fun B => wipeA B [i]) (ts.map D.str) [] [] (wipeA A1 [i]) = some (.ok (ts.map (fun s => Sum.inr s), ts.map fun _ => .bl true) ((wipeA A1 [i]).set i x)) := e
  rw [e']
  have g : A1[i]? = some A1[i] := List.getElem?_eq_getElem h
  have u : unwipe A1 ((wipeA A1 [i]).set i x) [i] = A1 := by
    show (match A1[i]? with | some y => (unwipe A1 ((A1.set i .no).set i x) []).set i y | none => unwipe A1 ((A1.set i .no).set i x) []) = _
    rw [g]
    exact set_get_self g
  show some (Rs.ok (R.o (Ob.d (ts.map fun s => Sum.inr s) (ts.map fun _ => .bl true))) (unwipe A1 ((wipeA A1 [i]).set i x) [i])) = _
  rw [u]
  rfl
end Cm
/-! while; sets; what is the same as itself; the second form of a law's head. -/
namespace Cm
open PySem AI
def isB (o : Option Rc) (c : Bool) (n : Nat) : Bool := match o with
  | some (.ok (.v (.bl x)) bk) => (x == c) && (bk.length == n && bk.all fun s => match s with | .no => true | _ => false)
  | _ => false
theorem nos_eq : ∀ {bk : As}, (bk.all fun s => match s with | .no => true | _ => false) = true → bk = List.replicate bk.length .no
  | [], _ => rfl
  | x :: r, h => by
    rw [List.all_cons] at h
    cases x with
    | no =>
      have := nos_eq (bk := r) (by simpa using h)
      rw [List.length_cons, List.replicate_succ, ← this]
    | v d => simp at h
    | o b => simp at h
theorem isB_eq {o : Option Rc} {c : Bool} {n : Nat} (h : isB o c n = true) : o = some (.ok (.v (.bl c)) (List.replicate n .no)) := by
  unfold isB at h
  split at h
  · rename_i x bk
    rw [Bool.and_eq_true, Bool.and_eq_true] at h
    obtain ⟨h1, h2, h3⟩ := h
    rw [nos_eq h3, eq_of_beq h1, eq_of_beq h2]
  · cases h
theorem bin_ok {P : Pm} {o : Operator} {a b : Ex} {A A1 A2 : As} {x y : D} {r : R} (h1 : (ev P a).d A = some (.ok x A1)) (h2 : (ev P b).d A1 = some (.ok y A2)) (h3 : doOp o x y = some r) : (ev P (.op o a b)).v A = some (.ok r A2) := by
  have e : (ev P (.op o a b)).v A = Rs.bind ((ev P a).d A) fun x A1 => Rs.bind ((ev P b).d A1) fun y A2 => toR A2 (doOp o x y) := rfl
  rw [e, h1]
  show Rs.bind ((ev P b).d A1) _ = _
  rw [h2]
  show toR A2 (doOp o x y) = _
  rw [h3]
  rfl
theorem d_of_v {P : Pm} {e : Ex} {A A1 : As} {d : D} (h : (ev P e).v A = some (.ok (.v d) A1)) : (ev P e).d A = some (.ok d A1) := by
  show frz ((ev P e).v A) = _
  rw [h]
  rfl
theorem d_of_o {P : Pm} {e : Ex} {A A1 : As} {b : Ob} (h : (ev P e).v A = some (.ok (.o b) A1)) : (ev P e).d A = some (.ok b.dd A1) := by
  show frz ((ev P e).v A) = _
  rw [h]
  rfl
/-- [.. for .. in ..], each by itself -/
theorem map_comp {P : Pm} {A A1 : As} {it : It} {tg : Tg} {elt : Ex} {own : List Nat} {ds : List D} (g : D → D) (Inv : As → Prop) (hi : evI P it A = some (.ok ds A1)) (h0 : Inv (wipeA A1 own)) (hl : ds.length ≤ most)
    (step : ∀ d A, Inv A → d ∈ ds → ∃ A2 A3, asgT [] tg d (wipeA A own) = some A2 ∧ (ev P elt).d A2 = some (.ok (g d) A3) ∧ Inv A3) :
    ∃ A', (ev P (.comp elt tg it .none own)).v A = some (.ok (.o (.l (ds.map g))) (unwipe A1 A' own)) ∧ Inv A' := by
  obtain ⟨ys, A', e, q, hA⟩ := turns_any (tg := asgT [] tg) (test := evc (evO P .none)) (elt := (ev P elt).d) (wp := fun B => wipeA B own) (Inv := fun i acc A => acc = (ds.take i).map g ∧ Inv A) (ds := ds) (acc := []) (i := 0) (A := wipeA A1 own) ⟨rfl, h0⟩ (by simpa using hl) (by
    rintro k d acc A ⟨rfl, hA⟩ hd
    obtain ⟨A2, A3, e1, e2, e3⟩ := step d A hA (List.mem_of_getElem? hd)
    refine ⟨A2, A2, true, e1, rfl, fun z => (by cases z), fun _ => ⟨_, A3, e2, ?_, e3⟩⟩
    rw [Nat.zero_add, List.take_add_one, hd, List.map_append]
    rfl)
  rw [Nat.zero_add, List.take_length] at q
  subst q
  exact ⟨A', comp_ok (c := .none) hi e, hA⟩
/-- the same with a condition -/
theorem filter_comp {P : Pm} {A A1 : As} {it : It} {tg : Tg} {elt c : Ex} {own : List Nat} {ds : List D} (p : D → Bool) (g : D → D) (Inv : As → Prop) (hi : evI P it A = some (.ok ds A1)) (h0 : Inv (wipeA A1 own)) (hl : ds.length ≤ most)
    (step : ∀ d A, Inv A → d ∈ ds → ∃ A2 A3, asgT [] tg d (wipeA A own) = some A2 ∧ (ev P c).t A2 = some (.ok (p d) A3) ∧ Inv A3 ∧ (p d = true → ∃ A4, (ev P elt).d A3 = some (.ok (g d) A4) ∧ Inv A4)) :
    ∃ A', (ev P (.comp elt tg it (.some c) own)).v A = some (.ok (.o (.l ((ds.filter p).map g))) (unwipe A1 A' own)) ∧ Inv A' := by
  obtain ⟨ys, A', e, q, hA⟩ := turns_any (tg := asgT [] tg) (test := evc (evO P (.some c))) (elt := (ev P elt).d) (wp := fun B => wipeA B own) (Inv := fun i acc A => acc = ((ds.take i).filter p).map g ∧ Inv A) (ds := ds) (acc := []) (i := 0) (A := wipeA A1 own) ⟨rfl, h0⟩ (by simpa using hl) (by
    rintro k d acc A ⟨rfl, hA⟩ hd
    obtain ⟨A2, A3, e1, e2, e3, e4⟩ := step d A hA (List.mem_of_getElem? hd)
    have tk : ds.take (0 + k + 1) = ds.take (0 + k) ++ [d] := by rw [Nat.zero_add, List.take_add_one, hd]; rfl
    refine ⟨A2, A3, p d, e1, e2, fun z => ⟨?_, e3⟩, fun z => ?_⟩
    · rw [tk, List.filter_append, List.map_append]
      simp [z]
    · obtain ⟨A4, e5, e6⟩ := e4 z
      refine ⟨_, A4, e5, ?_, e6⟩
      rw [tk, List.filter_append, List.map_append]
      simp [z])
  rw [Nat.zero_add, List.take_length] at q
  subst q
  exact ⟨A', comp_ok (c := .some c) hi e, hA⟩
/-! ### while -/
theorem whl_inv {test : As → Option (Rs Bool)} {body : As → Option Ot} {Inv : Nat → As → Prop} {Fin : As → Prop} (step : ∀ m A, Inv m A → ∃ b A1, test A = some (.ok b A1) ∧ (b = false → Fin A1) ∧ (b = true → ∃ m' A2, m' < m ∧ body A1 = some (.nx A2) ∧ Inv m' A2)) :
    ∀ {n m : Nat} {A : As}, Inv m A → m < n → ∃ A', whl test body n A = some (.nx A') ∧ Fin A'
  | 0, m, A, _, h => absurd h (Nat.not_lt_zero _)
  | n + 1, m, A, hi, h => by
    obtain ⟨b, A1, e1, hf, ht⟩ := step m A hi
    unfold whl
    rw [e1]
    dsimp only [Ot.of]
    cases b with
    | false => rw [if_neg (by decide)]; exact ⟨A1, rfl, hf rfl⟩
    | true =>
      obtain ⟨m', A2, lt, e2, h2⟩ := ht rfl
      rw [if_pos rfl, e2]
      exact whl_inv step h2 (by omega)
theorem stWhl {P : Pm} {Bs : List Nat} {G : Option Ot → Prop} {c : Ex} {b r : Sms} {ks : List Sms} {A : As} {m : Nat} (Inv : Nat → As → Prop) (Fin : As → Prop) (h0 : Inv m A) (hm : m < 100000)
    (step : ∀ m A, Inv m A → ∃ bb A1, (ev P c).t A = some (.ok bb A1) ∧ (bb = false → Fin A1) ∧ (bb = true → ∀ G : Option Ot → Prop, (∀ m' A2, m' < m → Inv m' A2 → G (some (.nx A2))) → G (K P Bs [] (sxs P Bs b A1))))
    (fin : ∀ A', Fin A' → G (K P Bs ks (sxs P Bs r A'))) : G (K P Bs ks (sxs P Bs (.cons (.whl c b) r) A)) := by
  obtain ⟨A', e, hf⟩ := whl_inv (test := (ev P c).t) (body := fun B => sxs P Bs b B) (Inv := Inv) (Fin := Fin) (n := whlN) (fun m A hi => by
    obtain ⟨bb, A1, e1, e2, e3⟩ := step m A hi
    refine ⟨bb, A1, e1, e2, fun z => ?_⟩
    obtain ⟨A2, m', q1, q2, q3⟩ := e3 z (fun o => ∃ A2 m', o = some (.nx A2) ∧ m' < m ∧ Inv m' A2) fun m' A2 lt hi => ⟨A2, m', rfl, lt, hi⟩
    exact ⟨m', A2, q2, q1, q3⟩) h0 hm
  refine st (A1 := A') ?_ (fin A' hf)
  rw [sx]
  exact e
/-! ### sets -/
theorem ext_asc {α : Type} {r : α → α → Prop} (irr : ∀ a, ¬ r a a) (tr : ∀ a b c, r a b → r b c → r a c) : ∀ {l m : List α}, l.Pairwise r → m.Pairwise r → (∀ a, a ∈ l ↔ a ∈ m) → l = m
  | [], [], _, _, _ => rfl
  | [], b :: m, _, _, h => by have := (h b).mpr List.mem_cons_self; cases this
  | a :: l, [], _, _, h => by have := (h a).mp List.mem_cons_self; cases this
  | a :: l, b :: m, hl, hm, h => by
    have hl' := List.pairwise_cons.mp hl
    have hm' := List.pairwise_cons.mp hm
    have e : a = b := by
      rcases List.mem_cons.mp ((h a).mp List.mem_cons_self) with e | q
      · exact e
      · rcases List.mem_cons.mp ((h b).mpr List.mem_cons_self) with e | q2
        · exact e.symm
        · exact absurd (tr _ _ _ (hl'.1 b q2) (hm'.1 a q)) (irr a)
    subst e
    congr 1
    refine ext_asc irr tr hl'.2 hm'.2 fun x => ⟨fun q => ?_, fun q => ?_⟩
    · rcases List.mem_cons.mp ((h x).mp (List.mem_cons_of_mem _ q)) with e | k
      · exact absurd (e ▸ hl'.1 x q) (irr a)
      · exact k
    · rcases List.mem_cons.mp ((h x).mpr (List.mem_cons_of_mem _ q)) with e | k
      · exact absurd (e ▸ hm'.1 x q) (irr a)
      · exact k
theorem mem_dedupS : ∀ {l : List Str} {a : Str}, a ∈ dedupS l ↔ a ∈ l
  | [], a => by simp [dedupS]
  | x :: r, a => by
    unfold dedupS
    by_cases h : x ∈ r
    · rw [if_pos h, mem_dedupS, List.mem_cons]
      exact ⟨.inr, fun q => q.elim (fun e => e ▸ h) id⟩
    · rw [if_neg h, List.mem_cons, mem_dedupS, List.mem_cons]
theorem nodup_dedupS : ∀ {l : List Str}, (dedupS l).Nodup
  | [] => List.nodup_nil
  | x :: r => by
    unfold dedupS
    by_cases h : x ∈ r
    · rw [if_pos h]; exact nodup_dedupS
    · rw [if_neg h]
      exact List.nodup_cons.mpr ⟨fun m => h (mem_dedupS.mp m), nodup_dedupS⟩
def setS (l : List Str) : List Str := sortS (dedupS l)
theorem mem_setS {l : List Str} {a : Str} : a ∈ setS l ↔ a ∈ l := mem_sortS.trans mem_dedupS
theorem asc_setS {l : List Str} : Asc (setS l) := asc_sortS nodup_dedupS
theorem setS_eq {l m : List Str} (h : ∀ a, a ∈ l ↔ a ∈ m) : setS l = setS m :=
  ext_asc (r := fun a b => ltS a b = true) (fun a q => by rw [ltS_irr] at q; cases q) (fun _ _ _ => ltS_trans) asc_setS asc_setS fun a => (mem_setS.trans (h a)).trans mem_setS.symm
theorem mem_dedupI : ∀ {l : List Int} {a : Int}, a ∈ dedupI l ↔ a ∈ l
  | [], a => by simp [dedupI]
  | x :: r, a => by
    unfold dedupI
    by_cases h : x ∈ r
    · rw [if_pos h, mem_dedupI, List.mem_cons]
      exact ⟨.inr, fun q => q.elim (fun e => e ▸ h) id⟩
    · rw [if_neg h, List.mem_cons, mem_dedupI, List.mem_cons]
theorem nodup_dedupI : ∀ {l : List Int}, (dedupI l).Nodup
  | [] => List.nodup_nil
  | x :: r => by
    unfold dedupI
    by_cases h : x ∈ r
    · rw [if_pos h]; exact nodup_dedupI
    · rw [if_neg h]
      exact List.nodup_cons.mpr ⟨fun m => h (mem_dedupI.mp m), nodup_dedupI⟩
theorem mem_insI {x : Int} : ∀ {l : List Int} {a : Int}, a ∈ insI x l ↔ a = x ∨ a ∈ l
  | [], a => by simp [insI]
  | y :: r, a => by
    unfold insI
    by_cases p : x ≤ y
    · rw [if_pos p, List.mem_cons]
    · rw [if_neg p, List.mem_cons, mem_insI, List.mem_cons]
      constructor
      · rintro (h | h | h)
        · exact .inr (.inl h)
        · exact .inl h
        · exact .inr (.inr h)
      · rintro (h | h | h)
        · exact .inr (.inl h)
        · exact .inl h
        · exact .inr (.inr h)
theorem asc_insI {x : Int} : ∀ {l : List Int}, l.Pairwise (· < ·) → x ∉ l → (insI x l).Pairwise (· < ·)
  | [], _, _ => by unfold insI; simp
  | y :: r, h, nx => by
    have h' := List.pairwise_cons.mp h
    unfold insI
    by_cases p : x ≤ y
    · rw [if_pos p]
      have q : x < y := by
        have : x ≠ y := fun e => nx (by rw [e]; exact List.mem_cons_self)
        omega
      refine List.pairwise_cons.mpr ⟨fun a m => ?_, h⟩
      rcases List.mem_cons.mp m with e | m
      · rw [e]; exact q
      · have := h'.1 a m
        omega
    · rw [if_neg p]
      refine List.pairwise_cons.mpr ⟨fun a m => ?_, asc_insI h'.2 fun m => nx (List.mem_cons_of_mem _ m)⟩
      rcases mem_insI.mp m with e | m
      · omega
      · exact h'.1 a m
theorem mem_sortI : ∀ {l : List Int} {a : Int}, a ∈ sortI l ↔ a ∈ l
  | [], a => by simp [sortI]
  | x :: r, a => by unfold sortI; rw [mem_insI, mem_sortI, List.mem_cons]
theorem asc_sortI : ∀ {l : List Int}, l.Nodup → (sortI l).Pairwise (· < ·)
  | [], _ => by unfold sortI; simp
  | x :: r, h => by
    have h' := List.nodup_cons.mp h
    unfold sortI
    exact asc_insI (asc_sortI h'.2) fun m => h'.1 (mem_sortI.mp m)
def setI (l : List Int) : List Int := sortI (dedupI l)
theorem mem_setI {l : List Int} {a : Int} : a ∈ setI l ↔ a ∈ l := mem_sortI.trans mem_dedupI
theorem asc_setI {l : List Int} : (setI l).Pairwise (· < ·) := asc_sortI nodup_dedupI
theorem setI_eq {l m : List Int} (h : ∀ a, a ∈ l ↔ a ∈ m) : setI l = setI m :=
  ext_asc (r := fun a b => a < b) (fun a q => by omega) (fun a b c h k => by omega) asc_setI asc_setI fun a => (mem_setI.trans (h a)).trans mem_setI.symm
theorem intsD_map : ∀ {l : List Int}, intsD (l.map D.int) = some l
  | [] => rfl
  | x :: r => by
    show (intsD (r.map D.int)).map _ = _
    rw [intsD_map]
    rfl
theorem sset_strs {l : List Str} (h : l.length < 64) : ssetD (.lst (l.map D.str)) = some (.o (.l ((setS l).map D.str))) := by
  unfold ssetD seqD
  dsimp only
  rw [if_pos (by rw [List.length_map]; exact h)]
  cases l with
  | nil => rfl
  | cons a r =>
    have e : intsD ((a :: r).map D.str) = none := rfl
    rw [e]
    dsimp only
    rw [strsD_map]
    rfl
theorem sset_ints {l : List Int} (h : l.length < 64) : ssetD (.lst (l.map D.int)) = some (.o (.l ((setI l).map D.int))) := by
  unfold ssetD seqD
  dsimp only
  rw [if_pos (by rw [List.length_map]; exact h), intsD_map]
  rfl
/-- tuple(sorted(set(values))) -/
def setD : Df := { nm := ⟨#[]⟩, ps := [⟨#[]⟩], N := [⟨#[]⟩], nb := [], body :=
      (.cons (.ret (.bi .tuple (.cons false (.sset (.var 0)) .nil)))
      .nil) }
theorem set_ok {T : List Df} {gl : Nat → Option D} {j : Nat} (h : At T j setD) (n : Nat) {ds rs : List D} (e : ssetD (.lst ds) = some (.o (.l rs))) : run T gl (n + 1) j [.o (.l ds)] = some (.ok (.v (.tup rs)) [.v (.lst ds)]) := by
  rw [run_at h]
  refine runD_eq rfl (by simp [entry, setD] <;> rfl) (by simp [lent] <;> rfl) (by simp [setD] <;> rfl) fun G fin => ?_
  exact stR (A1 := [.v (.lst ds)]) (by (simp [sxs, sx, ev, evL, evO, evI, mkE, E2.d, evb, evbt, evs, evp, eva, evo, evc, evr, isVar, Rs.bind, Ot.of, frz, R.dd, Ob.dd, R.sl, toR, toV, toB, toL, nxo, store, asgT, asgTs, setA, ownL, peekA, varA, putA, doOp, doCmp, doBi, doIx, truD, doCall, arRs, arR, slots, nodup, giveBack, e] <;> try first | rfl | exact ⟨rfl, rfl⟩)) (fin _ rfl)
end Cm
/-! What is the same as itself; boxes and heads of the second form. -/
namespace Cm
open PySem AI
def sameD (j : Nat) : Df := { nm := ⟨#[95, 108, 97, 119, 95, 115, 97, 109, 101]⟩, ps := [⟨#[103, 111, 116]⟩, ⟨#[100, 117, 101]⟩], N := [⟨#[103, 111, 116]⟩, ⟨#[100, 117, 101]⟩, ⟨#[97, 95, 115, 111]⟩, ⟨#[98, 95, 115, 111]⟩], nb := [], body :=
      (.cons (.ife (.isi (.var 1) [.tList, .tTuple]) (.cons (.ife (.cmp .NotEq (.isi (.var 0) [.tList]) (.isi (.var 1) [.tList])) (.cons (.ret (.lit (.bl false)))
      .nil) .nil)
      (.cons (.ife (.cmp .NotEq (.isi (.var 0) [.tTuple]) (.isi (.var 1) [.tTuple])) (.cons (.ret (.lit (.bl false)))
      .nil) .nil)
      (.cons (.ret (.bo .And (.cons false (.cmp .Eq (.bi .len (.cons false (.var 0) .nil)) (.bi .len (.cons false (.var 1) .nil))) (.cons false (.bi .all (.cons false (.comp (.call j (.cons false (.var 2) (.cons false (.var 3) .nil))) (.t [(.n 2), (.n 3)]) (.zip (.var 0) (.var 1)) .none [2, 3]) .nil)) .nil))))
      .nil))) .nil)
      (.cons (.ife (.bo .Or (.cons false (.cmp .Is (.var 1) (.lit .non)) (.cons false (.isi (.var 1) [.tBool, .tStr]) .nil))) (.cons (.ret (.bo .And (.cons false (.cmp .Eq (.var 0) (.var 1)) (.cons false (.cmp .Eq (.isi (.var 0) [.tBool]) (.isi (.var 1) [.tBool])) (.cons false (.cmp .Eq (.cmp .Is (.var 0) (.lit .non)) (.cmp .Is (.var 1) (.lit .non))) .nil)))))
      .nil) .nil)
      (.cons (.ret (.bo .And (.cons false (.isi (.var 0) [.tInt]) (.cons false (.not (.isi (.var 0) [.tBool])) (.cons false (.cmp .Eq (.var 0) (.var 1)) .nil)))))
      .nil))) }
/-- data, so deep at the most -/
def Dat : Nat → D → Prop
  | 0, _ => False
  | n + 1, d => match d with
    | .non => True
    | .bl _ => True
    | .int _ => True
    | .str s => PySem.PyData.strOk s = true
    | .tup ds => ds.length ≤ 1000 ∧ ∀ x, x ∈ ds → Dat n x
    | .lst ds => ds.length ≤ 1000 ∧ ∀ x, x ∈ ds → Dat n x
    | _ => False
theorem zip_selfD : ∀ {l : List D} {d : D}, d ∈ zipD l l → ∃ x, x ∈ l ∧ d = .tup [x, x]
  | [], _, h => by simp [zipD] at h
  | a :: r, d, h => by
    have h' : d ∈ D.tup [a, a] :: zipD r r := h
    rcases List.mem_cons.mp h' with e | m
    · exact ⟨a, List.mem_cons_self, e⟩
    · obtain ⟨x, m, e⟩ := zip_selfD m
      exact ⟨x, List.mem_cons_of_mem _ m, e⟩
theorem zip_lenD : ∀ {l r : List D}, (zipD l r).length ≤ l.length
  | [], _ => by simp [zipD]
  | _ :: _, [] => by simp [zipD]
  | a :: l, b :: r => by
    have := zip_lenD (l := l) (r := r)
    simp [zipD]
    exact this
theorem len_most {l : List D} (h : l.length ≤ 1000) : l.length ≤ most := Nat.le_trans h (by decide)
theorem same_refl {T : List Df} {gl : Nat → Option D} {j : Nat} (h : At T j (sameD j)) : ∀ {n : Nat} {d : D}, Dat n d → run T gl n j [.v d, .v d] = some (.ok (.v (.bl true)) [.no, .no])
  | 0, _, hd => hd.elim
  | n + 1, d, hd => by
    rw [run_at h]
    refine runD_eq (e := [.v d, .v d]) (A0 := [.v d, .v d, .no, .no]) rfl rfl rfl rfl fun G fin => ?_
    cases d with
    | non => exact stF (by (simp [sxs, sx, ev, evL, evO, evI, mkE, E2.d, evb, evbt, evs, evp, eva, evo, evc, evr, isVar, Rs.bind, Ot.of, frz, R.dd, Ob.dd, R.sl, toR, toV, toB, toL, nxo, store, asgT, asgTs, setA, ownL, peekA, varA, putA, doOp, doCmp, doBi, doIx, truD, doCall, arRs, arR, slots, nodup, giveBack, isAtom, isTy] <;> try first | rfl | exact ⟨rfl, rfl⟩)) (stNil (stT (by (simp [sxs, sx, ev, evL, evO, evI, mkE, E2.d, evb, evbt, evs, evp, eva, evo, evc, evr, isVar, Rs.bind, Ot.of, frz, R.dd, Ob.dd, R.sl, toR, toV, toB, toL, nxo, store, asgT, asgTs, setA, ownL, peekA, varA, putA, doOp, doCmp, doBi, doIx, truD, doCall, arRs, arR, slots, nodup, giveBack, isAtom, isTy, isNon] <;> try first | rfl | exact ⟨rfl, rfl⟩)) (stR (by (simp [sxs, sx, ev, evL, evO, evI, mkE, E2.d, evb, evbt, evs, evp, eva, evo, evc, evr, isVar, Rs.bind, Ot.of, frz, R.dd, Ob.dd, R.sl, toR, toV, toB, toL, nxo, store, asgT, asgTs, setA, ownL, peekA, varA, putA, doOp, doCmp, doBi, doIx, truD, doCall, arRs, arR, slots, nodup, giveBack, isAtom, isTy, isNon, eqD, toPD, SeqAt.shaped, PySem.PyData.canLay0, PySem.PyData.depth, PySem.PyData.eqv, eqD_bl] <;> try first | rfl | exact ⟨rfl, rfl⟩)) (fin _ rfl))))
    | bl b => exact stF (by (simp [sxs, sx, ev, evL, evO, evI, mkE, E2.d, evb, evbt, evs, evp, eva, evo, evc, evr, isVar, Rs.bind, Ot.of, frz, R.dd, Ob.dd, R.sl, toR, toV, toB, toL, nxo, store, asgT, asgTs, setA, ownL, peekA, varA, putA, doOp, doCmp, doBi, doIx, truD, doCall, arRs, arR, slots, nodup, giveBack, isAtom, isTy] <;> try first | rfl | exact ⟨rfl, rfl⟩)) (stNil (stT (by (simp [sxs, sx, ev, evL, evO, evI, mkE, E2.d, evb, evbt, evs, evp, eva, evo, evc, evr, isVar, Rs.bind, Ot.of, frz, R.dd, Ob.dd, R.sl, toR, toV, toB, toL, nxo, store, asgT, asgTs, setA, ownL, peekA, varA, putA, doOp, doCmp, doBi, doIx, truD, doCall, arRs, arR, slots, nodup, giveBack, isAtom, isTy, isNon] <;> try first | rfl | exact ⟨rfl, rfl⟩)) (stR (by (simp [sxs, sx, ev, evL, evO, evI, mkE, E2.d, evb, evbt, evs, evp, eva, evo, evc, evr, isVar, Rs.bind, Ot.of, frz, R.dd, Ob.dd, R.sl, toR, toV, toB, toL, nxo, store, asgT, asgTs, setA, ownL, peekA, varA, putA, doOp, doCmp, doBi, doIx, truD, doCall, arRs, arR, slots, nodup, giveBack, isAtom, isTy, isNon, eqD_bl] <;> try first | rfl | exact ⟨rfl, rfl⟩)) (fin _ rfl))))
    | str s =>
      have ok : PySem.PyData.strOk s = true := hd
      exact stF (by (simp [sxs, sx, ev, evL, evO, evI, mkE, E2.d, evb, evbt, evs, evp, eva, evo, evc, evr, isVar, Rs.bind, Ot.of, frz, R.dd, Ob.dd, R.sl, toR, toV, toB, toL, nxo, store, asgT, asgTs, setA, ownL, peekA, varA, putA, doOp, doCmp, doBi, doIx, truD, doCall, arRs, arR, slots, nodup, giveBack, isAtom, isTy] <;> try first | rfl | exact ⟨rfl, rfl⟩)) (stNil (stT (by (simp [sxs, sx, ev, evL, evO, evI, mkE, E2.d, evb, evbt, evs, evp, eva, evo, evc, evr, isVar, Rs.bind, Ot.of, frz, R.dd, Ob.dd, R.sl, toR, toV, toB, toL, nxo, store, asgT, asgTs, setA, ownL, peekA, varA, putA, doOp, doCmp, doBi, doIx, truD, doCall, arRs, arR, slots, nodup, giveBack, isAtom, isTy, isNon] <;> try first | rfl | exact ⟨rfl, rfl⟩)) (stR (by (simp [sxs, sx, ev, evL, evO, evI, mkE, E2.d, evb, evbt, evs, evp, eva, evo, evc, evr, isVar, Rs.bind, Ot.of, frz, R.dd, Ob.dd, R.sl, toR, toV, toB, toL, nxo, store, asgT, asgTs, setA, ownL, peekA, varA, putA, doOp, doCmp, doBi, doIx, truD, doCall, arRs, arR, slots, nodup, giveBack, isAtom, isTy, isNon, eqD_bl, eqD_str ok ok] <;> try first | rfl | exact ⟨rfl, rfl⟩)) (fin _ rfl))))
    | int i => exact stF (by (simp [sxs, sx, ev, evL, evO, evI, mkE, E2.d, evb, evbt, evs, evp, eva, evo, evc, evr, isVar, Rs.bind, Ot.of, frz, R.dd, Ob.dd, R.sl, toR, toV, toB, toL, nxo, store, asgT, asgTs, setA, ownL, peekA, varA, putA, doOp, doCmp, doBi, doIx, truD, doCall, arRs, arR, slots, nodup, giveBack, isAtom, isTy] <;> try first | rfl | exact ⟨rfl, rfl⟩)) (stNil (stF (by (simp [sxs, sx, ev, evL, evO, evI, mkE, E2.d, evb, evbt, evs, evp, eva, evo, evc, evr, isVar, Rs.bind, Ot.of, frz, R.dd, Ob.dd, R.sl, toR, toV, toB, toL, nxo, store, asgT, asgTs, setA, ownL, peekA, varA, putA, doOp, doCmp, doBi, doIx, truD, doCall, arRs, arR, slots, nodup, giveBack, isAtom, isTy, isNon] <;> try first | rfl | exact ⟨rfl, rfl⟩)) (stNil (stR (by (simp [sxs, sx, ev, evL, evO, evI, mkE, E2.d, evb, evbt, evs, evp, eva, evo, evc, evr, isVar, Rs.bind, Ot.of, frz, R.dd, Ob.dd, R.sl, toR, toV, toB, toL, nxo, store, asgT, asgTs, setA, ownL, peekA, varA, putA, doOp, doCmp, doBi, doIx, truD, doCall, arRs, arR, slots, nodup, giveBack, isAtom, isTy, isNon, eqD_int] <;> try first | rfl | exact ⟨rfl, rfl⟩)) (fin _ rfl)))))
    | tup l =>
      obtain ⟨hl, hx⟩ := hd
      refine stT (by (simp [sxs, sx, ev, evL, evO, evI, mkE, E2.d, evb, evbt, evs, evp, eva, evo, evc, evr, isVar, Rs.bind, Ot.of, frz, R.dd, Ob.dd, R.sl, toR, toV, toB, toL, nxo, store, asgT, asgTs, setA, ownL, peekA, varA, putA, doOp, doCmp, doBi, doIx, truD, doCall, arRs, arR, slots, nodup, giveBack, isAtom, isTy] <;> try first | rfl | exact ⟨rfl, rfl⟩)) ?_
      refine stF (by (simp [sxs, sx, ev, evL, evO, evI, mkE, E2.d, evb, evbt, evs, evp, eva, evo, evc, evr, isVar, Rs.bind, Ot.of, frz, R.dd, Ob.dd, R.sl, toR, toV, toB, toL, nxo, store, asgT, asgTs, setA, ownL, peekA, varA, putA, doOp, doCmp, doBi, doIx, truD, doCall, arRs, arR, slots, nodup, giveBack, isAtom, isTy, eqD_bl] <;> try first | rfl | exact ⟨rfl, rfl⟩)) (stNil ?_)
      refine stF (by (simp [sxs, sx, ev, evL, evO, evI, mkE, E2.d, evb, evbt, evs, evp, eva, evo, evc, evr, isVar, Rs.bind, Ot.of, frz, R.dd, Ob.dd, R.sl, toR, toV, toB, toL, nxo, store, asgT, asgTs, setA, ownL, peekA, varA, putA, doOp, doCmp, doBi, doIx, truD, doCall, arRs, arR, slots, nodup, giveBack, isAtom, isTy, eqD_bl] <;> try first | rfl | exact ⟨rfl, rfl⟩)) (stNil ?_)
      obtain ⟨A', e, x, y, rfl⟩ := all_comp (P := ⟨run T gl n, gl⟩) (A := [.v (.tup l), .v (.tup l), .no, .no]) (it := .zip (.var 0) (.var 1)) (own := [2, 3]) (elt := .call j (.cons false (.var 2) (.cons false (.var 3) .nil))) (tg := .t [.n 2, .n 3]) (fun _ => true) (fun A => ∃ x y, A = [.v (.tup l), .v (.tup l), x, y]) (by (simp [sxs, sx, ev, evL, evO, evI, mkE, E2.d, evb, evbt, evs, evp, eva, evo, evc, evr, isVar, Rs.bind, Ot.of, frz, R.dd, Ob.dd, R.sl, toR, toV, toB, toL, nxo, store, asgT, asgTs, setA, ownL, peekA, varA, putA, doOp, doCmp, doBi, doIx, truD, doCall, arRs, arR, slots, nodup, giveBack, zipI] <;> try first | rfl | exact ⟨rfl, rfl⟩)) ⟨_, _, rfl⟩ (Nat.le_trans zip_lenD (len_most hl)) (by
        rintro d A ⟨x, y, rfl⟩ m
        obtain ⟨z, mz, rfl⟩ := zip_selfD m
        exact ⟨[.v (.tup l), .v (.tup l), .v z, .v z], [.v (.tup l), .v (.tup l), .v z, .v z], by (simp [sxs, sx, ev, evL, evO, evI, mkE, E2.d, evb, evbt, evs, evp, eva, evo, evc, evr, isVar, Rs.bind, Ot.of, frz, R.dd, Ob.dd, R.sl, toR, toV, toB, toL, nxo, store, asgT, asgTs, setA, ownL, peekA, varA, putA, doOp, doCmp, doBi, doIx, truD, doCall, arRs, arR, slots, nodup, giveBack, wipeA] <;> try first | rfl | exact ⟨rfl, rfl⟩), by (simp [sxs, sx, ev, evL, evO, evI, mkE, E2.d, evb, evbt, evs, evp, eva, evo, evc, evr, isVar, Rs.bind, Ot.of, frz, R.dd, Ob.dd, R.sl, toR, toV, toB, toL, nxo, store, asgT, asgTs, setA, ownL, peekA, varA, putA, doOp, doCmp, doBi, doIx, truD, doCall, arRs, arR, slots, nodup, giveBack, same_refl h (hx z mz)] <;> try first | rfl | exact ⟨rfl, rfl⟩), _, _, rfl⟩)
      rw [List.all_eq_true.mpr fun _ _ => rfl] at e
      exact stR (ret_ok rfl ((and_v (A1 := [.v (.tup l), .v (.tup l), .no, .no]) (by (simp [sxs, sx, ev, evL, evO, evI, mkE, E2.d, evb, evbt, evs, evp, eva, evo, evc, evr, isVar, Rs.bind, Ot.of, frz, R.dd, Ob.dd, R.sl, toR, toV, toB, toL, nxo, store, asgT, asgTs, setA, ownL, peekA, varA, putA, doOp, doCmp, doBi, doIx, truD, doCall, arRs, arR, slots, nodup, giveBack, eqD_int] <;> try first | rfl | exact ⟨rfl, rfl⟩))).trans (and1.trans e))) (fin _ rfl)
    | lst l =>
      obtain ⟨hl, hx⟩ := hd
      refine stT (by (simp [sxs, sx, ev, evL, evO, evI, mkE, E2.d, evb, evbt, evs, evp, eva, evo, evc, evr, isVar, Rs.bind, Ot.of, frz, R.dd, Ob.dd, R.sl, toR, toV, toB, toL, nxo, store, asgT, asgTs, setA, ownL, peekA, varA, putA, doOp, doCmp, doBi, doIx, truD, doCall, arRs, arR, slots, nodup, giveBack, isAtom, isTy] <;> try first | rfl | exact ⟨rfl, rfl⟩)) ?_
      refine stF (by (simp [sxs, sx, ev, evL, evO, evI, mkE, E2.d, evb, evbt, evs, evp, eva, evo, evc, evr, isVar, Rs.bind, Ot.of, frz, R.dd, Ob.dd, R.sl, toR, toV, toB, toL, nxo, store, asgT, asgTs, setA, ownL, peekA, varA, putA, doOp, doCmp, doBi, doIx, truD, doCall, arRs, arR, slots, nodup, giveBack, isAtom, isTy, eqD_bl] <;> try first | rfl | exact ⟨rfl, rfl⟩)) (stNil ?_)
      refine stF (by (simp [sxs, sx, ev, evL, evO, evI, mkE, E2.d, evb, evbt, evs, evp, eva, evo, evc, evr, isVar, Rs.bind, Ot.of, frz, R.dd, Ob.dd, R.sl, toR, toV, toB, toL, nxo, store, asgT, asgTs, setA, ownL, peekA, varA, putA, doOp, doCmp, doBi, doIx, truD, doCall, arRs, arR, slots, nodup, giveBack, isAtom, isTy, eqD_bl] <;> try first | rfl | exact ⟨rfl, rfl⟩)) (stNil ?_)
      obtain ⟨A', e, x, y, rfl⟩ := all_comp (P := ⟨run T gl n, gl⟩) (A := [.v (.lst l), .v (.lst l), .no, .no]) (it := .zip (.var 0) (.var 1)) (own := [2, 3]) (elt := .call j (.cons false (.var 2) (.cons false (.var 3) .nil))) (tg := .t [.n 2, .n 3]) (fun _ => true) (fun A => ∃ x y, A = [.v (.lst l), .v (.lst l), x, y]) (by (simp [sxs, sx, ev, evL, evO, evI, mkE, E2.d, evb, evbt, evs, evp, eva, evo, evc, evr, isVar, Rs.bind, Ot.of, frz, R.dd, Ob.dd, R.sl, toR, toV, toB, toL, nxo, store, asgT, asgTs, setA, ownL, peekA, varA, putA, doOp, doCmp, doBi, doIx, truD, doCall, arRs, arR, slots, nodup, giveBack, zipI] <;> try first | rfl | exact ⟨rfl, rfl⟩)) ⟨_, _, rfl⟩ (Nat.le_trans zip_lenD (len_most hl)) (by
        rintro d A ⟨x, y, rfl⟩ m
        obtain ⟨z, mz, rfl⟩ := zip_selfD m
        exact ⟨[.v (.lst l), .v (.lst l), .v z, .v z], [.v (.lst l), .v (.lst l), .v z, .v z], by (simp [sxs, sx, ev, evL, evO, evI, mkE, E2.d, evb, evbt, evs, evp, eva, evo, evc, evr, isVar, Rs.bind, Ot.of, frz, R.dd, Ob.dd, R.sl, toR, toV, toB, toL, nxo, store, asgT, asgTs, setA, ownL, peekA, varA, putA, doOp, doCmp, doBi, doIx, truD, doCall, arRs, arR, slots, nodup, giveBack, wipeA] <;> try first | rfl | exact ⟨rfl, rfl⟩), by (simp [sxs, sx, ev, evL, evO, evI, mkE, E2.d, evb, evbt, evs, evp, eva, evo, evc, evr, isVar, Rs.bind, Ot.of, frz, R.dd, Ob.dd, R.sl, toR, toV, toB, toL, nxo, store, asgT, asgTs, setA, ownL, peekA, varA, putA, doOp, doCmp, doBi, doIx, truD, doCall, arRs, arR, slots, nodup, giveBack, same_refl h (hx z mz)] <;> try first | rfl | exact ⟨rfl, rfl⟩), _, _, rfl⟩)
      rw [List.all_eq_true.mpr fun _ _ => rfl] at e
      exact stR (ret_ok rfl ((and_v (A1 := [.v (.lst l), .v (.lst l), .no, .no]) (by (simp [sxs, sx, ev, evL, evO, evI, mkE, E2.d, evb, evbt, evs, evp, eva, evo, evc, evr, isVar, Rs.bind, Ot.of, frz, R.dd, Ob.dd, R.sl, toR, toV, toB, toL, nxo, store, asgT, asgTs, setA, ownL, peekA, varA, putA, doOp, doCmp, doBi, doIx, truD, doCall, arRs, arR, slots, nodup, giveBack, eqD_int] <;> try first | rfl | exact ⟨rfl, rfl⟩))).trans (and1.trans e))) (fin _ rfl)
    | dct ks ds => exact hd.elim
    | fn i => exact hd.elim
    | ro ds => exact hd.elim
/-- two own lists that are the same -/
theorem same_own {T : List Df} {gl : Nat → Option D} {j : Nat} (h : At T j (sameD j)) {n : Nat} {l : List D} (hd : Dat (n + 1) (.lst l)) : run T gl (n + 1) j [.o (.l l), .o (.l l)] = some (.ok (.v (.bl true)) [.v (.lst l), .v (.lst l)]) := by
  rw [run_at h]
  refine runD_eq (e := [.o (.l l), .o (.l l)]) (Bs := [0, 1]) (A0 := [.o (.l l), .o (.l l), .no, .no]) rfl rfl rfl rfl fun G fin => ?_
  obtain ⟨hl, hx⟩ := hd
  refine stT (A1 := [.o (.l l), .v (.lst l), .no, .no]) (by (simp [sxs, sx, ev, evL, evO, evI, mkE, E2.d, evb, evbt, evs, evp, eva, evo, evc, evr, isVar, Rs.bind, Ot.of, frz, R.dd, Ob.dd, R.sl, toR, toV, toB, toL, nxo, store, asgT, asgTs, setA, ownL, peekA, varA, putA, doOp, doCmp, doBi, doIx, truD, doCall, arRs, arR, slots, nodup, giveBack, isAtom, isTy] <;> try first | rfl | exact ⟨rfl, rfl⟩)) ?_
  refine stF (A1 := [.v (.lst l), .v (.lst l), .no, .no]) (by (simp [sxs, sx, ev, evL, evO, evI, mkE, E2.d, evb, evbt, evs, evp, eva, evo, evc, evr, isVar, Rs.bind, Ot.of, frz, R.dd, Ob.dd, R.sl, toR, toV, toB, toL, nxo, store, asgT, asgTs, setA, ownL, peekA, varA, putA, doOp, doCmp, doBi, doIx, truD, doCall, arRs, arR, slots, nodup, giveBack, isAtom, isTy, eqD_bl] <;> try first | rfl | exact ⟨rfl, rfl⟩)) (stNil ?_)
  refine stF (A1 := [.v (.lst l), .v (.lst l), .no, .no]) (by (simp [sxs, sx, ev, evL, evO, evI, mkE, E2.d, evb, evbt, evs, evp, eva, evo, evc, evr, isVar, Rs.bind, Ot.of, frz, R.dd, Ob.dd, R.sl, toR, toV, toB, toL, nxo, store, asgT, asgTs, setA, ownL, peekA, varA, putA, doOp, doCmp, doBi, doIx, truD, doCall, arRs, arR, slots, nodup, giveBack, isAtom, isTy, eqD_bl] <;> try first | rfl | exact ⟨rfl, rfl⟩)) (stNil ?_)
  obtain ⟨A', e, x, y, rfl⟩ := all_comp (P := ⟨run T gl n, gl⟩) (A := [.v (.lst l), .v (.lst l), .no, .no]) (it := .zip (.var 0) (.var 1)) (own := [2, 3]) (elt := .call j (.cons false (.var 2) (.cons false (.var 3) .nil))) (tg := .t [.n 2, .n 3]) (fun _ => true) (fun A => ∃ x y, A = [.v (.lst l), .v (.lst l), x, y]) (by (simp [sxs, sx, ev, evL, evO, evI, mkE, E2.d, evb, evbt, evs, evp, eva, evo, evc, evr, isVar, Rs.bind, Ot.of, frz, R.dd, Ob.dd, R.sl, toR, toV, toB, toL, nxo, store, asgT, asgTs, setA, ownL, peekA, varA, putA, doOp, doCmp, doBi, doIx, truD, doCall, arRs, arR, slots, nodup, giveBack, zipI] <;> try first | rfl | exact ⟨rfl, rfl⟩)) ⟨_, _, rfl⟩ (Nat.le_trans zip_lenD (len_most hl)) (by
    rintro d A ⟨x, y, rfl⟩ m
    obtain ⟨z, mz, rfl⟩ := zip_selfD m
    exact ⟨[.v (.lst l), .v (.lst l), .v z, .v z], [.v (.lst l), .v (.lst l), .v z, .v z], by (simp [sxs, sx, ev, evL, evO, evI, mkE, E2.d, evb, evbt, evs, evp, eva, evo, evc, evr, isVar, Rs.bind, Ot.of, frz, R.dd, Ob.dd, R.sl, toR, toV, toB, toL, nxo, store, asgT, asgTs, setA, ownL, peekA, varA, putA, doOp, doCmp, doBi, doIx, truD, doCall, arRs, arR, slots, nodup, giveBack, wipeA] <;> try first | rfl | exact ⟨rfl, rfl⟩), by (simp [sxs, sx, ev, evL, evO, evI, mkE, E2.d, evb, evbt, evs, evp, eva, evo, evc, evr, isVar, Rs.bind, Ot.of, frz, R.dd, Ob.dd, R.sl, toR, toV, toB, toL, nxo, store, asgT, asgTs, setA, ownL, peekA, varA, putA, doOp, doCmp, doBi, doIx, truD, doCall, arRs, arR, slots, nodup, giveBack, same_refl h (hx z mz)] <;> try first | rfl | exact ⟨rfl, rfl⟩), _, _, rfl⟩)
  rw [List.all_eq_true.mpr fun _ _ => rfl] at e
  exact stR (ret_ok rfl ((and_v (A1 := [.v (.lst l), .v (.lst l), .no, .no]) (by (simp [sxs, sx, ev, evL, evO, evI, mkE, E2.d, evb, evbt, evs, evp, eva, evo, evc, evr, isVar, Rs.bind, Ot.of, frz, R.dd, Ob.dd, R.sl, toR, toV, toB, toL, nxo, store, asgT, asgTs, setA, ownL, peekA, varA, putA, doOp, doCmp, doBi, doIx, truD, doCall, arRs, arR, slots, nodup, giveBack, eqD_int] <;> try first | rfl | exact ⟨rfl, rfl⟩))).trans (and1.trans e))) (fin _ rfl)
def boxD2 (c : Int) : Df := { nm := ⟨#[95, 108, 97, 119, 95, 98, 111, 120]⟩, ps := [⟨#[115, 99, 114, 105, 112, 116]⟩, ⟨#[107]⟩], N := [⟨#[115, 99, 114, 105, 112, 116]⟩, ⟨#[107]⟩, ⟨#[115, 101, 101, 100, 95, 115, 111]⟩, ⟨#[108, 111, 119, 95, 115, 111]⟩], nb := [], body :=
      (.cons (.asg (.n 2) (.ite (.cmp .Lt (.var 1) (.bi .len (.cons false (.var 0) .nil))) (.ixv 0 (.var 1)) (.lit (.int 0))))
      (.cons (.asg (.n 3) (.op .Mod (.bi .int (.cons false (.var 2) .nil)) (.lit (.int 2305843009213693951))))
      (.cons (.ret (.lst (.cons false (.op .Mult (.bi .abs (.cons false (.var 2) .nil)) (.bi .int (.cons false (.cmp .GtE (.bi .abs (.cons false (.var 2) .nil)) (.op .Pow (.lit (.int 10)) (.lit (.int 18)))) .nil))) (.cons false (.op .Add (.op .Add (.var 3) (.op .Mult (.lit (.int 39373)) (.var 1))) (.lit (.int c))) (.cons false (.lit (.int 0)) .nil)))))
      .nil))) }
theorem box2_ok {T : List Df} {gl : Nat → Option D} {j : Nat} {c : Int} (h : At T j (boxD2 c)) (hc : 0 ≤ c) (hc2 : c < 1000000000) (n : Nat) (cs : List Int) {k : Nat} (hk : k < 1000) :
    ∃ r b, run T gl (n + 1) j [.o (.l (cs.map D.int)), .v (.int k)] = some (.ok r b) ∧ b = [.o (.l (cs.map D.int)), .no] ∧ ∃ o, r = .o o ∧ Bx 0 o := by
  rw [run_at h]
  refine runD_G rfl (by simp [entry, boxD2] <;> rfl) (by simp [lent] <;> rfl) (by simp [boxD2] <;> rfl) fun G fin => ?_
  have first : ∃ v : Int, sx ⟨run T gl n, gl⟩ [0] (.asg (.n 2) (.ite (.cmp .Lt (.var 1) (.bi .len (.cons false (.var 0) .nil))) (.ixv 0 (.var 1)) (.lit (.int 0)))) [.o (.l (cs.map D.int)), .v (.int k), .no, .no] = some (.nx [.o (.l (cs.map D.int)), .v (.int k), .v (.int v), .no]) := by
    by_cases z : k < cs.length
    · have e : L2.atI (cs.map D.int) (k : Int) = some (.int cs[k]) := by
        unfold L2.atI L2.ixN
        rw [if_pos (by omega), if_pos (by rw [List.length_map]; omega)]
        show (cs.map D.int)[((k : Nat) : Int).toNat]? = _
        rw [Int.toNat_natCast, List.getElem?_map, List.getElem?_eq_getElem z]
        rfl
      exact ⟨cs[k], by (simp [sxs, sx, ev, evL, evO, evI, mkE, E2.d, evb, evbt, evs, evp, eva, evo, evc, evr, isVar, Rs.bind, Ot.of, frz, R.dd, Ob.dd, R.sl, toR, toV, toB, toL, nxo, store, asgT, asgTs, setA, ownL, peekA, varA, putA, doOp, doCmp, doBi, doIx, truD, doCall, arRs, arR, slots, nodup, giveBack, z, e] <;> try first | rfl | exact ⟨rfl, rfl⟩)⟩
    · exact ⟨0, by (simp [sxs, sx, ev, evL, evO, evI, mkE, E2.d, evb, evbt, evs, evp, eva, evo, evc, evr, isVar, Rs.bind, Ot.of, frz, R.dd, Ob.dd, R.sl, toR, toV, toB, toL, nxo, store, asgT, asgTs, setA, ownL, peekA, varA, putA, doOp, doCmp, doBi, doIx, truD, doCall, arRs, arR, slots, nodup, giveBack, z] <;> try first | rfl | exact ⟨rfl, rfl⟩)⟩
  obtain ⟨v, e⟩ := first
  refine st e ?_
  have q1 := Int.fmod_nonneg_of_pos v (show (0 : Int) < 2305843009213693951 by decide)
  have q2 := Int.fmod_lt_of_pos v (show (0 : Int) < 2305843009213693951 by decide)
  have m1 : (-18446744073709551616 < (k : Int) ∧ (k : Int) < 18446744073709551616) := by omega
  refine st (A1 := [.o (.l (cs.map D.int)), .v (.int k), .v (.int v), .v (.int (v.fmod 2305843009213693951))]) (by (simp [sxs, sx, ev, evL, evO, evI, mkE, E2.d, evb, evbt, evs, evp, eva, evo, evc, evr, isVar, Rs.bind, Ot.of, frz, R.dd, Ob.dd, R.sl, toR, toV, toB, toL, nxo, store, asgT, asgTs, setA, ownL, peekA, varA, putA, doOp, doCmp, doBi, doIx, truD, doCall, arRs, arR, slots, nodup, giveBack] <;> try first | rfl | exact ⟨rfl, rfl⟩)) ?_
  generalize ha : (if v < 0 then -v else v) = a
  have a0 : 0 ≤ a := by rw [← ha]; split <;> omega
  by_cases g : (1000000000000000000 : Int) ≤ a
  · exact stR (by (simp [sxs, sx, ev, evL, evO, evI, mkE, E2.d, evb, evbt, evs, evp, eva, evo, evc, evr, isVar, Rs.bind, Ot.of, frz, R.dd, Ob.dd, R.sl, toR, toV, toB, toL, nxo, store, asgT, asgTs, setA, ownL, peekA, varA, putA, doOp, doCmp, doBi, doIx, truD, doCall, arRs, arR, slots, nodup, giveBack, m1, ha, g, short, most] <;> try first | rfl | exact ⟨rfl, rfl⟩)) (fin _ _ ⟨by simp [backOf], _, rfl, a, v.fmod 2305843009213693951 + 39373 * k + c, 0, by simp, a0, by omega, by omega, by omega, by omega⟩)
  · exact stR (by (simp [sxs, sx, ev, evL, evO, evI, mkE, E2.d, evb, evbt, evs, evp, eva, evo, evc, evr, isVar, Rs.bind, Ot.of, frz, R.dd, Ob.dd, R.sl, toR, toV, toB, toL, nxo, store, asgT, asgTs, setA, ownL, peekA, varA, putA, doOp, doCmp, doBi, doIx, truD, doCall, arRs, arR, slots, nodup, giveBack, m1, ha, g, short, most] <;> try first | rfl | exact ⟨rfl, rfl⟩)) (fin _ _ ⟨by simp [backOf], _, rfl, 0, v.fmod 2305843009213693951 + 39373 * k + c, 0, by simp, by omega, by omega, by omega, by omega, by omega⟩)
def lawD2 (jc jh jr jb : Nat) : Df := { nm := ⟨#[108, 97, 119]⟩, ps := [⟨#[115, 99, 114, 105, 112, 116]⟩], N := [⟨#[115, 99, 114, 105, 112, 116]⟩, ⟨#[99, 101, 108, 108, 115, 95, 115, 111]⟩, ⟨#[107]⟩], nb := [], body :=
      (.cons (.asg (.n 1) (.call jc (.cons false (.var 0) (.cons false (.lit (.int 3)) .nil))))
      (.cons (.ife (.not (.call0 jh)) (.cons (.ret (.lit (.bl false)))
      .nil) .nil)
      (.cons (.ret (.bi .all (.cons false (.comp (.call jr (.cons false (.call jb (.cons false (.var 1) (.cons false (.var 2) .nil))) .nil)) (.n 2) (.rng1 (.bi .len (.cons false (.var 1) .nil))) .none [2]) .nil)))
      .nil))) }
theorem law_head2 {T : List Df} {gl : Nat → Option D} {jl jc jh jr jb : Nat} {c : Int} (hl : At T jl (lawD2 jc jh jr jb)) (h1 : At T jc cellsD) (h2 : At T jb (boxD2 c)) (hc : 0 ≤ c) (hc2 : c < 1000000000) (n : Nat) (hh : run T gl (n + 1) jh [] = some (.ok (.v (.bl true)) []))
    (hr : ∀ b, Bx 0 b → ∃ bk, run T gl (n + 1) jr [.o b] = some (.ok (.v (.bl true)) bk) ∧ bk.length = 1) (ns : List Int) (hn : ns.length ≤ 63) : ∃ back, run T gl (n + 2) jl [.v (.ro (ns.map D.int))] = some (.ok (.v (.bl true)) back) := by
  rw [run_at hl]
  obtain ⟨r, b, e1, rfl, cs, rfl, c1, c2⟩ := cells_ok (gl := gl) h1 n ns hn
  have key := runD_G (P := ⟨run T gl (n + 1), gl⟩) (f := lawD2 jc jh jr jb) (rs := [.v (.ro (ns.map D.int))]) (Φ := fun r _ => r = .v (.bl true)) rfl (by simp [entry, lawD2] <;> rfl) (by simp [lent] <;> rfl) (by simp [lawD2] <;> rfl) fun G fin => by
    refine st (A1 := [.v (.ro (ns.map D.int)), .o (.l (cs.map D.int)), .no]) (by (simp [sxs, sx, ev, evL, evO, evI, mkE, E2.d, evb, evbt, evs, evp, eva, evo, evc, evr, isVar, Rs.bind, Ot.of, frz, R.dd, Ob.dd, R.sl, toR, toV, toB, toL, nxo, store, asgT, asgTs, setA, ownL, peekA, varA, putA, doOp, doCmp, doBi, doIx, truD, doCall, arRs, arR, slots, nodup, giveBack, e1] <;> try first | rfl | exact ⟨rfl, rfl⟩)) ?_
    refine stF (by (simp [sxs, sx, ev, evL, evO, evI, mkE, E2.d, evb, evbt, evs, evp, eva, evo, evc, evr, isVar, Rs.bind, Ot.of, frz, R.dd, Ob.dd, R.sl, toR, toV, toB, toL, nxo, store, asgT, asgTs, setA, ownL, peekA, varA, putA, doOp, doCmp, doBi, doIx, truD, doCall, arRs, arR, slots, nodup, giveBack, hh] <;> try first | rfl | exact ⟨rfl, rfl⟩)) (stNil ?_)
    have hi : evI ⟨run T gl (n + 1), gl⟩ (.rng1 (.bi .len (.cons false (.var 1) .nil))) [.v (.ro (ns.map D.int)), .o (.l (cs.map D.int)), .no] = some (.ok (rngD 0 cs.length) [.v (.ro (ns.map D.int)), .o (.l (cs.map D.int)), .no]) := by
      rw [rng1_step, len_own, List.length_map]
      exact rng1_end (rng1_len (by omega))
    obtain ⟨A', e, _⟩ := all_comp (tg := .n 2) (own := [2]) (elt := .call jr (.cons false (.call jb (.cons false (.var 1) (.cons false (.var 2) .nil))) .nil)) (fun _ => true) (fun A => ∃ x, A = [.v (.ro (ns.map D.int)), .o (.l (cs.map D.int)), x]) hi ⟨_, rfl⟩ (by rw [rngD_len]; exact Nat.le_trans c2 (by decide)) (by
      rintro d A ⟨x, rfl⟩ m
      obtain ⟨k, hd⟩ := List.mem_iff_getElem?.mp m
      have kl := (List.getElem?_eq_some_iff.mp hd).1
      rw [rngD_len] at kl
      have ed := rng_at hd
      subst ed
      rw [Int.zero_add]
      obtain ⟨r2, b2, e2, rfl, o, rfl, bo⟩ := box2_ok (gl := gl) h2 hc hc2 n cs (k := k) (by omega)
      obtain ⟨bk, e3, lb⟩ := hr o bo
      obtain ⟨z, rfl⟩ : ∃ z, bk = [z] := by
        match bk, lb with
        | [z], _ => exact ⟨z, rfl⟩
      exact ⟨[.v (.ro (ns.map D.int)), .o (.l (cs.map D.int)), .v (.int k)], [.v (.ro (ns.map D.int)), .o (.l (cs.map D.int)), .v (.int k)], by (simp [sxs, sx, ev, evL, evO, evI, mkE, E2.d, evb, evbt, evs, evp, eva, evo, evc, evr, isVar, Rs.bind, Ot.of, frz, R.dd, Ob.dd, R.sl, toR, toV, toB, toL, nxo, store, asgT, asgTs, setA, ownL, peekA, varA, putA, doOp, doCmp, doBi, doIx, truD, doCall, arRs, arR, slots, nodup, giveBack, wipeA] <;> try first | rfl | exact ⟨rfl, rfl⟩), by (simp [sxs, sx, ev, evL, evO, evI, mkE, E2.d, evb, evbt, evs, evp, eva, evo, evc, evr, isVar, Rs.bind, Ot.of, frz, R.dd, Ob.dd, R.sl, toR, toV, toB, toL, nxo, store, asgT, asgTs, setA, ownL, peekA, varA, putA, doOp, doCmp, doBi, doIx, truD, doCall, arRs, arR, slots, nodup, giveBack, e2, e3] <;> try first | rfl | exact ⟨rfl, rfl⟩), _, rfl⟩)
    rw [List.all_eq_true.mpr fun _ _ => rfl] at e
    exact stR (ret_ok rfl e) (fin _ _ rfl)
  obtain ⟨r, bk, e3, rfl⟩ := key
  exact ⟨bk, e3⟩
end Cm
/-! Rules, one for each form: what an expression gives, put together from what its parts give. -/
namespace Cm
open PySem AI
section
variable {P : Pm} {Bs : List Nat} {A A1 A2 A3 : As}
theorem bnd {α β : Type} {x : Option (Rs α)} {f : α → As → Option (Rs β)} {a : α} (h : x = some (.ok a A1)) : Rs.bind x f = f a A1 := by rw [h]; rfl
theorem var_d {i : Nat} {d : D} (h : A[i]? = some (.v d)) : (ev P (.var i)).d A = some (.ok d A) := by
  show frz (varA i A) = _
  unfold varA; rw [h]; rfl
theorem var_v {i : Nat} {d : D} (h : A[i]? = some (.v d)) : (ev P (.var i)).v A = some (.ok (.v d) A) := by
  show varA i A = _
  unfold varA; rw [h]
theorem var_do {i : Nat} {b : Ob} (h : A[i]? = some (.o b)) : (ev P (.var i)).d A = some (.ok b.dd (A.set i (.v b.dd))) := by
  show frz (varA i A) = _
  unfold varA; rw [h]; rfl
theorem var_t {i : Nat} {d : D} {b : Bool} (h : peekA A i = some (.ok d A)) (ht : truD d = some b) : (ev P (.var i)).t A = some (.ok b A) := by
  show Rs.bind (peekA A i) _ = _
  rw [bnd h]
  show (match truD d with | some b => some (Rs.ok b A) | none => none) = _
  rw [ht]
theorem lit_d {d : D} : (ev P (.lit d)).d A = some (.ok d A) := rfl
theorem lit_v {d : D} : (ev P (.lit d)).v A = some (.ok (.v d) A) := rfl
theorem glo_v {j : Nat} {d : D} (h : P.gl j = some d) : (ev P (.glo j)).v A = some (.ok (.v d) A) := by
  show toV A (P.gl j) = _
  rw [h]; rfl
theorem glo_d {j : Nat} {d : D} (h : P.gl j = some d) : (ev P (.glo j)).d A = some (.ok d A) := d_of_v (glo_v h)
theorem fnv_d {j : Nat} : (ev P (.fnv j)).d A = some (.ok (.fn j) A) := rfl
theorem op_d {o : Operator} {a b : Ex} {x y : D} {r : R} (h1 : (ev P a).d A = some (.ok x A1)) (h2 : (ev P b).d A1 = some (.ok y A2)) (h3 : doOp o x y = some r) : (ev P (.op o a b)).d A = some (.ok r.dd A2) := by
  show frz ((ev P (.op o a b)).v A) = _
  rw [bin_ok h1 h2 h3]; rfl
theorem cmp_v {o : CmpOp} {a b : Ex} {x y : D} {k : Bool} (h1 : (ev P a).d A = some (.ok x A1)) (h2 : (ev P b).d A1 = some (.ok y A2)) (h3 : doCmp o x y = some k) : (ev P (.cmp o a b)).v A = some (.ok (.v (.bl k)) A2) := by
  show Rs.bind ((ev P a).d A) _ = _
  rw [bnd h1, bnd h2, h3]; rfl
theorem t_of_v {v : As → Option (Rs R)} {r : R} {k : Bool} (h : v A = some (.ok r A1)) (ht : truD r.dd = some k) : (mkE v).t A = some (.ok k A1) := by
  show Rs.bind (v A) _ = _
  rw [bnd h]
  show (match truD r.dd with | some b => some (Rs.ok b A1) | none => none) = _
  rw [ht]
theorem cmp_t {o : CmpOp} {a b : Ex} {x y : D} {k : Bool} (h1 : (ev P a).d A = some (.ok x A1)) (h2 : (ev P b).d A1 = some (.ok y A2)) (h3 : doCmp o x y = some k) : (ev P (.cmp o a b)).t A = some (.ok k A2) := t_of_v (cmp_v h1 h2 h3) rfl
theorem cmp_d {o : CmpOp} {a b : Ex} {x y : D} {k : Bool} (h1 : (ev P a).d A = some (.ok x A1)) (h2 : (ev P b).d A1 = some (.ok y A2)) (h3 : doCmp o x y = some k) : (ev P (.cmp o a b)).d A = some (.ok (.bl k) A2) := d_of_v (cmp_v h1 h2 h3)
theorem chn_v {o p : CmpOp} {a b c : Ex} {x y z : D} {k l : Bool} (h1 : (ev P a).d A = some (.ok x A)) (h2 : (ev P b).d A = some (.ok y A)) (h3 : doCmp o x y = some k) (h4 : k = true → (ev P c).d A = some (.ok z A) ∧ doCmp p y z = some l) : (ev P (.chn o p a b c)).v A = some (.ok (.v (.bl (k && l))) A) := by
  show Rs.bind ((ev P a).d A) _ = _
  rw [bnd h1, bnd h2]
  show (match doCmp o x y with
    | some true => Rs.bind ((ev P c).d A) fun z A3 => toB A3 (doCmp p y z)
    | some false => some (.ok (.v (.bl false)) A)
    | none => none) = _
  rw [h3]
  cases k with
  | true =>
    obtain ⟨h5, h6⟩ := h4 rfl
    show Rs.bind ((ev P c).d A) _ = _
    rw [bnd h5, h6]; rfl
  | false => rfl
theorem chn_t {o p : CmpOp} {a b c : Ex} {x y z : D} {k l : Bool} (h1 : (ev P a).d A = some (.ok x A)) (h2 : (ev P b).d A = some (.ok y A)) (h3 : doCmp o x y = some k) (h4 : k = true → (ev P c).d A = some (.ok z A) ∧ doCmp p y z = some l) : (ev P (.chn o p a b c)).t A = some (.ok (k && l) A) := t_of_v (chn_v h1 h2 h3 h4) rfl
theorem ix_v {a b : Ex} {x y d : D} (h1 : (ev P a).d A = some (.ok x A1)) (h2 : (ev P b).d A1 = some (.ok y A2)) (h3 : doIx x y = some d) : (ev P (.ix a b)).v A = some (.ok (.v d) A2) := by
  show Rs.bind ((ev P a).d A) _ = _
  rw [bnd h1, bnd h2, h3]; rfl
theorem ix_d {a b : Ex} {x y d : D} (h1 : (ev P a).d A = some (.ok x A1)) (h2 : (ev P b).d A1 = some (.ok y A2)) (h3 : doIx x y = some d) : (ev P (.ix a b)).d A = some (.ok d A2) := d_of_v (ix_v h1 h2 h3)
theorem ixv_v {i : Nat} {b : Ex} {x y d : D} (h0 : setA A i = true) (h2 : (ev P b).d A = some (.ok y A1)) (h1 : peekA A1 i = some (.ok x A1)) (h3 : doIx x y = some d) : (ev P (.ixv i b)).v A = some (.ok (.v d) A1) := by
  show (if setA A i then Rs.bind ((ev P b).d A) _ else none) = _
  rw [if_pos h0, bnd h2, bnd h1, h3]; rfl
theorem ixv_d {i : Nat} {b : Ex} {x y d : D} (h0 : setA A i = true) (h2 : (ev P b).d A = some (.ok y A1)) (h1 : peekA A1 i = some (.ok x A1)) (h3 : doIx x y = some d) : (ev P (.ixv i b)).d A = some (.ok d A1) := d_of_v (ixv_v h0 h2 h1 h3)
theorem evs_nil : evs (evL P .nil) A = some (.ok [] A) := rfl
theorem evs_cons {e : Ex} {r : Exs} {x : D} {xs : List D} (h : (ev P e).d A = some (.ok x A1)) (t : evs (evL P r) A1 = some (.ok xs A2)) : evs (evL P (.cons false e r)) A = some (.ok (x :: xs) A2) := by
  show Rs.bind ((ev P e).d A) _ = _
  rw [bnd h]
  show Rs.bind (evs (evL P r) A1) _ = _
  rw [bnd t]
theorem evs_star {e : Ex} {r : Exs} {x : D} {ys xs : List D} (h : (ev P e).d A = some (.ok x A1)) (hq : seqD x = some ys) (t : evs (evL P r) A1 = some (.ok xs A2)) : evs (evL P (.cons true e r)) A = some (.ok (ys ++ xs) A2) := by
  show Rs.bind ((ev P e).d A) _ = _
  rw [bnd h]
  show (match seqD x with | some ys => Rs.bind (evs (evL P r) A1) fun xs A2 => some (.ok (ys ++ xs) A2) | none => none) = _
  rw [hq]
  show Rs.bind (evs (evL P r) A1) _ = _
  rw [bnd t]
theorem lst_v {es : Exs} {ds : List D} (h : evs (evL P es) A = some (.ok ds A1)) (hs : short ds = true) : (ev P (.lst es)).v A = some (.ok (.o (.l ds)) A1) := by
  show Rs.bind (evs (evL P es) A) _ = _
  rw [bnd h, if_pos hs]
theorem lst_d {es : Exs} {ds : List D} (h : evs (evL P es) A = some (.ok ds A1)) (hs : short ds = true) : (ev P (.lst es)).d A = some (.ok (.lst ds) A1) := d_of_o (lst_v h hs)
theorem tup_v {es : Exs} {ds : List D} (h : evs (evL P es) A = some (.ok ds A1)) (hs : short ds = true) : (ev P (.tup es)).v A = some (.ok (.v (.tup ds)) A1) := by
  show Rs.bind (evs (evL P es) A) _ = _
  rw [bnd h, if_pos hs]
theorem tup_d {es : Exs} {ds : List D} (h : evs (evL P es) A = some (.ok ds A1)) (hs : short ds = true) : (ev P (.tup es)).d A = some (.ok (.tup ds) A1) := d_of_v (tup_v h hs)
theorem bi1_v {b : Bi} {e : Ex} {x : D} {r : R} (hn : isVar e = none) (h : (ev P e).d A = some (.ok x A1)) (hb : doBi b [x] = some r) : (ev P (.bi b (.cons false e .nil))).v A = some (.ok r A1) := by
  show Rs.bind (evp [⟨false, isVar e, ev P e⟩] A) _ = _
  have e2 : evp [⟨false, isVar e, ev P e⟩] A = some (.ok [x] A1) := by
    unfold evp
    dsimp only
    rw [hn]
    dsimp only
    rw [bnd h]
  rw [bnd e2, hb]; rfl
theorem bi1_d {b : Bi} {e : Ex} {x : D} {r : R} (hn : isVar e = none) (h : (ev P e).d A = some (.ok x A1)) (hb : doBi b [x] = some r) : (ev P (.bi b (.cons false e .nil))).d A = some (.ok r.dd A1) := by
  show frz ((ev P (.bi b (.cons false e .nil))).v A) = _
  rw [bi1_v hn h hb]; rfl
theorem bi1_var {b : Bi} {i : Nat} {x : D} {r : R} (h : peekA A i = some (.ok x A)) (hb : doBi b [x] = some r) : (ev P (.bi b (.cons false (.var i) .nil))).v A = some (.ok r A) := by
  show Rs.bind (evp [⟨false, some i, ev P (.var i)⟩] A) _ = _
  have e2 : evp [⟨false, some i, ev P (.var i)⟩] A = some (.ok [x] A) := by
    unfold evp
    dsimp only
    rw [bnd h]
  rw [bnd e2, hb]; rfl
theorem bi1_vard {b : Bi} {i : Nat} {x : D} {r : R} (h : peekA A i = some (.ok x A)) (hb : doBi b [x] = some r) : (ev P (.bi b (.cons false (.var i) .nil))).d A = some (.ok r.dd A) := by
  show frz ((ev P (.bi b (.cons false (.var i) .nil))).v A) = _
  rw [bi1_var h hb]; rfl
theorem peek_v {i : Nat} {d : D} (h : A[i]? = some (.v d)) : peekA A i = some (.ok d A) := by unfold peekA; rw [h]
theorem peek_o {i : Nat} {b : Ob} (h : A[i]? = some (.o b)) : peekA A i = some (.ok b.dd A) := by unfold peekA; rw [h]
theorem eva_nil : eva (evL P .nil) A = some (.ok [] A) := rfl
theorem eva_var {i : Nat} {r : Exs} {xs : List Ar} (h : setA A i = true) (t : eva (evL P r) A = some (.ok xs A1)) : eva (evL P (.cons false (.var i) r)) A = some (.ok (.s i :: xs) A1) := by
  show (if setA A i then Rs.bind (eva (evL P r) A) fun xs A2 => some (.ok (.s i :: xs) A2) else none) = _
  rw [if_pos h, bnd t]
theorem eva_val {e : Ex} {r : Exs} {x : R} {xs : List Ar} (hn : isVar e = none) (h : (ev P e).v A = some (.ok x A1)) (t : eva (evL P r) A1 = some (.ok xs A2)) : eva (evL P (.cons false e r)) A = some (.ok (.r x :: xs) A2) := by
  have e2 : eva (evL P (.cons false e r)) A = (match isVar e with
    | some i => if setA A i then Rs.bind (eva (evL P r) A) fun xs A2 => some (.ok (.s i :: xs) A2) else none
    | none => Rs.bind ((ev P e).v A) fun x A1 => Rs.bind (eva (evL P r) A1) fun xs A2 => some (.ok (.r x :: xs) A2)) := rfl
  rw [e2, hn]
  show Rs.bind ((ev P e).v A) _ = _
  rw [bnd h, bnd t]
theorem docall_ok {j : Nat} {as : List Ar} {rs : List R} {r : R} {back : As} (hn : nodup (slots as) = true) (hr : arRs A as = some rs) (hc : P.orc j rs = some (.ok r back)) (hg : giveBack A as back = A1) : doCall P j as A = some (.ok r A1) := by
  unfold doCall
  rw [if_pos hn, hr]
  dsimp only
  rw [hc]
  dsimp only
  rw [hg]
theorem call_v {j : Nat} {es : Exs} {as : List Ar} {rs : List R} {r : R} {back : As} (h : eva (evL P es) A = some (.ok as A1)) (hn : nodup (slots as) = true) (hr : arRs A1 as = some rs) (hc : P.orc j rs = some (.ok r back)) (hg : giveBack A1 as back = A2) : (ev P (.call j es)).v A = some (.ok r A2) := by
  show Rs.bind (eva (evL P es) A) _ = _
  rw [bnd h]
  exact docall_ok hn hr hc hg
theorem call_d {j : Nat} {es : Exs} {as : List Ar} {rs : List R} {r : R} {back : As} (h : eva (evL P es) A = some (.ok as A1)) (hn : nodup (slots as) = true) (hr : arRs A1 as = some rs) (hc : P.orc j rs = some (.ok r back)) (hg : giveBack A1 as back = A2) : (ev P (.call j es)).d A = some (.ok r.dd A2) := by
  show frz ((ev P (.call j es)).v A) = _
  rw [call_v h hn hr hc hg]; rfl
theorem callx_v {j : Nat} {f : Ex} {es : Exs} {as : List Ar} {rs : List R} {r : R} {back : As} (hf : (ev P f).d A = some (.ok (.fn j) A1)) (h : eva (evL P es) A1 = some (.ok as A2)) (hn : nodup (slots as) = true) (hr : arRs A2 as = some rs) (hc : P.orc j rs = some (.ok r back)) (hg : giveBack A2 as back = A3) : (ev P (.callx f es)).v A = some (.ok r A3) := by
  show Rs.bind ((ev P f).d A) _ = _
  rw [bnd hf]
  show Rs.bind (eva (evL P es) A1) _ = _
  rw [bnd h]
  exact docall_ok hn hr hc hg
theorem sset_v {a : Ex} {x : D} {r : R} (h : (ev P a).d A = some (.ok x A1)) (hs : ssetD x = some r) : (ev P (.sset a)).v A = some (.ok r A1) := by
  show Rs.bind ((ev P a).d A) _ = _
  rw [bnd h, hs]; rfl
theorem sset_d {a : Ex} {x : D} {r : R} (h : (ev P a).d A = some (.ok x A1)) (hs : ssetD x = some r) : (ev P (.sset a)).d A = some (.ok r.dd A1) := by
  show frz ((ev P (.sset a)).v A) = _
  rw [sset_v h hs]; rfl
theorem tzip_v {a b : Ex} {x y d : D} (h1 : (ev P a).d A = some (.ok x A1)) (h2 : (ev P b).d A1 = some (.ok y A2)) (h3 : tzipD x y = some d) : (ev P (.tzip a b)).v A = some (.ok (.v d) A2) := by
  show Rs.bind ((ev P a).d A) _ = _
  rw [bnd h1, bnd h2, h3]; rfl
theorem it_e {a : Ex} {x : D} {ds : List D} (h : (ev P a).d A = some (.ok x A1)) (hi : itD x = some ds) : evI P (.e a) A = some (.ok ds A1) := by
  show Rs.bind ((ev P a).d A) _ = _
  rw [bnd h, hi]; rfl
theorem it_rng1 {a : Ex} {x : D} {ds : List D} (h : (ev P a).d A = some (.ok x A1)) (hi : rng1I x = some ds) : evI P (.rng1 a) A = some (.ok ds A1) := by
  show Rs.bind ((ev P a).d A) _ = _
  rw [bnd h, hi]; rfl
theorem it_enum {a : Ex} {x : D} {ds : List D} (h : (ev P a).d A = some (.ok x A1)) (hi : enumI x = some ds) : evI P (.enum a) A = some (.ok ds A1) := by
  show Rs.bind ((ev P a).d A) _ = _
  rw [bnd h, hi]; rfl
theorem and2_t {a b : Ex} {x y : Bool} (h1 : (ev P a).t A = some (.ok x A)) (h2 : x = true → (ev P b).t A = some (.ok y A)) : (ev P (.bo .And (.cons false a (.cons false b .nil)))).t A = some (.ok (x && y) A) := by
  show Rs.bind ((ev P a).t A) _ = _
  rw [bnd h1]
  cases x with
  | true => exact h2 rfl
  | false => rfl
theorem or2_t {a b : Ex} {x y : Bool} (h1 : (ev P a).t A = some (.ok x A)) (h2 : x = false → (ev P b).t A = some (.ok y A)) : (ev P (.bo .Or (.cons false a (.cons false b .nil)))).t A = some (.ok (x || y) A) := by
  show Rs.bind ((ev P a).t A) _ = _
  rw [bnd h1]
  cases x with
  | true => rfl
  | false => exact h2 rfl
theorem asgt_ok {ts : List Tg} {e : Ex} {d : D} (h : (ev P e).d A = some (.ok d A1)) (hs : asgT Bs (.t ts) d A1 = some A2) : sx P Bs (.asg (.t ts) e) A = some (.nx A2) := by
  rw [sx]
  show Ot.of ((ev P e).d A) _ = _
  rw [h]
  show nxo (asgT Bs (.t ts) d A1) = _
  rw [hs]; rfl
theorem app_ok {i : Nat} {e : Ex} {y : D} {ds : List D} (h0 : ownL A i = true) (h : (ev P e).d A = some (.ok y A1)) (hs : A1[i]? = some (.o (.l ds))) (hl : short ds = true) (h2 : A1.set i (.o (.l (ds ++ [y]))) = A2) : sx P Bs (.expr (.app i e)) A = some (.nx A2) := by
  have e1 : (ev P (.app i e)).v A = some (.ok (.v .non) A2) := by
    show (if ownL A i then Rs.bind ((ev P e).d A) fun y A1 => appA i y A1 else none) = _
    rw [if_pos h0, bnd h]
    unfold appA
    rw [hs]
    dsimp only
    rw [if_pos hl, h2]
  rw [sx, e1]; rfl
theorem ret_v {e : Ex} {r : R} (hn : isVar e = none) (h : (ev P e).v A = some (.ok r A1)) : sx P Bs (.ret e) A = some (.rt r A1) := by
  rw [sx]
  have e1 : evr P Bs e A = some (.ok r A1) := by
    unfold evr
    rw [hn]
    exact h
  rw [e1]; rfl
/-! comprehensions that leave everything as it is -/
theorem unwipe_eq {A A' : As} {own : List Nat} (h : wipeA A' own = wipeA A own) : unwipe A A' own = A := by
  have hl : A.length = A'.length := by
    have := congrArg List.length h
    rw [wipeA_len, wipeA_len] at this
    exact this.symm
  apply List.ext_getElem?
  intro i
  by_cases z : i ∈ own
  · exact unwipe_in hl z
  · rw [unwipe_out z, ← wipeA_out (A := A') z, h, wipeA_out z]
theorem comp_map {α : Type} {L : List α} {enc : α → D} {it : It} {tg : Tg} {elt : Ex} {own : List Nat} {g : α → D} (hi : evI P it A = some (.ok (L.map enc) A1)) (hl : L.length ≤ 1000)
    (step : ∀ x, x ∈ L → ∃ A2, asgT [] tg (enc x) (wipeA A1 own) = some A2 ∧ wipeA A2 own = wipeA A1 own ∧ (ev P elt).d A2 = some (.ok (g x) A2)) : (ev P (.comp elt tg it .none own)).v A = some (.ok (.o (.l (L.map g))) A1) := by
  obtain ⟨ys, A', e, q, hA⟩ := turns_any (tg := asgT [] tg) (test := evc (evO P .none)) (elt := (ev P elt).d) (wp := fun B => wipeA B own) (Inv := fun i acc A => acc = (L.take i).map g ∧ wipeA A own = wipeA A1 own) (ds := L.map enc) (acc := []) (i := 0) (A := wipeA A1 own) ⟨rfl, wipeA_idem⟩ (by
    rw [List.length_map]; exact Nat.le_trans (by simpa using hl) (show 1000 ≤ most by decide)) (by
    rintro k d acc B ⟨rfl, hB⟩ hd
    rw [List.getElem?_map] at hd
    cases ex : L[k]? with
    | none => rw [ex] at hd; cases hd
    | some x =>
      rw [ex] at hd
      cases hd
      obtain ⟨A2, e1, e2, e3⟩ := step x (List.mem_of_getElem? ex)
      refine ⟨A2, A2, true, by rw [hB]; exact e1, rfl, fun z => (by cases z), fun _ => ⟨_, A2, e3, ?_, e2⟩⟩
      rw [Nat.zero_add, List.take_add_one, ex, List.map_append]
      rfl)
  rw [List.length_map, Nat.zero_add, List.take_length] at q
  subst q
  have e2 := comp_ok (c := .none) hi e
  rw [unwipe_eq hA] at e2
  exact e2
theorem comp_filter {α : Type} {L : List α} {enc : α → D} {it : It} {tg : Tg} {elt c : Ex} {own : List Nat} {g : α → D} {p : α → Bool} (hi : evI P it A = some (.ok (L.map enc) A1)) (hl : L.length ≤ 1000)
    (step : ∀ x, x ∈ L → ∃ A2, asgT [] tg (enc x) (wipeA A1 own) = some A2 ∧ wipeA A2 own = wipeA A1 own ∧ (ev P c).t A2 = some (.ok (p x) A2) ∧ (p x = true → (ev P elt).d A2 = some (.ok (g x) A2))) : (ev P (.comp elt tg it (.some c) own)).v A = some (.ok (.o (.l ((L.filter p).map g))) A1) := by
  obtain ⟨ys, A', e, q, hA⟩ := turns_any (tg := asgT [] tg) (test := evc (evO P (.some c))) (elt := (ev P elt).d) (wp := fun B => wipeA B own) (Inv := fun i acc A => acc = ((L.take i).filter p).map g ∧ wipeA A own = wipeA A1 own) (ds := L.map enc) (acc := []) (i := 0) (A := wipeA A1 own) ⟨rfl, wipeA_idem⟩ (by
    rw [List.length_map]; exact Nat.le_trans (by simpa using hl) (show 1000 ≤ most by decide)) (by
    rintro k d acc B ⟨rfl, hB⟩ hd
    rw [List.getElem?_map] at hd
    cases ex : L[k]? with
    | none => rw [ex] at hd; cases hd
    | some x =>
      rw [ex] at hd
      cases hd
      obtain ⟨A2, e1, e2, e3, e4⟩ := step x (List.mem_of_getElem? ex)
      have tk : L.take (0 + k + 1) = L.take (0 + k) ++ [x] := by rw [Nat.zero_add, List.take_add_one, ex]; rfl
      refine ⟨A2, A2, p x, by rw [hB]; exact e1, e3, fun z => ⟨?_, e2⟩, fun z => ⟨_, A2, e4 z, ?_, e2⟩⟩
      · rw [tk, List.filter_append, List.map_append]
        simp [z]
      · rw [tk, List.filter_append, List.map_append]
        simp [z])
  rw [List.length_map, Nat.zero_add, List.take_length] at q
  subst q
  have e2 := comp_ok (c := .some c) hi e
  rw [unwipe_eq hA] at e2
  exact e2
end
end Cm
/-! Moves and rows by their parts; texts and numbers within; ranges, pairs with their places. -/
namespace Cm
open PySem AI
theorem runD_nx {P : Pm} {f : Df} {rs : List R} {e A0 A bk : As} (h0 : rs.length = f.ps.length) (he : entry f.nb 0 rs = e) (hA : e ++ List.replicate (f.N.length - f.ps.length) .no = A0) (hs : sxs P (lent 0 e) f.body A0 = some (.nx A)) (hb : backOf rs e A = bk) : runD P f rs = some (.ok (.v .non) bk) := by
  subst he
  subst hA
  unfold runD
  rw [if_pos h0]
  dsimp only
  rw [hs]
  dsimp only
  rw [hb]
theorem len_dedupS : ∀ {l : List Str}, (dedupS l).length ≤ l.length
  | [] => Nat.le_refl _
  | x :: r => by
    have := len_dedupS (l := r)
    unfold dedupS
    by_cases h : x ∈ r
    · rw [if_pos h, List.length_cons]; omega
    · rw [if_neg h, List.length_cons, List.length_cons]; omega
theorem len_setS {l : List Str} : (setS l).length ≤ l.length := by
  unfold setS
  rw [len_sortS]
  exact len_dedupS
theorem len_insI {x : Int} : ∀ {l : List Int}, (insI x l).length = l.length + 1
  | [] => rfl
  | y :: r => by
    unfold insI
    by_cases p : x ≤ y
    · rw [if_pos p]; rfl
    · rw [if_neg p, List.length_cons, len_insI, List.length_cons]
theorem len_sortI : ∀ {l : List Int}, (sortI l).length = l.length
  | [] => rfl
  | x :: r => by unfold sortI; rw [len_insI, len_sortI, List.length_cons]
theorem len_dedupI : ∀ {l : List Int}, (dedupI l).length ≤ l.length
  | [] => Nat.le_refl _
  | x :: r => by
    have := len_dedupI (l := r)
    unfold dedupI
    by_cases h : x ∈ r
    · rw [if_pos h, List.length_cons]; omega
    · rw [if_neg h, List.length_cons, List.length_cons]; omega
theorem len_setI {l : List Int} : (setI l).length ≤ l.length := by
  unfold setI
  rw [len_sortI]
  exact len_dedupI
structure Mo where
  nm : Str
  reads : List Str
  cell : Str
def Mo.d (m : Mo) : D := .tup [.str m.nm, .tup (m.reads.map D.str), .str m.cell]
structure Mo.ok (ts : List Str) (m : Mo) : Prop where
  nd : m.reads.Nodup
  sub : ∀ a, a ∈ m.reads → a ∈ ts
  ln : m.reads.length ≤ 3
  cl : m.cell ∈ ts
  nmOk : m.nm = sCopy ∧ m.reads.length = 1 ∨ m.nm ∈ fns
theorem mos_of {ts : List Str} : ∀ {acts : List D}, (∀ a, a ∈ acts → Mv ts a) → ∃ ms : List Mo, acts = ms.map Mo.d ∧ ∀ m, m ∈ ms → m.ok ts
  | [], _ => ⟨[], rfl, fun m h => by cases h⟩
  | a :: r, h => by
    obtain ⟨ms, e, ok⟩ := mos_of (acts := r) fun x m => h x (List.mem_cons_of_mem _ m)
    obtain ⟨nm, reads, cell, rfl, h1, h2, h3, h4, h5⟩ := (h a List.mem_cons_self).ex
    refine ⟨⟨nm, reads, cell⟩ :: ms, by rw [e]; rfl, fun m hm => ?_⟩
    rcases List.mem_cons.mp hm with e | hm
    · subst e; exact ⟨h1, h2, h3, h4, h5⟩
    · exact ok m hm
def rowT (ts wd : List Str) (ms : List Mo) (sp : List Int) : D := .tup [.tup (ts.map D.str), .tup (wd.map D.str), .tup (ms.map Mo.d), .tup (sp.map D.int)]
theorem all_flat {α : Type} {f : α → D} (hf : ∀ a, flatD (f a) = true) : ∀ {l : List α}, (l.map f).all flatD = true
  | [] => rfl
  | a :: r => by rw [List.map_cons, List.all_cons, hf a, all_flat hf]; rfl
theorem in_strs {c : Str} {l : List Str} : inSeq (.str c) (l.map D.str) = some (decide (c ∈ l)) := by
  unfold inSeq
  rw [all_flat (f := D.str) fun _ => rfl]
  show some _ = _
  congr 1
  rw [List.any_map]
  induction l with
  | nil => rfl
  | cons a r ih =>
    rw [List.any_cons, ih]
    show (decide (a = c) || decide (c ∈ r)) = _
    by_cases e : a = c
    · simp [e]
    · have e2 : ¬ c = a := fun z => e z.symm
      simp [e, e2]
theorem in_ints {c : Int} {l : List Int} : inSeq (.int c) (l.map D.int) = some (decide (c ∈ l)) := by
  unfold inSeq
  rw [all_flat (f := D.int) fun _ => rfl]
  show some _ = _
  congr 1
  rw [List.any_map]
  induction l with
  | nil => rfl
  | cons a r ih =>
    rw [List.any_cons, ih]
    show ((a == c) || decide (c ∈ r)) = _
    by_cases e : a = c
    · simp [e]
    · have e2 : ¬ c = a := fun z => e z.symm
      simp [e, e2]
theorem rng_map : ∀ {n : Nat} {lo : Int}, rngD lo n = (List.range n).map fun (k : Nat) => D.int (lo + (k : Int))
  | 0, _ => rfl
  | n + 1, lo => by
    unfold rngD
    rw [rng_map (n := n), List.range_succ_eq_map, List.map_cons, List.map_map]
    simp only [Int.ofNat_zero, Int.add_zero]
    congr 1
    refine List.map_congr_left fun k _ => ?_
    show D.int (lo + 1 + (k : Int)) = D.int (lo + ((k + 1 : Nat) : Int))
    congr 1
    omega
theorem rng0_map {n : Nat} : rngD 0 n = (List.range n).map fun (k : Nat) => D.int (k : Int) := by
  rw [rng_map]
  exact List.map_congr_left fun k _ => by rw [Int.zero_add]
theorem enum_map {α : Type} {f : α → D} : ∀ {l : List α} {k : Nat}, enumD k (l.map f) = (l.zipIdx k).map fun x => D.tup [.int (x.2 : Nat), f x.1]
  | [], _ => rfl
  | a :: r, k => by
    show D.tup [.int (k : Nat), f a] :: enumD (k + 1) (r.map f) = _
    rw [enum_map, List.zipIdx_cons, List.map_cons]
theorem rng_zip {α : Type} : ∀ {l : List α} {k : Nat}, rngD (k : Int) l.length = (l.zipIdx k).map fun x => D.int (x.2 : Nat)
  | [], _ => rfl
  | a :: r, k => by
    show D.int (k : Int) :: rngD ((k : Int) + 1) r.length = _
    rw [show (k : Int) + 1 = ((k + 1 : Nat) : Int) by omega, rng_zip, List.zipIdx_cons, List.map_cons]
theorem zip_at {α : Type} {l : List α} {x : α × Nat} (h : x ∈ l.zipIdx) : l[x.2]? = some x.1 := by
  obtain ⟨a, i⟩ := x
  have := List.mem_zipIdx' h
  exact List.getElem?_eq_some_iff.mpr ⟨this.1, this.2.symm⟩
theorem ix_at {α : Type} {f : α → D} {l : List α} {i : Nat} {a : α} (h : l[i]? = some a) : L2.atI (l.map f) (i : Int) = some (f a) := by
  unfold L2.atI L2.ixN
  have hi := (List.getElem?_eq_some_iff.mp h).1
  rw [if_pos (by omega), if_pos (by rw [List.length_map]; omega)]
  show (l.map f)[((i : Nat) : Int).toNat]? = _
  rw [Int.toNat_natCast, List.getElem?_map, h]
  rfl
theorem short_map {α : Type} {f : α → D} {l : List α} (h : l.length ≤ 1000) : short (l.map f) = true := short_of (by rw [List.length_map]; exact h)
theorem add_l {a b : List D} (ha : a.length ≤ 1000) (hb : b.length ≤ 1000) : doOp .Add (.lst a) (.lst b) = some (.o (.l (a ++ b))) := by
  show (if short a && short b then _ else _) = _
  rw [short_of ha, short_of hb]
  rfl
theorem add_t {a b : List D} (ha : a.length ≤ 1000) (hb : b.length ≤ 1000) : doOp .Add (.tup a) (.tup b) = some (.v (.tup (a ++ b))) := by
  show (if short a && short b then _ else _) = _
  rw [short_of ha, short_of hb]
  rfl
/-- an ascending part of an ascending list, by what is in it -/
theorem asc_filter {ts : List Str} {p : Str → Bool} (h : Asc ts) : Asc (ts.filter p) := h.sublist (List.filter_sublist)
theorem set_filter {ts l : List Str} {p : Str → Bool} (ha : Asc ts) (h : ∀ a, a ∈ l ↔ a ∈ ts ∧ p a = true) : setS l = ts.filter p :=
  ext_asc (r := fun a b => ltS a b = true) (fun a q => by rw [ltS_irr] at q; cases q) (fun _ _ _ => ltS_trans) asc_setS (asc_filter ha) fun a => (mem_setS.trans (h a)).trans List.mem_filter.symm
section
variable {P : Pm} {A A1 A2 : As}
theorem op_dv {o : Operator} {a b : Ex} {x y d : D} (h1 : (ev P a).d A = some (.ok x A1)) (h2 : (ev P b).d A1 = some (.ok y A2)) (h3 : doOp o x y = some (.v d)) : (ev P (.op o a b)).d A = some (.ok d A2) := op_d h1 h2 h3
theorem op_do {o : Operator} {a b : Ex} {x y : D} {ds : List D} (h1 : (ev P a).d A = some (.ok x A1)) (h2 : (ev P b).d A1 = some (.ok y A2)) (h3 : doOp o x y = some (.o (.l ds))) : (ev P (.op o a b)).d A = some (.ok (.lst ds) A2) := op_d h1 h2 h3
theorem bi1_dv {b : Bi} {e : Ex} {x d : D} (hn : isVar e = none) (h : (ev P e).d A = some (.ok x A1)) (hb : doBi b [x] = some (.v d)) : (ev P (.bi b (.cons false e .nil))).d A = some (.ok d A1) := bi1_d hn h hb
theorem bi1_do {b : Bi} {e : Ex} {x : D} {ds : List D} (hn : isVar e = none) (h : (ev P e).d A = some (.ok x A1)) (hb : doBi b [x] = some (.o (.l ds))) : (ev P (.bi b (.cons false e .nil))).d A = some (.ok (.lst ds) A1) := bi1_d hn h hb
theorem bi1_vardv {b : Bi} {i : Nat} {x d : D} (h : peekA A i = some (.ok x A)) (hb : doBi b [x] = some (.v d)) : (ev P (.bi b (.cons false (.var i) .nil))).d A = some (.ok d A) := bi1_vard h hb
theorem call_dv {j : Nat} {es : Exs} {as : List Ar} {rs : List R} {d : D} {back : As} (h : eva (evL P es) A = some (.ok as A1)) (hn : nodup (slots as) = true) (hr : arRs A1 as = some rs) (hc : P.orc j rs = some (.ok (.v d) back)) (hg : giveBack A1 as back = A2) : (ev P (.call j es)).d A = some (.ok d A2) := call_d h hn hr hc hg
theorem sset_do {a : Ex} {x : D} {ds : List D} (h : (ev P a).d A = some (.ok x A1)) (hs : ssetD x = some (.o (.l ds))) : (ev P (.sset a)).d A = some (.ok (.lst ds) A1) := sset_d h hs
theorem tup_of {e : Ex} {ds : List D} (hn : isVar e = none) (h : (ev P e).v A = some (.ok (.o (.l ds)) A1)) : (ev P (.bi .tuple (.cons false e .nil))).v A = some (.ok (.v (.tup ds)) A1) := bi1_v hn (d_of_o h) rfl
theorem fz_v {e : Ex} {d : D} (h : (ev P e).d A = some (.ok d A1)) : (ev P (.fz e)).v A = some (.ok (.v d) A1) := by
  show Rs.bind ((ev P e).d A) _ = _
  rw [bnd h]
theorem sl_v {a : Ex} {x : D} {r : R} {l : Int} (h : (ev P a).d A = some (.ok x A1)) (hl : okI l = true) (hs : doSl x (some l) none = some r) : (ev P (.sl a (.some (.lit (.int l))) .none)).v A = some (.ok r A1) := by
  have o : optI (evo (evO P (.some (.lit (.int l)))) A1) = some (.ok (some l) A1) := by
    show (if okI l then some (Rs.ok (some l) A1) else none) = _
    rw [if_pos hl]
  show Rs.bind ((ev P a).d A) _ = _
  rw [bnd h]
  show Rs.bind (optI (evo (evO P (.some (.lit (.int l)))) A1)) _ = _
  rw [bnd o]
  show Rs.bind (optI (evo (evO P .none) A1)) _ = _
  show toR A1 (doSl x (some l) none) = _
  rw [hs]
  rfl
end
theorem sset_intsT {l : List Int} (h : l.length < 64) : ssetD (.tup (l.map D.int)) = some (.o (.l ((setI l).map D.int))) := by
  unfold ssetD seqD
  dsimp only
  rw [if_pos (by rw [List.length_map]; exact h), intsD_map]
  rfl
theorem comp2_map {P : Pm} {A A1 : As} {α β : Type} {L : List α} {enc : α → D} {M : α → List β} {enc1 : β → D} {it it1 : It} {tg tg1 : Tg} {elt : Ex} {own own1 : List Nat} {g : α → β → D}
    (hi : evI P it A = some (.ok (L.map enc) A1)) (hl : (L.flatMap M).length ≤ 1000) (sv : ∀ i, i ∈ own1 → i ∈ own)
    (step : ∀ x, x ∈ L → ∃ A2, asgT [] tg (enc x) (wipeA A1 own) = some A2 ∧ wipeA A2 own = wipeA A1 own ∧ evI P it1 A2 = some (.ok ((M x).map enc1) A2) ∧
      ∀ y, y ∈ M x → ∃ A3, asgT [] tg1 (enc1 y) (wipeA A2 own1) = some A3 ∧ wipeA A3 own1 = wipeA A2 own1 ∧ (ev P elt).d A3 = some (.ok (g x y) A3)) :
    (ev P (.comp2 elt tg it .none tg1 it1 .none own own1)).v A = some (.ok (.o (.l (L.flatMap fun x => (M x).map (g x)))) A1) := by
  have inner : ∀ {A2 : As} {x : α} {N : List β} {acc : List D} {B : As}, (∀ y, y ∈ N → ∃ A3, asgT [] tg1 (enc1 y) (wipeA A2 own1) = some A3 ∧ wipeA A3 own1 = wipeA A2 own1 ∧ (ev P elt).d A3 = some (.ok (g x y) A3)) → wipeA B own1 = wipeA A2 own1 → acc.length + N.length ≤ most →
      ∃ B', turns (asgT [] tg1) (evc (evO P .none)) (ev P elt).d (fun B => wipeA B own1) (N.map enc1) acc B = some (.ok (acc ++ N.map (g x)) B') ∧ wipeA B' own1 = wipeA A2 own1 := by
    intro A2 x N
    induction N with
    | nil => intro acc B _ hB _; exact ⟨B, by simp [turns], hB⟩
    | cons y r ih =>
      intro acc B h hB hl
      obtain ⟨A3, e1, e2, e3⟩ := h y List.mem_cons_self
      rw [List.length_cons] at hl
      obtain ⟨B', e4, e5⟩ := ih (acc := acc ++ [g x y]) (B := A3) (fun z m => h z (List.mem_cons_of_mem _ m)) e2 (by rw [List.length_append, List.length_singleton]; omega)
      refine ⟨B', ?_, e5⟩
      rw [List.map_cons]
      unfold turns
      rw [hB, e1]
      show (match some (Rs.ok true A3) with
        | some (.ok b A2) => if b then (match (ev P elt).d A2 with
          | some (.ok y A3) => if decide (acc.length < most) then turns (asgT [] tg1) (evc (evO P .none)) (ev P elt).d (fun B => wipeA B own1) (r.map enc1) (acc ++ [y]) A3 else none
          | _ => none) else _
        | _ => none) = _
      dsimp only
      rw [if_pos rfl, e3]
      dsimp only
      rw [if_pos (decide_eq_true (by omega)), e4, List.append_assoc]
      rfl
  have outer : ∀ {N : List α} {acc : List D} {B : As}, (∀ x, x ∈ N → x ∈ L) → wipeA B own = wipeA A1 own → acc.length + (N.flatMap M).length ≤ most →
      ∃ B', turns2 (asgT [] tg) (evc (evO P .none)) (evI P it1) (turns (asgT [] tg1) (evc (evO P .none)) (ev P elt).d (fun B => wipeA B own1)) (fun B => wipeA B own) (N.map enc) acc B = some (.ok (acc ++ N.flatMap fun x => (M x).map (g x)) B') ∧ wipeA B' own = wipeA A1 own := by
    intro N
    induction N with
    | nil => intro acc B _ hB _; exact ⟨B, by simp [turns2], hB⟩
    | cons x r ih =>
      intro acc B h hB hl
      obtain ⟨A2, e1, e2, e3, e4⟩ := step x (h x List.mem_cons_self)
      rw [List.flatMap_cons, List.length_append] at hl
      obtain ⟨B1, f1, f2⟩ := inner (acc := acc) (B := A2) e4 rfl (by omega)
      have f3 : wipeA B1 own = wipeA A1 own := by
        rw [← wipeA_sub (A := B1) sv, f2, wipeA_sub sv, e2]
      obtain ⟨B', g1, g2⟩ := ih (acc := acc ++ (M x).map (g x)) (B := B1) (fun z m => h z (List.mem_cons_of_mem _ m)) f3 (by rw [List.length_append, List.length_map]; omega)
      refine ⟨B', ?_, g2⟩
      rw [List.map_cons]
      unfold turns2
      rw [hB, e1]
      show (match some (Rs.ok true A2) with
        | some (.ok b A2) => if b then (match evI P it1 A2 with
          | some (.ok es A3) => (match turns (asgT [] tg1) (evc (evO P .none)) (ev P elt).d (fun B => wipeA B own1) es acc A3 with
            | some (.ok acc' A4) => turns2 (asgT [] tg) (evc (evO P .none)) (evI P it1) (turns (asgT [] tg1) (evc (evO P .none)) (ev P elt).d (fun B => wipeA B own1)) (fun B => wipeA B own) (r.map enc) acc' A4
            | _ => none)
          | _ => none) else _
        | _ => none) = _
      dsimp only
      rw [if_pos rfl, e3]
      dsimp only
      rw [f1]
      dsimp only
      rw [g1, List.append_assoc, List.flatMap_cons]
  obtain ⟨B', e1, e2⟩ := outer (N := L) (acc := []) (B := wipeA A1 own) (fun _ h => h) wipeA_idem (by
    show 0 + (L.flatMap M).length ≤ most
    exact Nat.le_trans (by omega) (show 1000 ≤ most by decide))
  rw [List.nil_append] at e1
  show comp2A (evI P it) tg (evO P .none) (evI P it1) tg1 (evO P .none) (ev P elt) own own1 A = _
  unfold comp2A
  rw [bnd hi, bnd e1, unwipe_eq e2]
theorem Dat.mono : ∀ {n m : Nat} {d : D}, Dat n d → n ≤ m → Dat m d
  | 0, _, _, h, _ => h.elim
  | n + 1, 0, _, _, l => by omega
  | n + 1, m + 1, d, h, l => by
    cases d with
    | tup ds => exact ⟨h.1, fun x k => Dat.mono (h.2 x k) (by omega)⟩
    | lst ds => exact ⟨h.1, fun x k => Dat.mono (h.2 x k) (by omega)⟩
    | non => exact h
    | bl b => exact h
    | int i => exact h
    | str s => exact h
    | dct a b => exact h
    | fn i => exact h
    | ro a => exact h
theorem pds_of {n : Nat} (ih : ∀ {d : D}, Dat n d → ∃ x, toPD d = some x ∧ x.canLay0 = true ∧ x.depth ≤ n) : ∀ {ds : List D}, (∀ x, x ∈ ds → Dat n x) → ∃ xs, toPDs ds = some xs ∧ PySem.PyData.canLayAll0 xs = true ∧ PySem.PyData.depthAll xs ≤ n ∧ xs.length = ds.length
  | [], _ => ⟨[], rfl, rfl, Nat.zero_le _, rfl⟩
  | d :: ds, h => by
    obtain ⟨x, e1, e2, e3⟩ := ih (h d List.mem_cons_self)
    obtain ⟨xs, f1, f2, f3, f4⟩ := pds_of ih (ds := ds) fun x m => h x (List.mem_cons_of_mem _ m)
    refine ⟨x :: xs, ?_, ?_, ?_, by rw [List.length_cons, List.length_cons, f4]⟩
    · unfold toPDs
      rw [e1, f1]
    · unfold PySem.PyData.canLayAll0
      rw [e2, f2]
      rfl
    · unfold PySem.PyData.depthAll
      exact Nat.max_le.mpr ⟨e3, f3⟩
theorem dat_pd : ∀ {n : Nat} {d : D}, Dat n d → ∃ x, toPD d = some x ∧ x.canLay0 = true ∧ x.depth ≤ n
  | 0, _, h => h.elim
  | n + 1, d, h => by
    cases d with
    | non => exact ⟨.none, rfl, rfl, Nat.zero_le _⟩
    | bl b => exact ⟨.bool b, rfl, rfl, Nat.zero_le _⟩
    | int i => exact ⟨.int i, rfl, rfl, Nat.zero_le _⟩
    | str s => exact ⟨.str s, rfl, h, Nat.zero_le _⟩
    | tup ds =>
      obtain ⟨xs, f1, f2, f3, _⟩ := pds_of dat_pd h.2
      refine ⟨.tuple xs, ?_, ?_, ?_⟩
      · unfold toPD; rw [f1]; rfl
      · unfold PySem.PyData.canLay0; exact f2
      · unfold PySem.PyData.depth; omega
    | lst ds =>
      obtain ⟨xs, f1, f2, f3, _⟩ := pds_of dat_pd h.2
      refine ⟨.list xs, ?_, ?_, ?_⟩
      · unfold toPD; rw [f1]; rfl
      · unfold PySem.PyData.canLay0; exact f2
      · unfold PySem.PyData.depth; omega
    | dct a b => exact h.elim
    | fn i => exact h.elim
    | ro a => exact h.elim
theorem eqD_nil {ds : List D} {n : Nat} (hn : n ≤ 60) (h : ∀ x, x ∈ ds → Dat n x) : eqD (.lst ds) (.lst []) = some (decide (ds = [])) := by
  obtain ⟨xs, f1, f2, f3, f4⟩ := pds_of dat_pd h
  have e1 : toPD (.lst ds) = some (.list xs) := by unfold toPD; rw [f1]; rfl
  have e2 : toPD (.lst []) = some (.list []) := rfl
  have s1 : PySem.SeqAt.shaped (.list xs) = true := by
    unfold PySem.SeqAt.shaped
    rw [Bool.and_eq_true]
    refine ⟨by unfold PySem.PyData.canLay0; exact f2, decide_eq_true ?_⟩
    unfold PySem.PyData.depth
    omega
  have s2 : PySem.SeqAt.shaped (.list []) = true := by decide
  unfold eqD
  rw [e1, e2]
  show (if PySem.SeqAt.shaped (.list xs) && PySem.SeqAt.shaped (.list []) then some (PySem.PyData.eqv (.list xs) (.list [])) else none) = _
  rw [s1, s2]
  cases xs with
  | nil =>
    have : ds = [] := List.length_eq_zero_iff.mp f4.symm
    rw [decide_eq_true this]
    rfl
  | cons x r =>
    have : ds ≠ [] := fun z => by rw [z] at f4; cases f4
    rw [decide_eq_false this]
    rfl
theorem dat_ints {n : Nat} {l : List Int} (h : l.length ≤ 1000) : Dat (n + 2) (.tup (l.map D.int)) := ⟨by rw [List.length_map]; exact h, fun x m => by
  obtain ⟨i, _, rfl⟩ := List.mem_map.mp m
  exact trivial⟩
theorem dat_strs {n : Nat} {l : List Str} (h : l.length ≤ 1000) (ok : ∀ s, s ∈ l → PySem.PyData.strOk s = true) : Dat (n + 2) (.tup (l.map D.str)) := ⟨by rw [List.length_map]; exact h, fun x m => by
  obtain ⟨i, mi, rfl⟩ := List.mem_map.mp m
  exact ok i mi⟩
theorem dat_tmap {α : Type} {n : Nat} {l : List α} {f : α → D} (h : l.length ≤ 1000) (ok : ∀ a, a ∈ l → Dat n (f a)) : Dat (n + 1) (.tup (l.map f)) := ⟨by rw [List.length_map]; exact h, fun x m => by
  obtain ⟨i, mi, rfl⟩ := List.mem_map.mp m
  exact ok i mi⟩
theorem dat_lmap {α : Type} {n : Nat} {l : List α} {f : α → D} (h : l.length ≤ 1000) (ok : ∀ a, a ∈ l → Dat n (f a)) : Dat (n + 1) (.lst (l.map f)) := ⟨by rw [List.length_map]; exact h, fun x m => by
  obtain ⟨i, mi, rfl⟩ := List.mem_map.mp m
  exact ok i mi⟩
end Cm
namespace Ir
open PySem AI
/-- need_cell -/
def d0 : Df := { nm := ⟨#[110, 101, 101, 100, 95, 99, 101, 108, 108]⟩, ps := [⟨#[99, 101, 108, 108, 115]⟩, ⟨#[110, 97, 109, 101]⟩], N := [⟨#[99, 101, 108, 108, 115]⟩, ⟨#[110, 97, 109, 101]⟩], nb := [], body :=
      (.cons (.ife (.cmp .NotIn (.var 1) (.var 0)) (.cons (.rse 0 (some ⟨#[110, 97, 109, 101]⟩) (.cons false (.var 1) .nil))
      .nil) .nil)
      .nil) }
/-- as_set -/
def d1 : Df := { nm := ⟨#[97, 115, 95, 115, 101, 116]⟩, ps := [⟨#[118, 97, 108, 117, 101, 115]⟩], N := [⟨#[118, 97, 108, 117, 101, 115]⟩], nb := [], body :=
      (.cons (.ret (.bi .tuple (.cons false (.sset (.var 0)) .nil)))
      .nil) }
/-- spots -/
def d2 : Df := { nm := ⟨#[115, 112, 111, 116, 115]⟩, ps := [⟨#[114, 111, 119]⟩], N := [⟨#[114, 111, 119]⟩], nb := [], kws := [(0, [⟨#[114, 111, 119]⟩], [0])], body :=
      (.cons (.ret (.call 1 (.cons false (.lst (.cons false (.lit (.int 0)) (.cons true (.ixv 0 (.lit (.int 3))) (.cons false (.bi .len (.cons false (.ixv 0 (.lit (.int 2))) .nil)) .nil)))) .nil)))
      .nil) }
/-- stretches -/
def d3 : Df := { nm := ⟨#[115, 116, 114, 101, 116, 99, 104, 101, 115]⟩, ps := [⟨#[114, 111, 119]⟩], N := [⟨#[114, 111, 119]⟩, ⟨#[109, 97, 114, 107, 101, 100]⟩], nb := [], kws := [(0, [⟨#[114, 111, 119]⟩], [0])], body :=
      (.cons (.asg (.n 1) (.call 2 (.cons false (.var 0) .nil)))
      (.cons (.ret (.tzip (.var 1) (.sl (.var 1) (.some (.lit (.int 1))) .none)))
      .nil)) }
/-- stretch_of -/
def d4 : Df := { nm := ⟨#[115, 116, 114, 101, 116, 99, 104, 95, 111, 102]⟩, ps := [⟨#[114, 111, 119]⟩, ⟨#[110, 117, 109, 98, 101, 114]⟩], N := [⟨#[114, 111, 119]⟩, ⟨#[110, 117, 109, 98, 101, 114]⟩, ⟨#[102, 105, 114, 115, 116]⟩, ⟨#[108, 97, 115, 116]⟩], nb := [], kws := [(0, [⟨#[110, 117, 109, 98, 101, 114]⟩, ⟨#[114, 111, 119]⟩], [1, 0])], body :=
      (.cons (.for (.t [(.n 2), (.n 3)]) (.e (.call 3 (.cons false (.var 0) .nil))) (.cons (.ife (.chn .LtE .Lt (.var 2) (.var 1) (.var 3)) (.cons (.ret (.tup (.cons false (.var 2) (.cons false (.var 3) .nil))))
      .nil) .nil)
      .nil))
      (.cons (.rse 1 (some ⟨#[110, 117, 109, 98, 101, 114]⟩) (.cons false (.var 1) .nil))
      .nil)) }
/-- is_marked -/
def d5 : Df := { nm := ⟨#[105, 115, 95, 109, 97, 114, 107, 101, 100]⟩, ps := [⟨#[114, 111, 119]⟩, ⟨#[110, 117, 109, 98, 101, 114]⟩], N := [⟨#[114, 111, 119]⟩, ⟨#[110, 117, 109, 98, 101, 114]⟩], nb := [], kws := [(0, [⟨#[110, 117, 109, 98, 101, 114]⟩, ⟨#[114, 111, 119]⟩], [1, 0])], body :=
      (.cons (.ret (.cmp .In (.var 1) (.call 2 (.cons false (.var 0) .nil))))
      .nil) }
/-- readers -/
def d6 : Df := { nm := ⟨#[114, 101, 97, 100, 101, 114, 115]⟩, ps := [⟨#[114, 111, 119]⟩, ⟨#[99, 101, 108, 108]⟩], N := [⟨#[114, 111, 119]⟩, ⟨#[99, 101, 108, 108]⟩, ⟨#[110, 117, 109, 98, 101, 114]⟩, ⟨#[109, 111, 118, 101]⟩], nb := [], kws := [(0, [⟨#[99, 101, 108, 108]⟩, ⟨#[114, 111, 119]⟩], [1, 0])], body :=
      (.cons (.expr (.call 0 (.cons false (.ixv 0 (.lit (.int 0))) (.cons false (.var 1) .nil))))
      (.cons (.ret (.bi .tuple (.cons false (.comp (.var 2) (.t [(.n 2), (.n 3)]) (.enum (.ixv 0 (.lit (.int 2)))) (.some (.cmp .In (.var 1) (.ixv 3 (.lit (.int 1))))) [2, 3]) .nil)))
      .nil)) }
/-- writers -/
def d7 : Df := { nm := ⟨#[119, 114, 105, 116, 101, 114, 115]⟩, ps := [⟨#[114, 111, 119]⟩, ⟨#[99, 101, 108, 108]⟩], N := [⟨#[114, 111, 119]⟩, ⟨#[99, 101, 108, 108]⟩, ⟨#[110, 117, 109, 98, 101, 114]⟩, ⟨#[109, 111, 118, 101]⟩], nb := [], kws := [(0, [⟨#[99, 101, 108, 108]⟩, ⟨#[114, 111, 119]⟩], [1, 0])], body :=
      (.cons (.expr (.call 0 (.cons false (.ixv 0 (.lit (.int 0))) (.cons false (.var 1) .nil))))
      (.cons (.ret (.bi .tuple (.cons false (.comp (.var 2) (.t [(.n 2), (.n 3)]) (.enum (.ixv 0 (.lit (.int 2)))) (.some (.cmp .Eq (.ixv 3 (.lit (.int 2))) (.var 1))) [2, 3]) .nil)))
      .nil)) }
/-- read_cells -/
def d8 : Df := { nm := ⟨#[114, 101, 97, 100, 95, 99, 101, 108, 108, 115]⟩, ps := [⟨#[114, 111, 119]⟩], N := [⟨#[114, 111, 119]⟩, ⟨#[109, 111, 118, 101]⟩, ⟨#[99, 101, 108, 108]⟩], nb := [], kws := [(0, [⟨#[114, 111, 119]⟩], [0])], body :=
      (.cons (.ret (.call 1 (.cons false (.comp2 (.var 2) (.n 1) (.e (.ixv 0 (.lit (.int 2)))) .none (.n 2) (.e (.ixv 1 (.lit (.int 1)))) .none [1, 2] [2]) .nil)))
      .nil) }
/-- written_cells -/
def d9 : Df := { nm := ⟨#[119, 114, 105, 116, 116, 101, 110, 95, 99, 101, 108, 108, 115]⟩, ps := [⟨#[114, 111, 119]⟩], N := [⟨#[114, 111, 119]⟩, ⟨#[109, 111, 118, 101]⟩], nb := [], kws := [(0, [⟨#[114, 111, 119]⟩], [0])], body :=
      (.cons (.ret (.call 1 (.cons false (.comp (.ixv 1 (.lit (.int 2))) (.n 1) (.e (.ixv 0 (.lit (.int 2)))) .none [1]) .nil)))
      .nil) }
/-- functions -/
def d10 : Df := { nm := ⟨#[102, 117, 110, 99, 116, 105, 111, 110, 115]⟩, ps := [⟨#[114, 111, 119]⟩], N := [⟨#[114, 111, 119]⟩, ⟨#[109, 111, 118, 101]⟩], nb := [], kws := [(0, [⟨#[114, 111, 119]⟩], [0])], body :=
      (.cons (.ret (.call 1 (.cons false (.comp (.ixv 1 (.lit (.int 0))) (.n 1) (.e (.ixv 0 (.lit (.int 2)))) .none [1]) .nil)))
      .nil) }
/-- _law_box -/
def d11 : Df := { nm := ⟨#[95, 108, 97, 119, 95, 98, 111, 120]⟩, ps := [⟨#[115, 99, 114, 105, 112, 116]⟩, ⟨#[107]⟩], N := [⟨#[115, 99, 114, 105, 112, 116]⟩, ⟨#[107]⟩, ⟨#[99, 101, 108, 108]⟩], nb := [], body :=
      (.cons (.asg (.n 2) (.ite (.cmp .Lt (.var 1) (.bi .len (.cons false (.var 0) .nil))) (.ixv 0 (.var 1)) (.lit (.int 0))))
      (.cons (.ret (.lst (.cons false (.op .Mult (.bi .abs (.cons false (.var 2) .nil)) (.bi .int (.cons false (.cmp .GtE (.bi .abs (.cons false (.var 2) .nil)) (.op .Pow (.lit (.int 10)) (.lit (.int 18)))) .nil))) (.cons false (.op .Add (.op .Add (.op .Mod (.bi .int (.cons false (.var 2) .nil)) (.lit (.int 2305843009213693951))) (.op .Mult (.lit (.int 39373)) (.var 1))) (.lit (.int 402))) (.cons false (.lit (.int 0)) .nil)))))
      .nil)) }
/-- _law_take -/
def d12 : Df := { nm := ⟨#[95, 108, 97, 119, 95, 116, 97, 107, 101]⟩, ps := [⟨#[98, 111, 120]⟩, ⟨#[115, 105, 122, 101, 95, 115, 111]⟩], N := [⟨#[98, 111, 120]⟩, ⟨#[115, 105, 122, 101, 95, 115, 111]⟩, ⟨#[115, 111, 109, 101]⟩, ⟨#[111, 110, 99, 101]⟩, ⟨#[102, 97, 114]⟩, ⟨#[97, 103, 97, 105, 110]⟩], nb := [], body :=
      (.cons (.ife (.cmp .Gt (.ixv 0 (.lit (.int 0))) (.lit (.int 0))) (.cons (.asg (.n 2) (.op .Mod (.bi .int (.cons false (.ixv 0 (.lit (.int 0))) .nil)) (.var 1)))
      (.cons (.setix 0 (.lit (.int 0)) (.op .FloorDiv (.ixv 0 (.lit (.int 0))) (.var 1)))
      (.cons (.ret (.var 2))
      .nil))) .nil)
      (.cons (.setix 0 (.lit (.int 2)) (.op .Add (.ixv 0 (.lit (.int 2))) (.lit (.int 1))))
      (.cons (.asg (.n 3) (.op .Mod (.bi .int (.cons false (.op .Mult (.op .Add (.ixv 0 (.lit (.int 1))) (.op .Mult (.lit (.int 48271)) (.ixv 0 (.lit (.int 2))))) (.op .Add (.lit (.int 39373)) (.ixv 0 (.lit (.int 2))))) .nil)) (.lit (.int 2147483647))))
      (.cons (.asg (.n 4) (.op .Add (.op .Mod (.bi .int (.cons false (.var 3) .nil)) (.lit (.int 40009))) (.lit (.int 7))))
      (.cons (.asg (.n 5) (.op .Mod (.bi .int (.cons false (.op .Mult (.op .Add (.op .Add (.var 3) (.ixv 0 (.lit (.int 2)))) (.op .FloorDiv (.ixv 0 (.lit (.int 1))) (.lit (.int 1000003)))) (.var 4)) .nil)) (.lit (.int 2147483629))))
      (.cons (.ret (.op .Mod (.bi .int (.cons false (.op .FloorDiv (.op .Mod (.bi .int (.cons false (.op .Add (.op .Mult (.var 5) (.lit (.int 48271))) (.var 3)) .nil)) (.lit (.int 2147483587))) (.lit (.int 64))) .nil)) (.var 1)))
      .nil)))))) }
/-- _law_cells -/
def d13 : Df := { nm := ⟨#[95, 108, 97, 119, 95, 99, 101, 108, 108, 115]⟩, ps := [⟨#[115, 99, 114, 105, 112, 116]⟩, ⟨#[116, 111, 112, 95, 115, 111]⟩], N := [⟨#[115, 99, 114, 105, 112, 116]⟩, ⟨#[116, 111, 112, 95, 115, 111]⟩, ⟨#[99, 101, 108, 108, 115, 95, 115, 111]⟩, ⟨#[107]⟩, ⟨#[99, 101, 108, 108]⟩, ⟨#[97, 116, 95, 115, 111]⟩], nb := [], body :=
      (.cons (.asg (.n 2) (.orv (.bi .list (.cons false (.sl (.var 0) .none (.some (.var 1))) .nil)) (.lst (.cons false (.lit (.int 0)) .nil))))
      (.cons (.for (.t [(.n 3), (.n 4)]) (.enum (.sl (.var 0) (.some (.var 1)) (.some (.lit (.int 63))))) (.cons (.asg (.n 5) (.op .Mod (.bi .int (.cons false (.var 3) .nil)) (.var 1)))
      (.cons (.setix 2 (.var 5) (.op .Add (.ixv 2 (.var 5)) (.op .Mult (.var 4) (.op .Add (.var 3) (.lit (.int 2))))))
      .nil)))
      (.cons (.ret (.var 2))
      .nil))) }
/-- _law_of -/
def d14 : Df := { nm := ⟨#[95, 108, 97, 119, 95, 111, 102]⟩, ps := [⟨#[98, 111, 120]⟩, ⟨#[103, 111, 111, 100, 115, 95, 115, 111]⟩], N := [⟨#[98, 111, 120]⟩, ⟨#[103, 111, 111, 100, 115, 95, 115, 111]⟩], nb := [], body :=
      (.cons (.ret (.ixv 1 (.call 12 (.cons false (.var 0) (.cons false (.bi .len (.cons false (.var 1) .nil)) .nil)))))
      .nil) }
/-- _law_pick -/
def d15 : Df := { nm := ⟨#[95, 108, 97, 119, 95, 112, 105, 99, 107]⟩, ps := [⟨#[98, 111, 120]⟩, ⟨#[103, 111, 111, 100, 115, 95, 115, 111]⟩, ⟨#[99, 111, 117, 110, 116, 95, 115, 111]⟩], N := [⟨#[98, 111, 120]⟩, ⟨#[103, 111, 111, 100, 115, 95, 115, 111]⟩, ⟨#[99, 111, 117, 110, 116, 95, 115, 111]⟩, ⟨#[112, 111, 111, 108, 95, 115, 111]⟩, ⟨#[102, 111, 117, 110, 100]⟩, ⟨#[116, 117, 114, 110]⟩], nb := [], body :=
      (.cons (.par [3, 4] (.cons false (.bi .list (.cons false (.var 1) .nil)) (.cons false (.lst .nil) .nil)))
      (.cons (.for (.n 5) (.rng1 (.bi .min2 (.cons false (.bi .int (.cons false (.var 2) .nil)) (.cons false (.bi .len (.cons false (.var 3) .nil)) .nil)))) (.cons (.expr (.app 4 (.popv 3 (.call 12 (.cons false (.var 0) (.cons false (.bi .len (.cons false (.var 3) .nil)) .nil))))))
      .nil))
      (.cons (.ret (.var 4))
      .nil))) }
/-- _law_same -/
def d16 : Df := { nm := ⟨#[95, 108, 97, 119, 95, 115, 97, 109, 101]⟩, ps := [⟨#[103, 111, 116]⟩, ⟨#[100, 117, 101]⟩], N := [⟨#[103, 111, 116]⟩, ⟨#[100, 117, 101]⟩, ⟨#[109, 105, 110, 101]⟩, ⟨#[105, 116, 115]⟩], nb := [], body :=
      (.cons (.ife (.isi (.var 1) [.tList, .tTuple]) (.cons (.ife (.cmp .NotEq (.isi (.var 0) [.tList]) (.isi (.var 1) [.tList])) (.cons (.ret (.lit (.bl false)))
      .nil) .nil)
      (.cons (.ife (.cmp .NotEq (.isi (.var 0) [.tTuple]) (.isi (.var 1) [.tTuple])) (.cons (.ret (.lit (.bl false)))
      .nil) .nil)
      (.cons (.ret (.bo .And (.cons false (.cmp .Eq (.bi .len (.cons false (.var 0) .nil)) (.bi .len (.cons false (.var 1) .nil))) (.cons false (.bi .all (.cons false (.comp (.call 16 (.cons false (.var 2) (.cons false (.var 3) .nil))) (.t [(.n 2), (.n 3)]) (.zip (.var 0) (.var 1)) .none [2, 3]) .nil)) .nil))))
      .nil))) .nil)
      (.cons (.ife (.bo .Or (.cons false (.cmp .Is (.var 1) (.lit .non)) (.cons false (.isi (.var 1) [.tBool, .tStr]) .nil))) (.cons (.ret (.bo .And (.cons false (.cmp .Eq (.var 0) (.var 1)) (.cons false (.cmp .Eq (.isi (.var 0) [.tBool]) (.isi (.var 1) [.tBool])) (.cons false (.cmp .Eq (.cmp .Is (.var 0) (.lit .non)) (.cmp .Is (.var 1) (.lit .non))) .nil)))))
      .nil) .nil)
      (.cons (.ret (.bo .And (.cons false (.isi (.var 0) [.tInt]) (.cons false (.not (.isi (.var 0) [.tBool])) (.cons false (.cmp .Eq (.var 0) (.var 1)) .nil)))))
      .nil))) }
/-- _law_lists -/
def d17 : Df := { nm := ⟨#[95, 108, 97, 119, 95, 108, 105, 115, 116, 115]⟩, ps := [⟨#[109, 97, 116, 116, 101, 114]⟩], N := [⟨#[109, 97, 116, 116, 101, 114]⟩, ⟨#[98, 105, 116]⟩], nb := [], body :=
      (.cons (.ret (.ite (.isi (.var 0) [.tList, .tTuple]) (.comp (.call 17 (.cons false (.var 1) .nil)) (.n 1) (.e (.var 0)) .none [1]) (.var 0)))
      .nil) }
/-- _law_row -/
def d18 : Df := { nm := ⟨#[95, 108, 97, 119, 95, 114, 111, 119]⟩, ps := [⟨#[98, 111, 120]⟩, ⟨#[99, 101, 108, 108, 115, 95, 115, 111]⟩, ⟨#[109, 111, 118, 101, 115, 95, 115, 111]⟩], N := [⟨#[98, 111, 120]⟩, ⟨#[99, 101, 108, 108, 115, 95, 115, 111]⟩, ⟨#[109, 111, 118, 101, 115, 95, 115, 111]⟩, ⟨#[116, 97, 103, 115]⟩, ⟨#[97, 99, 116, 115]⟩, ⟨#[108, 97, 112]⟩, ⟨#[114, 101, 97, 100, 115, 95, 115, 111]⟩, ⟨#[115, 112, 111, 116, 115, 95, 115, 111]⟩, ⟨#[107]⟩, ⟨#[119, 97, 110, 116, 101, 100, 95, 115, 111]⟩], nb := [], body :=
      (.cons (.asg (.n 3) (.bi .sorted (.cons false (.call 15 (.cons false (.var 0) (.cons false (.lst (.cons false (.lit (.str ⟨#[97]⟩)) (.cons false (.lit (.str ⟨#[98]⟩)) (.cons false (.lit (.str ⟨#[99]⟩)) (.cons false (.lit (.str ⟨#[99, 101, 108, 108]⟩)) (.cons false (.lit (.str ⟨#[109, 97, 114, 107]⟩)) (.cons false (.lit (.str ⟨#[116, 111]⟩)) .nil))))))) (.cons false (.op .Add (.lit (.int 2)) (.call 12 (.cons false (.var 0) (.cons false (.op .Sub (.var 1) (.lit (.int 1))) .nil)))) .nil)))) .nil)))
      (.cons (.asg (.n 4) (.lst .nil))
      (.cons (.for (.n 5) (.rng1 (.call 12 (.cons false (.var 0) (.cons false (.op .Add (.var 2) (.lit (.int 1))) .nil)))) (.cons (.asg (.n 6) (.call 15 (.cons false (.var 0) (.cons false (.var 3) (.cons false (.call 12 (.cons false (.var 0) (.cons false (.op .Add (.bi .min2 (.cons false (.lit (.int 3)) (.cons false (.bi .len (.cons false (.var 3) .nil)) .nil))) (.lit (.int 1))) .nil))) .nil)))))
      (.cons (.ife (.bo .And (.cons false (.cmp .Eq (.bi .len (.cons false (.var 6) .nil)) (.lit (.int 1))) (.cons false (.cmp .Eq (.call 12 (.cons false (.var 0) (.cons false (.lit (.int 2)) .nil))) (.lit (.int 0))) .nil))) (.cons (.expr (.app 4 (.tup (.cons false (.lit (.str ⟨#[99, 111, 112, 121]⟩)) (.cons false (.bi .tuple (.cons false (.var 6) .nil)) (.cons false (.call 14 (.cons false (.var 0) (.cons false (.var 3) .nil))) .nil))))))
      .nil) (.cons (.expr (.app 4 (.tup (.cons false (.call 14 (.cons false (.var 0) (.cons false (.lst (.cons false (.lit (.str ⟨#[102]⟩)) (.cons false (.lit (.str ⟨#[103]⟩)) (.cons false (.lit (.str ⟨#[109, 97, 114, 107]⟩)) (.cons false (.lit (.str ⟨#[99, 101, 108, 108, 115]⟩)) .nil))))) .nil))) (.cons false (.bi .tuple (.cons false (.var 6) .nil)) (.cons false (.call 14 (.cons false (.var 0) (.cons false (.var 3) .nil))) .nil))))))
      .nil))
      .nil)))
      (.cons (.asg (.n 7) (.bi .tuple (.cons false (.comp (.var 8) (.n 8) (.e (.sl (.lrng (.bi .len (.cons false (.var 4) .nil))) (.some (.lit (.int 1))) .none)) (.some (.cmp .Eq (.call 12 (.cons false (.var 0) (.cons false (.lit (.int 3)) .nil))) (.lit (.int 0)))) [8]) .nil)))
      (.cons (.asg (.n 9) (.bi .sorted (.cons false (.call 15 (.cons false (.var 0) (.cons false (.var 3) (.cons false (.op .Add (.lit (.int 1)) (.call 12 (.cons false (.var 0) (.cons false (.bi .len (.cons false (.var 3) .nil)) .nil)))) .nil)))) .nil)))
      (.cons (.ret (.tup (.cons false (.bi .tuple (.cons false (.var 3) .nil)) (.cons false (.bi .tuple (.cons false (.var 9) .nil)) (.cons false (.bi .tuple (.cons false (.var 4) .nil)) (.cons false (.var 7) .nil))))))
      .nil)))))) }
/-- _law_heard -/
def d19 : Df := { nm := ⟨#[95, 108, 97, 119, 95, 104, 101, 97, 114, 100]⟩, ps := [⟨#[100, 111, 111, 114]⟩, ⟨#[119, 101, 98]⟩, ⟨#[115, 111, 109, 101]⟩], N := [⟨#[100, 111, 111, 114]⟩, ⟨#[119, 101, 98]⟩, ⟨#[115, 111, 109, 101]⟩, ⟨#[102, 111, 117, 110, 100]⟩, ⟨#[119, 114, 111, 110, 103, 95, 115, 111]⟩, ⟨#[101, 114, 114, 111, 114, 95, 115, 111]⟩], nb := [], body :=
      (.cons (.asg (.t [(.n 3), (.n 4)]) (.tup (.cons false (.lit .non) (.cons false (.lit .non) .nil))))
      (.cons (.tri 2 (.cons (.asg (.n 3) (.callx (.ix (.lst (.cons false (.fnv 4) (.cons false (.fnv 6) (.cons false (.fnv 7) .nil)))) (.var 0)) (.cons false (.var 1) (.cons false (.var 2) .nil))))
      .nil) [⟨1, some 5, some 4, [.lit (.str ⟨#[110, 117, 109, 98, 101, 114]⟩), .fld ⟨#[110, 117, 109, 98, 101, 114]⟩, .isi ⟨#[82, 111, 119, 69, 114, 114, 111, 114]⟩ true]⟩, ⟨0, some 5, some 4, [.lit (.str ⟨#[99, 101, 108, 108]⟩), .fld ⟨#[110, 97, 109, 101]⟩, .isi ⟨#[82, 111, 119, 69, 114, 114, 111, 114]⟩ true]⟩])
      (.cons (.ret (.ite (.cmp .Is (.var 4) (.lit .non)) (.var 3) (.var 4)))
      .nil))) }
/-- _law_by_hand_right -/
def d20 : Df := { nm := ⟨#[95, 108, 97, 119, 95, 98, 121, 95, 104, 97, 110, 100, 95, 114, 105, 103, 104, 116]⟩, ps := [], N := [⟨#[102, 108, 97, 116]⟩, ⟨#[119, 101, 98]⟩, ⟨#[98, 97, 114, 101]⟩, ⟨#[103, 111, 116]⟩, ⟨#[107]⟩, ⟨#[100, 117, 101]⟩, ⟨#[111, 119, 110]⟩, ⟨#[115, 111, 102, 116]⟩], nb := [], body :=
      (.cons (.asg (.n 0) (.tup (.cons false (.tup (.cons false (.lit (.str ⟨#[99, 111, 112, 121]⟩)) (.cons false (.tup (.cons false (.lit (.str ⟨#[97]⟩)) .nil)) (.cons false (.lit (.str ⟨#[115]⟩)) .nil)))) (.cons false (.tup (.cons false (.lit (.str ⟨#[102]⟩)) (.cons false (.tup (.cons false (.lit (.str ⟨#[97]⟩)) (.cons false (.lit (.str ⟨#[98]⟩)) .nil))) (.cons false (.lit (.str ⟨#[97]⟩)) .nil)))) (.cons false (.tup (.cons false (.lit (.str ⟨#[103]⟩)) (.cons false (.tup (.cons false (.lit (.str ⟨#[115]⟩)) .nil)) (.cons false (.lit (.str ⟨#[98]⟩)) .nil)))) (.cons false (.tup (.cons false (.lit (.str ⟨#[102]⟩)) (.cons false (.tup .nil) (.cons false (.lit (.str ⟨#[98]⟩)) .nil)))) .nil))))))
      (.cons (.asg (.t [(.n 1), (.n 2)]) (.tup (.cons false (.tup (.cons false (.tup (.cons false (.lit (.str ⟨#[97]⟩)) (.cons false (.lit (.str ⟨#[98]⟩)) (.cons false (.lit (.str ⟨#[115]⟩)) .nil)))) (.cons false (.tup (.cons false (.lit (.str ⟨#[97]⟩)) (.cons false (.lit (.str ⟨#[98]⟩)) .nil))) (.cons false (.var 0) (.cons false (.tup (.cons false (.lit (.int 1)) (.cons false (.lit (.int 3)) .nil))) .nil))))) (.cons false (.tup (.cons false (.tup (.cons false (.lit (.str ⟨#[122]⟩)) .nil)) (.cons false (.tup (.cons false (.lit (.str ⟨#[122]⟩)) .nil)) (.cons false (.tup .nil) (.cons false (.tup .nil) .nil))))) .nil))))
      (.cons (.asg (.n 3) (.lst (.cons false (.call 2 (.cons false (.var 1) .nil)) (.cons false (.call 3 (.cons false (.var 1) .nil)) (.cons false (.call 2 (.cons false (.var 2) .nil)) .nil)))))
      (.cons (.asg (.n 3) (.op .Add (.var 3) (.lst (.cons false (.call 3 (.cons false (.var 2) .nil)) (.cons false (.comp (.call 5 (.cons false (.var 1) (.cons false (.var 4) .nil))) (.n 4) (.rng2 (.neg (.lit (.int 1))) (.lit (.int 6))) .none [4]) .nil)))))
      (.cons (.asg (.n 5) (.lst (.cons false (.tup (.cons false (.lit (.int 0)) (.cons false (.lit (.int 1)) (.cons false (.lit (.int 3)) (.cons false (.lit (.int 4)) .nil))))) (.cons false (.tup (.cons false (.tup (.cons false (.lit (.int 0)) (.cons false (.lit (.int 1)) .nil))) (.cons false (.tup (.cons false (.lit (.int 1)) (.cons false (.lit (.int 3)) .nil))) (.cons false (.tup (.cons false (.lit (.int 3)) (.cons false (.lit (.int 4)) .nil))) .nil)))) (.cons false (.tup (.cons false (.lit (.int 0)) .nil)) (.cons false (.tup .nil) (.cons false (.lst (.cons false (.lit (.bl false)) (.cons false (.lit (.bl true)) (.cons false (.lit (.bl true)) (.cons false (.lit (.bl false)) (.cons false (.lit (.bl true)) (.cons false (.lit (.bl true)) (.cons false (.lit (.bl false)) .nil)))))))) .nil)))))))
      (.cons (.asg (.n 3) (.op .Add (.var 3) (.lst (.cons false (.comp (.call 19 (.cons false (.lit (.int 0)) (.cons false (.var 1) (.cons false (.var 4) .nil)))) (.n 4) (.e (.tup (.cons false (.lit (.int 0)) (.cons false (.lit (.int 1)) (.cons false (.lit (.int 2)) (.cons false (.lit (.int 3)) (.cons false (.lit (.int 4)) (.cons false (.neg (.lit (.int 1))) .nil)))))))) .none [4]) (.cons false (.call 19 (.cons false (.lit (.int 0)) (.cons false (.var 2) (.cons false (.lit (.int 0)) .nil)))) .nil)))))
      (.cons (.asg (.n 3) (.op .Add (.var 3) (.lst (.cons false (.call 5 (.cons false (.var 2) (.cons false (.lit (.int 0)) .nil))) .nil))))
      (.cons (.asg (.n 5) (.op .Add (.var 5) (.lst (.cons false (.lst (.cons false (.tup (.cons false (.lit (.int 0)) (.cons false (.lit (.int 1)) .nil))) (.cons false (.tup (.cons false (.lit (.int 1)) (.cons false (.lit (.int 3)) .nil))) (.cons false (.tup (.cons false (.lit (.int 1)) (.cons false (.lit (.int 3)) .nil))) (.cons false (.tup (.cons false (.lit (.int 3)) (.cons false (.lit (.int 4)) .nil))) (.cons false (.lst (.cons false (.lit (.str ⟨#[110, 117, 109, 98, 101, 114]⟩)) (.cons false (.lit (.int 4)) (.cons false (.lit (.bl true)) .nil)))) (.cons false (.lst (.cons false (.lit (.str ⟨#[110, 117, 109, 98, 101, 114]⟩)) (.cons false (.neg (.lit (.int 1))) (.cons false (.lit (.bl true)) .nil)))) .nil))))))) (.cons false (.lst (.cons false (.lit (.str ⟨#[110, 117, 109, 98, 101, 114]⟩)) (.cons false (.lit (.int 0)) (.cons false (.lit (.bl true)) .nil)))) .nil)))))
      (.cons (.asg (.n 5) (.op .Add (.var 5) (.lst (.cons false (.lit (.bl true)) .nil))))
      (.cons (.asg (.n 3) (.op .Add (.var 3) (.lst (.cons false (.comp (.call 19 (.cons false (.lit (.int 1)) (.cons false (.var 1) (.cons false (.var 6) .nil)))) (.n 6) (.e (.tup (.cons false (.lit (.str ⟨#[97]⟩)) (.cons false (.lit (.str ⟨#[98]⟩)) (.cons false (.lit (.str ⟨#[115]⟩)) (.cons false (.lit (.str ⟨#[122]⟩)) (.cons false (.lit (.str ⟨#[]⟩)) .nil))))))) .none [6]) .nil))))
      (.cons (.asg (.n 3) (.op .Add (.var 3) (.lst (.cons false (.comp (.call 19 (.cons false (.lit (.int 2)) (.cons false (.var 1) (.cons false (.var 6) .nil)))) (.n 6) (.e (.tup (.cons false (.lit (.str ⟨#[97]⟩)) (.cons false (.lit (.str ⟨#[98]⟩)) (.cons false (.lit (.str ⟨#[115]⟩)) (.cons false (.lit (.str ⟨#[99]⟩)) .nil)))))) .none [6]) .nil))))
      (.cons (.asg (.n 5) (.op .Add (.var 5) (.lst (.cons false (.lst (.cons false (.tup (.cons false (.lit (.int 0)) (.cons false (.lit (.int 1)) .nil))) (.cons false (.tup (.cons false (.lit (.int 1)) .nil)) (.cons false (.tup (.cons false (.lit (.int 2)) .nil)) (.cons false (.lst (.cons false (.lit (.str ⟨#[99, 101, 108, 108]⟩)) (.cons false (.lit (.str ⟨#[122]⟩)) (.cons false (.lit (.bl true)) .nil)))) (.cons false (.lst (.cons false (.lit (.str ⟨#[99, 101, 108, 108]⟩)) (.cons false (.lit (.str ⟨#[]⟩)) (.cons false (.lit (.bl true)) .nil)))) .nil)))))) .nil))))
      (.cons (.asg (.n 5) (.op .Add (.var 5) (.lst (.cons false (.lst (.cons false (.tup (.cons false (.lit (.int 1)) .nil)) (.cons false (.tup (.cons false (.lit (.int 2)) (.cons false (.lit (.int 3)) .nil))) (.cons false (.tup (.cons false (.lit (.int 0)) .nil)) (.cons false (.lst (.cons false (.lit (.str ⟨#[99, 101, 108, 108]⟩)) (.cons false (.lit (.str ⟨#[99]⟩)) (.cons false (.lit (.bl true)) .nil)))) .nil))))) .nil))))
      (.cons (.asg (.n 3) (.op .Add (.var 3) (.lst (.cons false (.call 8 (.cons false (.var 1) .nil)) (.cons false (.call 9 (.cons false (.var 1) .nil)) (.cons false (.call 10 (.cons false (.var 1) .nil)) (.cons false (.call 8 (.cons false (.var 2) .nil)) .nil)))))))
      (.cons (.asg (.n 3) (.op .Add (.var 3) (.lst (.cons false (.call 9 (.cons false (.var 2) .nil)) (.cons false (.call 10 (.cons false (.var 2) .nil)) (.cons false (.call 6 (.cons false (.var 2) (.cons false (.lit (.str ⟨#[122]⟩)) .nil))) .nil))))))
      (.cons (.asg (.n 5) (.op .Add (.var 5) (.lst (.cons false (.tup (.cons false (.lit (.str ⟨#[97]⟩)) (.cons false (.lit (.str ⟨#[98]⟩)) (.cons false (.lit (.str ⟨#[115]⟩)) .nil)))) (.cons false (.tup (.cons false (.lit (.str ⟨#[97]⟩)) (.cons false (.lit (.str ⟨#[98]⟩)) (.cons false (.lit (.str ⟨#[115]⟩)) .nil)))) (.cons false (.tup (.cons false (.lit (.str ⟨#[99, 111, 112, 121]⟩)) (.cons false (.lit (.str ⟨#[102]⟩)) (.cons false (.lit (.str ⟨#[103]⟩)) .nil)))) (.cons false (.tup .nil) (.cons false (.tup .nil) (.cons false (.tup .nil) (.cons false (.tup .nil) .nil))))))))))
      (.cons (.asg (.n 7) (.call 17 (.cons false (.var 1) .nil)))
      (.cons (.asg (.n 3) (.op .Add (.var 3) (.lst (.cons false (.callk 2 .nil (.cons false (.var 7) .nil) [0]) (.cons false (.callk 3 .nil (.cons false (.var 7) .nil) [0]) (.cons false (.callk 4 .nil (.cons false (.lit (.int 2)) (.cons false (.var 7) .nil)) [1, 0]) .nil))))))
      (.cons (.asg (.n 3) (.op .Add (.var 3) (.lst (.cons false (.callk 5 .nil (.cons false (.lit (.int 3)) (.cons false (.var 7) .nil)) [1, 0]) (.cons false (.callk 6 .nil (.cons false (.lit (.str ⟨#[97]⟩)) (.cons false (.var 7) .nil)) [1, 0]) .nil)))))
      (.cons (.asg (.n 3) (.op .Add (.var 3) (.lst (.cons false (.callk 7 .nil (.cons false (.lit (.str ⟨#[98]⟩)) (.cons false (.var 7) .nil)) [1, 0]) (.cons false (.callk 8 .nil (.cons false (.var 7) .nil) [0]) (.cons false (.callk 9 .nil (.cons false (.var 7) .nil) [0]) .nil))))))
      (.cons (.asg (.n 3) (.op .Add (.var 3) (.lst (.cons false (.callk 10 .nil (.cons false (.var 7) .nil) [0]) (.cons false (.var 7) .nil)))))
      (.cons (.asg (.n 5) (.op .Add (.var 5) (.lst (.cons false (.tup (.cons false (.lit (.int 0)) (.cons false (.lit (.int 1)) (.cons false (.lit (.int 3)) (.cons false (.lit (.int 4)) .nil))))) (.cons false (.tup (.cons false (.tup (.cons false (.lit (.int 0)) (.cons false (.lit (.int 1)) .nil))) (.cons false (.tup (.cons false (.lit (.int 1)) (.cons false (.lit (.int 3)) .nil))) (.cons false (.tup (.cons false (.lit (.int 3)) (.cons false (.lit (.int 4)) .nil))) .nil)))) (.cons false (.tup (.cons false (.lit (.int 1)) (.cons false (.lit (.int 3)) .nil))) (.cons false (.lit (.bl true)) (.cons false (.tup (.cons false (.lit (.int 0)) (.cons false (.lit (.int 1)) .nil))) .nil))))))))
      (.cons (.asg (.n 5) (.op .Add (.var 5) (.lst (.cons false (.tup (.cons false (.lit (.int 2)) (.cons false (.lit (.int 3)) .nil))) (.cons false (.tup (.cons false (.lit (.str ⟨#[97]⟩)) (.cons false (.lit (.str ⟨#[98]⟩)) (.cons false (.lit (.str ⟨#[115]⟩)) .nil)))) (.cons false (.tup (.cons false (.lit (.str ⟨#[97]⟩)) (.cons false (.lit (.str ⟨#[98]⟩)) (.cons false (.lit (.str ⟨#[115]⟩)) .nil)))) (.cons false (.tup (.cons false (.lit (.str ⟨#[99, 111, 112, 121]⟩)) (.cons false (.lit (.str ⟨#[102]⟩)) (.cons false (.lit (.str ⟨#[103]⟩)) .nil)))) .nil)))))))
      (.cons (.ret (.call 16 (.cons false (.var 3) (.cons false (.op .Add (.var 5) (.lst (.cons false (.call 17 (.cons false (.var 1) .nil)) .nil))) .nil))))
      .nil)))))))))))))))))))))))) }
/-- _law_right -/
def d21 : Df := { nm := ⟨#[95, 108, 97, 119, 95, 114, 105, 103, 104, 116]⟩, ps := [⟨#[98, 111, 120]⟩], N := [⟨#[98, 111, 120]⟩, ⟨#[119, 101, 98]⟩, ⟨#[116, 97, 103, 115]⟩, ⟨#[115, 111, 109, 101]⟩, ⟨#[102, 108, 97, 116]⟩, ⟨#[109, 97, 114, 107, 115, 95, 115, 111]⟩, ⟨#[101, 118, 101, 114, 121, 95, 115, 111]⟩, ⟨#[103, 111, 116]⟩, ⟨#[107]⟩, ⟨#[100, 117, 101]⟩, ⟨#[116, 97, 103]⟩, ⟨#[111, 119, 110]⟩], nb := [], body :=
      (.cons (.asg (.n 1) (.call 18 (.cons false (.var 0) (.cons false (.lit (.int 5)) (.cons false (.lit (.int 8)) .nil)))))
      (.cons (.asg (.t [(.n 2), (.n 3), (.n 4), (.n 5)]) (.var 1))
      (.cons (.asg (.n 6) (.fz (.sset (.op .Add (.tup (.cons false (.lit (.int 0)) (.cons false (.bi .len (.cons false (.var 4) .nil)) .nil))) (.var 5)))))
      (.cons (.asg (.n 7) (.lst (.cons false (.call 2 (.cons false (.var 1) .nil)) (.cons false (.call 3 (.cons false (.var 1) .nil)) (.cons false (.comp (.call 5 (.cons false (.var 1) (.cons false (.var 8) .nil))) (.n 8) (.rng1 (.op .Add (.bi .len (.cons false (.var 4) .nil)) (.lit (.int 1)))) .none [8]) .nil)))))
      (.cons (.asg (.n 7) (.op .Add (.var 7) (.lst (.cons false (.call 8 (.cons false (.var 1) .nil)) (.cons false (.call 9 (.cons false (.var 1) .nil)) (.cons false (.call 10 (.cons false (.var 1) .nil)) .nil))))))
      (.cons (.asg (.n 9) (.lst (.cons false (.bi .tuple (.cons false (.var 6) .nil)) (.cons false (.bi .tuple (.cons false (.comp (.tup (.cons false (.ixv 6 (.var 8)) (.cons false (.ixv 6 (.op .Add (.var 8) (.lit (.int 1)))) .nil))) (.n 8) (.rng1 (.op .Sub (.bi .len (.cons false (.var 6) .nil)) (.lit (.int 1)))) .none [8]) .nil)) .nil))))
      (.cons (.asg (.n 9) (.op .Add (.var 9) (.lst (.cons false (.comp (.cmp .In (.var 8) (.var 6)) (.n 8) (.rng1 (.op .Add (.bi .len (.cons false (.var 4) .nil)) (.lit (.int 1)))) .none [8]) .nil))))
      (.cons (.asg (.n 9) (.op .Add (.var 9) (.lst (.cons false (.bi .tuple (.cons false (.comp (.var 10) (.n 10) (.e (.var 2)) (.some (.cmp .NotEq (.comp (.var 11) (.n 11) (.e (.var 4)) (.some (.cmp .In (.var 10) (.ixv 11 (.lit (.int 1))))) [11]) (.lst .nil))) [10]) .nil)) .nil))))
      (.cons (.asg (.n 9) (.op .Add (.var 9) (.lst (.cons false (.bi .tuple (.cons false (.comp (.var 10) (.n 10) (.e (.var 2)) (.some (.cmp .In (.var 10) (.comp (.ixv 11 (.lit (.int 2))) (.n 11) (.e (.var 4)) .none [11]))) [10]) .nil)) .nil))))
      (.cons (.asg (.n 9) (.op .Add (.var 9) (.lst (.cons false (.bi .tuple (.cons false (.sset (.comp (.ixv 11 (.lit (.int 0))) (.n 11) (.e (.var 4)) .none [11])) .nil)) .nil))))
      (.cons (.for (.n 10) (.e (.var 2)) (.cons (.asg (.n 7) (.op .Add (.var 7) (.lst (.cons false (.call 6 (.cons false (.var 1) (.cons false (.var 10) .nil))) (.cons false (.call 7 (.cons false (.var 1) (.cons false (.var 10) .nil))) .nil)))))
      (.cons (.expr (.app 9 (.bi .tuple (.cons false (.comp (.var 8) (.n 8) (.rng1 (.bi .len (.cons false (.var 4) .nil))) (.some (.cmp .In (.var 10) (.ix (.ixv 4 (.var 8)) (.lit (.int 1))))) [8]) .nil))))
      (.cons (.expr (.app 9 (.bi .tuple (.cons false (.comp (.var 8) (.n 8) (.rng1 (.bi .len (.cons false (.var 4) .nil))) (.some (.cmp .Eq (.var 10) (.ix (.ixv 4 (.var 8)) (.lit (.int 2))))) [8]) .nil))))
      .nil))))
      (.cons (.for (.n 8) (.rng1 (.bi .len (.cons false (.var 4) .nil))) (.cons (.expr (.app 7 (.call 4 (.cons false (.var 1) (.cons false (.var 8) .nil)))))
      (.cons (.expr (.app 9 (.tup (.cons false (.bi .max1 (.cons false (.comp (.var 11) (.n 11) (.e (.var 6)) (.some (.cmp .LtE (.var 11) (.var 8))) [11]) .nil)) (.cons false (.bi .min1 (.cons false (.comp (.var 11) (.n 11) (.e (.var 6)) (.some (.cmp .Gt (.var 11) (.var 8))) [11]) .nil)) .nil)))))
      .nil)))
      (.cons (.ret (.call 16 (.cons false (.var 7) (.cons false (.var 9) .nil))))
      .nil))))))))))))) }
/-- law -/
def d22 : Df := { nm := ⟨#[108, 97, 119]⟩, ps := [⟨#[115, 99, 114, 105, 112, 116]⟩], N := [⟨#[115, 99, 114, 105, 112, 116]⟩, ⟨#[99, 101, 108, 108, 115]⟩, ⟨#[107]⟩], nb := [], body :=
      (.cons (.asg (.n 1) (.call 13 (.cons false (.var 0) (.cons false (.lit (.int 3)) .nil))))
      (.cons (.ret (.bo .And (.cons false (.call0 20) (.cons false (.bi .all (.cons false (.comp (.call 21 (.cons false (.call 11 (.cons false (.var 1) (.cons false (.var 2) .nil))) .nil)) (.n 2) (.rng1 (.bi .len (.cons false (.var 1) .nil))) .none [2]) .nil)) .nil))))
      .nil)) }
def T : List Df := [d0, d1, d2, d3, d4, d5, d6, d7, d8, d9, d10, d11, d12, d13, d14, d15, d16, d17, d18, d19, d20, d21, d22]
def gl : Nat → Option D
  | _ => none
end Ir
/-! k02: what the program tells of a row. -/
namespace Ir
open PySem AI Cm
theorem set_at : At T 1 setD := ⟨_, rfl, rfl, rfl, rfl, rfl⟩
section
variable {n : Nat} {ts wd : List Str} {ms : List Mo} {sp : List Int}
theorem need_ok {c : Str} (h : c ∈ ts) : run T gl (n + 1) 0 [.v (.tup (ts.map D.str)), .v (.str c)] = some (.ok (.v .non) [.no, .no]) := by
  refine (run_of (T := T) (gl := gl) (j := 0) (f := d0) rfl n _).trans (runD_nx (e := [.v (.tup (ts.map D.str)), .v (.str c)]) (A := [.v (.tup (ts.map D.str)), .v (.str c)]) rfl rfl rfl ?_ rfl)
  have t : (ev ⟨run T gl n, gl⟩ (.cmp .NotIn (.var 1) (.var 0))).t [.v (.tup (ts.map D.str)), .v (.str c)] = some (.ok false [.v (.tup (ts.map D.str)), .v (.str c)]) :=
    cmp_t (var_d rfl) (var_d rfl) (by
      show (inSeq (.str c) (ts.map D.str)).map (!·) = _
      rw [in_strs, decide_eq_true h]
      rfl)
  show sxs ⟨run T gl n, gl⟩ (lent 0 [.v (.tup (ts.map D.str)), .v (.str c)]) d0.body _ = _
  simp only [d0, sxs, sx]
  rw [show (List.replicate _ Sl.no) = [] from rfl, List.append_nil, t]
  rfl
/-- the marked spots -/
def Mk0 (sp : List Int) (n : Nat) : List Int := setI (0 :: (sp ++ [(n : Int)]))
theorem spots_ok (hs : sp.length ≤ 50) : run T gl (n + 2) 2 [.v (rowT ts wd ms sp)] = some (.ok (.v (.tup ((Mk0 sp ms.length).map D.int))) [.no]) := by
  refine (run_of (T := T) (gl := gl) (j := 2) (f := d2) rfl (n + 1) _).trans (runD_eq (e := [.v (rowT ts wd ms sp)]) (A0 := [.v (rowT ts wd ms sp)]) rfl rfl rfl rfl fun G fin => ?_)
  have e : D.int 0 :: (sp.map D.int ++ [D.int ((ms.map Mo.d).length : Nat)]) = (0 :: (sp ++ [(ms.length : Int)])).map D.int := by simp
  refine stR (A1 := [.v (rowT ts wd ms sp)]) (v := .v (.tup ((Mk0 sp ms.length).map D.int))) ?_ (fin _ rfl)
  refine ret_v rfl (call_v (A1 := [.v (rowT ts wd ms sp)]) (eva_val rfl (lst_v (ds := (0 :: (sp ++ [(ms.length : Int)])).map D.int) ?_ (short_map (by simp; omega))) eva_nil) rfl rfl (set_ok set_at n (sset_ints (by simp; omega))) rfl)
  rw [← e]
  exact evs_cons lit_d (evs_star (ixv_d rfl lit_d (peek_v rfl) rfl) rfl (evs_cons (bi1_dv rfl (ixv_d rfl lit_d (peek_v rfl) rfl) rfl) evs_nil))
/-- neighbours -/
def prs : List Int → List (Int × Int)
  | a :: b :: r => (a, b) :: prs (b :: r)
  | _ => []
def prD (x : Int × Int) : D := .tup [.int x.1, .int x.2]
theorem zip_prs : ∀ {l : List Int}, zipD (l.map D.int) ((l.map D.int).drop 1) = (prs l).map prD
  | [] => rfl
  | [a] => rfl
  | a :: b :: r => by
    have ih := zip_prs (l := b :: r)
    show D.tup [.int a, .int b] :: zipD (D.int b :: r.map D.int) (r.map D.int) = _
    have ih : zipD (D.int b :: r.map D.int) (r.map D.int) = (prs (b :: r)).map prD := ih
    rw [ih]
    rfl
theorem stretches_ok (hs : sp.length ≤ 50) : run T gl (n + 3) 3 [.v (rowT ts wd ms sp)] = some (.ok (.v (.tup ((prs (Mk0 sp ms.length)).map prD))) [.no]) := by
  refine (run_of (T := T) (gl := gl) (j := 3) (f := d3) rfl (n + 2) _).trans (runD_eq (e := [.v (rowT ts wd ms sp)]) (A0 := [.v (rowT ts wd ms sp), .no]) rfl rfl rfl rfl fun G fin => ?_)
  refine st (A1 := [.v (rowT ts wd ms sp), .v (.tup ((Mk0 sp ms.length).map D.int))]) (asg_ok (call_v (eva_var rfl eva_nil) rfl rfl (spots_ok hs) rfl) rfl) ?_
  refine stR (A1 := [.v (rowT ts wd ms sp), .v (.tup ((Mk0 sp ms.length).map D.int))]) (v := .v (.tup ((prs (Mk0 sp ms.length)).map prD))) (ret_v rfl (tzip_v (var_d rfl) (d_of_v (sl_v (var_d rfl) (by decide) rfl)) ?_)) (fin _ rfl)
  have ml : (Mk0 sp ms.length).length ≤ 60 := by
    have := len_setI (l := 0 :: (sp ++ [(ms.length : Int)]))
    simp at this
    show (setI _).length ≤ 60
    omega
  show (if short _ && short (cutD _ (some 1) none) then _ else _) = _
  rw [cut_one, short_map (by omega), Cm.short_of (by rw [List.length_drop, List.length_map]; omega), zip_prs]
  rfl
theorem marked_ok (hs : sp.length ≤ 50) (k : Int) : run T gl (n + 3) 5 [.v (rowT ts wd ms sp), .v (.int k)] = some (.ok (.v (.bl (decide (k ∈ Mk0 sp ms.length)))) [.no, .no]) := by
  refine (run_of (T := T) (gl := gl) (j := 5) (f := d5) rfl (n + 2) _).trans (runD_eq (e := [.v (rowT ts wd ms sp), .v (.int k)]) (A0 := [.v (rowT ts wd ms sp), .v (.int k)]) rfl rfl rfl rfl fun G fin => ?_)
  exact stR (A1 := [.v (rowT ts wd ms sp), .v (.int k)]) (ret_v rfl (cmp_v (var_d rfl) (call_dv (eva_var rfl eva_nil) rfl rfl (spots_ok hs) rfl) in_ints)) (fin _ rfl)
end
end Ir
/-! k02: who reads, who writes, what is read, what is written; functions. -/
namespace Ir
open PySem AI Cm
theorem strs_ok : (six ++ fns ++ [sCopy]).all PySem.PyData.strOk = true := by decide +kernel
theorem six_ok {s : Str} (h : s ∈ six) : PySem.PyData.strOk s = true := List.all_eq_true.mp strs_ok s (by simp [h])
section
variable {n : Nat} {ts wd : List Str} {ms : List Mo} {sp : List Int}
def rowA (ts wd : List Str) (ms : List Mo) (sp : List Int) (c : Str) : As := [.v (rowT ts wd ms sp), .v (.str c), .no, .no]
def encM (x : Mo × Nat) : D := .tup [.int (x.2 : Nat), x.1.d]
def readP (c : Str) (x : Mo × Nat) : Bool := decide (c ∈ x.1.reads)
def writeP (c : Str) (x : Mo × Nat) : Bool := decide (x.1.cell = c)
def intP (x : Mo × Nat) : D := .int (x.2 : Nat)
theorem readers_ok {c : Str} (h : c ∈ ts) (hm : ms.length ≤ 1000) : run T gl (n + 2) 6 [.v (rowT ts wd ms sp), .v (.str c)] = some (.ok (.v (.tup ((ms.zipIdx.filter (readP c)).map intP))) [.no, .no]) := by
  refine (run_of (T := T) (gl := gl) (j := 6) (f := d6) rfl (n + 1) _).trans (runD_eq (e := [.v (rowT ts wd ms sp), .v (.str c)]) (A0 := rowA ts wd ms sp c) rfl rfl rfl rfl fun G fin => ?_)
  refine st (A1 := rowA ts wd ms sp c) ?_ ?_
  · have e : (ev ⟨run T gl (n + 1), gl⟩ (.call 0 (.cons false (.ixv 0 (.lit (.int 0))) (.cons false (.var 1) .nil)))).v (rowA ts wd ms sp c) = some (.ok (.v .non) (rowA ts wd ms sp c)) :=
      call_v (eva_val rfl (ixv_v rfl lit_d (peek_v rfl) rfl) (eva_var rfl eva_nil)) rfl rfl (need_ok h) rfl
    show Ot.of ((ev ⟨run T gl (n + 1), gl⟩ (.call 0 (.cons false (.ixv 0 (.lit (.int 0))) (.cons false (.var 1) .nil)))).v (rowA ts wd ms sp c)) _ = _
    rw [e]
    rfl
  · refine stR (A1 := rowA ts wd ms sp c) (v := .v (.tup ((ms.zipIdx.filter (readP c)).map intP))) (ret_v rfl (tup_of rfl (comp_filter (enc := encM) (it_enum (ixv_d rfl lit_d (peek_v rfl) rfl) (congrArg some enum_map)) (by rw [List.length_zipIdx]; exact hm) fun x hx => ?_))) (fin _ rfl)
    exact ⟨[.v (rowT ts wd ms sp), .v (.str c), .v (.int (x.2 : Nat)), .v x.1.d], rfl, rfl, cmp_t (var_d rfl) (ixv_d rfl lit_d (peek_v rfl) rfl) in_strs, fun _ => var_d rfl⟩
theorem writers_ok {c : Str} (h : c ∈ ts) (hs : ∀ a, a ∈ ts → a ∈ six) (ho : ∀ m, m ∈ ms → m.ok ts) (hm : ms.length ≤ 1000) : run T gl (n + 2) 7 [.v (rowT ts wd ms sp), .v (.str c)] = some (.ok (.v (.tup ((ms.zipIdx.filter (writeP c)).map intP))) [.no, .no]) := by
  refine (run_of (T := T) (gl := gl) (j := 7) (f := d7) rfl (n + 1) _).trans (runD_eq (e := [.v (rowT ts wd ms sp), .v (.str c)]) (A0 := rowA ts wd ms sp c) rfl rfl rfl rfl fun G fin => ?_)
  refine st (A1 := rowA ts wd ms sp c) ?_ ?_
  · have e : (ev ⟨run T gl (n + 1), gl⟩ (.call 0 (.cons false (.ixv 0 (.lit (.int 0))) (.cons false (.var 1) .nil)))).v (rowA ts wd ms sp c) = some (.ok (.v .non) (rowA ts wd ms sp c)) :=
      call_v (eva_val rfl (ixv_v rfl lit_d (peek_v rfl) rfl) (eva_var rfl eva_nil)) rfl rfl (need_ok h) rfl
    show Ot.of ((ev ⟨run T gl (n + 1), gl⟩ (.call 0 (.cons false (.ixv 0 (.lit (.int 0))) (.cons false (.var 1) .nil)))).v (rowA ts wd ms sp c)) _ = _
    rw [e]
    rfl
  · refine stR (A1 := rowA ts wd ms sp c) (v := .v (.tup ((ms.zipIdx.filter (writeP c)).map intP))) (ret_v rfl (tup_of rfl (comp_filter (enc := encM) (it_enum (ixv_d rfl lit_d (peek_v rfl) rfl) (congrArg some enum_map)) (by rw [List.length_zipIdx]; exact hm) fun x hx => ?_))) (fin _ rfl)
    have hx' := List.mem_of_getElem? (zip_at hx)
    exact ⟨[.v (rowT ts wd ms sp), .v (.str c), .v (.int (x.2 : Nat)), .v x.1.d], rfl, rfl, cmp_t (ixv_d rfl lit_d (peek_v rfl) rfl) (var_d rfl) (eqD_str (six_ok (hs _ (ho _ hx').cl)) (six_ok (hs _ h))), fun _ => var_d rfl⟩
def readsOf (ms : List Mo) : List Str := ms.flatMap Mo.reads
theorem reads_len : ∀ {ms : List Mo}, (∀ m, m ∈ ms → m.ok ts) → (readsOf ms).length ≤ 3 * ms.length
  | [], _ => Nat.le_refl _
  | m :: r, h => by
    have ih := reads_len (ms := r) fun x hx => h x (List.mem_cons_of_mem _ hx)
    have := (h m List.mem_cons_self).ln
    show (m.reads ++ readsOf r).length ≤ _
    rw [List.length_append, List.length_cons]
    omega
theorem read_cells_ok (ho : ∀ m, m ∈ ms → m.ok ts) (hm : ms.length ≤ 20) : run T gl (n + 2) 8 [.v (rowT ts wd ms sp)] = some (.ok (.v (.tup ((setS (readsOf ms)).map D.str))) [.no]) := by
  have hl := reads_len ho
  refine (run_of (T := T) (gl := gl) (j := 8) (f := d8) rfl (n + 1) _).trans (runD_eq (e := [.v (rowT ts wd ms sp)]) (A0 := [.v (rowT ts wd ms sp), .no, .no]) rfl rfl rfl rfl fun G fin => ?_)
  refine stR (A1 := [.v (rowT ts wd ms sp), .no, .no]) (v := .v (.tup ((setS (readsOf ms)).map D.str))) (ret_v rfl (call_v (A1 := [.v (rowT ts wd ms sp), .no, .no]) (eva_val rfl ?_ eva_nil) rfl rfl (set_ok set_at n (sset_strs (l := readsOf ms) (by omega))) rfl)) (fin _ rfl)
  have e : (readsOf ms).map D.str = ms.flatMap fun m => m.reads.map D.str := by unfold readsOf; rw [List.map_flatMap]
  rw [e]
  refine comp2_map (L := ms) (enc := Mo.d) (M := Mo.reads) (enc1 := D.str) (g := fun _ a => D.str a) (it_e (ixv_d rfl lit_d (peek_v rfl) rfl) rfl) (by show (readsOf ms).length ≤ 1000; omega) (by decide) fun m hm => ?_
  exact ⟨[.v (rowT ts wd ms sp), .v m.d, .no], rfl, rfl, it_e (ixv_d rfl lit_d (peek_v rfl) rfl) rfl, fun a ha => ⟨[.v (rowT ts wd ms sp), .v m.d, .v (.str a)], rfl, rfl, var_d rfl⟩⟩
theorem written_ok (hm : ms.length ≤ 20) : run T gl (n + 2) 9 [.v (rowT ts wd ms sp)] = some (.ok (.v (.tup ((setS (ms.map Mo.cell)).map D.str))) [.no]) := by
  refine (run_of (T := T) (gl := gl) (j := 9) (f := d9) rfl (n + 1) _).trans (runD_eq (e := [.v (rowT ts wd ms sp)]) (A0 := [.v (rowT ts wd ms sp), .no]) rfl rfl rfl rfl fun G fin => ?_)
  refine stR (A1 := [.v (rowT ts wd ms sp), .no]) (v := .v (.tup ((setS (ms.map Mo.cell)).map D.str))) (ret_v rfl (call_v (A1 := [.v (rowT ts wd ms sp), .no]) (eva_val rfl ?_ eva_nil) rfl rfl (set_ok set_at n (sset_strs (l := ms.map Mo.cell) (by rw [List.length_map]; omega))) rfl)) (fin _ rfl)
  rw [List.map_map]
  exact comp_map (L := ms) (enc := Mo.d) (it_e (ixv_d rfl lit_d (peek_v rfl) rfl) rfl) (by omega) fun m hm => ⟨[.v (rowT ts wd ms sp), .v m.d], rfl, rfl, ixv_d rfl lit_d (peek_v rfl) rfl⟩
theorem functions_ok (hm : ms.length ≤ 20) : run T gl (n + 2) 10 [.v (rowT ts wd ms sp)] = some (.ok (.v (.tup ((setS (ms.map Mo.nm)).map D.str))) [.no]) := by
  refine (run_of (T := T) (gl := gl) (j := 10) (f := d10) rfl (n + 1) _).trans (runD_eq (e := [.v (rowT ts wd ms sp)]) (A0 := [.v (rowT ts wd ms sp), .no]) rfl rfl rfl rfl fun G fin => ?_)
  refine stR (A1 := [.v (rowT ts wd ms sp), .no]) (v := .v (.tup ((setS (ms.map Mo.nm)).map D.str))) (ret_v rfl (call_v (A1 := [.v (rowT ts wd ms sp), .no]) (eva_val rfl ?_ eva_nil) rfl rfl (set_ok set_at n (sset_strs (l := ms.map Mo.nm) (by rw [List.length_map]; omega))) rfl)) (fin _ rfl)
  rw [List.map_map]
  exact comp_map (L := ms) (enc := Mo.d) (it_e (ixv_d rfl lit_d (peek_v rfl) rfl) rfl) (by omega) fun m hm => ⟨[.v (rowT ts wd ms sp), .v m.d], rfl, rfl, ixv_d rfl lit_d (peek_v rfl) rfl⟩
end
end Ir
/-! k02: the stretch that has a move. -/
namespace Ir
open PySem AI Cm
/-- neighbours in an ascending list: nothing lies between -/
theorem prs_mem : ∀ {l : List Int} {x : Int × Int}, l.Pairwise (· < ·) → x ∈ prs l → x.1 ∈ l ∧ x.2 ∈ l ∧ ∀ z, z ∈ l → z ≤ x.1 ∨ x.2 ≤ z
  | [], x, _, h => by cases h
  | [a], x, _, h => by cases h
  | a :: b :: r, x, hp, h => by
    have hp' := List.pairwise_cons.mp hp
    have h' : x ∈ (a, b) :: prs (b :: r) := h
    rcases List.mem_cons.mp h' with e | m
    · subst e
      refine ⟨List.mem_cons_self, by simp, fun z hz => ?_⟩
      rcases List.mem_cons.mp hz with e | hz
      · left; show z ≤ a; omega
      · right
        show b ≤ z
        rcases List.mem_cons.mp hz with e | hz
        · omega
        · have := (List.pairwise_cons.mp hp'.2).1 z hz
          omega
    · obtain ⟨h1, h2, h3⟩ := prs_mem hp'.2 m
      refine ⟨List.mem_cons_of_mem _ h1, List.mem_cons_of_mem _ h2, fun z hz => ?_⟩
      rcases List.mem_cons.mp hz with e | hz
      · left
        have := hp'.1 x.1 h1
        omega
      · exact h3 z hz
def hasK (k : Int) (x : Int × Int) : Bool := decide (x.1 ≤ k) && decide (k < x.2)
theorem prs_find {k : Int} : ∀ {l : List Int}, l.Pairwise (· < ·) → (∃ a, a ∈ l ∧ a ≤ k) → (∃ b, b ∈ l ∧ k < b) → ∃ x, (prs l).find? (hasK k) = some x
  | [], _, ⟨a, m, _⟩, _ => by cases m
  | [c], _, ⟨a, m, h1⟩, ⟨b, m2, h2⟩ => by
    rw [List.mem_singleton] at m m2
    omega
  | c :: d :: r, hp, ha, hb => by
    have hp' := List.pairwise_cons.mp hp
    obtain ⟨a, ma, h1⟩ := ha
    obtain ⟨b, mb, h2⟩ := hb
    have hc : c ≤ k := by
      rcases List.mem_cons.mp ma with e | m
      · omega
      · have := hp'.1 a m; omega
    show ∃ x, ((c, d) :: prs (d :: r)).find? (hasK k) = some x
    rw [List.find?_cons]
    by_cases q : k < d
    · have : hasK k (c, d) = true := by unfold hasK; simp [hc, q]
      rw [this]
      exact ⟨_, rfl⟩
    · have : hasK k (c, d) = false := by unfold hasK; simp [q]
      rw [this]
      refine prs_find hp'.2 ⟨d, List.mem_cons_self, by omega⟩ ⟨b, ?_, h2⟩
      rcases List.mem_cons.mp mb with e | m
      · omega
      · exact m
/-- the greatest not above, the least above -/
theorem most_filter {l : List Int} {k a : Int} (m : a ∈ l) (h : a ≤ k) (hl : ∀ z, z ∈ l → z ≤ k → z ≤ a) : ∃ i is, l.filter (fun z => decide (z ≤ k)) = i :: is ∧ mostI i is = a := by
  have mf : a ∈ l.filter (fun z => decide (z ≤ k)) := List.mem_filter.mpr ⟨m, decide_eq_true h⟩
  cases e : l.filter (fun z => decide (z ≤ k)) with
  | nil => rw [e] at mf; cases mf
  | cons i is =>
    refine ⟨i, is, rfl, (most_is (by rw [← e]; exact mf) fun y hy => ?_).symm⟩
    rw [← e] at hy
    obtain ⟨h1, h2⟩ := List.mem_filter.mp hy
    exact hl y h1 (of_decide_eq_true h2)
theorem least_filter {l : List Int} {k b : Int} (m : b ∈ l) (h : k < b) (hl : ∀ z, z ∈ l → k < z → b ≤ z) : ∃ i is, l.filter (fun z => decide (k < z)) = i :: is ∧ leastI i is = b := by
  have mf : b ∈ l.filter (fun z => decide (k < z)) := List.mem_filter.mpr ⟨m, decide_eq_true h⟩
  cases e : l.filter (fun z => decide (k < z)) with
  | nil => rw [e] at mf; cases mf
  | cons i is =>
    refine ⟨i, is, rfl, (least_is (by rw [← e]; exact mf) fun y hy => ?_).symm⟩
    rw [← e] at hy
    obtain ⟨h1, h2⟩ := List.mem_filter.mp hy
    exact hl y h1 (of_decide_eq_true h2)
section
variable {n : Nat} {ts wd : List Str} {ms : List Mo} {sp : List Int}
theorem loop_find {P : Pm} {row : Sl} {k : Int} {y : Int × Int} : ∀ {l : List (Int × Int)} {a b : Sl}, l.find? (hasK k) = some y → ∃ a' b', loop (asgT [] (.t [.n 2, .n 3])) (fun B => sxs P [] (.cons (.ife (.chn .LtE .Lt (.var 2) (.var 1) (.var 3)) (.cons (.ret (.tup (.cons false (.var 2) (.cons false (.var 3) .nil)))) .nil) .nil) .nil) B) (l.map prD) [row, .v (.int k), a, b] = some (.rt (.v (prD y)) [row, .v (.int k), a', b'])
  | [], _, _, h => by cases h
  | x :: l, a, b, h => by
    rw [List.find?_cons] at h
    have e1 : asgT [] (.t [.n 2, .n 3]) (prD x) [row, .v (.int k), a, b] = some [row, .v (.int k), .v (.int x.1), .v (.int x.2)] := rfl
    have tst : (ev P (.chn .LtE .Lt (.var 2) (.var 1) (.var 3))).t [row, .v (.int k), .v (.int x.1), .v (.int x.2)] = some (.ok (hasK k x) [row, .v (.int k), .v (.int x.1), .v (.int x.2)]) :=
      chn_t (var_d rfl) (var_d rfl) rfl fun _ => ⟨var_d rfl, rfl⟩
    rw [List.map_cons]
    unfold loop
    rw [e1]
    dsimp only
    cases q : hasK k x with
    | true =>
      rw [q] at h tst
      have h : x = y := Option.some.inj h
      subst h
      refine ⟨.v (.int x.1), .v (.int x.2), ?_⟩
      have r : sx P [] (.ret (.tup (.cons false (.var 2) (.cons false (.var 3) .nil)))) [row, .v (.int k), .v (.int x.1), .v (.int x.2)] = some (.rt (.v (prD x)) [row, .v (.int k), .v (.int x.1), .v (.int x.2)]) :=
        ret_v rfl (tup_v (evs_cons (var_d rfl) (evs_cons (var_d rfl) evs_nil)) rfl)
      have s : sxs P [] (.cons (.ife (.chn .LtE .Lt (.var 2) (.var 1) (.var 3)) (.cons (.ret (.tup (.cons false (.var 2) (.cons false (.var 3) .nil)))) .nil) .nil) .nil) [row, .v (.int k), .v (.int x.1), .v (.int x.2)] = some (.rt (.v (prD x)) [row, .v (.int k), .v (.int x.1), .v (.int x.2)]) := by
        rw [sxs, sx, tst]
        show (match sxs P [] (.cons (.ret (.tup (.cons false (.var 2) (.cons false (.var 3) .nil)))) .nil) [row, .v (.int k), .v (.int x.1), .v (.int x.2)] with
          | some (.nx A1) => sxs P [] .nil A1
          | x => x) = _
        rw [sxs, r]
      rw [s]
    | false =>
      rw [q] at h tst
      have s : sxs P [] (.cons (.ife (.chn .LtE .Lt (.var 2) (.var 1) (.var 3)) (.cons (.ret (.tup (.cons false (.var 2) (.cons false (.var 3) .nil)))) .nil) .nil) .nil) [row, .v (.int k), .v (.int x.1), .v (.int x.2)] = some (.nx [row, .v (.int k), .v (.int x.1), .v (.int x.2)]) := by
        rw [sxs, sx, tst]
        rfl
      rw [s]
      exact loop_find h
theorem of_ok (hs : sp.length ≤ 50) {k : Int} {y : Int × Int} (h : (prs (Mk0 sp ms.length)).find? (hasK k) = some y) : run T gl (n + 4) 4 [.v (rowT ts wd ms sp), .v (.int k)] = some (.ok (.v (prD y)) [.no, .no]) := by
  refine (run_of (T := T) (gl := gl) (j := 4) (f := d4) rfl (n + 3) _).trans (runD_eq (e := [.v (rowT ts wd ms sp), .v (.int k)]) (A0 := [.v (rowT ts wd ms sp), .v (.int k), .no, .no]) rfl rfl rfl rfl fun G fin => ?_)
  have hi : evI ⟨run T gl (n + 3), gl⟩ (.e (.call 3 (.cons false (.var 0) .nil))) [.v (rowT ts wd ms sp), .v (.int k), .no, .no] = some (.ok ((prs (Mk0 sp ms.length)).map prD) [.v (rowT ts wd ms sp), .v (.int k), .no, .no]) :=
    it_e (call_dv (eva_var rfl eva_nil) rfl rfl (stretches_ok hs) rfl) rfl
  obtain ⟨a, b, e⟩ := loop_find (P := ⟨run T gl (n + 3), gl⟩) (row := .v (rowT ts wd ms sp)) (a := .no) (b := .no) h
  refine stR (A1 := [.v (rowT ts wd ms sp), .v (.int k), a, b]) (v := .v (prD y)) ?_ (fin _ rfl)
  rw [sx, hi]
  exact e
end
end Ir
/-! k02: right. -/
namespace Ir
open PySem AI Cm
theorem take_at : At T 12 take := ⟨_, rfl, rfl, rfl, rfl, rfl⟩
theorem of_at : At T 14 (of 12) := ⟨_, rfl, rfl, rfl, rfl, rfl⟩
theorem pick_at : At T 15 (pick 12) := ⟨_, rfl, rfl, rfl, rfl, rfl⟩
theorem row_at : At T 18 (rowD 12 14 15) := ⟨_, rfl, rfl, rfl, rfl, rfl⟩
theorem same_at : At T 16 (sameD 16) := ⟨_, rfl, rfl, rfl, rfl, rfl⟩
def isT0 (o : Option Rc) : Bool := match o with
  | some (.ok (.v (.bl true)) []) => true
  | _ => false
theorem isT0_eq {o : Option Rc} (h : isT0 o = true) : o = some (.ok (.v (.bl true)) []) := by
  unfold isT0 at h
  split at h
  · rfl
  · cases h
theorem by_hand : run T gl 29 20 [] = some (.ok (.v (.bl true)) []) := isT0_eq (by decide +kernel)
theorem law_at : At T 22 (lawD 13 20 21 11) := ⟨_, rfl, rfl, rfl, rfl, rfl⟩
theorem cells_at : At T 13 cellsD := ⟨_, rfl, rfl, rfl, rfl, rfl⟩
theorem box_at : At T 11 (boxD 402) := ⟨_, rfl, rfl, rfl, rfl, rfl⟩
end Ir
/-! k02: right, by its statements. -/
namespace Ir
open PySem AI Cm
theorem zip_fst {α β : Type} {f : α → β} : ∀ {l : List α} {k : Nat}, ((l.zipIdx k).map fun x => f x.1) = l.map f
  | [], _ => rfl
  | a :: r, k => by rw [List.zipIdx_cons, List.map_cons, List.map_cons, zip_fst]
theorem prs_len : ∀ {l : List Int}, (prs l).length = l.length - 1
  | [] => rfl
  | [a] => rfl
  | a :: b :: r => by
    show (prs (b :: r)).length + 1 = _
    rw [prs_len]
    rfl
theorem prs_at : ∀ {l : List Int} {i : Nat} {x : Int × Int}, (prs l)[i]? = some x → l[i]? = some x.1 ∧ l[i + 1]? = some x.2
  | [], i, x, h => by cases i <;> cases h
  | [a], i, x, h => by cases i <;> cases h
  | a :: b :: r, 0, x, h => by
    have h : some (a, b) = some x := h
    cases h
    exact ⟨rfl, rfl⟩
  | a :: b :: r, i + 1, x, h => by
    have h : (prs (b :: r))[i]? = some x := h
    have ih := prs_at (l := b :: r) (i := i) h
    exact ih
section
variable {ts wd : List Str} {ms : List Mo} {sp : List Int}
abbrev P28 : Pm := ⟨run T gl 28, gl⟩
def stt (b : Sl) (ts wd : List Str) (ms : List Mo) (sp M : List Int) (x7 x8 x9 x10 : Sl) : As := [b, .v (rowT ts wd ms sp), .v (.tup (ts.map D.str)), .v (.tup (wd.map D.str)), .v (.tup (ms.map Mo.d)), .v (.tup (sp.map D.int)), .v (.lst (M.map D.int)), x7, x8, x9, x10, .no]
def gK (M : List Int) (k : Nat) : D := .bl (decide ((k : Int) ∈ M))
def due1 (M : List Int) : D := .tup (M.map D.int)
def due2 (M : List Int) : D := .tup ((prs M).map prD)
def due3 (M : List Int) (n : Nat) : D := .lst ((List.range (n + 1)).map (gK M))
theorem rng_n1 {n : Nat} (h : n ≤ 900) : rng1I (.int ((n : Int) + 1)) = some ((List.range (n + 1)).map fun (k : Nat) => D.int (k : Int)) := by
  have e : (n : Int) + 1 = ((n + 1 : Nat) : Int) := by omega
  rw [e, rng1_len (by omega), rng0_map]
variable {b x7 x8 x9 x10 : Sl} {M : List Int}
theorem len_flat : (ev P28 (.bi .len (.cons false (.var 4) .nil))).d (stt b ts wd ms sp M x7 x8 x9 x10) = some (.ok (.int (ms.length : Nat)) (stt b ts wd ms sp M x7 x8 x9 x10)) :=
  bi1_vardv (peek_v rfl) (by show some (R.v (.int ((ms.map Mo.d).length : Nat))) = _; rw [List.length_map])
theorem e_marks (hs : sp.length ≤ 50) (hm : ms.length ≤ 20) (hM : M = Mk0 sp ms.length) : (ev P28 (.comp (.call 5 (.cons false (.var 1) (.cons false (.var 8) .nil))) (.n 8) (.rng1 (.op .Add (.bi .len (.cons false (.var 4) .nil)) (.lit (.int 1)))) .none [8])).v (stt b ts wd ms sp M x7 .no x9 x10) = some (.ok (.o (.l ((List.range (ms.length + 1)).map (gK M)))) (stt b ts wd ms sp M x7 .no x9 x10)) := by
  subst hM
  refine comp_map (L := List.range (ms.length + 1)) (enc := fun (k : Nat) => D.int (k : Int)) (it_rng1 (op_dv len_flat lit_d rfl) (rng_n1 (by omega))) (by rw [List.length_range]; omega) fun k hk => ?_
  exact ⟨stt b ts wd ms sp _ x7 (.v (.int (k : Int))) x9 x10, rfl, rfl, call_dv (eva_var rfl (eva_var rfl eva_nil)) rfl rfl (marked_ok (n := 25) hs k) rfl⟩
theorem e_in (hm : ms.length ≤ 20) : (ev P28 (.comp (.cmp .In (.var 8) (.var 6)) (.n 8) (.rng1 (.op .Add (.bi .len (.cons false (.var 4) .nil)) (.lit (.int 1)))) .none [8])).v (stt b ts wd ms sp M x7 .no x9 x10) = some (.ok (.o (.l ((List.range (ms.length + 1)).map (gK M)))) (stt b ts wd ms sp M x7 .no x9 x10)) := by
  refine comp_map (L := List.range (ms.length + 1)) (enc := fun (k : Nat) => D.int (k : Int)) (it_rng1 (op_dv len_flat lit_d rfl) (rng_n1 (by omega))) (by rw [List.length_range]; omega) fun k hk => ?_
  exact ⟨stt b ts wd ms sp M x7 (.v (.int (k : Int))) x9 x10, rfl, rfl, cmp_d (var_d rfl) (var_d rfl) in_ints⟩
theorem e_pairs (hM : M.length ≤ 60) (h0 : M ≠ []) : (ev P28 (.comp (.tup (.cons false (.ixv 6 (.var 8)) (.cons false (.ixv 6 (.op .Add (.var 8) (.lit (.int 1)))) .nil))) (.n 8) (.rng1 (.op .Sub (.bi .len (.cons false (.var 6) .nil)) (.lit (.int 1)))) .none [8])).v (stt b ts wd ms sp M x7 .no x9 x10) = some (.ok (.o (.l ((prs M).map prD))) (stt b ts wd ms sp M x7 .no x9 x10)) := by
  have hl : (ev P28 (.bi .len (.cons false (.var 6) .nil))).d (stt b ts wd ms sp M x7 .no x9 x10) = some (.ok (.int (M.length : Nat)) (stt b ts wd ms sp M x7 .no x9 x10)) :=
    bi1_vardv (peek_v rfl) (by show some (R.v (.int ((M.map D.int).length : Nat))) = _; rw [List.length_map])
  have hp : 0 < M.length := List.length_pos_iff.mpr h0
  have hr : rng1I (.int ((M.length : Int) - 1)) = some ((prs M).zipIdx.map fun x => D.int (x.2 : Nat)) := by
    have e : (M.length : Int) - 1 = (((prs M).length : Nat) : Int) := by rw [prs_len]; omega
    rw [e, rng1_len (by rw [prs_len]; omega), ← rng_zip]
    rfl
  rw [← zip_fst (f := prD) (l := prs M) (k := 0)]
  refine comp_map (L := (prs M).zipIdx) (enc := fun x => D.int (x.2 : Nat)) (it_rng1 (op_dv hl lit_d rfl) hr) (by rw [List.length_zipIdx, prs_len]; omega) fun x hx => ?_
  obtain ⟨h1, h2⟩ := prs_at (zip_at hx)
  have i2 : L2.atI (M.map D.int) ((x.2 : Int) + 1) = some (.int x.1.2) := by
    have e : (x.2 : Int) + 1 = ((x.2 + 1 : Nat) : Int) := by omega
    rw [e]
    exact ix_at h2
  exact ⟨stt b ts wd ms sp M x7 (.v (.int (x.2 : Nat))) x9 x10, rfl, rfl, tup_d (evs_cons (ixv_d rfl (var_d rfl) (peek_v rfl) (ix_at h1)) (evs_cons (ixv_d rfl (op_dv (var_d rfl) lit_d rfl) (peek_v rfl) i2) evs_nil)) rfl⟩
theorem mo_dat (hs : ∀ a, a ∈ ts → a ∈ six) (ho : ∀ m, m ∈ ms → m.ok ts) : ∀ x, x ∈ ms → Dat 5 x.d := fun m hm => by
  have o := ho m hm
  refine ⟨by simp, fun x mx => ?_⟩
  have nk : PySem.PyData.strOk m.nm = true := by
    refine List.all_eq_true.mp strs_ok m.nm ?_
    rcases o.nmOk with ⟨e, _⟩ | e
    · simp [e]
    · simp [e]
  simp only [List.mem_cons, List.not_mem_nil, or_false] at mx
  rcases mx with rfl | rfl | rfl
  · exact nk
  · exact dat_strs (by have := o.ln; omega) fun s h => six_ok (hs s (o.sub s h))
  · exact six_ok (hs _ o.cl)
def rdP (ms : List Mo) (t : Str) : Bool := !decide ((ms.filter fun m => decide (t ∈ m.reads)).map Mo.d = [])
theorem e_reads (hs : ∀ a, a ∈ ts → a ∈ six) (ho : ∀ m, m ∈ ms → m.ok ts) (hm : ms.length ≤ 20) (ht : ts.length ≤ 10) : (ev P28 (.bi .tuple (.cons false (.comp (.var 10) (.n 10) (.e (.var 2)) (.some (.cmp .NotEq (.comp (.var 11) (.n 11) (.e (.var 4)) (.some (.cmp .In (.var 10) (.ixv 11 (.lit (.int 1))))) [11]) (.lst .nil))) [10]) .nil))).d (stt b ts wd ms sp M x7 x8 x9 .no) = some (.ok (.tup ((ts.filter (rdP ms)).map D.str)) (stt b ts wd ms sp M x7 x8 x9 .no)) := by
  refine d_of_v (tup_of rfl (comp_filter (L := ts) (enc := D.str) (it_e (var_d rfl) rfl) (by omega) fun t ht => ?_))
  refine ⟨stt b ts wd ms sp M x7 x8 x9 (.v (.str t)), rfl, rfl, cmp_t (d_of_o (comp_filter (L := ms) (enc := Mo.d) (g := Mo.d) (p := fun m => decide (t ∈ m.reads)) (it_e (var_d rfl) rfl) (by omega) fun m hm => ?_)) (lst_d evs_nil rfl) ?_, fun _ => var_d rfl⟩
  · exact ⟨[b, .v (rowT ts wd ms sp), .v (.tup (ts.map D.str)), .v (.tup (wd.map D.str)), .v (.tup (ms.map Mo.d)), .v (.tup (sp.map D.int)), .v (.lst (M.map D.int)), x7, x8, x9, .v (.str t), .v m.d], rfl, rfl, cmp_t (var_d rfl) (ixv_d rfl lit_d (peek_v rfl) rfl) in_strs, fun _ => var_d rfl⟩
  · show (eqD _ _).map (!·) = _
    rw [show Ob.dd (.l ((ms.filter fun m => decide (t ∈ m.reads)).map Mo.d)) = .lst ((ms.filter fun m => decide (t ∈ m.reads)).map Mo.d) from rfl, eqD_nil (n := 5) (by decide) fun x mx => by
      obtain ⟨m, mm, rfl⟩ := List.mem_map.mp mx
      exact mo_dat hs ho m (List.mem_filter.mp mm).1]
    rfl
def wrP (ms : List Mo) (t : Str) : Bool := decide (t ∈ ms.map Mo.cell)
theorem e_writes (hm : ms.length ≤ 20) (ht : ts.length ≤ 10) : (ev P28 (.bi .tuple (.cons false (.comp (.var 10) (.n 10) (.e (.var 2)) (.some (.cmp .In (.var 10) (.comp (.ixv 11 (.lit (.int 2))) (.n 11) (.e (.var 4)) .none [11]))) [10]) .nil))).d (stt b ts wd ms sp M x7 x8 x9 .no) = some (.ok (.tup ((ts.filter (wrP ms)).map D.str)) (stt b ts wd ms sp M x7 x8 x9 .no)) := by
  refine d_of_v (tup_of rfl (comp_filter (L := ts) (enc := D.str) (it_e (var_d rfl) rfl) (by omega) fun t ht => ?_))
  refine ⟨stt b ts wd ms sp M x7 x8 x9 (.v (.str t)), rfl, rfl, cmp_t (y := .lst ((ms.map Mo.cell).map D.str)) (var_d rfl) (d_of_o (b := .l ((ms.map Mo.cell).map D.str)) ?_) in_strs, fun _ => var_d rfl⟩
  rw [List.map_map]
  exact comp_map (L := ms) (enc := Mo.d) (it_e (var_d rfl) rfl) (by omega) fun m hm => ⟨[b, .v (rowT ts wd ms sp), .v (.tup (ts.map D.str)), .v (.tup (wd.map D.str)), .v (.tup (ms.map Mo.d)), .v (.tup (sp.map D.int)), .v (.lst (M.map D.int)), x7, x8, x9, .v (.str t), .v m.d], rfl, rfl, ixv_d rfl lit_d (peek_v rfl) rfl⟩
theorem e_funs (hm : ms.length ≤ 20) : (ev P28 (.bi .tuple (.cons false (.sset (.comp (.ixv 11 (.lit (.int 0))) (.n 11) (.e (.var 4)) .none [11])) .nil))).d (stt b ts wd ms sp M x7 x8 x9 x10) = some (.ok (.tup ((setS (ms.map Mo.nm)).map D.str)) (stt b ts wd ms sp M x7 x8 x9 x10)) := by
  refine bi1_dv (x := .lst ((setS (ms.map Mo.nm)).map D.str)) rfl (sset_do (x := .lst ((ms.map Mo.nm).map D.str)) (d_of_o (b := .l ((ms.map Mo.nm).map D.str)) ?_) (sset_strs (by rw [List.length_map]; omega))) rfl
  rw [List.map_map]
  exact comp_map (L := ms) (enc := Mo.d) (it_e (var_d rfl) rfl) (by omega) fun m hm => ⟨[b, .v (rowT ts wd ms sp), .v (.tup (ts.map D.str)), .v (.tup (wd.map D.str)), .v (.tup (ms.map Mo.d)), .v (.tup (sp.map D.int)), .v (.lst (M.map D.int)), x7, x8, x9, x10, .v m.d], rfl, rfl, ixv_d rfl lit_d (peek_v rfl) rfl⟩
end
end Ir
/-! k02: right, whole. -/
namespace Ir
open PySem AI Cm
section
variable {ts wd : List Str} {ms : List Mo} {sp : List Int} {b x7 x8 x9 x10 : Sl} {M : List Int}
theorem e_rk {t : Str} (hm : ms.length ≤ 20) : (ev P28 (.bi .tuple (.cons false (.comp (.var 8) (.n 8) (.rng1 (.bi .len (.cons false (.var 4) .nil))) (.some (.cmp .In (.var 10) (.ix (.ixv 4 (.var 8)) (.lit (.int 1))))) [8]) .nil))).d (stt b ts wd ms sp M x7 .no x9 (.v (.str t))) = some (.ok (.tup ((ms.zipIdx.filter (readP t)).map intP)) (stt b ts wd ms sp M x7 .no x9 (.v (.str t)))) := by
  refine d_of_v (tup_of rfl (comp_filter (L := ms.zipIdx) (enc := intP) (it_rng1 len_flat ?_) (by rw [List.length_zipIdx]; omega) fun x hx => ?_))
  · rw [rng1_len (by omega)]
    exact congrArg some (rng_zip (k := 0))
  · exact ⟨stt b ts wd ms sp M x7 (.v (.int (x.2 : Nat))) x9 (.v (.str t)), rfl, rfl, cmp_t (var_d rfl) (ix_d (ixv_d rfl (var_d rfl) (peek_v rfl) (ix_at (zip_at hx))) lit_d rfl) in_strs, fun _ => var_d rfl⟩
theorem e_wk {t : Str} (hs : ∀ a, a ∈ ts → a ∈ six) (h : t ∈ ts) (ho : ∀ m, m ∈ ms → m.ok ts) (hm : ms.length ≤ 20) : (ev P28 (.bi .tuple (.cons false (.comp (.var 8) (.n 8) (.rng1 (.bi .len (.cons false (.var 4) .nil))) (.some (.cmp .Eq (.var 10) (.ix (.ixv 4 (.var 8)) (.lit (.int 2))))) [8]) .nil))).d (stt b ts wd ms sp M x7 .no x9 (.v (.str t))) = some (.ok (.tup ((ms.zipIdx.filter (writeP t)).map intP)) (stt b ts wd ms sp M x7 .no x9 (.v (.str t)))) := by
  refine d_of_v (tup_of rfl (comp_filter (L := ms.zipIdx) (enc := intP) (it_rng1 len_flat ?_) (by rw [List.length_zipIdx]; omega) fun x hx => ?_))
  · rw [rng1_len (by omega)]
    exact congrArg some (rng_zip (k := 0))
  · have hx' := List.mem_of_getElem? (zip_at hx)
    refine ⟨stt b ts wd ms sp M x7 (.v (.int (x.2 : Nat))) x9 (.v (.str t)), rfl, rfl, cmp_t (var_d rfl) (ix_d (ixv_d rfl (var_d rfl) (peek_v rfl) (ix_at (zip_at hx))) lit_d rfl) ?_, fun _ => var_d rfl⟩
    show eqD (.str t) (.str x.1.cell) = _
    rw [eqD_str (six_ok (hs _ h)) (six_ok (hs _ (ho _ hx').cl))]
    unfold writeP
    by_cases e : t = x.1.cell
    · rw [decide_eq_true e, decide_eq_true e.symm]
    · rw [decide_eq_false e, decide_eq_false fun z => e z.symm]
theorem e_max {k : Int} {i : Int} {is : List Int} (hM : M.length ≤ 60) (h : M.filter (fun z => decide (z ≤ k)) = i :: is) : (ev P28 (.bi .max1 (.cons false (.comp (.var 11) (.n 11) (.e (.var 6)) (.some (.cmp .LtE (.var 11) (.var 8))) [11]) .nil))).d (stt b ts wd ms sp M x7 (.v (.int k)) x9 x10) = some (.ok (.int (mostI i is)) (stt b ts wd ms sp M x7 (.v (.int k)) x9 x10)) := by
  refine bi1_dv (x := .lst ((M.filter (fun z => decide (z ≤ k))).map D.int)) rfl (d_of_o (b := .l ((M.filter (fun z => decide (z ≤ k))).map D.int)) (comp_filter (L := M) (enc := D.int) (it_e (var_d rfl) rfl) (by omega) fun z hz => ?_)) ?_
  · exact ⟨[b, .v (rowT ts wd ms sp), .v (.tup (ts.map D.str)), .v (.tup (wd.map D.str)), .v (.tup (ms.map Mo.d)), .v (.tup (sp.map D.int)), .v (.lst (M.map D.int)), x7, .v (.int k), x9, x10, .v (.int z)], rfl, rfl, cmp_t (var_d rfl) (var_d rfl) rfl, fun _ => var_d rfl⟩
  · rw [h]
    show (match intsD ((i :: is).map D.int) with
      | some (i :: is) => some (R.v (.int (mostI i is)))
      | _ => none) = _
    rw [intsD_map]
theorem e_min {k : Int} {i : Int} {is : List Int} (hM : M.length ≤ 60) (h : M.filter (fun z => decide (k < z)) = i :: is) : (ev P28 (.bi .min1 (.cons false (.comp (.var 11) (.n 11) (.e (.var 6)) (.some (.cmp .Gt (.var 11) (.var 8))) [11]) .nil))).d (stt b ts wd ms sp M x7 (.v (.int k)) x9 x10) = some (.ok (.int (leastI i is)) (stt b ts wd ms sp M x7 (.v (.int k)) x9 x10)) := by
  refine bi1_dv (x := .lst ((M.filter (fun z => decide (k < z))).map D.int)) rfl (d_of_o (b := .l ((M.filter (fun z => decide (k < z))).map D.int)) (comp_filter (L := M) (enc := D.int) (it_e (var_d rfl) rfl) (by omega) fun z hz => ?_)) ?_
  · exact ⟨[b, .v (rowT ts wd ms sp), .v (.tup (ts.map D.str)), .v (.tup (wd.map D.str)), .v (.tup (ms.map Mo.d)), .v (.tup (sp.map D.int)), .v (.lst (M.map D.int)), x7, .v (.int k), x9, x10, .v (.int z)], rfl, rfl, cmp_t (var_d rfl) (var_d rfl) rfl, fun _ => var_d rfl⟩
  · rw [h]
    show (match intsD ((i :: is).map D.int) with
      | some (i :: is) => some (R.v (.int (leastI i is)))
      | _ => none) = _
    rw [intsD_map]
theorem dat_zip {l : List (Mo × Nat)} (h : l.length ≤ 1000) : Dat 27 (.tup (l.map intP)) := dat_tmap (n := 26) h fun _ _ => trivial
theorem dat_pr {x : Int × Int} : Dat 26 (prD x) := ⟨by simp, fun y my => by
  simp only [List.mem_cons, List.not_mem_nil, or_false] at my
  rcases my with rfl | rfl <;> exact trivial⟩
end
theorem right_ok (b : Ob) (hb : Bx 0 b) : ∃ bk, run T gl 29 21 [.o b] = some (.ok (.v (.bl true)) bk) ∧ bk.length = 1 := by
  have key : ∃ r bk, run T gl 29 21 [.o b] = some (.ok r bk) ∧ r = .v (.bl true) ∧ bk.length = 1 := by
    rw [show run T gl 29 21 [.o b] = _ from run_of (T := T) (gl := gl) (j := 21) (f := d21) rfl 28 _]
    refine runD_G (e := [.o b]) (Bs := [0]) (A0 := [.o b, .no, .no, .no, .no, .no, .no, .no, .no, .no, .no, .no]) rfl rfl rfl rfl fun G fin => ?_
    obtain ⟨r, bk, e1, d, b', rfl, rfl, rw1, _⟩ := row_ok (gl := gl) row_at take_at of_at pick_at 25 hb (by decide) (by decide) (c := 5) (m := 8) (by decide) (by decide) (by decide)
    obtain ⟨ts, wd, acts, sp, rfl, h1, h2, h3, h4, h5, h6, h7, h8, h9⟩ := rw1.ex
    obtain ⟨ms, rfl, ho⟩ := mos_of h7
    rw [List.length_map] at h6 h9
    have hsix : ∀ a, a ∈ ts → a ∈ six := fun a m => h1.subset m
    have hm : ms.length ≤ 20 := by omega
    have ht : ts.length ≤ 10 := by omega
    -- the marks: between the moves, none twice
    have spl : sp.length ≤ 50 := by
      have nd : (sp.map Int.toNat).Nodup := by
        refine List.Pairwise.map Int.toNat (fun x y h => ?_) (h8.imp_of_mem fun {x y} mx my h => (⟨h, h9 x mx, h9 y my⟩ : x < y ∧ (1 ≤ x ∧ x < (ms.length : Int)) ∧ 1 ≤ y ∧ y < (ms.length : Int)))
        show x.toNat ≠ y.toNat
        omega
      have : (sp.map Int.toNat).length ≤ (List.range 20).length := List.Nodup.length_le_of_subset nd fun x mx => by
        obtain ⟨z, mz, rfl⟩ := List.mem_map.mp mx
        have := h9 z mz
        exact List.mem_range.mpr (by omega)
      rw [List.length_map, List.length_range] at this
      omega
    generalize hM : Mk0 sp ms.length = M
    have Masc : M.Pairwise (· < ·) := by rw [← hM]; exact asc_setI
    have Mmem : ∀ z, z ∈ M ↔ z = 0 ∨ z ∈ sp ∨ z = (ms.length : Int) := fun z => by
      rw [← hM]
      refine mem_setI.trans ?_
      simp
    have Mlen : M.length ≤ 60 := by
      rw [← hM]
      have := len_setI (l := 0 :: (sp ++ [(ms.length : Int)]))
      simp at this
      show (setI _).length ≤ 60
      omega
    have M0 : M ≠ [] := fun z => by
      have := (Mmem 0).mpr (.inl rfl)
      rw [z] at this
      cases this
    -- web, its parts
    refine st (A1 := [.o b', .v (rowT ts wd ms sp), .no, .no, .no, .no, .no, .no, .no, .no, .no, .no]) (asg_ok (call_v (eva_var rfl (eva_val rfl lit_v (eva_val rfl lit_v eva_nil))) rfl rfl e1 rfl) rfl) ?_
    refine st (A1 := [.o b', .v (rowT ts wd ms sp), .v (.tup (ts.map D.str)), .v (.tup (wd.map D.str)), .v (.tup (ms.map Mo.d)), .v (.tup (sp.map D.int)), .no, .no, .no, .no, .no, .no]) (asgt_ok (var_d rfl) rfl) ?_
    have eM : ssetD (.tup ([D.int 0, .int ((ms.map Mo.d).length : Nat)] ++ sp.map D.int)) = some (.o (.l (M.map D.int))) := by
      have e : setI (0 :: ((ms.map Mo.d).length : Int) :: sp) = M := by
        rw [← hM]
        refine setI_eq fun a => ?_
        simp
        constructor
        · rintro (h | h | h)
          · exact .inl h
          · exact .inr (.inr h)
          · exact .inr (.inl h)
        · rintro (h | h | h)
          · exact .inl h
          · exact .inr (.inr h)
          · exact .inr (.inl h)
      rw [← e]
      exact sset_intsT (l := 0 :: ((ms.map Mo.d).length : Int) :: sp) (by simp; omega)
    refine st (A1 := stt (.o b') ts wd ms sp M .no .no .no .no) (asg_ok (fz_v (sset_do (op_dv (tup_d (evs_cons lit_d (evs_cons (bi1_vardv (peek_v rfl) rfl) evs_nil)) rfl) (var_d rfl) (add_t (by simp) (by rw [List.length_map]; omega))) eM)) rfl) ?_
    have s1 := spots_ok (n := 26) (ts := ts) (wd := wd) (ms := ms) spl
    have s2 := stretches_ok (n := 25) (ts := ts) (wd := wd) (ms := ms) spl
    rw [hM] at s1 s2
    refine st (A1 := stt (.o b') ts wd ms sp M (.o (.l [due1 M, due2 M, due3 M ms.length])) .no .no .no) (asg_ok (lst_v (evs_cons (call_dv (eva_var rfl eva_nil) rfl rfl s1 rfl) (evs_cons (call_dv (eva_var rfl eva_nil) rfl rfl s2 rfl) (evs_cons (d_of_o (e_marks spl hm hM.symm)) evs_nil))) rfl) rfl) ?_
    have q1 := read_cells_ok (n := 26) (ts := ts) (wd := wd) (sp := sp) ho hm
    have q2 := written_ok (n := 26) (ts := ts) (wd := wd) (sp := sp) hm
    have q3 := functions_ok (n := 26) (ts := ts) (wd := wd) (sp := sp) hm
    have asc : Asc ts := asc_sub six_asc h1
    have w1 : setS (readsOf ms) = ts.filter (rdP ms) := set_filter asc fun a => by
      unfold readsOf rdP
      rw [List.mem_flatMap]
      constructor
      · rintro ⟨m, mm, ma⟩
        refine ⟨(ho m mm).sub a ma, ?_⟩
        have : (ms.filter fun m => decide (a ∈ m.reads)).map Mo.d ≠ [] := fun z => by
          have z := List.map_eq_nil_iff.mp z
          have : m ∈ ms.filter fun m => decide (a ∈ m.reads) := List.mem_filter.mpr ⟨mm, decide_eq_true ma⟩
          rw [z] at this
          cases this
        rw [decide_eq_false this]
        rfl
      · rintro ⟨_, h⟩
        have h : decide ((ms.filter fun m => decide (a ∈ m.reads)).map Mo.d = []) = false := by simpa using h
        have h := of_decide_eq_false h
        cases e : ms.filter fun m => decide (a ∈ m.reads) with
        | nil => rw [e] at h; exact (h rfl).elim
        | cons m r =>
          have : m ∈ ms.filter fun m => decide (a ∈ m.reads) := by rw [e]; exact List.mem_cons_self
          obtain ⟨mm, ma⟩ := List.mem_filter.mp this
          exact ⟨m, mm, of_decide_eq_true ma⟩
    have w2 : setS (ms.map Mo.cell) = ts.filter (wrP ms) := set_filter asc fun a => by
      unfold wrP
      constructor
      · intro h
        obtain ⟨m, mm, e⟩ := List.mem_map.mp h
        exact ⟨by rw [← e]; exact (ho m mm).cl, decide_eq_true h⟩
      · rintro ⟨_, h⟩
        exact of_decide_eq_true h
    rw [w1] at q1
    rw [w2] at q2
    refine st (A1 := stt (.o b') ts wd ms sp M (.o (.l [due1 M, due2 M, due3 M ms.length, .tup ((ts.filter (rdP ms)).map D.str), .tup ((ts.filter (wrP ms)).map D.str), .tup ((setS (ms.map Mo.nm)).map D.str)])) .no .no .no) (asg_ok (bin_ok (var_do rfl) (lst_d (evs_cons (call_dv (eva_var rfl eva_nil) rfl rfl q1 rfl) (evs_cons (call_dv (eva_var rfl eva_nil) rfl rfl q2 rfl) (evs_cons (call_dv (eva_var rfl eva_nil) rfl rfl q3 rfl) evs_nil))) rfl) (add_l (by simp) (by simp))) rfl) ?_
    generalize hG : [due1 M, due2 M, due3 M ms.length, .tup ((ts.filter (rdP ms)).map D.str), .tup ((ts.filter (wrP ms)).map D.str), .tup ((setS (ms.map Mo.nm)).map D.str)] = X0
    refine st (A1 := stt (.o b') ts wd ms sp M (.o (.l X0)) .no (.o (.l [due1 M, due2 M])) .no) (asg_ok (lst_v (evs_cons (bi1_vardv (peek_v rfl) rfl) (evs_cons (d_of_v (tup_of rfl (e_pairs Mlen M0))) evs_nil)) rfl) rfl) ?_
    refine st (A1 := stt (.o b') ts wd ms sp M (.o (.l X0)) .no (.o (.l [due1 M, due2 M, due3 M ms.length])) .no) (asg_ok (bin_ok (var_do rfl) (lst_d (evs_cons (d_of_o (e_in (x9 := .v (.lst [due1 M, due2 M])) hm)) evs_nil) rfl) (add_l (by simp) (by simp))) rfl) ?_
    refine st (A1 := stt (.o b') ts wd ms sp M (.o (.l X0)) .no (.o (.l [due1 M, due2 M, due3 M ms.length, .tup ((ts.filter (rdP ms)).map D.str)])) .no) (asg_ok (bin_ok (var_do rfl) (lst_d (evs_cons (e_reads (x9 := .v (.lst [due1 M, due2 M, due3 M ms.length])) hsix ho hm ht) evs_nil) rfl) (add_l (by simp) (by simp))) rfl) ?_
    refine st (A1 := stt (.o b') ts wd ms sp M (.o (.l X0)) .no (.o (.l [due1 M, due2 M, due3 M ms.length, .tup ((ts.filter (rdP ms)).map D.str), .tup ((ts.filter (wrP ms)).map D.str)])) .no) (asg_ok (bin_ok (var_do rfl) (lst_d (evs_cons (e_writes (x9 := .v (.lst [due1 M, due2 M, due3 M ms.length, .tup ((ts.filter (rdP ms)).map D.str)])) hm ht) evs_nil) rfl) (add_l (by simp) (by simp))) rfl) ?_
    refine st (A1 := stt (.o b') ts wd ms sp M (.o (.l X0)) .no (.o (.l [due1 M, due2 M, due3 M ms.length, .tup ((ts.filter (rdP ms)).map D.str), .tup ((ts.filter (wrP ms)).map D.str), .tup ((setS (ms.map Mo.nm)).map D.str)])) .no) (asg_ok (bin_ok (var_do rfl) (lst_d (evs_cons (e_funs (x9 := .v (.lst [due1 M, due2 M, due3 M ms.length, .tup ((ts.filter (rdP ms)).map D.str), .tup ((ts.filter (wrP ms)).map D.str)])) hm) evs_nil) rfl) (add_l (by simp) (by simp))) rfl) ?_
    rw [hG]
    have X0l : X0.length = 6 := by rw [← hG]; rfl
    have fok : ∀ s, s ∈ setS (ms.map Mo.nm) → PySem.PyData.strOk s = true := fun s h => by
      obtain ⟨m, mm, rfl⟩ := List.mem_map.mp (mem_setS.mp h)
      refine List.all_eq_true.mp strs_ok m.nm ?_
      rcases (ho m mm).nmOk with ⟨e, _⟩ | e
      · simp [e]
      · simp [e]
    have X0d : ∀ x, x ∈ X0 → Dat 27 x := by
      rw [← hG]
      intro x mx
      simp only [List.mem_cons, List.not_mem_nil, or_false] at mx
      rcases mx with rfl | rfl | rfl | rfl | rfl | rfl
      · exact dat_ints (n := 25) (by omega)
      · exact dat_tmap (n := 26) (by rw [prs_len]; omega) fun _ _ => dat_pr
      · exact dat_lmap (n := 26) (by rw [List.length_range]; omega) fun _ _ => trivial
      · exact dat_strs (n := 25) (Nat.le_trans (List.length_filter_le _ _) (by omega)) fun s h => six_ok (hsix s (List.mem_filter.mp h).1)
      · exact dat_strs (n := 25) (Nat.le_trans (List.length_filter_le _ _) (by omega)) fun s h => six_ok (hsix s (List.mem_filter.mp h).1)
      · refine dat_strs (n := 25) ?_ fok
        have := len_setS (l := ms.map Mo.nm)
        rw [List.length_map] at this
        omega
    -- each cell
    refine stForG (ds := ts.map D.str) (A1 := stt (.o b') ts wd ms sp M (.o (.l X0)) .no (.o (.l X0)) .no) (fun i A => ∃ (X : List D) (x10 : Sl), A = stt (.o b') ts wd ms sp M (.o (.l X)) .no (.o (.l X)) x10 ∧ X.length = 6 + 2 * i ∧ ∀ x, x ∈ X → Dat 27 x) (it_e (var_d rfl) rfl) ⟨X0, .no, rfl, by omega, X0d⟩ ?_ ?_
    · rintro i d A ⟨X, x10, rfl, Xl, Xd⟩ hd
      rw [List.getElem?_map] at hd
      cases et : ts[i]? with
      | none => rw [et] at hd; cases hd
      | some t =>
        rw [et] at hd
        cases hd
        have mt := List.mem_of_getElem? et
        have il := (List.getElem?_eq_some_iff.mp et).1
        refine ⟨stt (.o b') ts wd ms sp M (.o (.l X)) .no (.o (.l X)) (.v (.str t)), rfl, fun G fin => ?_⟩
        have r1 := readers_ok (n := 26) (ts := ts) (wd := wd) (ms := ms) (sp := sp) mt (by omega)
        have r2 := writers_ok (n := 26) (ts := ts) (wd := wd) (ms := ms) (sp := sp) mt hsix ho (by omega)
        refine st (A1 := stt (.o b') ts wd ms sp M (.o (.l (X ++ [.tup ((ms.zipIdx.filter (readP t)).map intP), .tup ((ms.zipIdx.filter (writeP t)).map intP)]))) .no (.o (.l X)) (.v (.str t))) (asg_ok (bin_ok (var_do rfl) (lst_d (evs_cons (call_dv (eva_var rfl (eva_var rfl eva_nil)) rfl rfl r1 rfl) (evs_cons (call_dv (eva_var rfl (eva_var rfl eva_nil)) rfl rfl r2 rfl) evs_nil)) rfl) (add_l (by omega) (by simp))) rfl) ?_
        generalize hX : X ++ [D.tup ((ms.zipIdx.filter (readP t)).map intP), .tup ((ms.zipIdx.filter (writeP t)).map intP)] = X1
        refine st (A1 := stt (.o b') ts wd ms sp M (.o (.l X1)) .no (.o (.l (X ++ [.tup ((ms.zipIdx.filter (readP t)).map intP)]))) (.v (.str t))) (app_ok rfl (e_rk hm) rfl (Cm.short_of (by omega)) rfl) ?_
        refine st (A1 := stt (.o b') ts wd ms sp M (.o (.l X1)) .no (.o (.l X1)) (.v (.str t))) (app_ok rfl (e_wk hsix mt ho hm) rfl (Cm.short_of (by simp; omega)) (by rw [← hX, List.append_assoc]; rfl)) ?_
        refine stEnd (fin _ ⟨X1, _, rfl, by rw [← hX, List.length_append, Xl]; simp; omega, fun x mx => ?_⟩)
        rw [← hX] at mx
        rcases List.mem_append.mp mx with mx | mx
        · exact Xd x mx
        · simp only [List.mem_cons, List.not_mem_nil, or_false] at mx
          rcases mx with rfl | rfl
          · exact dat_zip (Nat.le_trans (List.length_filter_le _ _) (by rw [List.length_zipIdx]; omega))
          · exact dat_zip (Nat.le_trans (List.length_filter_le _ _) (by rw [List.length_zipIdx]; omega))
    · rintro A' ⟨X, x10, rfl, Xl, Xd⟩
      rw [List.length_map] at Xl
      -- each move
      refine stForG (ds := rngD 0 ms.length) (A1 := stt (.o b') ts wd ms sp M (.o (.l X)) .no (.o (.l X)) x10) (fun i A => ∃ (Y : List D) (x8 : Sl), A = stt (.o b') ts wd ms sp M (.o (.l Y)) x8 (.o (.l Y)) x10 ∧ Y.length = X.length + i ∧ ∀ x, x ∈ Y → Dat 27 x) (it_rng1 len_flat (rng1_len (by omega))) ⟨X, .no, rfl, rfl, Xd⟩ ?_ ?_
      · rintro k d A ⟨Y, x8, rfl, Yl, Yd⟩ hd
        have kl := (List.getElem?_eq_some_iff.mp hd).1
        rw [rngD_len] at kl
        have ed := rng_at hd
        subst ed
        rw [Int.zero_add]
        refine ⟨stt (.o b') ts wd ms sp M (.o (.l Y)) (.v (.int (k : Int))) (.o (.l Y)) x10, rfl, fun G fin => ?_⟩
        obtain ⟨y, ey⟩ := prs_find (k := (k : Int)) Masc ⟨0, (Mmem 0).mpr (.inl rfl), by omega⟩ ⟨(ms.length : Int), (Mmem _).mpr (.inr (.inr rfl)), by omega⟩
        have my := List.mem_of_find?_eq_some ey
        have hy := List.find?_some ey
        unfold hasK at hy
        rw [Bool.and_eq_true] at hy
        have y1 := of_decide_eq_true hy.1
        have y2 := of_decide_eq_true hy.2
        obtain ⟨m1, m2, m3⟩ := prs_mem Masc my
        obtain ⟨i1, is1, f1, v1⟩ := most_filter m1 y1 fun z hz hk => by
          rcases m3 z hz with h | h
          · exact h
          · omega
        obtain ⟨i2, is2, f2, v2⟩ := least_filter m2 y2 fun z hz hk => by
          rcases m3 z hz with h | h
          · omega
          · exact h
        have so := of_ok (n := 24) (ts := ts) (wd := wd) (ms := ms) (sp := sp) (k := (k : Int)) (y := y) spl (by rw [hM]; exact ey)
        have g1 := e_max (b := .o b') (ts := ts) (wd := wd) (ms := ms) (sp := sp) (x7 := .o (.l (Y ++ [prD y]))) (x9 := .o (.l Y)) (x10 := x10) (k := (k : Int)) Mlen f1
        have g2 := e_min (b := .o b') (ts := ts) (wd := wd) (ms := ms) (sp := sp) (x7 := .o (.l (Y ++ [prD y]))) (x9 := .o (.l Y)) (x10 := x10) (k := (k : Int)) Mlen f2
        rw [v1] at g1
        rw [v2] at g2
        have Ys : short Y = true := Cm.short_of (by omega)
        refine st (A1 := stt (.o b') ts wd ms sp M (.o (.l (Y ++ [prD y]))) (.v (.int (k : Int))) (.o (.l Y)) x10) (app_ok rfl (call_dv (eva_var rfl (eva_var rfl eva_nil)) rfl rfl so rfl) rfl Ys rfl) ?_
        refine st (A1 := stt (.o b') ts wd ms sp M (.o (.l (Y ++ [prD y]))) (.v (.int (k : Int))) (.o (.l (Y ++ [prD y]))) x10) (app_ok rfl (tup_d (evs_cons g1 (evs_cons g2 evs_nil)) rfl) rfl Ys rfl) ?_
        refine stEnd (fin _ ⟨Y ++ [prD y], _, rfl, by rw [List.length_append, Yl]; simp; omega, fun x mx => ?_⟩)
        rcases List.mem_append.mp mx with mx | mx
        · exact Yd x mx
        · rw [List.mem_singleton.mp mx]
          exact Dat.mono dat_pr (by decide)
      · rintro A' ⟨Y, x8, rfl, Yl, Yd⟩
        rw [rngD_len] at Yl
        have sm := same_own (gl := gl) same_at (n := 27) (l := Y) ⟨by omega, Yd⟩
        refine stR (A1 := stt (.o b') ts wd ms sp M (.v (.lst Y)) x8 (.v (.lst Y)) x10) (v := .v (.bl true)) (ret_v rfl (call_v (eva_var rfl (eva_var rfl eva_nil)) rfl rfl sm rfl)) (fin _ _ ⟨rfl, rfl⟩)
  obtain ⟨r, bk, e, rfl, l⟩ := key
  exact ⟨bk, e, l⟩
theorem hrun : ∀ ns : List Int, ns.length ≤ 63 → ∃ back, run T gl 30 22 [.v (.ro (ns.map D.int))] = some (.ok (.v (.bl true)) back) := fun ns hn =>
  Cm.law_head law_at cells_at box_at (by decide) (by decide) 28 by_hand right_ok ns hn
end Ir
namespace Ir
open PySem AI
def top (i : Nat) : Stmt := PySem.Challenge.pw_atanywrite_k02_parts_of_rows.main.body.getD i (.Pass ⟨0, 0, 0, 0⟩)
def sts : List Stmt := [top 5, top 7, top 9, top 10, top 11, top 12, top 13, top 14, top 15, top 16, top 17, top 19, top 20, top 21, top 22, top 23, top 24, top 25, top 26, top 27, top 28, top 29, top 30]
def gls : List (Str × Nat) := []
def blt : List Str := ["tuple", "enumerate", "range", "isinstance", "sorted", "zip", "int", "list", "min", "set", "len", "all", "abs", "bool", "str", "max"]
def cls : List (Str × Nat × Str) := [("NoCell", 0, "name"), ("NoNumber", 1, "number")]
def bas : List Str := ["RowError"]
theorem look : chkAll T gls blt cls bas T sts = true := by decide +kernel
set_option maxHeartbeats 0 in
theorem all_mk {w : World} {K : PySem.W.Frag} {h : Heap} {mg : Str → Option Value} {fa f0 f1 f2 f3 f4 f5 f6 f7 f8 f9 f10 f11 f12 f13 f14 f15 f16 f17 f18 f19 f20 f21 f22 : Addr} {od0 an0 od1 an1 od2 an2 od3 an3 od4 an4 od5 an5 od6 an6 od7 an7 od8 an8 od9 an9 od10 an10 od11 an11 od12 an12 od13 an13 od14 an14 od15 an15 od16 an16 od17 an17 od18 an18 od19 an19 od20 an20 od21 an21 od22 an22 : Option Addr} {sl0 sl1 sl2 sl3 sl4 sl5 sl6 sl7 sl8 sl9 sl10 sl11 sl12 sl13 sl14 sl15 sl16 sl17 sl18 sl19 sl20 sl21 sl22 : Array (Option Value)} {oc0 kV0 dc0 pm0 cd0 ct0 oc1 kV1 dc1 pm1 cd1 ct1 oc2 kV2 dc2 pm2 cd2 ct2 oc3 kV3 dc3 pm3 cd3 ct3 oc4 kV4 dc4 pm4 cd4 ct4 oc5 kV5 dc5 pm5 cd5 ct5 oc6 kV6 dc6 pm6 cd6 ct6 oc7 kV7 dc7 pm7 cd7 ct7 oc8 kV8 dc8 pm8 cd8 ct8 oc9 kV9 dc9 pm9 cd9 ct9 oc10 kV10 dc10 pm10 cd10 ct10 oc11 kV11 dc11 pm11 cd11 ct11 oc12 kV12 dc12 pm12 cd12 ct12 oc13 kV13 dc13 pm13 cd13 ct13 oc14 kV14 dc14 pm14 cd14 ct14 oc15 kV15 dc15 pm15 cd15 ct15 oc16 kV16 dc16 pm16 cd16 ct16 oc17 kV17 dc17 pm17 cd17 ct17 oc18 kV18 dc18 pm18 cd18 ct18 oc19 kV19 dc19 pm19 cd19 ct19 oc20 kV20 dc20 pm20 cd20 ct20 oc21 kV21 dc21 pm21 cd21 ct21 oc22 kV22 dc22 pm22 cd22 ct22 : Value} {eC0 eF0 eN0 : Addr} {enm0 eq0 : Str} {ebs0 : List Value} {esn0 : List Str} {esb0 : List Value} {eab0 : Bool} {ecl0 : Option Bool} {edd0 eod0 ean0 : Option Addr} {em00 em10 em20 em30 em50 : Option Value} {esl0 : Array (Option Value)} {eoc0 ekV0 edc0 epm0 ecd0 ect0 : Value} {eC1 eF1 eN1 : Addr} {enm1 eq1 : Str} {ebs1 : List Value} {esn1 : List Str} {esb1 : List Value} {eab1 : Bool} {ecl1 : Option Bool} {edd1 eod1 ean1 : Option Addr} {em01 em11 em21 em31 em51 : Option Value} {esl1 : Array (Option Value)} {eoc1 ekV1 edc1 epm1 ecd1 ect1 : Value} {eR_RowError : Addr} (X : K.In h) (G : h.Ns mainGlobals mg) (hfa : mg "law" = some (.ref fa))
    (a0 : PySem.W.nsIn K mainGlobals "need_cell" = some (some (.ref f0))) (l0 : K.lookup f0 = some ⟨oc0, od0, .func (PySem.W.fnOf "need_cell" "need_cell" (L2.defArgs (top 5)) (L2.defBody (top 5)) (L2.defScope (top 5)) .none kV0 dc0 pm0 an0 cd0 ct0), sl0⟩) (c0 : PySem.W.codeIn K cd0 "need_cell" = true) (k0 : PySem.W.keepIn K (.ref f0) = true)
    (a1 : PySem.W.nsIn K mainGlobals "as_set" = some (some (.ref f1))) (l1 : K.lookup f1 = some ⟨oc1, od1, .func (PySem.W.fnOf "as_set" "as_set" (L2.defArgs (top 7)) (L2.defBody (top 7)) (L2.defScope (top 7)) .none kV1 dc1 pm1 an1 cd1 ct1), sl1⟩) (c1 : PySem.W.codeIn K cd1 "as_set" = true) (k1 : PySem.W.keepIn K (.ref f1) = true)
    (a2 : PySem.W.nsIn K mainGlobals "spots" = some (some (.ref f2))) (l2 : K.lookup f2 = some ⟨oc2, od2, .func (PySem.W.fnOf "spots" "spots" (L2.defArgs (top 9)) (L2.defBody (top 9)) (L2.defScope (top 9)) .none kV2 dc2 pm2 an2 cd2 ct2), sl2⟩) (c2 : PySem.W.codeIn K cd2 "spots" = true) (k2 : PySem.W.keepIn K (.ref f2) = true)
    (a3 : PySem.W.nsIn K mainGlobals "stretches" = some (some (.ref f3))) (l3 : K.lookup f3 = some ⟨oc3, od3, .func (PySem.W.fnOf "stretches" "stretches" (L2.defArgs (top 10)) (L2.defBody (top 10)) (L2.defScope (top 10)) .none kV3 dc3 pm3 an3 cd3 ct3), sl3⟩) (c3 : PySem.W.codeIn K cd3 "stretches" = true) (k3 : PySem.W.keepIn K (.ref f3) = true)
    (a4 : PySem.W.nsIn K mainGlobals "stretch_of" = some (some (.ref f4))) (l4 : K.lookup f4 = some ⟨oc4, od4, .func (PySem.W.fnOf "stretch_of" "stretch_of" (L2.defArgs (top 11)) (L2.defBody (top 11)) (L2.defScope (top 11)) .none kV4 dc4 pm4 an4 cd4 ct4), sl4⟩) (c4 : PySem.W.codeIn K cd4 "stretch_of" = true) (k4 : PySem.W.keepIn K (.ref f4) = true)
    (a5 : PySem.W.nsIn K mainGlobals "is_marked" = some (some (.ref f5))) (l5 : K.lookup f5 = some ⟨oc5, od5, .func (PySem.W.fnOf "is_marked" "is_marked" (L2.defArgs (top 12)) (L2.defBody (top 12)) (L2.defScope (top 12)) .none kV5 dc5 pm5 an5 cd5 ct5), sl5⟩) (c5 : PySem.W.codeIn K cd5 "is_marked" = true) (k5 : PySem.W.keepIn K (.ref f5) = true)
    (a6 : PySem.W.nsIn K mainGlobals "readers" = some (some (.ref f6))) (l6 : K.lookup f6 = some ⟨oc6, od6, .func (PySem.W.fnOf "readers" "readers" (L2.defArgs (top 13)) (L2.defBody (top 13)) (L2.defScope (top 13)) .none kV6 dc6 pm6 an6 cd6 ct6), sl6⟩) (c6 : PySem.W.codeIn K cd6 "readers" = true) (k6 : PySem.W.keepIn K (.ref f6) = true)
    (a7 : PySem.W.nsIn K mainGlobals "writers" = some (some (.ref f7))) (l7 : K.lookup f7 = some ⟨oc7, od7, .func (PySem.W.fnOf "writers" "writers" (L2.defArgs (top 14)) (L2.defBody (top 14)) (L2.defScope (top 14)) .none kV7 dc7 pm7 an7 cd7 ct7), sl7⟩) (c7 : PySem.W.codeIn K cd7 "writers" = true) (k7 : PySem.W.keepIn K (.ref f7) = true)
    (a8 : PySem.W.nsIn K mainGlobals "read_cells" = some (some (.ref f8))) (l8 : K.lookup f8 = some ⟨oc8, od8, .func (PySem.W.fnOf "read_cells" "read_cells" (L2.defArgs (top 15)) (L2.defBody (top 15)) (L2.defScope (top 15)) .none kV8 dc8 pm8 an8 cd8 ct8), sl8⟩) (c8 : PySem.W.codeIn K cd8 "read_cells" = true) (k8 : PySem.W.keepIn K (.ref f8) = true)
    (a9 : PySem.W.nsIn K mainGlobals "written_cells" = some (some (.ref f9))) (l9 : K.lookup f9 = some ⟨oc9, od9, .func (PySem.W.fnOf "written_cells" "written_cells" (L2.defArgs (top 16)) (L2.defBody (top 16)) (L2.defScope (top 16)) .none kV9 dc9 pm9 an9 cd9 ct9), sl9⟩) (c9 : PySem.W.codeIn K cd9 "written_cells" = true) (k9 : PySem.W.keepIn K (.ref f9) = true)
    (a10 : PySem.W.nsIn K mainGlobals "functions" = some (some (.ref f10))) (l10 : K.lookup f10 = some ⟨oc10, od10, .func (PySem.W.fnOf "functions" "functions" (L2.defArgs (top 17)) (L2.defBody (top 17)) (L2.defScope (top 17)) .none kV10 dc10 pm10 an10 cd10 ct10), sl10⟩) (c10 : PySem.W.codeIn K cd10 "functions" = true) (k10 : PySem.W.keepIn K (.ref f10) = true)
    (a11 : PySem.W.nsIn K mainGlobals "_law_box" = some (some (.ref f11))) (l11 : K.lookup f11 = some ⟨oc11, od11, .func (PySem.W.fnOf "_law_box" "_law_box" (L2.defArgs (top 19)) (L2.defBody (top 19)) (L2.defScope (top 19)) .none kV11 dc11 pm11 an11 cd11 ct11), sl11⟩) (c11 : PySem.W.codeIn K cd11 "_law_box" = true) (k11 : PySem.W.keepIn K (.ref f11) = true)
    (a12 : PySem.W.nsIn K mainGlobals "_law_take" = some (some (.ref f12))) (l12 : K.lookup f12 = some ⟨oc12, od12, .func (PySem.W.fnOf "_law_take" "_law_take" (L2.defArgs (top 20)) (L2.defBody (top 20)) (L2.defScope (top 20)) .none kV12 dc12 pm12 an12 cd12 ct12), sl12⟩) (c12 : PySem.W.codeIn K cd12 "_law_take" = true) (k12 : PySem.W.keepIn K (.ref f12) = true)
    (a13 : PySem.W.nsIn K mainGlobals "_law_cells" = some (some (.ref f13))) (l13 : K.lookup f13 = some ⟨oc13, od13, .func (PySem.W.fnOf "_law_cells" "_law_cells" (L2.defArgs (top 21)) (L2.defBody (top 21)) (L2.defScope (top 21)) .none kV13 dc13 pm13 an13 cd13 ct13), sl13⟩) (c13 : PySem.W.codeIn K cd13 "_law_cells" = true) (k13 : PySem.W.keepIn K (.ref f13) = true)
    (a14 : PySem.W.nsIn K mainGlobals "_law_of" = some (some (.ref f14))) (l14 : K.lookup f14 = some ⟨oc14, od14, .func (PySem.W.fnOf "_law_of" "_law_of" (L2.defArgs (top 22)) (L2.defBody (top 22)) (L2.defScope (top 22)) .none kV14 dc14 pm14 an14 cd14 ct14), sl14⟩) (c14 : PySem.W.codeIn K cd14 "_law_of" = true) (k14 : PySem.W.keepIn K (.ref f14) = true)
    (a15 : PySem.W.nsIn K mainGlobals "_law_pick" = some (some (.ref f15))) (l15 : K.lookup f15 = some ⟨oc15, od15, .func (PySem.W.fnOf "_law_pick" "_law_pick" (L2.defArgs (top 23)) (L2.defBody (top 23)) (L2.defScope (top 23)) .none kV15 dc15 pm15 an15 cd15 ct15), sl15⟩) (c15 : PySem.W.codeIn K cd15 "_law_pick" = true) (k15 : PySem.W.keepIn K (.ref f15) = true)
    (a16 : PySem.W.nsIn K mainGlobals "_law_same" = some (some (.ref f16))) (l16 : K.lookup f16 = some ⟨oc16, od16, .func (PySem.W.fnOf "_law_same" "_law_same" (L2.defArgs (top 24)) (L2.defBody (top 24)) (L2.defScope (top 24)) .none kV16 dc16 pm16 an16 cd16 ct16), sl16⟩) (c16 : PySem.W.codeIn K cd16 "_law_same" = true) (k16 : PySem.W.keepIn K (.ref f16) = true)
    (a17 : PySem.W.nsIn K mainGlobals "_law_lists" = some (some (.ref f17))) (l17 : K.lookup f17 = some ⟨oc17, od17, .func (PySem.W.fnOf "_law_lists" "_law_lists" (L2.defArgs (top 25)) (L2.defBody (top 25)) (L2.defScope (top 25)) .none kV17 dc17 pm17 an17 cd17 ct17), sl17⟩) (c17 : PySem.W.codeIn K cd17 "_law_lists" = true) (k17 : PySem.W.keepIn K (.ref f17) = true)
    (a18 : PySem.W.nsIn K mainGlobals "_law_row" = some (some (.ref f18))) (l18 : K.lookup f18 = some ⟨oc18, od18, .func (PySem.W.fnOf "_law_row" "_law_row" (L2.defArgs (top 26)) (L2.defBody (top 26)) (L2.defScope (top 26)) .none kV18 dc18 pm18 an18 cd18 ct18), sl18⟩) (c18 : PySem.W.codeIn K cd18 "_law_row" = true) (k18 : PySem.W.keepIn K (.ref f18) = true)
    (a19 : PySem.W.nsIn K mainGlobals "_law_heard" = some (some (.ref f19))) (l19 : K.lookup f19 = some ⟨oc19, od19, .func (PySem.W.fnOf "_law_heard" "_law_heard" (L2.defArgs (top 27)) (L2.defBody (top 27)) (L2.defScope (top 27)) .none kV19 dc19 pm19 an19 cd19 ct19), sl19⟩) (c19 : PySem.W.codeIn K cd19 "_law_heard" = true) (k19 : PySem.W.keepIn K (.ref f19) = true)
    (a20 : PySem.W.nsIn K mainGlobals "_law_by_hand_right" = some (some (.ref f20))) (l20 : K.lookup f20 = some ⟨oc20, od20, .func (PySem.W.fnOf "_law_by_hand_right" "_law_by_hand_right" (L2.defArgs (top 28)) (L2.defBody (top 28)) (L2.defScope (top 28)) .none kV20 dc20 pm20 an20 cd20 ct20), sl20⟩) (c20 : PySem.W.codeIn K cd20 "_law_by_hand_right" = true) (k20 : PySem.W.keepIn K (.ref f20) = true)
    (a21 : PySem.W.nsIn K mainGlobals "_law_right" = some (some (.ref f21))) (l21 : K.lookup f21 = some ⟨oc21, od21, .func (PySem.W.fnOf "_law_right" "_law_right" (L2.defArgs (top 29)) (L2.defBody (top 29)) (L2.defScope (top 29)) .none kV21 dc21 pm21 an21 cd21 ct21), sl21⟩) (c21 : PySem.W.codeIn K cd21 "_law_right" = true) (k21 : PySem.W.keepIn K (.ref f21) = true)
    (a22 : PySem.W.nsIn K mainGlobals "law" = some (some (.ref f22))) (l22 : K.lookup f22 = some ⟨oc22, od22, .func (PySem.W.fnOf "law" "law" (L2.defArgs (top 30)) (L2.defBody (top 30)) (L2.defScope (top 30)) .none kV22 dc22 pm22 an22 cd22 ct22), sl22⟩) (c22 : PySem.W.codeIn K cd22 "law" = true) (k22 : PySem.W.keepIn K (.ref f22) = true)
    (z0 : PySem.W.nsIn K mainGlobals "tuple" = some none) (z1 : PySem.W.nsIn K mainGlobals "enumerate" = some none) (z2 : PySem.W.nsIn K mainGlobals "range" = some none) (z3 : PySem.W.nsIn K mainGlobals "isinstance" = some none) (z4 : PySem.W.nsIn K mainGlobals "sorted" = some none) (z5 : PySem.W.nsIn K mainGlobals "zip" = some none) (z6 : PySem.W.nsIn K mainGlobals "int" = some none) (z7 : PySem.W.nsIn K mainGlobals "list" = some none) (z8 : PySem.W.nsIn K mainGlobals "min" = some none) (z9 : PySem.W.nsIn K mainGlobals "set" = some none) (z10 : PySem.W.nsIn K mainGlobals "len" = some none) (z11 : PySem.W.nsIn K mainGlobals "all" = some none) (z12 : PySem.W.nsIn K mainGlobals "abs" = some none) (z13 : PySem.W.nsIn K mainGlobals "bool" = some none) (z14 : PySem.W.nsIn K mainGlobals "str" = some none) (z15 : PySem.W.nsIn K mainGlobals "max" = some none)
    
    (ea0 : PySem.W.nsIn K mainGlobals "NoCell" = some (some (.ref eC0)))
    (ex0 : K.lookup eC0 = some (excClassObj enm0 eq0 eC0 eN0 ebs0 [.ref eR_RowError, .type "ValueError", .type "Exception", .type "BaseException", .type "object"] true esn0 esb0 eab0 ecl0 edd0 em00 em10 em20 em30 em50 "ValueError.__new__"))
    (es0 : PySem.W.findIn K (.ref eC0) "__setattr__" = some (some (.builtin "object.__setattr__")))
    (eb0 : PySem.W.subIn K (.ref eC0) (.type "BaseException") = some true)
    (et0 : PySem.W.typeIn K (.ref eC0) = some (.type "type"))
    (ek0 : PySem.W.keepIn K (.ref eC0) = true)
    (en0 : PySem.W.findIn K (.ref eC0) "name" = some none)
    (ei0 : PySem.W.findIn K (.ref eC0) "__init__" = some (some (.ref eF0)))
    (ej0 : PySem.W.typeIn K (.ref eF0) = some (.type "function"))
    (el0 : K.lookup eF0 = some ⟨eoc0, eod0, .func (PySem.W.fnOf "__init__" "NoCell.__init__" (L2.defArgs (iniOf (top 2))) (L2.defBody (iniOf (top 2))) (L2.defScope (iniOf (top 2))) .none ekV0 edc0 epm0 ean0 ecd0 ect0), esl0⟩)
    (ec0 : PySem.W.codeIn K ecd0 "NoCell.__init__" = true)
    (eg0 : PySem.W.findIn K (.ref eC0) "__getattribute__" = some (some (.builtin "BaseException.__getattribute__")))
    (eh0 : PySem.W.findIn K (.ref eC0) "__getattr__" = some none)
    (ed0 : PySem.W.hasDictIn K eC0 = true)
    (ey0 : PySem.W.findIn K (.ref eC0) "__class__" = some (some (.builtin "object.__class__")))
    (ez0 : PySem.W.mroIn K eC0 (.type "object") = some true)
    (ea1 : PySem.W.nsIn K mainGlobals "NoNumber" = some (some (.ref eC1)))
    (ex1 : K.lookup eC1 = some (excClassObj enm1 eq1 eC1 eN1 ebs1 [.ref eR_RowError, .type "ValueError", .type "Exception", .type "BaseException", .type "object"] true esn1 esb1 eab1 ecl1 edd1 em01 em11 em21 em31 em51 "ValueError.__new__"))
    (es1 : PySem.W.findIn K (.ref eC1) "__setattr__" = some (some (.builtin "object.__setattr__")))
    (eb1 : PySem.W.subIn K (.ref eC1) (.type "BaseException") = some true)
    (et1 : PySem.W.typeIn K (.ref eC1) = some (.type "type"))
    (ek1 : PySem.W.keepIn K (.ref eC1) = true)
    (en1 : PySem.W.findIn K (.ref eC1) "number" = some none)
    (ei1 : PySem.W.findIn K (.ref eC1) "__init__" = some (some (.ref eF1)))
    (ej1 : PySem.W.typeIn K (.ref eF1) = some (.type "function"))
    (el1 : K.lookup eF1 = some ⟨eoc1, eod1, .func (PySem.W.fnOf "__init__" "NoNumber.__init__" (L2.defArgs (iniOf (top 3))) (L2.defBody (iniOf (top 3))) (L2.defScope (iniOf (top 3))) .none ekV1 edc1 epm1 ean1 ecd1 ect1), esl1⟩)
    (ec1 : PySem.W.codeIn K ecd1 "NoNumber.__init__" = true)
    (eg1 : PySem.W.findIn K (.ref eC1) "__getattribute__" = some (some (.builtin "BaseException.__getattribute__")))
    (eh1 : PySem.W.findIn K (.ref eC1) "__getattr__" = some none)
    (ed1 : PySem.W.hasDictIn K eC1 = true)
    (ey1 : PySem.W.findIn K (.ref eC1) "__class__" = some (some (.builtin "object.__class__")))
    (ez1 : PySem.W.mroIn K eC1 (.type "object") = some true)
    (evn : PySem.W.specialIn K (.builtin "object.__class__") "__get__" = some (some (.builtin "getset_descriptor.__get__"))) (evt : PySem.W.takesIn K (.builtin "object.__class__") = some true)
    (ep0_0 : PySem.W.subIn K (.ref eC0) (.ref eC0) = some true)
    (ep0_1 : PySem.W.subIn K (.ref eC0) (.ref eC1) = some false)
    (ep1_0 : PySem.W.subIn K (.ref eC1) (.ref eC0) = some false)
    (ep1_1 : PySem.W.subIn K (.ref eC1) (.ref eC1) = some true)
    (eu_RowError : PySem.W.nsIn K mainGlobals "RowError" = some (some (.ref eR_RowError))) (ev_RowError : PySem.W.typeIn K (.ref eR_RowError) = some (.type "type")) (eo_RowError : PySem.W.isClsIn K eR_RowError = true)
    (ew_RowError_0 : PySem.W.subIn K (.ref eC0) (.ref eR_RowError) = some true)
    (ew_RowError_1 : PySem.W.subIn K (.ref eC1) (.ref eR_RowError) = some true)
    (hrun : ∀ ns : List Int, ns.length ≤ 63 → ∃ back, run T gl 30 22 [.v (.ro (ns.map D.int))] = some (.ok (.v (.bl true)) back)) :
    ∃ fd : FuncData, (∀ (s : Shared) (v : Value), BindsTo s fd ⟨[v], []⟩ [(("script" : Str), v)]) ∧ ∀ base : Heap, K.In base → base.Ns mainGlobals mg → L2.FnOk PySem.Challenge.rw_atanywrite_k02_parts_of_rows.prog w K mg base (L2.CX PySem.Challenge.rw_atanywrite_k02_parts_of_rows.prog w) 32 fa fd [("script" : Str)] (spLaw K 63) := by
  have er0 := errIn_mk (x := "NoCell") (f := "name") (st := iniOf (top 2)) X G ea0 ex0 rfl es0 eb0 et0 ek0 en0 ei0 ej0 el0 ec0 (by decide +kernel) (by decide) (fun us hl => match us, hl with | [_, _], _ => rfl)
  have eqq0 := errQ_mk (f := "name") eg0 eh0 eb0 ed0 en0 ey0 evn evt ez0
  have er1 := errIn_mk (x := "NoNumber") (f := "number") (st := iniOf (top 3)) X G ea1 ex1 rfl es1 eb1 et1 ek1 en1 ei1 ej1 el1 ec1 (by decide +kernel) (by decide) (fun us hl => match us, hl with | [_, _], _ => rfl)
  have eqq1 := errQ_mk (f := "number") eg1 eh1 eb1 ed1 en1 ey1 evn evt ez1
  let ca : Nat → Addr := fun c => match c with | 0 => eC0 | 1 => eC1 | _ => 0
  have hce : AllErr K mg ca cls := ⟨er0, er1, trivial⟩
  have exm : ∀ c d, c < 2 → d < 2 → PySem.W.exmOne K (.ref (ca c)) (.ref (ca d)) = some (decide (c = d)) := fun c d h k => match c, d, h, k with | 0, 0, _, _ => PySem.W.exm_ref eb0 ed0 et0 ep0_0 | 0, 1, _, _ => PySem.W.exm_ref eb1 ed1 et1 ep0_1 | 1, 0, _, _ => PySem.W.exm_ref eb0 ed0 et0 ep1_0 | 1, 1, _, _ => PySem.W.exm_ref eb1 ed1 et1 ep1_1 | c + 2, _, h, _ => absurd h (by omega) | _, d + 2, _, h => absurd h (by omega)
  have eqs : ∀ c, c < 2 → ∃ f, ((cls[c]?).map fun q => q.2.2) = some f ∧ ErrQ K (ca c) f := fun c h => match c, h with | 0, _ => ⟨_, rfl, eqq0⟩ | 1, _ => ⟨_, rfl, eqq1⟩ | c + 2, h => absurd h (by omega)
  have bsf : ∀ x, x ∈ bas → ∃ (v : L2.V) (u : Value), (∀ w, L2.RelV v w → w = u) ∧ L2.RelV v u ∧ (mg x = some u ∨ (mg x = none ∧ bootBuiltins x = some u ∧ x ≠ "__name__")) ∧ ∀ c, c < 2 → PySem.W.kitOne K (.ref (ca c)) u = some true := by
    intro x m
    simp only [bas, List.mem_cons, List.not_mem_nil, or_false] at m
    rcases m with rfl
    · exact bas_own X G eu_RowError (fun c h => match c, h with | 0, _ => kit_true ev_RowError eo_RowError ew_RowError_0 | 1, _ => kit_true ev_RowError eo_RowError ew_RowError_1 | c + 2, h => absurd h (by omega))
  have d0 := defIn_mk (f := d0) (st := top 5) X G rfl rfl a0 l0 c0 k0 (fun us hl => match us, hl with | [_, _], _ => rfl) (fun _ m => by cases m)
  have d1 := defIn_mk (f := d1) (st := top 7) X G rfl rfl a1 l1 c1 k1 (fun us hl => match us, hl with | [_], _ => rfl) (fun _ m => by cases m)
  have d2 := defIn_mk (f := d2) (st := top 9) X G rfl rfl a2 l2 c2 k2 (fun us hl => match us, hl with | [_], _ => rfl) (by
    intro sh m
    rcases List.mem_cons.mp m with e | m
    · subst e
      exact fun us ws h1 h2 => match us, ws, h1, h2 with | [], [_], _, _ => rfl
    cases m)
  have d3 := defIn_mk (f := d3) (st := top 10) X G rfl rfl a3 l3 c3 k3 (fun us hl => match us, hl with | [_], _ => rfl) (by
    intro sh m
    rcases List.mem_cons.mp m with e | m
    · subst e
      exact fun us ws h1 h2 => match us, ws, h1, h2 with | [], [_], _, _ => rfl
    cases m)
  have d4 := defIn_mk (f := d4) (st := top 11) X G rfl rfl a4 l4 c4 k4 (fun us hl => match us, hl with | [_, _], _ => rfl) (by
    intro sh m
    rcases List.mem_cons.mp m with e | m
    · subst e
      exact fun us ws h1 h2 => match us, ws, h1, h2 with | [], [_, _], _, _ => rfl
    cases m)
  have d5 := defIn_mk (f := d5) (st := top 12) X G rfl rfl a5 l5 c5 k5 (fun us hl => match us, hl with | [_, _], _ => rfl) (by
    intro sh m
    rcases List.mem_cons.mp m with e | m
    · subst e
      exact fun us ws h1 h2 => match us, ws, h1, h2 with | [], [_, _], _, _ => rfl
    cases m)
  have d6 := defIn_mk (f := d6) (st := top 13) X G rfl rfl a6 l6 c6 k6 (fun us hl => match us, hl with | [_, _], _ => rfl) (by
    intro sh m
    rcases List.mem_cons.mp m with e | m
    · subst e
      exact fun us ws h1 h2 => match us, ws, h1, h2 with | [], [_, _], _, _ => rfl
    cases m)
  have d7 := defIn_mk (f := d7) (st := top 14) X G rfl rfl a7 l7 c7 k7 (fun us hl => match us, hl with | [_, _], _ => rfl) (by
    intro sh m
    rcases List.mem_cons.mp m with e | m
    · subst e
      exact fun us ws h1 h2 => match us, ws, h1, h2 with | [], [_, _], _, _ => rfl
    cases m)
  have d8 := defIn_mk (f := d8) (st := top 15) X G rfl rfl a8 l8 c8 k8 (fun us hl => match us, hl with | [_], _ => rfl) (by
    intro sh m
    rcases List.mem_cons.mp m with e | m
    · subst e
      exact fun us ws h1 h2 => match us, ws, h1, h2 with | [], [_], _, _ => rfl
    cases m)
  have d9 := defIn_mk (f := d9) (st := top 16) X G rfl rfl a9 l9 c9 k9 (fun us hl => match us, hl with | [_], _ => rfl) (by
    intro sh m
    rcases List.mem_cons.mp m with e | m
    · subst e
      exact fun us ws h1 h2 => match us, ws, h1, h2 with | [], [_], _, _ => rfl
    cases m)
  have d10 := defIn_mk (f := d10) (st := top 17) X G rfl rfl a10 l10 c10 k10 (fun us hl => match us, hl with | [_], _ => rfl) (by
    intro sh m
    rcases List.mem_cons.mp m with e | m
    · subst e
      exact fun us ws h1 h2 => match us, ws, h1, h2 with | [], [_], _, _ => rfl
    cases m)
  have d11 := defIn_mk (f := d11) (st := top 19) X G rfl rfl a11 l11 c11 k11 (fun us hl => match us, hl with | [_, _], _ => rfl) (fun _ m => by cases m)
  have d12 := defIn_mk (f := d12) (st := top 20) X G rfl rfl a12 l12 c12 k12 (fun us hl => match us, hl with | [_, _], _ => rfl) (fun _ m => by cases m)
  have d13 := defIn_mk (f := d13) (st := top 21) X G rfl rfl a13 l13 c13 k13 (fun us hl => match us, hl with | [_, _], _ => rfl) (fun _ m => by cases m)
  have d14 := defIn_mk (f := d14) (st := top 22) X G rfl rfl a14 l14 c14 k14 (fun us hl => match us, hl with | [_, _], _ => rfl) (fun _ m => by cases m)
  have d15 := defIn_mk (f := d15) (st := top 23) X G rfl rfl a15 l15 c15 k15 (fun us hl => match us, hl with | [_, _, _], _ => rfl) (fun _ m => by cases m)
  have d16 := defIn_mk (f := d16) (st := top 24) X G rfl rfl a16 l16 c16 k16 (fun us hl => match us, hl with | [_, _], _ => rfl) (fun _ m => by cases m)
  have d17 := defIn_mk (f := d17) (st := top 25) X G rfl rfl a17 l17 c17 k17 (fun us hl => match us, hl with | [_], _ => rfl) (fun _ m => by cases m)
  have d18 := defIn_mk (f := d18) (st := top 26) X G rfl rfl a18 l18 c18 k18 (fun us hl => match us, hl with | [_, _, _], _ => rfl) (fun _ m => by cases m)
  have d19 := defIn_mk (f := d19) (st := top 27) X G rfl rfl a19 l19 c19 k19 (fun us hl => match us, hl with | [_, _, _], _ => rfl) (fun _ m => by cases m)
  have d20 := defIn_mk (f := d20) (st := top 28) X G rfl rfl a20 l20 c20 k20 (fun us hl => match us, hl with | [], _ => rfl) (fun _ m => by cases m)
  have d21 := defIn_mk (f := d21) (st := top 29) X G rfl rfl a21 l21 c21 k21 (fun us hl => match us, hl with | [_], _ => rfl) (fun _ m => by cases m)
  have d22 := defIn_mk (f := d22) (st := top 30) X G rfl rfl a22 l22 c22 k22 (fun us hl => match us, hl with | [_], _ => rfl) (fun _ m => by cases m)
  have hd : AllIn K mg T sts := ⟨d0, d1, d2, d3, d4, d5, d6, d7, d8, d9, d10, d11, d12, d13, d14, d15, d16, d17, d18, d19, d20, d21, d22, trivial⟩
  have hb : AllNone mg blt := ⟨PySem.W.mg_none_of X G z0, PySem.W.mg_none_of X G z1, PySem.W.mg_none_of X G z2, PySem.W.mg_none_of X G z3, PySem.W.mg_none_of X G z4, PySem.W.mg_none_of X G z5, PySem.W.mg_none_of X G z6, PySem.W.mg_none_of X G z7, PySem.W.mg_none_of X G z8, PySem.W.mg_none_of X G z9, PySem.W.mg_none_of X G z10, PySem.W.mg_none_of X G z11, PySem.W.mg_none_of X G z12, PySem.W.mg_none_of X G z13, PySem.W.mg_none_of X G z14, PySem.W.mg_none_of X G z15, trivial⟩
  have hg : AllGl K mg gl gls := trivial
  exact law_ok hce.get (errT_mk (n := 2) exm eqs bsf) hd hg.get hb.get look (jl := 22) rfl rfl rfl hfa hrun
end Ir
open PySem PySem.W PyProof.Rows
set_option maxHeartbeats 0 in
theorem PySem.Challenge.cw_atanywrite_k02_parts_of_rows_holds : PySem.Challenge.rw_atanywrite_k02_parts_of_rows.Holds := by
  w_on; o_law; k_head; (case hw => w_witness2)
  k_fill
  refine L2.walk_of (l := PySem.Challenge.rw_atanywrite_k02_parts_of_rows) (n := 63) (k := 32) (x := "script") (CX := fun w => L2.CX PySem.Challenge.rw_atanywrite_k02_parts_of_rows.prog w) (sp := fun w => AI.spLaw _ 63) rfl (by decide) rfl ⟨rfl, by decide, by decide⟩ (fun w h Y => PySem.W.kIn_of Y) ?F (fun _ _ a ns hl _ hS => ⟨a, ns, rfl, hS, hl, fun _ => rfl⟩) (fun _ _ _ _ _ z => z.elim fun _ z => z.elim fun _ z => z.elim fun _ z => z.elim fun _ z => z.elim fun _ z => z.2.2.2.2.2.2.2)
  case F =>
    intro w mg fa h KX G hmg
    refine' Ir.all_mk KX G hmg ?y_a0 ?y_l0 ?y_c0 ?y_k0 ?y_a1 ?y_l1 ?y_c1 ?y_k1 ?y_a2 ?y_l2 ?y_c2 ?y_k2 ?y_a3 ?y_l3 ?y_c3 ?y_k3 ?y_a4 ?y_l4 ?y_c4 ?y_k4 ?y_a5 ?y_l5 ?y_c5 ?y_k5 ?y_a6 ?y_l6 ?y_c6 ?y_k6 ?y_a7 ?y_l7 ?y_c7 ?y_k7 ?y_a8 ?y_l8 ?y_c8 ?y_k8 ?y_a9 ?y_l9 ?y_c9 ?y_k9 ?y_a10 ?y_l10 ?y_c10 ?y_k10 ?y_a11 ?y_l11 ?y_c11 ?y_k11 ?y_a12 ?y_l12 ?y_c12 ?y_k12 ?y_a13 ?y_l13 ?y_c13 ?y_k13 ?y_a14 ?y_l14 ?y_c14 ?y_k14 ?y_a15 ?y_l15 ?y_c15 ?y_k15 ?y_a16 ?y_l16 ?y_c16 ?y_k16 ?y_a17 ?y_l17 ?y_c17 ?y_k17 ?y_a18 ?y_l18 ?y_c18 ?y_k18 ?y_a19 ?y_l19 ?y_c19 ?y_k19 ?y_a20 ?y_l20 ?y_c20 ?y_k20 ?y_a21 ?y_l21 ?y_c21 ?y_k21 ?y_a22 ?y_l22 ?y_c22 ?y_k22 ?y_z0 ?y_z1 ?y_z2 ?y_z3 ?y_z4 ?y_z5 ?y_z6 ?y_z7 ?y_z8 ?y_z9 ?y_z10 ?y_z11 ?y_z12 ?y_z13 ?y_z14 ?y_z15 ?y_ea0 ?y_ex0 ?y_es0 ?y_eb0 ?y_et0 ?y_ek0 ?y_en0 ?y_ei0 ?y_ej0 ?y_el0 ?y_ec0 ?y_eg0 ?y_eh0 ?y_ed0 ?y_ey0 ?y_ez0 ?y_ea1 ?y_ex1 ?y_es1 ?y_eb1 ?y_et1 ?y_ek1 ?y_en1 ?y_ei1 ?y_ej1 ?y_el1 ?y_ec1 ?y_eg1 ?y_eh1 ?y_ed1 ?y_ey1 ?y_ez1 ?y_evn ?y_evt ?y_ep0_0 ?y_ep0_1 ?y_ep1_0 ?y_ep1_1 ?y_eu_RowError ?y_ev_RowError ?y_eo_RowError ?y_ew_RowError_0 ?y_ew_RowError_1 Ir.hrun
    (case y_a0 => k_is); (case y_l0 => k_is); (case y_c0 => k_is); (case y_k0 => k_is); (case y_a1 => k_is); (case y_l1 => k_is); (case y_c1 => k_is); (case y_k1 => k_is); (case y_a2 => k_is); (case y_l2 => k_is); (case y_c2 => k_is); (case y_k2 => k_is); (case y_a3 => k_is); (case y_l3 => k_is); (case y_c3 => k_is); (case y_k3 => k_is); (case y_a4 => k_is); (case y_l4 => k_is); (case y_c4 => k_is); (case y_k4 => k_is); (case y_a5 => k_is); (case y_l5 => k_is); (case y_c5 => k_is); (case y_k5 => k_is); (case y_a6 => k_is); (case y_l6 => k_is); (case y_c6 => k_is); (case y_k6 => k_is); (case y_a7 => k_is); (case y_l7 => k_is); (case y_c7 => k_is); (case y_k7 => k_is); (case y_a8 => k_is); (case y_l8 => k_is); (case y_c8 => k_is); (case y_k8 => k_is); (case y_a9 => k_is); (case y_l9 => k_is); (case y_c9 => k_is); (case y_k9 => k_is); (case y_a10 => k_is); (case y_l10 => k_is); (case y_c10 => k_is); (case y_k10 => k_is); (case y_a11 => k_is); (case y_l11 => k_is); (case y_c11 => k_is); (case y_k11 => k_is); (case y_a12 => k_is); (case y_l12 => k_is); (case y_c12 => k_is); (case y_k12 => k_is); (case y_a13 => k_is); (case y_l13 => k_is); (case y_c13 => k_is); (case y_k13 => k_is); (case y_a14 => k_is); (case y_l14 => k_is); (case y_c14 => k_is); (case y_k14 => k_is); (case y_a15 => k_is); (case y_l15 => k_is); (case y_c15 => k_is); (case y_k15 => k_is); (case y_a16 => k_is); (case y_l16 => k_is); (case y_c16 => k_is); (case y_k16 => k_is); (case y_a17 => k_is); (case y_l17 => k_is); (case y_c17 => k_is); (case y_k17 => k_is); (case y_a18 => k_is); (case y_l18 => k_is); (case y_c18 => k_is); (case y_k18 => k_is); (case y_a19 => k_is); (case y_l19 => k_is); (case y_c19 => k_is); (case y_k19 => k_is); (case y_a20 => k_is); (case y_l20 => k_is); (case y_c20 => k_is); (case y_k20 => k_is); (case y_a21 => k_is); (case y_l21 => k_is); (case y_c21 => k_is); (case y_k21 => k_is); (case y_a22 => k_is); (case y_l22 => k_is); (case y_c22 => k_is); (case y_k22 => k_is); (case y_z0 => k_is); (case y_z1 => k_is); (case y_z2 => k_is); (case y_z3 => k_is); (case y_z4 => k_is); (case y_z5 => k_is); (case y_z6 => k_is); (case y_z7 => k_is); (case y_z8 => k_is); (case y_z9 => k_is); (case y_z10 => k_is); (case y_z11 => k_is); (case y_z12 => k_is); (case y_z13 => k_is); (case y_z14 => k_is); (case y_z15 => k_is); (case y_ea0 => k_is); (case y_ex0 => k_is); (case y_es0 => k_is); (case y_eb0 => k_is); (case y_et0 => k_is); (case y_ek0 => k_is); (case y_en0 => k_is); (case y_ei0 => k_is); (case y_ej0 => k_is); (case y_el0 => k_is); (case y_ec0 => k_is); (case y_eg0 => k_is); (case y_eh0 => k_is); (case y_ed0 => k_is); (case y_ey0 => k_is); (case y_ez0 => k_is); (case y_ea1 => k_is); (case y_ex1 => k_is); (case y_es1 => k_is); (case y_eb1 => k_is); (case y_et1 => k_is); (case y_ek1 => k_is); (case y_en1 => k_is); (case y_ei1 => k_is); (case y_ej1 => k_is); (case y_el1 => k_is); (case y_ec1 => k_is); (case y_eg1 => k_is); (case y_eh1 => k_is); (case y_ed1 => k_is); (case y_ey1 => k_is); (case y_ez1 => k_is); (case y_evn => k_is); (case y_evt => k_is); (case y_ep0_0 => k_is); (case y_ep0_1 => k_is); (case y_ep1_0 => k_is); (case y_ep1_1 => k_is); (case y_eu_RowError => k_is); (case y_ev_RowError => k_is); (case y_eo_RowError => k_is); (case y_ew_RowError_0 => k_is); (case y_ew_RowError_1 => k_is)
