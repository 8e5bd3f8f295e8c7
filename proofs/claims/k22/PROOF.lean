import PyProof.Rows.All
import Wide.All
import OpenK.AllK
import Wide.FinOn
import Lean
import PyProof.EqAt
import PyProof.EqKinds
import PyProof.EqLayable
import PyProof.TupleCall
import PyProof.P3Statements
import PySem.Challenge.RW_limitdesk_k22_kinds_and_corners_refused
set_option Elab.async false
set_option linter.all false
set_option maxRecDepth 100000
namespace L2
open PySem PySem.Spec PyProof.Rows
abbrev Key := Sum Int Str
def Ww : Key -> Value -> Bool
 | .inl k, v => Value.isInt k v
 | .inr x, v => Value.isStrOf x v
def keyH (w : World) : Key -> Int
 | .inl k => hashInt k
 | .inr x => hashStr w x
theorem Ye : ∀ {k : Key} {v : Value}, Ww k v = true -> (∃ i t, k = Sum.inl i /\ v = Value.int i t) \/ (∃ x t, k = Sum.inr x /\ v = Value.str x t)
 | .inl i, v, h => by
  obtain ⟨t, e⟩ := Value.isInt_shape (k := i) (v := v) h
  exact .inl ⟨i, t, rfl, e⟩
 | .inr x, v, h => by
  obtain ⟨t, e⟩ := Value.isStrOf_shape (x := x) (v := v) h
  exact .inr ⟨x, t, rfl, e⟩
theorem zeU (i : Int) (t : Tok) : Ww (.inl i) (.int i t) = true := by simp [Ww, Value.isInt]
theorem zeT (x : Str) (t : Tok) : Ww (.inr x) (.str x t) = true := by simp [Ww, Value.isStrOf]
theorem key_ll (a b : Int) : decide ((Sum.inl a : Key) = Sum.inl b) = (a == b) := by
 by_cases e : a = b
 ·subst e; simp
 ·have h : ¬ (Sum.inl a : Key) = Sum.inl b := fun q => e (Sum.inl.inj q)
  rw [decide_eq_false h]
  exact (beq_eq_false_iff_ne.mpr e).symm
theorem key_rr (a b : Str) : decide ((Sum.inr a : Key) = Sum.inr b) = decide (a = b) := by
 by_cases e : a = b
 ·subst e; simp
 ·have h : ¬ (Sum.inr a : Key) = Sum.inr b := fun q => e (Sum.inr.inj q)
  rw [decide_eq_false h, decide_eq_false e]
theorem key_lr (a : Int) (b : Str) : decide ((Sum.inl a : Key) = Sum.inr b) = false := decide_eq_false (fun q => nomatch q)
theorem key_rl (a : Str) (b : Int) : decide ((Sum.inr a : Key) = Sum.inl b) = false := decide_eq_false (fun q => nomatch q)
def YG (prog : Program) (w : World) : PySem.KeyKind prog w Key where
 is := Ww
 hash := keyH w
 inj := fun v a b ha hb => by
  rcases Ye ha with ⟨i, t, rfl, rfl⟩ | ⟨x, t, rfl, rfl⟩
  ·rcases Ye hb with ⟨j, u, rfl, e⟩ | ⟨y, u, rfl, e⟩
   ·injection e with e1 _; rw [e1]
   ·exact nomatch e
  ·rcases Ye hb with ⟨j, u, rfl, e⟩ | ⟨y, u, rfl, e⟩
   ·exact nomatch e
   ·injection e with e1 _; rw [e1]
 byValue := fun k v h => by
  rcases Ye h with ⟨i, t, rfl, rfl⟩ | ⟨x, t, rfl, rfl⟩ <;> rfl
 pyHash := fun hv h => by
  rcases Ye hv with ⟨i, t, rfl, rfl⟩ | ⟨x, t, rfl, rfl⟩
  ·exact wpAny_pyHash_int h
  ·exact wpAny_pyHash_str h
 eqBool := fun hu hv h => by
  rcases Ye hu with ⟨i, t, rfl, rfl⟩ | ⟨x, t, rfl, rfl⟩
  ·rcases Ye hv with ⟨j, u, rfl, rfl⟩ | ⟨y, u, rfl, rfl⟩
   ·rw [key_ll] at h; exact wpAny_eqBool_int h
   ·rw [key_lr] at h; exact SeqAt.EqAt.int_str i t y u _ _ _ _ h
  ·rcases Ye hv with ⟨j, u, rfl, rfl⟩ | ⟨y, u, rfl, rfl⟩
   ·rw [key_rl] at h; exact SeqAt.EqAt.str_int x t j u _ _ _ _ h
   ·rw [key_rr] at h; exact wpAny_eqBool_str h
 «strs» := fun k x t v h => by
  rcases Ye h with ⟨i, u, rfl, e⟩ | ⟨y, u, rfl, e⟩
  ·exact nomatch e
  ·injection e with e1 _
   subst e1
   cases v <;> rfl
theorem mixKind_is (prog : Program) (w : World) (k : Key) (v : Value) : (YG prog w).is k v = Ww k v := rfl
theorem zbI (prog : Program) (w : World) (i : Int) (t : Tok) : (YG prog w).is (.inl i) (.int i t) = true := zeU i t
theorem zbH (prog : Program) (w : World) (x : Str) (t : Tok) : (YG prog w).is (.inr x) (.str x t) = true := zeT x t
end L2
namespace L2
open PySem PySem.Spec PyProof.Rows
inductive V where
 | non | bl (b : Bool) | int (i : Int) | str (x : Str) | byt (b : Array UInt8) | flt (b : UInt64) | ref (a : Addr) | ty (n : String)
 deriving DecidableEq
def RelV : V -> Value -> Prop
 | .non, u => u = Value.none
 | .bl b, u => u = Value.bool b
 | .int i, u => ∃ t, u = Value.int i t
 | .str x, u => ∃ t, u = Value.str x t
 | .byt b, u => ∃ t, u = Value.bytes b t
 | .flt b, u => ∃ t, u = Value.float b t
 | .ref a, u => u = Value.ref a
 | .ty n, u => u = Value.type n
abbrev Vals : List V -> List Value -> Prop := Paired RelV
theorem Vals.length {xs : List V} {us : List Value} (r : Vals xs us) : xs.length = us.length := Paired.length r
theorem Vals.get : ∀ {xs : List V} {us : List Value} {i : Nat} {x : V}, Vals xs us -> xs[i]? = some x -> ∃ u, us[i]? = some u /\ RelV x u
 | _, _, _, _, .nil, e => by simp at e
 | _, _, 0, _, .cons r _, e => by simp at e; subst e; exact ⟨_, rfl, r⟩
 | _, _, i + 1, x, .cons _ t, e => by
  obtain ⟨u, h1, h2⟩ := Vals.get (i := i) (x := x) t (by simpa using e)
  exact ⟨u, by simpa using h1, h2⟩
theorem Vals.set {x : V} {u : Value} (r : RelV x u) : ∀ {xs : List V} {us : List Value} (i : Nat), Vals xs us -> Vals (xs.set i x) (us.set i u)
 | _, _, _, .nil => .nil
 | _, _, 0, .cons _ t => .cons r t
 | _, _, i + 1, .cons q t => .cons q (Vals.set r i t)
theorem Vals.append : ∀ {xs ys : List V} {us ws : List Value}, Vals xs us -> Vals ys ws -> Vals (xs ++ ys) (us ++ ws)
 | _, _, _, _, .nil, s => s
 | _, _, _, _, .cons r t, s => .cons r (Vals.append t s)
theorem Vals.take : ∀ {xs : List V} {us : List Value} (n : Nat), Vals xs us -> Vals (xs.take n) (us.take n)
 | _, _, 0, _ => .nil
 | _, _, _ + 1, .nil => .nil
 | _, _, n + 1, .cons r t => .cons r (Vals.take n t)
theorem Vals.drop : ∀ {xs : List V} {us : List Value} (n : Nat), Vals xs us -> Vals (xs.drop n) (us.drop n)
 | _, _, 0, r => r
 | _, _, _ + 1, .nil => .nil
 | _, _, n + 1, .cons _ t => Vals.drop n t
def RelO : Option V -> Option Value -> Prop
 | some v, some u => RelV v u
 | none, none => True
 | _, _ => False
def KV {κ : Type} : List (κ × V) -> List (κ × Value) -> Prop := Paired fun (p : κ × V) (q : κ × Value) => p.1 = q.1 /\ RelV p.2 q.2
def kV : Key -> V
 | .inl i => .int i
 | .inr x => .str x
inductive HO where
 /-- a list -/
 | lst (xs : List V)
 /-- a tuple (never changes) -/
 | tup (xs : List V)
 /-- a dict whose keys are ints and texts; one whose keys are tuples of ints and texts (the empty one is both) -/
 | dK (kvs : List (Key × V)) | dT (kvs : List (List Key × V))
 /-- a set of ints: its members, its size -/
 | set (S : Int -> Bool) (n : Nat)
 /-- an instance of the class at C, its dict at dx, its attributes -/
 | ins (C dx : Addr) (fs : List (Str × V))
 /-- the dict of the instance at x -/
 | own (x : Addr)
 /-- the dict of an exception -/
 | xd (fs : List (Str × V))
 /-- a bound method, f of x -/
 | met (f x : Addr)
 /-- a range object lo, lo + 1, .. below hi -/
 | rng (lo hi : Int)
 /-- a thing that is known to the object (the script; a dict while a loop walks it): read, never written while it is so -/
 | frz (o : Obj) (u : HO)
 /-- a code object's table -/
 | tbl (ps : Array Value)
 /-- any other thing, by what is true of its one object (a def of one's own: SetO a S n := HO.ext fun h => ..) -/
 | ext (φ : Heap -> Prop)
abbrev Hp := Addr -> Option HO
def upd (H : Hp) (a : Addr) (o : HO) : Hp := fun b => if b = a then some o else H b
theorem Zp {H : Hp} {a : Addr} {o : HO} : upd H a o a = some o := by unfold upd; rw [if_pos rfl]
theorem Zn {H : Hp} {a b : Addr} {o : HO} (h : b ≠ a) : upd H a o b = H b := by unfold upd; rw [if_neg h]
theorem zdS {H : Hp} {a : Addr} {o u : HO} : upd (upd H a o) a u = upd H a u := by
 funext b; unfold upd; split <;> rfl
theorem ne_of {H : Hp} {a b : Addr} {o u : HO} (h : H a = some o) (h' : H b = some u) (d : o ≠ u) : a ≠ b := by
 intro e; subst e; rw [h] at h'; exact d (Option.some.inj h')
theorem Zu {H : Hp} {a b : Addr} {o : HO} (h : H a = some o) (h' : H b = none) : a ≠ b := by
 intro e; subst e; rw [h] at h'; cases h'
section
variable (P : Program) (w : World)
def Y6 (H : Hp) (h : Heap) (a : Addr) : HO -> Prop
 | .lst xs => xs.length <= sizeLine /\ ∃ (its : List Value) (n : Nat), Vals xs its /\ h.get? a = some { cls := .type "list", data := .seq its.toArray n }
 | .tup xs => xs.length <= sizeLine /\ ∃ its : List Value, Vals xs its /\ IsTup h a its.toArray
 | .dK kvs => kvs.length <= sizeLine /\ (a == sysModules) = false /\ ∃ vs, KV kvs vs /\ h.DictOf (YG P w) a vs
 | .dT kvs => kvs.length <= sizeLine /\ (a == sysModules) = false /\ ∃ xs : List (List Key × Addr × Value),
   Paired (fun (p : List Key × V) (q : List Key × Addr × Value) => p.1 = q.1 /\ H q.2.1 = some (.tup (p.1.map kV)) /\ RelV p.2 q.2.2) kvs xs /\
   ∃ o es ep, h.get? a = some o /\ o.ExactDict /\ o.data = .dict es ep /\ es.toList = xs.map (entryOfKey (tupleKind (YG P w))) /\ (xs.map (·.1)).Nodup
 | .set S n => h.SetOf (intKind P w) a S n
 | .ins C dx fs => H dx = some (.own a) /\ fs.length <= 1000 /\ dx ≠ a /\ h.get? a = some (PySem.W.instObj C dx) /\
   ∃ mA, h.Ns1 dx mA /\ (∀ f, RelO (fs.lookup f) (mA f)) /\ PySem.Within mA (fs.map (·.1))
 | .own _ => ∃ o, h.get? a = some o
 | .xd fs => ∃ mA, h.Ns1 a mA /\ ∀ f, RelO (fs.lookup f) (mA f)
 | .rng lo hi => ∃ t u v, h.get? a = some { cls := .type "range", data := .fields #[.int lo t, .int hi u, .int 1 v] }
 | .frz o u => h.get? a = some o /\ Y6 H h a u
 | .tbl ps => h.get? a = some { cls := .none, data := .fields ps }
 | .met f x => h.get? a = some (PySem.W.methodObj (.ref f) (.ref x))
 | .ext φ => φ h /\ (∃ o, h.get? a = some o) /\ ∀ h1 h2 : Heap, φ h1 -> (∀ o, h1.get? a = some o -> h2.get? a = some o) -> φ h2
def HOk (H : Hp) (h : Heap) : Prop := ∀ a o, H a = some o -> Y6 P w H h a o
end
section
variable {P : Program} {w : World} {H H' : Hp} {h h' : Heap} {a : Addr} {o : HO}
theorem Y6.lt (x : Y6 P w H h a o) : a < h.objs.size := by
 cases o with
 | lst xs => obtain ⟨_, _, _, _, e⟩ := x; exact Heap.lt_size e
 | tup xs => obtain ⟨_, _, _, p⟩ := x; exact p.lt
 | dK kvs => obtain ⟨_, _, _, _, o, _, _, e, _⟩ := x; exact Heap.lt_size e
 | dT kvs => obtain ⟨_, _, _, _, o, _, _, e, _⟩ := x; exact Heap.lt_size e
 | set S n => obtain ⟨o, _, _, _, e, _⟩ := x; exact Heap.lt_size e
 | ins C dx fs => obtain ⟨_, _, _, e, _⟩ := x; exact Heap.lt_size e
 | own y => obtain ⟨_, e⟩ := x; exact Heap.lt_size e
 | xd fs => obtain ⟨_, ⟨_, _, _, e, _⟩, _⟩ := x; exact Heap.lt_size e
 | rng lo hi => obtain ⟨_, _, _, e⟩ := x; exact Heap.lt_size e
 | frz ob u => obtain ⟨e, _⟩ := x; exact Heap.lt_size e
 | tbl ps => exact Heap.lt_size (show h.get? a = some _ from x)
 | met f y => exact Heap.lt_size (show h.get? a = some _ from x)
 | ext φ => obtain ⟨_, ⟨_, e⟩, _⟩ := x; exact Heap.lt_size e
theorem Paired.mapP {α β : Type} {F G : α -> β -> Prop} : ∀ {l₁ : List α} {l₂ : List β}, Paired F l₁ l₂ -> (∀ a b, F a b -> G a b) -> Paired G l₁ l₂
 | _, _, .nil, _ => .nil
 | _, _, .cons r t, f => .cons (f _ _ r) (Paired.mapP t f)
theorem Y6.stay (x : Y6 P w H h a o) (k : ∀ b u, (b = a \/ H b = some (.own a)) -> h.get? b = some u -> h'.get? b = some u)
  (ho : ∀ b, H b = some (.own a) -> H' b = some (.own a)) (ht : ∀ b xs, H b = some (.tup xs) -> H' b = some (.tup xs)) : Y6 P w H' h' a o := by
 induction o with
 | lst xs => obtain ⟨z, its, n, r, e⟩ := x; exact ⟨z, its, n, r, k _ _ (.inl rfl) e⟩
 | tup xs => obtain ⟨z, its, r, ob, e, c⟩ := x; exact ⟨z, its, r, ob, k _ _ (.inl rfl) e, c⟩
 | dK kvs => obtain ⟨z, y, vs, r, ob, es, ep, e, c⟩ := x; exact ⟨z, y, vs, r, ob, es, ep, k _ _ (.inl rfl) e, c⟩
 | dT kvs =>
  obtain ⟨z, y, xs, r, ob, es, ep, e, c⟩ := x
  exact ⟨z, y, xs, Paired.mapP r fun p q z => ⟨z.1, ht _ _ z.2.1, z.2.2⟩, ob, es, ep, k _ _ (.inl rfl) e, c⟩
 | set S n => obtain ⟨ob, es, ep, t, e, c⟩ := x; exact ⟨ob, es, ep, t, k _ _ (.inl rfl) e, c⟩
 | ins C dx fs =>
  obtain ⟨d, z, ne, e, mA, ⟨od, es, ep, e2, c⟩, r⟩ := x
  exact ⟨ho _ d, z, ne, k _ _ (.inl rfl) e, mA, ⟨od, es, ep, k _ _ (.inr d) e2, c⟩, r⟩
 | own y => obtain ⟨ob, e⟩ := x; exact ⟨ob, k _ _ (.inl rfl) e⟩
 | xd fs => obtain ⟨mA, ⟨od, es, ep, e, c⟩, r⟩ := x; exact ⟨mA, ⟨od, es, ep, k _ _ (.inl rfl) e, c⟩, r⟩
 | rng lo hi => obtain ⟨t, u, v, e⟩ := x; exact ⟨t, u, v, k _ _ (.inl rfl) e⟩
 | frz ob u ih => obtain ⟨e, q⟩ := x; exact ⟨k _ _ (.inl rfl) e, ih q⟩
 | tbl ps =>
  have e : h.get? a = some { cls := .none, data := .fields ps } := x
  show h'.get? a = some { cls := .none, data := .fields ps }
  exact k a _ (.inl rfl) e
 | met f y =>
  have e : h.get? a = some (PySem.W.methodObj (.ref f) (.ref y)) := x
  show h'.get? a = some (PySem.W.methodObj (.ref f) (.ref y))
  exact k a _ (.inl rfl) e
 | ext φ => obtain ⟨p, ⟨o, e⟩, st⟩ := x; exact ⟨st _ _ p fun o q => k _ _ (.inl rfl) q, ⟨o, k _ _ (.inl rfl) e⟩, st⟩
theorem HOk.lt (x : HOk P w H h) (e : H a = some o) : a < h.objs.size := (x a o e).lt
theorem HOk.fresh (x : HOk P w H h) (e : h.objs.size <= a) : H a = none := by
 cases q : H a with
 | none => rfl
 | some u => exact absurd (Nat.lt_of_lt_of_le (x.lt q) e) (Nat.lt_irrefl _)
theorem HOk.kept (x : HOk P w H h) (k : ∀ b u, h.get? b = some u -> h'.get? b = some u) : HOk P w H h' := fun a o e =>
 (x a o e).stay (fun b u _ q => k b u q) (fun _ q => q) fun _ _ q => q
theorem HOk.laid (x : HOk P w H h) (k : ∀ b u, h.get? b = some u -> h'.get? b = some u) (hp : h.objs.size <= a) (new : Y6 P w (upd H a o) h' a o) : HOk P w (upd H a o) h' := fun b u e => by
 have hn := x.fresh hp
 by_cases hb : b = a
 ·subst hb; rw [Zp] at e; cases e; exact new
 ·rw [Zn hb] at e
  exact (x b u e).stay (fun c v _ q => k c v q) (fun c q => by rw [Zn (Zu q hn)]; exact q) fun c xs q => by rw [Zn (Zu q hn)]; exact q
end
def Rd (H : Hp) (a : Addr) (u : HO) : Prop := H a = some u \/ ∃ o, H a = some (.frz o u)
theorem Rd.ok {P : Program} {w : World} {H : Hp} {h : Heap} {a : Addr} {u : HO} (r : Rd H a u) (x : HOk P w H h) : Y6 P w H h a u := by
 rcases r with r | ⟨o, r⟩
 ·exact x a u r
 ·obtain ⟨_, q⟩ := x a _ r
  exact q
def Mut : Option HO -> Prop
 | some (.lst _) => True
 | some (.dK _) => True
 | some (.dT _) => True
 | some (.set _ _) => True
 | some (.ins _ _ _) => True
 | some (.ext _) => True
 | _ => False
section
variable {P : Program} {w : World} {H : Hp} {h h' : Heap} {x e : Addr} {o' : HO}
theorem HOk.write (ok : HOk P w H h) (mu : Mut (H x)) (he : e = x \/ H e = some (.own x)) (k : ∀ b u, b ≠ e -> h.get? b = some u -> h'.get? b = some u) (heo : ∃ u, h'.get? e = some u)
  (new : Y6 P w (upd H x o') h' x o') : HOk P w (upd H x o') h' := fun b u q => by
 have nown : ∀ c y, H c = some (.own y) -> c ≠ x := fun c y r z => by subst z; rw [r] at mu; exact mu
 have ntup : ∀ c xs, H c = some (.tup xs) -> c ≠ x := fun c xs r z => by subst z; rw [r] at mu; exact mu
 by_cases hb : b = x
 ·subst hb; rw [Zp] at q; cases q; exact new
 ·rw [Zn hb] at q
  by_cases hbe : b = e
  ·have q' : H b = some (.own x) := by
    rcases he with z | z
    ·exact absurd (hbe.trans z) hb
    ·rw [hbe]; exact z
   rw [q] at q'; cases q'
   obtain ⟨v, hv⟩ := heo
   exact ⟨v, by rw [hbe]; exact hv⟩
  ·refine (ok b u q).stay (fun c v hc r => k c v ?_ r) (fun c r => by rw [Zn (nown c b r)]; exact r) fun c xs r => by rw [Zn (ntup c xs r)]; exact r
   rcases hc with rfl | hc
   ·exact hbe
   ·rintro rfl
    rcases he with z | z
    ·exact nown c b hc z
    ·rw [hc] at z; cases z; exact hb rfl
end
structure Un (fs ex : List Addr) (H H' : Hp) (h h' : Heap) : Prop where
 keep : ∀ b o, h.get? b = some o -> H b = none -> b ∉ fs -> b ∉ ex -> h'.get? b = some o
 slot : ∀ b o, h.get? b = some o -> H b = none -> b ∈ fs -> b ∉ ex -> ∃ sl, h'.get? b = some { o with slots := sl }
 free : ∀ b o, h.get? b = some o -> H b = none -> b ∉ ex -> H' b = none
 there : ∀ b o, h.get? b = some o -> b ∉ ex -> ∃ o', h'.get? b = some o'
 tups : ∀ b xs, H b = some (.tup xs) -> H' b = some (.tup xs)
 frzs : ∀ b o u, H b = some (.frz o u) -> H' b = some (.frz o u)
 tbls : ∀ b ps, H b = some (.tbl ps) -> ∃ more, H' b = some (.tbl (ps ++ more))
section
variable {fs fs' ex ex' : List Addr} {H H1 H2 : Hp} {h h1 h2 h' : Heap} {a x e : Addr} {o : HO}
theorem Un.any (u : Un fs ex H H1 h h1) {b : Addr} {ob : Obj} (q : h.get? b = some ob) (n : H b = none) (hx : b ∉ ex) : ∃ sl, h1.get? b = some { ob with slots := sl } := by
 by_cases hb : b ∈ fs
 ·exact u.slot b ob q n hb hx
 ·exact ⟨ob.slots, u.keep b ob q n hb hx⟩
theorem Un.kept (k : ∀ b u, h.get? b = some u -> h'.get? b = some u) : Un fs ex H H h h' :=
 ⟨fun b ob q _ _ _ => k b ob q, fun b ob q _ _ _ => ⟨ob.slots, k b ob q⟩, fun _ _ _ n _ => n, fun b ob q _ => ⟨ob, k b ob q⟩, fun _ _ q => q, fun _ _ _ q => q, fun _ ps q => ⟨#[], by rw [q]; simp⟩⟩
theorem Un.refl : Un fs ex H H h h := Un.kept fun _ _ q => q
theorem Un.laid (k : ∀ b u, h.get? b = some u -> h'.get? b = some u) (hp : h.objs.size <= a) (hn : H a = none) : Un fs ex H (upd H a o) h h' where
 keep := fun b u q _ _ _ => k b u q
 slot := fun b u q _ _ _ => ⟨u.slots, k b u q⟩
 free := fun b u q n _ => by rw [Zn (Nat.ne_of_lt (Nat.lt_of_lt_of_le (Heap.lt_size q) hp))]; exact n
 there := fun b u q _ => ⟨u, k b u q⟩
 tups := fun b xs q => by rw [Zn (Zu q hn)]; exact q
 frzs := fun b u xs q => by rw [Zn (Zu q hn)]; exact q
 tbls := fun b ps q => ⟨#[], by rw [Zn (Zu q hn), q]; simp⟩
theorem Un.write (mu : Mut (H x)) (he : e = x \/ H e = some (.own x)) (k : ∀ b u, b ≠ e -> h.get? b = some u -> h'.get? b = some u) (heo : ∃ u, h'.get? e = some u) : Un fs ex H (upd H x o) h h' := by
 have hx : ∀ b, H b = none -> b ≠ x := fun b n z => by subst z; rw [n] at mu; exact mu
 have hb : ∀ b, H b = none -> b ≠ e := fun b n z => by
  subst z
  rcases he with r | r
  ·exact hx b n r
  ·rw [n] at r; cases r
 have hm : ∀ b u, H b = some u -> ¬ Mut (some u) -> b ≠ x := fun b u q nm z => by subst z; rw [q] at mu; exact nm mu
 refine ⟨fun b u q n _ _ => k b u (hb b n) q, fun b u q n _ _ => ⟨u.slots, k b u (hb b n) q⟩, fun b u q n _ => by rw [Zn (hx b n)]; exact n, fun b u q _ => ?_,
  fun b xs q => by rw [Zn (hm b _ q fun z => z)]; exact q, fun b u xs q => by rw [Zn (hm b _ q fun z => z)]; exact q, fun b ps q => ⟨#[], by rw [Zn (hm b _ q fun z => z), q]; simp⟩⟩
 by_cases hbe : b = e
 ·subst hbe; exact heo
 ·exact ⟨u, k b u hbe q⟩
end
def trk (h : Heap) (H : Hp) : List Addr := (List.range h.objs.size).filter fun a => (H a).isSome
def hidT (h : Heap) (H : Hp) : Heap := PySem.W.hideAll h (trk h H)
theorem ze2 (h : Heap) (H : Hp) : (hidT h H).objs.size = h.objs.size := PySem.W.hideAll_size _ _
theorem hidT_get {h : Heap} {H : Hp} {b : Addr} {o : Obj} (e : h.get? b = some o) (n : H b = none) : (hidT h H).get? b = some o :=
 PySem.W.hideAll_get _ e fun hm => by
  have q : (H b).isSome = true := (List.mem_filter.mp hm).2
  rw [n] at q; simp at q
theorem of_hidT {h : Heap} {H : Hp} {b : Addr} {o : Obj} (e : (hidT h H).get? b = some o) : h.get? b = some o /\ H b = none := by
 have e' : h.get? b = some o := PySem.W.of_hideAll (trk h H) e
 refine ⟨e', ?_⟩
 cases q : H b with
 | none => rfl
 | some x =>
  have hm : b ∈ trk h H := List.mem_filter.mpr ⟨List.mem_range.mpr (Heap.lt_size e'), by simp [q]⟩
  have z : (hidT h H).get? b = none := PySem.W.hideAll_none (trk h H) hm
  rw [z] at e; cases e
end L2
namespace L2
open PySem PySem.Spec PyProof.Rows
structure Mod (K : PySem.W.Frag) (mg : Str -> Option Value) (base : Heap) : Prop where
 kin : K.In base
 glob : base.Ns mainGlobals mg
 blt : ∃ mb, base.Ns builtinsNs mb /\ ∀ x : Str, x ≠ "__name__" -> mb x = bootBuiltins x
 nolimit : base.NoLimit
structure Cx where
 prog : Program
 w : World
 K : PySem.W.Frag
 mg : Str -> Option Value
 base : Heap
 A : Around
 N : List Str
 s₀ : Shared
 H₀ : Hp
 env : Env
 outer : List Env
 stack : List Env
 ex : List Addr
 fn : Str -> Bool
 calm : Bool
 pn : List (Addr × Obj)
 xe : Value -> Shared -> Prop
def frs (l : List Env) : List Addr := l.filterMap (·.frame)
abbrev Cx.fs (X : Cx) : List Addr := frs X.outer
def Vis (sc : Scope) (x : Str) : Prop := sc.names.lookup x = some .local \/ sc.names.lookup x = some .cell \/ sc.names.lookup x = some .free
def Loc (sc : Scope) (x : Str) : Prop := sc.names.lookup x = some .local \/ sc.names.lookup x = some .cell
def Look (env : Env) (h : Heap) (m : Str -> Option Value) (x : Str) (u : Value) : Prop :=
 (env.kindOf x = some .local /\ m x = some u) \/ ((env.kindOf x = some .cell \/ env.kindOf x = some .free) /\ ∃ c, env.cells.lookup x = some c /\ h.IsCell c (some u))
structure Cx.Ok (X : Cx) : Prop where
 mod : Mod X.K X.mg X.base
 kind : X.env.scope.kind = .function
 glob : X.env.globals = mainGlobals
 blt : X.env.builtins = builtinsNs
 above : X.s₀.heap.objs.size <= X.env.locals
 inj : ∀ x y c, X.env.cells.lookup x = some c -> X.env.cells.lookup y = some c -> x = y
 has : ∀ x, (X.env.kindOf x = some .cell \/ X.env.kindOf x = some .free) -> ∃ c, X.env.cells.lookup x = some c
 cab : ∀ x c, X.fn x = true -> X.env.cells.lookup x = some c -> X.s₀.heap.objs.size <= c
 hd : X.calm = true -> X.A.handled = none
 frames : X.A.frames = some X.stack
 stk : X.stack = X.outer \/ (X.stack = X.env :: X.outer /\ X.env.frame = some X.env.locals)
 exf : ∀ b ∈ X.ex, b ≠ X.env.locals /\ ∀ x c, X.env.cells.lookup x = some c -> c ≠ b
 bs : ∀ b o, X.base.get? b = some o -> X.s₀.heap.get? b = some o /\ X.H₀ b = none
 bsz : X.base.objs.size <= X.s₀.heap.objs.size
 noex : ∀ b o, X.base.get? b = some o -> b ∉ X.ex
 exfs : ∀ b ∈ X.ex, b ∉ X.fs
 funs : X.s₀.heap.FunFrames X.base X.outer
 frf : ∀ b ∈ X.fs, X.H₀ b = none
structure Inv (X : Cx) (pins : List (Addr × Obj)) (σ : List (Option V)) (H : Hp) (s : Shared) : Prop where
 ok : X.Ok
 os : s.os = X.s₀.os
 bare : AllBare s.gens
 base : Un X.fs X.ex X.H₀ H X.s₀.heap s.heap
 loc : ∃ m, s.heap.Ns X.env.locals m /\ ∀ (i : Nat) (x : Str) (v : V), X.N[i]? = some x -> σ[i]? = some (some v) -> Vis X.env.scope x -> ∃ u, RelV v u /\ Look X.env s.heap m x u
 cell : ∀ x c, X.env.cells.lookup x = some c -> ∃ v, s.heap.IsCell c v
 free : H X.env.locals = none
 freeC : ∀ x c, X.env.cells.lookup x = some c -> H c = none
 pin : ∀ p ∈ X.pn ++ pins, s.heap.get? p.1 = some p.2 /\ H p.1 = none /\ p.1 ≠ X.env.locals /\ p.1 ∉ X.fs /\ ∀ v, p.2.data ≠ .cell v
 hok : HOk X.prog X.w H s.heap
 len : σ.length = X.N.length
section
variable {X : Cx} {pins : List (Addr × Obj)} {σ : List (Option V)} {H H' : Hp} {s : Shared} {h' : Heap}
theorem Cx.Ok.nofr (ok : X.Ok) {b : Addr} {o : Obj} (e : X.base.get? b = some o) : b ∉ X.fs := fun hb => by
 have := (ok.funs.mem hb).1
 rw [e] at this; cases this
theorem Inv.bs (I : Inv X pins σ H s) : ∀ b o, X.base.get? b = some o -> s.heap.get? b = some o /\ H b = none := fun b o e =>
 ⟨I.base.keep b o (I.ok.bs b o e).1 (I.ok.bs b o e).2 (I.ok.nofr e) (I.ok.noex b o e), I.base.free b o (I.ok.bs b o e).1 (I.ok.bs b o e).2 (I.ok.noex b o e)⟩
theorem Inv.bk (I : Inv X pins σ H s) : ∀ b o, X.base.get? b = some o -> s.heap.get? b = some o := fun b o e => (I.bs b o e).1
theorem Inv.mod (I : Inv X pins σ H s) : Mod X.K X.mg X.base := I.ok.mod
theorem Inv.kIn (I : Inv X pins σ H s) : X.K.In s.heap := I.ok.mod.kin.keeps I.bk
theorem Inv.nolimit (I : Inv X pins σ H s) : s.heap.NoLimit := I.ok.mod.nolimit.keeps I.bk
theorem Inv.lt (I : Inv X pins σ H s) : X.env.locals < s.heap.objs.size := let ⟨_, hn, _⟩ := I.loc; hn.lt
theorem Inv.sz (I : Inv X pins σ H s) : X.s₀.heap.objs.size <= s.heap.objs.size := Nat.le_trans I.ok.above (Nat.le_of_lt I.lt)
theorem Inv.nofs (I : Inv X pins σ H s) {a : Addr} (h : s.heap.objs.size <= a) : a ∉ X.fs := fun hb => by
 obtain ⟨_, o, ho, _⟩ := I.ok.funs.mem hb
 exact absurd (Nat.lt_of_lt_of_le (Heap.lt_size ho) (Nat.le_trans I.sz h)) (Nat.lt_irrefl _)
theorem Inv.cne (I : Inv X pins σ H s) : ∀ x c, X.env.cells.lookup x = some c -> c ≠ X.env.locals := fun x c e z => by
 obtain ⟨v, o, ho, hd⟩ := I.cell x c e
 obtain ⟨m, ⟨o', es, ep, ho', hd', _⟩, _⟩ := I.loc
 rw [z, ho'] at ho; cases ho; rw [hd'] at hd; cases hd
theorem Inv.funs (I : Inv X pins σ H s) : s.heap.FunFrames X.base X.outer := by
 have all : ∀ (l : List Env), (∀ b ∈ frs l, b ∈ X.fs) -> X.s₀.heap.FunFrames X.base l -> s.heap.FunFrames X.base l := by
  intro l
  induction l with
  | nil => intro _ _; trivial
  | cons env r ih =>
   intro hs hl
   obtain ⟨hk, ⟨L, o, hf, hn, ho, hd⟩, hr⟩ := hl
   have hL : L ∈ X.fs := hs L (by unfold frs; rw [List.filterMap_cons, hf]; exact List.mem_cons_self)
   obtain ⟨sl, e⟩ := I.base.slot L o ho (I.ok.frf L hL) hL fun z => I.ok.exfs L z hL
   exact ⟨hk, ⟨L, _, hf, hn, e, hd⟩, ih (fun b hb => hs b (by unfold frs; rw [List.filterMap_cons, hf]; exact List.mem_cons_of_mem _ hb)) hr⟩
 exact all X.outer (fun _ hb => hb) I.ok.funs
theorem Inv.stack (I : Inv X pins σ H s) : s.heap.FunFrames X.base X.stack := by
 rcases I.ok.stk with e | ⟨e, hf⟩
 ·rw [e]; exact I.funs
 ·rw [e]
  obtain ⟨m, hn, _⟩ := I.loc
  refine .cons (by rw [I.ok.kind]; decide) hf hn ?_ I.funs
  exact Heap.get?_none_of_le (Nat.le_trans I.ok.bsz I.ok.above)
theorem Inv.stkSub (I : Inv X pins σ H s) : ∀ b ∈ frs X.stack, b ∈ X.env.locals :: X.fs := fun b hb => by
 rcases I.ok.stk with e | ⟨e, hf⟩
 ·rw [e] at hb; exact List.mem_cons_of_mem _ hb
 ·rw [e] at hb
  unfold frs at hb
  rw [List.filterMap_cons, hf] at hb
  exact hb
theorem Inv.stkFree (I : Inv X pins σ H s) : ∀ b ∈ frs X.stack, H b = none := fun b hb => by
 rcases List.mem_cons.mp (I.stkSub b hb) with e | hb
 ·rw [e]; exact I.free
 ·obtain ⟨_, o, ho, _⟩ := I.ok.funs.mem hb
  exact I.base.free b o ho (I.ok.frf b hb) fun z => I.ok.exfs b z hb
theorem Inv.step {g' : Array GenState} {t' : Nat} {d' : Drawn} {ch : List Addr} (I : Inv X pins σ H s)
  (hch : ∀ b ∈ ch, (b ∈ X.ex \/ X.s₀.heap.objs.size <= b) /\ b ≠ X.env.locals /\ (∀ x c, X.env.cells.lookup x = some c -> c ≠ b) /\ ∀ p ∈ X.pn ++ pins, p.1 ≠ b)
  (keep : ∀ b o, b ≠ X.env.locals -> b ∉ X.fs -> b ∉ ch -> s.heap.get? b = some o -> H b = none -> h'.get? b = some o)
  (slot : ∀ b o, b ≠ X.env.locals -> b ∈ X.fs -> b ∉ ch -> s.heap.get? b = some o -> H b = none -> ∃ sl, h'.get? b = some { o with slots := sl }) (free : ∀ b o, b ∉ ch -> s.heap.get? b = some o -> H b = none -> H' b = none)
  (there : ∀ b o, b ∉ ch -> s.heap.get? b = some o -> ∃ o', h'.get? b = some o')
  (tups : ∀ b xs, H b = some (.tup xs) -> H' b = some (.tup xs)) (frzs : ∀ b o u, H b = some (.frz o u) -> H' b = some (.frz o u)) (tbls : ∀ b ps, H b = some (.tbl ps) -> ∃ more, H' b = some (.tbl (ps ++ more)))
  (ns : ∀ m, s.heap.Ns X.env.locals m -> h'.Ns X.env.locals m) (hok : HOk X.prog X.w H' h') (hg : AllBare g') :
  Inv X pins σ H' { s with heap := h', gens := g', drawn := d', toks := t' } := by
 have neL : ∀ b o, X.s₀.heap.get? b = some o -> b ≠ X.env.locals := fun b o e => Nat.ne_of_lt (Nat.lt_of_lt_of_le (Heap.lt_size e) I.ok.above)
 have neC : ∀ b o, X.s₀.heap.get? b = some o -> b ∉ X.ex -> b ∉ ch := fun b o e hx hb => by
  rcases (hch b hb).1 with z | z
  ·exact hx z
  ·exact absurd (Nat.lt_of_lt_of_le (Heap.lt_size e) z) (Nat.lt_irrefl _)
 have cellK : ∀ x c, X.env.cells.lookup x = some c -> ∀ v, s.heap.IsCell c v -> h'.IsCell c v := fun x c e v ⟨o, ho, hd⟩ => by
  have nch : c ∉ ch := fun z => (hch c z).2.2.1 x c e rfl
  by_cases hc : c ∈ X.fs
  ·obtain ⟨sl, q⟩ := slot c o (I.cne x c e) hc nch ho (I.freeC x c e)
   exact ⟨_, q, hd⟩
  ·exact ⟨o, keep c o (I.cne x c e) hc nch ho (I.freeC x c e), hd⟩
 refine ⟨I.ok, I.os, hg, ⟨fun b o e n hb hx => ?_, fun b o e n hb hx => ?_, fun b o e n hx => ?_, fun b o e hx => ?_, fun b xs e => tups b xs (I.base.tups b xs e), fun b o xs e => frzs b o xs (I.base.frzs b o xs e), fun b ps e => ?_⟩, ?_, fun x c e => ?_, ?_, fun x c e => ?_, fun p hp => ?_, hok, I.len⟩
 ·exact keep b o (neL b o e) hb (neC b o e hx) (I.base.keep b o e n hb hx) (I.base.free b o e n hx)
 ·obtain ⟨sl, e1⟩ := I.base.slot b o e n hb hx
  obtain ⟨sl', e2⟩ := slot b _ (neL b o e) hb (neC b o e hx) e1 (I.base.free b o e n hx)
  exact ⟨sl', e2⟩
 ·obtain ⟨o', e1⟩ := I.base.there b o e hx
  exact free b o' (neC b o e hx) e1 (I.base.free b o e n hx)
 ·obtain ⟨o', e1⟩ := I.base.there b o e hx
  exact there b o' (neC b o e hx) e1
 ·obtain ⟨m1, e1⟩ := I.base.tbls b ps e
  obtain ⟨m2, e2⟩ := tbls b _ e1
  exact ⟨m1 ++ m2, by rw [e2, Array.append_assoc]⟩
 ·obtain ⟨m, hn, hl⟩ := I.loc
  refine ⟨m, ns m hn, fun i x v e1 e2 e3 => ?_⟩
  obtain ⟨u, r, l⟩ := hl i x v e1 e2 e3
  refine ⟨u, r, ?_⟩
  rcases l with l | ⟨k, c, e, z⟩
  ·exact .inl l
  ·exact .inr ⟨k, c, e, cellK x c e _ z⟩
 ·obtain ⟨v, z⟩ := I.cell x c e
  exact ⟨v, cellK x c e v z⟩
 ·obtain ⟨m, ⟨o, _, _, ho, _⟩, _⟩ := I.loc
  exact free _ o (fun z => (hch _ z).2.1 rfl) ho I.free
 ·obtain ⟨v, o, ho, hd⟩ := I.cell x c e
  exact free c o (fun z => (hch c z).2.2.1 x c e rfl) ho (I.freeC x c e)
 ·obtain ⟨e, n, ne, nf, d⟩ := I.pin p hp
  have nch : p.1 ∉ ch := fun z => (hch p.1 z).2.2.2 p hp rfl
  exact ⟨keep p.1 p.2 ne nf nch e n, free p.1 p.2 nch e n, ne, nf, d⟩
theorem Inv.un {t' : Nat} (I : Inv X pins σ H s) (u : Un X.fs [] H H' s.heap h') (hok : HOk X.prog X.w H' h') : Inv X pins σ H' { s with heap := h', toks := t' } := by
 obtain ⟨m, ⟨o, es, ep, ho, r⟩, _⟩ := id I.loc
 obtain ⟨sl, hL⟩ := u.any ho I.free (by simp)
 exact I.step (g' := s.gens) (d' := s.drawn) (ch := []) (fun _ z => nomatch z) (fun b o _ hb _ e n => u.keep b o e n hb (by simp)) (fun b o _ hb _ e n => u.slot b o e n hb (by simp)) (fun b o _ e n => u.free b o e n (by simp)) (fun b o _ e => u.there b o e (by simp)) u.tups u.frzs u.tbls (fun m' hm => by
  obtain ⟨o', es', ep', ho', r'⟩ := hm
  rw [ho] at ho'; cases ho'
  exact ⟨_, es', ep', hL, r'⟩) hok I.bare
theorem Inv.call {g' : Array GenState} {t' : Nat} {d' : Drawn} {ch : List Addr} (I : Inv X pins σ H s) (u : Un (frs X.stack) ch H H' s.heap h') (hok : HOk X.prog X.w H' h') (hg : AllBare g')
  (hch : ∀ b ∈ ch, (b ∈ X.ex \/ X.s₀.heap.objs.size <= b) /\ b ≠ X.env.locals /\ (∀ x c, X.env.cells.lookup x = some c -> c ≠ b) /\ ∀ p ∈ X.pn ++ pins, p.1 ≠ b) :
  Inv X pins σ H' { s with heap := h', gens := g', drawn := d', toks := t' } := by
 obtain ⟨m, ⟨o, es, ep, ho, r⟩, _⟩ := id I.loc
 obtain ⟨sl, hL⟩ := u.any ho I.free fun z => (hch _ z).2.1 rfl
 exact I.step (ch := ch) hch (fun b o hL hb hc e n => u.keep b o e n (fun z => (List.mem_cons.mp (I.stkSub b z)).elim hL hb) hc) (fun b o _ _ hc e n => u.any e n hc) (fun b o hc e n => u.free b o e n hc) (fun b o hc e => u.there b o e hc) u.tups u.frzs u.tbls (fun m' hm => by
  obtain ⟨o', es', ep', ho', r'⟩ := hm
  rw [ho] at ho'; cases ho'
  exact ⟨_, es', ep', hL, r'⟩) hok hg
theorem Inv.turned {t' : Nat} {it : Addr} (I : Inv X pins σ H s) (k : ∀ b o, b ≠ it -> s.heap.get? b = some o -> h'.get? b = some o) (hn : H it = none) (hL : it ≠ X.env.locals)
  (h1 : it ∈ X.ex \/ X.s₀.heap.objs.size <= it) (h2 : ∀ x c, X.env.cells.lookup x = some c -> c ≠ it) (h3 : ∀ p ∈ X.pn ++ pins, p.1 ≠ it) : Inv X pins σ H { s with heap := h', toks := t' } := by
 have nit : ∀ b u, H b = some u -> b ≠ it := fun b u e z => by rw [z, hn] at e; cases e
 refine I.step (g' := s.gens) (d' := s.drawn) (ch := [it]) (fun b hb => ?_) (fun b o _ _ hc e _ => k b o (fun z => hc (by simp [z])) e) (fun b o _ _ hc e _ => ⟨o.slots, k b o (fun z => hc (by simp [z])) e⟩) (fun _ _ _ _ n => n)
  (fun b o hc e => ⟨o, k b o (fun z => hc (by simp [z])) e⟩) (fun _ _ e => e) (fun _ _ _ e => e) (fun b ps e => ⟨#[], by rw [e]; simp⟩) (fun m hm => ?_) (fun b u e => ?_) I.bare
 ·have e : b = it := by simpa using hb
  subst e
  exact ⟨h1, hL, h2, h3⟩
 ·obtain ⟨o, es, ep, ho, r⟩ := hm
  exact ⟨o, es, ep, k _ o (Ne.symm hL) ho, r⟩
 ·refine (I.hok b u e).stay (fun c v hc q => k c v ?_ q) (fun _ q => q) fun _ _ q => q
  rcases hc with z | z
  ·rw [z]; exact nit b u e
  ·exact nit c _ z
theorem Inv.tok (I : Inv X pins σ H s) (t : Nat) : Inv X pins σ H { s with toks := t } := I.un (h' := s.heap) (t' := t) Un.refl I.hok
theorem Inv.kept {t' : Nat} (I : Inv X pins σ H s) (k : ∀ b u, s.heap.get? b = some u -> h'.get? b = some u) : Inv X pins σ H { s with heap := h', toks := t' } := I.un (Un.kept k) (I.hok.kept k)
theorem Inv.laid {a : Addr} {o : HO} {t' : Nat} (I : Inv X pins σ H s) (k : ∀ b u, s.heap.get? b = some u -> h'.get? b = some u) (hp : s.heap.objs.size <= a) (new : Y6 X.prog X.w (upd H a o) h' a o) :
  Inv X pins σ (upd H a o) { s with heap := h', toks := t' } := I.un (Un.laid k hp (I.hok.fresh hp)) (I.hok.laid k hp new)
theorem Inv.write {x e : Addr} {o : HO} {t' : Nat} (I : Inv X pins σ H s) (mu : Mut (H x)) (he : e = x \/ H e = some (.own x)) (k : ∀ b u, b ≠ e -> s.heap.get? b = some u -> h'.get? b = some u) (heo : ∃ u, h'.get? e = some u)
  (new : Y6 X.prog X.w (upd H x o) h' x o) : Inv X pins σ (upd H x o) { s with heap := h', toks := t' } := I.un (Un.write mu he k heo) (I.hok.write mu he k heo new)
theorem Inv.pins_of {pins' : List (Addr × Obj)} (I : Inv X pins σ H s) (h : ∀ p ∈ pins', s.heap.get? p.1 = some p.2 /\ H p.1 = none /\ p.1 ≠ X.env.locals /\ p.1 ∉ X.fs /\ ∀ v, p.2.data ≠ .cell v) : Inv X pins' σ H s :=
 ⟨I.ok, I.os, I.bare, I.base, I.loc, I.cell, I.free, I.freeC, fun p hp => (List.mem_append.mp hp).elim (fun z => I.pin p (List.mem_append_left _ z)) (h p), I.hok, I.len⟩
theorem JX {N : List Str} (hN : N.Nodup) {i j : Nat} {x : Str} (a : N[i]? = some x) (b : N[j]? = some x) : i = j := by
 obtain ⟨h1, e1⟩ := List.getElem?_eq_some_iff.mp a
 obtain ⟨h2, e2⟩ := List.getElem?_eq_some_iff.mp b
 exact (List.getElem_inj hN).mp (e1.trans e2.symm)
theorem zaw {M : Model} {A : Around} {E : Value -> Shared -> Prop} {i : Nat} {x : Str} {v : V} {u : Value} {Q : Unit -> Shared -> Prop} (I : Inv X pins σ H s) (hN : X.N.Nodup) (hi : X.N[i]? = some x) (hx : Loc X.env.scope x) (r : RelV v u)
  (h : ∀ s', Inv X pins (σ.set i (some v)) H s' -> (∃ a, Heap.SameBut a s.heap s'.heap /\ (a = X.env.locals \/ X.env.cells.lookup x = some a)) -> Q () s') (hf : X.fn x = true \/ X.env.scope.names.lookup x = some .local := by first | exact .inl rfl | exact .inr rfl | assumption) : wpAny M A (storeName X.env x u) Q E s := by
 obtain ⟨m, hn, hl⟩ := id I.loc
 have hcls : (X.env.scope.kind == .class || (X.env.scope.kind == .module && X.env.locals != X.env.globals)) = false := by rw [I.ok.kind]; rfl
 have hiσ : i < σ.length := by rw [I.len]; exact (List.getElem?_eq_some_iff.mp hi).1
 have cne := I.cne
 have tracked : ∀ {a : Addr} {h' : Heap}, (∃ o, s.heap.get? a = some o /\ H a = none) -> Heap.SameBut a s.heap h' -> HOk X.prog X.w H h' := fun {a h'} ha hs b ob e => by
  obtain ⟨_, _, hfree⟩ := ha
  refine (I.hok b ob e).stay (fun c w' hc q => (hs.2 c ?_).trans q) (fun _ q => q) fun _ _ q => q
  rintro rfl
  rcases hc with rfl | hc
  ·rw [hfree] at e; cases e
  ·rw [hfree] at hc; cases hc
 rcases hx with hk | hk
 ·refine wpAny_storeName_local hk hn (fun h' hn' hs => ?_) hcls
  obtain ⟨oL, _, _, hoL, _⟩ := id hn
  refine h _ ⟨I.ok, I.os, I.bare, ⟨fun b o e n hb hx => ?_, fun b o e n hb hx => ?_, I.base.free, fun b o e hx => ?_, I.base.tups, I.base.frzs, I.base.tbls⟩, ⟨_, hn', fun j y v' e1 e2 e3 => ?_⟩, fun y c e => ?_, I.free, I.freeC, fun p hp => ?_, tracked ⟨oL, hoL, I.free⟩ hs, by simpa using I.len⟩ ⟨_, hs, .inl rfl⟩
  ·exact (hs.2 b (Nat.ne_of_lt (Nat.lt_of_lt_of_le (Heap.lt_size e) I.ok.above))).trans (I.base.keep b o e n hb hx)
  ·obtain ⟨sl, e1⟩ := I.base.slot b o e n hb hx
   exact ⟨sl, (hs.2 b (Nat.ne_of_lt (Nat.lt_of_lt_of_le (Heap.lt_size e) I.ok.above))).trans e1⟩
  ·obtain ⟨o', e1⟩ := I.base.there b o e hx
   exact ⟨o', (hs.2 b (Nat.ne_of_lt (Nat.lt_of_lt_of_le (Heap.lt_size e) I.ok.above))).trans e1⟩
  ·by_cases hj : j = i
   ·subst hj
    rw [hi] at e1; cases e1
    rw [List.getElem?_set_self hiσ] at e2
    cases e2
    exact ⟨u, r, .inl ⟨hk, by simp⟩⟩
   ·rw [List.getElem?_set_ne (Ne.symm hj)] at e2
    obtain ⟨u', r', q⟩ := hl j y v' e1 e2 e3
    refine ⟨u', r', ?_⟩
    rcases q with ⟨k, e⟩ | ⟨k, c, e, z⟩
    ·refine .inl ⟨k, ?_⟩
     have : y ≠ x := fun e => hj (JX hN e1 (e ▸ hi))
     simp [this, e]
    ·exact .inr ⟨k, c, e, z.sameBut hs (cne y c e)⟩
  ·obtain ⟨w', z⟩ := I.cell y c e
   exact ⟨w', z.sameBut hs (cne y c e)⟩
  ·obtain ⟨e, n, ne, nf, d⟩ := I.pin p hp
   exact ⟨(hs.2 p.1 ne).trans e, n, ne, nf, d⟩
 ·have hfn : X.fn x = true := by
   rcases hf with z | z
   ·exact z
   ·rw [z] at hk; cases hk
  obtain ⟨c, hc⟩ := I.ok.has x (.inl hk)
  obtain ⟨w', z⟩ := I.cell x c hc
  refine wpAny_storeName_cell I.ok.kind hk hc z (fun h' hc' hs => ?_)
  obtain ⟨oc, hoc, hocd⟩ := id z
  refine h { s with heap := h' } ⟨I.ok, I.os, I.bare, ⟨fun b o e n hb hx => ?_, fun b o e n hb hx => ?_, I.base.free, fun b o e hx => ?_, I.base.tups, I.base.frzs, I.base.tbls⟩, ⟨m, hn.sameBut hs (Ne.symm (cne x c hc)), fun j y v' e1 e2 e3 => ?_⟩, fun y c' e => ?_, I.free, I.freeC, fun p hp => ?_, tracked ⟨oc, hoc, I.freeC x c hc⟩ hs, by simpa using I.len⟩ ⟨c, hs, .inr hc⟩
  ·exact (hs.2 b (Nat.ne_of_lt (Nat.lt_of_lt_of_le (Heap.lt_size e) (I.ok.cab x c hfn hc)))).trans (I.base.keep b o e n hb hx)
  ·obtain ⟨sl, e1⟩ := I.base.slot b o e n hb hx
   exact ⟨sl, (hs.2 b (Nat.ne_of_lt (Nat.lt_of_lt_of_le (Heap.lt_size e) (I.ok.cab x c hfn hc)))).trans e1⟩
  ·obtain ⟨o', e1⟩ := I.base.there b o e hx
   exact ⟨o', (hs.2 b (Nat.ne_of_lt (Nat.lt_of_lt_of_le (Heap.lt_size e) (I.ok.cab x c hfn hc)))).trans e1⟩
  ·by_cases hj : j = i
   ·subst hj
    rw [hi] at e1; cases e1
    rw [List.getElem?_set_self hiσ] at e2
    cases e2
    exact ⟨u, r, .inr ⟨.inl hk, c, hc, hc'⟩⟩
   ·rw [List.getElem?_set_ne (Ne.symm hj)] at e2
    obtain ⟨u', r', q⟩ := hl j y v' e1 e2 e3
    refine ⟨u', r', ?_⟩
    rcases q with q | ⟨k, c', e, z'⟩
    ·exact .inl q
    ·refine .inr ⟨k, c', e, z'.sameBut hs ?_⟩
     rintro rfl
     exact hj (JX hN e1 (I.ok.inj _ _ _ e hc ▸ hi))
  ·by_cases hcc : c' = c
   ·subst hcc; exact ⟨_, hc'⟩
   ·obtain ⟨w2, z2⟩ := I.cell y c' e
    exact ⟨w2, z2.sameBut hs hcc⟩
  ·obtain ⟨e, n, ne, nf, d⟩ := I.pin p hp
   refine ⟨(hs.2 p.1 ?_).trans e, n, ne, nf, d⟩
   intro q
   rw [q, hoc] at e
   have q' : oc = p.2 := Option.some.inj e
   exact d w' (by rw [<- q']; exact hocd)
theorem UK {M : Model} {A : Around} {E : Value -> Shared -> Prop} {i : Nat} {x : Str} {v : V} {u : Value} {Q : Unit -> Shared -> Prop} (I : Inv X pins σ H s) (hN : X.N.Nodup) (hi : X.N[i]? = some x) (hx : Loc X.env.scope x) (r : RelV v u)
  (h : ∀ s', Inv X pins (σ.set i (some v)) H s' -> Q () s') (hf : X.fn x = true \/ X.env.scope.names.lookup x = some .local := by first | exact .inl rfl | exact .inr rfl | assumption) : wpAny M A (storeName X.env x u) Q E s :=
 zaw I hN hi hx r (fun s' I' _ => h s' I') hf
theorem Inv.call' {s' : Shared} {ch : List Addr} (I : Inv X pins σ H s) (ho : s'.os = s.os) (u : Un (frs X.stack) ch H H' s.heap s'.heap) (hok : HOk X.prog X.w H' s'.heap) (hg : AllBare s'.gens)
  (hch : ∀ b ∈ ch, (b ∈ X.ex \/ X.s₀.heap.objs.size <= b) /\ b ≠ X.env.locals /\ (∀ x c, X.env.cells.lookup x = some c -> c ≠ b) /\ ∀ p ∈ X.pn ++ pins, p.1 ≠ b) : Inv X pins σ H' s' := by
 obtain ⟨h', g', d', t', o'⟩ := s'
 have e : o' = s.os := ho
 subst e
 exact I.call (g' := g') (t' := t') (d' := d') u hok hg hch
end
abbrev XK := Value -> Option Addr -> Hp -> Prop
abbrev St := List (Option V)
abbrev VK := V -> Hp -> Prop
abbrev TE := St -> Hp -> VK -> Prop
abbrev TT := St -> Hp -> (Bool -> Hp -> Prop) -> Prop
abbrev TA := St -> Hp -> (List V -> Hp -> Prop) -> Prop
structure Ends where
 nx : St -> Hp -> Prop
 rt : VK
 bk : St -> Hp -> Prop := fun _ _ => False
 ct : St -> Hp -> Prop := fun _ _ => False
abbrev TS := Ends -> St -> Hp -> Prop
def EP (X : Cx) (pins : List (Addr × Obj)) (σ : St) (Q : VK) (u : Value) (s' : Shared) : Prop := ∃ v H', Inv X pins σ H' s' /\ RelV v u /\ Q v H'
def TP (X : Cx) (pins : List (Addr × Obj)) (σ : St) (Q : Bool -> Hp -> Prop) (b : Bool) (s' : Shared) : Prop := ∃ H', Inv X pins σ H' s' /\ Q b H'
def AP (X : Cx) (pins : List (Addr × Obj)) (σ : St) (Q : List V -> Hp -> Prop) (us : List Value) (s' : Shared) : Prop := ∃ vs H', Inv X pins σ H' s' /\ Vals vs us /\ Q vs H'
def SP (X : Cx) (pins : List (Addr × Obj)) (D : Ends) (f : Flow) (s' : Shared) : Prop :=
 match f with
 | .next => ∃ σ' H', Inv X pins σ' H' s' /\ D.nx σ' H'
 | .brk => ∃ σ' H', Inv X pins σ' H' s' /\ D.bk σ' H'
 | .cont => ∃ σ' H', Inv X pins σ' H' s' /\ D.ct σ' H'
 | .ret u => ∃ v σ' H', Inv X pins σ' H' s' /\ RelV v u /\ D.rt v H'
def PE (X : Cx) (e : Expr) (t : TE) : Prop :=
 ∀ (pins : List (Addr × Obj)) (s : Shared) (σ : St) (H : Hp) (Q : VK), Inv X pins σ H s -> t σ H Q -> wpAny (model X.prog X.w) X.A (eval e X.env) (EP X pins σ Q) X.xe s
def PT (X : Cx) (e : Expr) (t : TT) : Prop :=
 ∀ (pins : List (Addr × Obj)) (s : Shared) (σ : St) (H : Hp) (Q : Bool -> Hp -> Prop), Inv X pins σ H s -> t σ H Q -> wpAny (model X.prog X.w) X.A (isTrue e X.env (eval e X.env)) (TP X pins σ Q) X.xe s
def PW (X : Cx) (e : Expr) (t : TT) : Prop :=
 ∀ (whole : Sem Value) (pins : List (Addr × Obj)) (s : Shared) (σ : St) (H : Hp) (Q : Bool -> Hp -> Prop), Inv X pins σ H s -> t σ H Q -> wpAny (model X.prog X.w) X.A (isTrue e X.env whole) (TP X pins σ Q) X.xe s
theorem PW.pt {X : Cx} {e : Expr} {t : TT} (h : PW X e t) : PT X e t := h _
def PA (X : Cx) (es : List Expr) (t : TA) : Prop :=
 ∀ (pos : Pos) (pins : List (Addr × Obj)) (s : Shared) (σ : St) (H : Hp) (Q : List V -> Hp -> Prop), Inv X pins σ H s -> t σ H Q -> wpAny (model X.prog X.w) X.A (spliced (backTo pos (starEach es X.env))) (AP X pins σ Q) X.xe s
def PS (X : Cx) (st : Stmt) (t : TS) : Prop :=
 ∀ (pins : List (Addr × Obj)) (s : Shared) (σ : St) (H : Hp) (D : Ends), Inv X pins σ H s -> t D σ H -> wpAny (model X.prog X.w) X.A (exec st X.env) (SP X pins D) X.xe s
def PSs (X : Cx) (st : List Stmt) (t : TS) : Prop :=
 ∀ (pins : List (Addr × Obj)) (s : Shared) (σ : St) (H : Hp) (D : Ends), Inv X pins σ H s -> t D σ H -> wpAny (model X.prog X.w) X.A (execs st X.env) (SP X pins D) X.xe s
theorem thn {α : Type} {t : Sem α} {Q Q' : α -> Shared -> Prop} {M : Model} {A : Around} {E : Value -> Shared -> Prop} {s : Shared} (h : wpAny M A t Q E s) (hQ : ∀ a s, Q a s -> Q' a s) : wpAny M A t Q' E s := wpAny_mono h hQ fun _ _ x => x
end L2
namespace L2
open PySem PySem.Spec PyProof.Rows
section
variable {X : Cx}
def tVar (i : Nat) : TE := fun σ H Q => ∃ v, σ[i]? = some (some v) /\ Q v H
def tC (v : V) : TE := fun _ H Q => Q v H
theorem Vc {i : Nat} {x : Str} {pos : Pos} (hN : X.N[i]? = some x) (hv : Vis X.env.scope x) (hd : (x == ("__debug__" : Str)) = false := by decide) (hcd : (x == ("__classdict__" : Str)) = false := by decide) : PE X (.Name x pos) (tVar i) := by
 intro pins s σ H Q I h
 obtain ⟨v, e, h⟩ := h
 obtain ⟨m, hn, hl⟩ := I.loc
 obtain ⟨u, r, l⟩ := hl i x v hN e hv
 have fin : EP X pins σ Q u s := ⟨v, H, I, r, h⟩
 rcases l with ⟨hk, hm⟩ | ⟨hk, c, hc, hcell⟩
 ·exact wpAny_Name (wpAny_loadName_local I.ok.kind hk hn hm fin) hd
 ·rcases hk with hk | hk
  ·exact wpAny_Name (wpAny_loadName_cell I.ok.kind hk hc hcell fin) hd
  ·exact wpAny_Name (wpAny_loadName_free I.ok.kind hk hc hcell fin hcd) hd
theorem pe_int {i j pos} : PE X (.Constant (.int i) j pos) (tC (.int i)) := fun _ _ _ H _ I h => wpAny_Constant_int ⟨.int i, H, I.tok _, ⟨_, rfl⟩, h⟩
theorem pe_bl {b j pos} : PE X (.Constant (.bool b) j pos) (tC (.bl b)) := fun _ _ _ H _ I h => Constant_bool ⟨.bl b, H, I, rfl, h⟩
theorem pe_non {j pos} : PE X (.Constant .none j pos) (tC .non) := fun _ _ _ H _ I h => Constant_none ⟨.non, H, I, rfl, h⟩
theorem pe_str {x j pos} : PE X (.Constant (.str x) j pos) (tC (.str x)) := fun _ _ _ H _ I h => Calls.Constant_str ⟨.str x, H, I.tok _, ⟨_, rfl⟩, h⟩
def Gl (X : Cx) (x : Str) : Prop := X.env.kindOf x = some .globalImplicit
theorem Vi {E : Value -> Shared -> Prop} {pins : List (Addr × Obj)} {s : Shared} {σ : St} {H : Hp} {x : Str} {u : Value} {pos : Pos} {Q : Value -> Shared -> Prop} (I : Inv X pins σ H s) (hg : Gl X x) (hm : X.mg x = some u) (h : Q u s)
  (hd : (x == ("__debug__" : Str)) = false := by decide) : wpAny (model X.prog X.w) X.A (eval (.Name x pos) X.env) Q E s :=
 Calls.Name_function_global I.ok.kind hg (Calls.loadGlobal_global (by rw [I.ok.glob]; exact I.mod.glob.keeps I.bk) hm h) hd
theorem Uf {E : Value -> Shared -> Prop} {pins : List (Addr × Obj)} {s : Shared} {σ : St} {H : Hp} {x : Str} {u : Value} {pos : Pos} {Q : Value -> Shared -> Prop} (I : Inv X pins σ H s) (hg : Gl X x) (hm : X.mg x = none) (hv : bootBuiltins x = some u) (h : Q u s)
  (hn : x ≠ "__name__" := by decide) (hd : (x == ("__debug__" : Str)) = false := by decide) : wpAny (model X.prog X.w) X.A (eval (.Name x pos) X.env) Q E s := by
 obtain ⟨mb, h1, h2⟩ := I.mod.blt
 exact Calls.Name_function_global I.ok.kind hg (Calls.loadGlobal_builtin (by rw [I.ok.glob]; exact I.mod.glob.keeps I.bk) hm (by rw [I.ok.blt]; exact h1.keeps I.bk) ((h2 x hn).trans hv) h) hd
theorem pe_glob {x : Str} {v : V} {u : Value} {pos : Pos} (hg : Gl X x) (hm : X.mg x = some u) (r : RelV v u) (hd : (x == ("__debug__" : Str)) = false := by decide) : PE X (.Name x pos) (tC v) :=
 fun _ _ _ H _ I h => Vi I hg hm ⟨v, H, I, r, h⟩ hd
theorem zer {x : Str} {v : V} {u : Value} {pos : Pos} (hg : Gl X x) (hm : X.mg x = none) (hv : bootBuiltins x = some u) (r : RelV v u) (hn : x ≠ "__name__" := by decide) (hd : (x == ("__debug__" : Str)) = false := by decide) : PE X (.Name x pos) (tC v) :=
 fun _ _ _ H _ I h => Uf I hg hm hv ⟨v, H, I, r, h⟩ hn hd
variable {a b : Expr} {ta tb : TE} {pos : Pos}
def PC (X : Cx) (op : CmpOp) (a b : Expr) (t : TE) : Prop :=
 ∀ (pins : List (Addr × Obj)) (s : Shared) (σ : St) (H : Hp) (Q : VK), Inv X pins σ H s -> t σ H Q ->
  wpAny (model X.prog X.w) X.A (eval a X.env) (fun v s₁ => wpAny (model X.prog X.w) X.A (eval b X.env) (fun u s₂ => wpAny (model X.prog X.w) X.A (compareOp op v u) (EP X pins σ Q) X.xe s₂) X.xe s₁) X.xe s
theorem UM (b : Expr) {op : CmpOp} (h : op ≠ .In) (h2 : op ≠ .NotIn) : behindInMarks op b = false := by
 have e1 : (op == CmpOp.In) = false := by cases op <;> first | rfl | exact absurd rfl h
 have e2 : (op == CmpOp.NotIn) = false := by cases op <;> first | rfl | exact absurd rfl h2
 cases b <;> simp [behindInMarks, e1, e2]
def tIsN (ta : TE) : TE := fun σ H Q => ta σ H fun x H1 => Q (.bl (decide (x = .non))) H1
def tNotN (ta : TE) : TE := fun σ H Q => ta σ H fun x H1 => Q (.bl (!decide (x = .non))) H1
theorem RelV.none_iff {x : V} {v : Value} (r : RelV x v) : (v == Value.none) = decide (x = .non) := by
 cases x with
 | non => cases r; rfl
 | bl _ => cases r; rfl
 | int _ => obtain ⟨t, rfl⟩ := r; rfl
 | str _ => obtain ⟨t, rfl⟩ := r; rfl
 | byt _ => obtain ⟨t, rfl⟩ := r; rfl
 | flt _ => obtain ⟨t, rfl⟩ := r; rfl
 | ref _ => cases r; rfl
 | ty _ => cases r; rfl
theorem pc_isN {j pos'} (ha : PE X a ta) : PC X .Is a (.Constant .none j pos') (tIsN ta) := by
 intro pins s σ H Q I h
 refine thn (ha pins s σ H _ I h) fun v s1 ⟨x, H1, I1, r1, q1⟩ => ?_
 exact Constant_none (is_none_gen ⟨.bl _, H1, I1, by rw [r1.none_iff]; rfl, q1⟩)
theorem pc_notN {j pos'} (ha : PE X a ta) : PC X .IsNot a (.Constant .none j pos') (tNotN ta) := by
 intro pins s σ H Q I h
 refine thn (ha pins s σ H _ I h) fun v s1 ⟨x, H1, I1, r1, q1⟩ => ?_
 exact Constant_none (isnot_none_gen ⟨.bl _, H1, I1, by rw [r1.none_iff]; rfl, q1⟩)
def tB (t : TE) : TT := fun σ H Q => t σ H fun x H1 => ∃ c, x = .bl c /\ Q c H1
theorem pe_cmp {op : CmpOp} {t : TE} (h : PC X op a b t) (h1 : behindInMarks op b = false := by first | exact UM _ (by decide) (by decide) | rfl) : PE X (.Compare a [op] [b] pos) t := fun pins s σ H Q I hw => wpAny_Compare1 (h pins s σ H Q I hw) h1
theorem zei {op : CmpOp} {t : TE} (h : PC X op a b t) (h1 : behindInMarks op b = false := by first | exact UM _ (by decide) (by decide) | rfl) : PT X (.Compare a [op] [b] pos) (tB t) := by
 intro pins s σ H Q I hw
 refine wpAny_isTrue_Compare1 (thn (h pins s σ H _ I hw) fun v s1 h1 => thn h1 fun u s2 h2 => thn h2 fun c s3 ⟨x, H1, I1, r1, q1⟩ => ?_) h1
 obtain ⟨d, rfl, q⟩ := q1
 cases r1
 exact wpAny_truthy_bool ⟨H1, I1, q⟩
variable {tA tB' : TT} {rest : List Expr}
def tAnd (t u : TT) : TT := fun σ H Q => t σ H fun c H1 => if c = true then u σ H1 Q else Q false H1
def tOr (t u : TT) : TT := fun σ H Q => t σ H fun c H1 => if c = true then Q true H1 else u σ H1 Q
def tNot (t : TT) : TT := fun σ H Q => t σ H fun c H1 => Q (!c) H1
theorem pw_and1 (ha : PT X a tA) : PW X (.BoolOp .And [a] pos) tA := by
 intro wh pins s σ H Q I h
 refine isTrue_and (thn (ha pins s σ H Q I h) fun c s1 e => ?_)
 cases c with
 | true => exact isTrue_and_nil e
 | false => exact e
theorem pw_or1 (ha : PT X a tA) : PW X (.BoolOp .Or [a] pos) tA := by
 intro wh pins s σ H Q I h
 refine isTrue_or (thn (ha pins s σ H Q I h) fun c s1 e => ?_)
 cases c with
 | false => exact isTrue_or_nil e
 | true => exact e
theorem pw_and (ha : PT X a tA) (hb : PW X (.BoolOp .And (b :: rest) pos) tB') : PW X (.BoolOp .And (a :: b :: rest) pos) (tAnd tA tB') := by
 intro wh pins s σ H Q I h
 refine isTrue_and (thn (ha pins s σ H _ I h) fun c s1 ⟨H1, I1, q1⟩ => ?_)
 cases c with
 | true => exact hb wh pins s1 σ H1 Q I1 q1
 | false => exact ⟨H1, I1, q1⟩
theorem pw_or (ha : PT X a tA) (hb : PW X (.BoolOp .Or (b :: rest) pos) tB') : PW X (.BoolOp .Or (a :: b :: rest) pos) (tOr tA tB') := by
 intro wh pins s σ H Q I h
 refine isTrue_or (thn (ha pins s σ H _ I h) fun c s1 ⟨H1, I1, q1⟩ => ?_)
 cases c with
 | true => exact ⟨H1, I1, q1⟩
 | false => exact hb wh pins s1 σ H1 Q I1 q1
theorem pt_not (ha : PT X a tA) : PT X (.UnaryOp .Not a pos) (tNot tA) := by
 intro pins s σ H Q I h
 exact isTrue_not (ha pins s σ H (fun c H1 => Q (!c) H1) I h)
def tAndV (ta tb : TE) : TE := fun σ H Q => ta σ H fun x H1 => ∃ c, x = .bl c /\ if c = true then tb σ H1 Q else Q (.bl false) H1
def tOrV (ta tb : TE) : TE := fun σ H Q => ta σ H fun x H1 => ∃ c, x = .bl c /\ if c = true then Q (.bl true) H1 else tb σ H1 Q
def tNotV (ta : TE) : TE := fun σ H Q => ta σ H fun x H1 => ∃ c, x = .bl c /\ Q (.bl (!c)) H1
theorem pe_one {op} {t : TE} (h : PE X a t) : PE X (.BoolOp op [a] pos) t := fun pins s σ H Q I hw => BoolOp_one (h pins s σ H Q I hw)
theorem pe_and (ha : PE X a ta) (hb : PE X (.BoolOp .And (b :: rest) pos) tb) : PE X (.BoolOp .And (a :: b :: rest) pos) (tAndV ta tb) := by
 intro pins s σ H Q I h
 refine BoolOp_and (thn (ha pins s σ H _ I h) fun v s1 ⟨x, H1, I1, r1, q1⟩ => ?_)
 obtain ⟨c, rfl, q1⟩ := q1
 cases r1
 refine wpAny_truthy_bool ?_
 cases c with
 | true => exact hb pins s1 σ H1 Q I1 q1
 | false => exact ⟨.bl false, H1, I1, rfl, q1⟩
theorem pe_or (ha : PE X a ta) (hb : PE X (.BoolOp .Or (b :: rest) pos) tb) : PE X (.BoolOp .Or (a :: b :: rest) pos) (tOrV ta tb) := by
 intro pins s σ H Q I h
 refine BoolOp_or (thn (ha pins s σ H _ I h) fun v s1 ⟨x, H1, I1, r1, q1⟩ => ?_)
 obtain ⟨c, rfl, q1⟩ := q1
 cases r1
 refine wpAny_truthy_bool ?_
 cases c with
 | false => exact hb pins s1 σ H1 Q I1 q1
 | true => exact ⟨.bl true, H1, I1, rfl, q1⟩
theorem pe_not (ha : PE X a ta) : PE X (.UnaryOp .Not a pos) (tNotV ta) := by
 intro pins s σ H Q I h
 refine UnaryOp_ (thn (ha pins s σ H _ I h) fun v s1 ⟨x, H1, I1, r1, q1⟩ => ?_)
 obtain ⟨c, rfl, q1⟩ := q1
 cases r1
 exact not_of (wpAny_truthy_bool ⟨.bl (!c), H1, I1, rfl, q1⟩)
def tIf (t : TT) (ta tb : TE) : TE := fun σ H Q => t σ H fun c H1 => if c = true then ta σ H1 Q else tb σ H1 Q
theorem pe_ifExp {c : Expr} (hc : PT X c tA) (ha : PE X a ta) (hb : PE X b tb) : PE X (.IfExp c a b pos) (tIf tA ta tb) := by
 intro pins s σ H Q I h
 refine wpAny_IfExp (thn (hc pins s σ H _ I h) fun d s1 ⟨H1, I1, q1⟩ => ?_)
 cases d with
 | true => exact ha pins s1 σ H1 Q I1 q1
 | false => exact hb pins s1 σ H1 Q I1 q1
end
end L2
namespace L2
open PySem PySem.Spec PyProof.Rows
def SqL (K : PySem.W.Frag) (H : Hp) (a : Addr) (xs : List V) : Prop :=
 Rd H a (.lst xs) \/
  ∃ (o : Obj) (its : Array Value) (n : Nat), K.lookup a = some o /\ o.cls = .type "list" /\ o.dict = none /\ o.data = .seq its n /\ its.size <= sizeLine /\ Vals xs its.toList
def SqT (K : PySem.W.Frag) (H : Hp) (a : Addr) (xs : List V) : Prop :=
 Rd H a (.tup xs) \/
  ∃ (o : Obj) (its : Array Value) (n : Nat), K.lookup a = some o /\ o.cls = .type "tuple" /\ o.data = .seq its n /\ its.size <= sizeLine /\ Vals xs its.toList
def absV : Value -> Option V
 | .none => some .non
 | .bool b => some (.bl b)
 | .int i _ => some (.int i)
 | .str x _ => some (.str x)
 | .bytes b _ => some (.byt b)
 | .float b _ => some (.flt b)
 | .ref a => some (.ref a)
 | .type n => some (.ty n)
 | _ => none
theorem RelV.abs {x : V} {u : Value} (r : RelV x u) : absV u = some x := by
 cases x with
 | non => cases r; rfl
 | bl _ => cases r; rfl
 | int _ => obtain ⟨t, rfl⟩ := r; rfl
 | str _ => obtain ⟨t, rfl⟩ := r; rfl
 | byt _ => obtain ⟨t, rfl⟩ := r; rfl
 | flt _ => obtain ⟨t, rfl⟩ := r; rfl
 | ref _ => cases r; rfl
 | ty _ => cases r; rfl
theorem RelV.inj {x y : V} {u : Value} (r : RelV x u) (q : RelV y u) : x = y := Option.some.inj (r.abs.symm.trans q.abs)
theorem Vals.inj : ∀ {xs ys : List V} {us : List Value}, Vals xs us -> Vals ys us -> xs = ys
 | _, _, _, .nil, .nil => rfl
 | _, _, _, .cons r t, .cons r' t' => by rw [r.inj r', Vals.inj t t']
section
variable {X : Cx} {pins : List (Addr × Obj)} {σ : St} {H : Hp} {s : Shared} {a : Addr} {xs ys : List V}
theorem SqL.of {K : PySem.W.Frag} (h : H a = some (.lst xs)) : SqL K H a xs := .inl (.inl h)
theorem Inv.list (I : Inv X pins σ H s) (h : SqL X.K H a xs) : ∃ its : List Value, Vals xs its /\ PlainL s.heap a its.toArray /\ xs.length <= sizeLine := by
 rcases h with h | ⟨o, its, n, hk, hc, hd, hs, hz, r⟩
 ·obtain ⟨z, its, n, r, e⟩ := h.ok I.hok
  exact ⟨its, r, ⟨_, n, e, rfl, rfl, rfl⟩, z⟩
 ·refine ⟨its.toList, r, ⟨o, n, I.kIn a o hk, hc, hd, by simpa using hs⟩, ?_⟩
  have e := r.length
  simp only [Array.length_toList] at e
  omega
theorem Inv.tuple (I : Inv X pins σ H s) (h : SqT X.K H a xs) : ∃ its : List Value, Vals xs its /\ IsTup s.heap a its.toArray /\ xs.length <= sizeLine := by
 rcases h with h | ⟨o, its, n, hk, hc, hs, hz, r⟩
 ·obtain ⟨z, its, r, p⟩ := h.ok I.hok
  exact ⟨its, r, p, z⟩
 ·refine ⟨its.toList, r, ⟨o, I.kIn a o hk, hc, n, by simpa using hs⟩, ?_⟩
  have e := r.length
  simp only [Array.length_toList] at e
  omega
theorem Inv.list_inj (I : Inv X pins σ H s) (h : SqL X.K H a xs) (h' : SqL X.K H a ys) : xs = ys := by
 obtain ⟨its, r, ⟨o, n, e, _, _, d⟩, _⟩ := I.list h
 obtain ⟨its', r', ⟨o', n', e', _, _, d'⟩, _⟩ := I.list h'
 rw [e] at e'; cases e'
 rw [d] at d'
 injection d' with d1 _
 have : its = its' := by simpa using congrArg Array.toList d1
 subst this
 exact r.inj r'
theorem Inv.tuple_inj (I : Inv X pins σ H s) (h : SqT X.K H a xs) (h' : SqT X.K H a ys) : xs = ys := by
 obtain ⟨its, r, ⟨o, e, _, n, d⟩, _⟩ := I.tuple h
 obtain ⟨its', r', ⟨o', e', _, n', d'⟩, _⟩ := I.tuple h'
 rw [e] at e'; cases e'
 rw [d] at d'
 injection d' with d1 _
 have : its = its' := by simpa using congrArg Array.toList d1
 subst this
 exact r.inj r'
end
abbrev Cx.wish (X : Cx) (E : Value -> Shared -> Prop) : Cx := { X with xe := E }
abbrev Cx.nox (X : Cx) : Cx := X.wish fun _ _ => False
theorem Cx.Ok.wish {X : Cx} (ok : X.Ok) (E : Value -> Shared -> Prop) : (X.wish E).Ok :=
 ⟨ok.mod, ok.kind, ok.glob, ok.blt, ok.above, ok.inj, ok.has, ok.cab, ok.hd, ok.frames, ok.stk, ok.exf, ok.bs, ok.bsz, ok.noex, ok.exfs, ok.funs, ok.frf⟩
theorem Cx.Ok.unwish {X : Cx} {E : Value -> Shared -> Prop} (ok : (X.wish E).Ok) : X.Ok :=
 ⟨ok.mod, ok.kind, ok.glob, ok.blt, ok.above, ok.inj, ok.has, ok.cab, ok.hd, ok.frames, ok.stk, ok.exf, ok.bs, ok.bsz, ok.noex, ok.exfs, ok.funs, ok.frf⟩
section
variable {X : Cx} {pins : List (Addr × Obj)} {σ : St} {H : Hp} {s : Shared} {E : Value -> Shared -> Prop}
theorem Inv.wish (I : Inv X pins σ H s) (E : Value -> Shared -> Prop) : Inv (X.wish E) pins σ H s := ⟨I.ok.wish E, I.os, I.bare, I.base, I.loc, I.cell, I.free, I.freeC, I.pin, I.hok, I.len⟩
theorem Inv.unwish (I : Inv (X.wish E) pins σ H s) : Inv X pins σ H s := ⟨I.ok.unwish, I.os, I.bare, I.base, I.loc, I.cell, I.free, I.freeC, I.pin, I.hok, I.len⟩
theorem SP.unwish {D : Ends} {f : Flow} {s' : Shared} (h : SP (X.wish E) pins D f s') : SP X pins D f s' := by
 cases f with
 | next => obtain ⟨σ', H', I, q⟩ := h; exact ⟨σ', H', I.unwish, q⟩
 | brk => obtain ⟨σ', H', I, q⟩ := h; exact ⟨σ', H', I.unwish, q⟩
 | cont => obtain ⟨σ', H', I, q⟩ := h; exact ⟨σ', H', I.unwish, q⟩
 | ret u => obtain ⟨v, σ', H', I, r, q⟩ := h; exact ⟨v, σ', H', I.unwish, r, q⟩
theorem PSs.nox {st : List Stmt} {t : TS} (h : PSs X.nox st t) : PSs X st t := fun pins s σ H D I hw =>
 wpAny_mono (h pins s σ H D (I.wish _) hw) (fun _ _ q => q.unwish) fun _ _ z => False.elim z
end
section
variable {X : Cx} {st : Stmt} {rest : List Stmt} {t u : TS} {e : Expr} {te : TE} {pos : Pos}
def tNext : TS := fun D σ H => D.nx σ H
def tSeq (t u : TS) : TS := fun D σ H => t { D with nx := u D } σ H
theorem pss_nil : PSs X [] tNext := fun _ _ σ H _ I h => wpAny_execs_nil ⟨σ, H, I, h⟩
theorem JP (h1 : PS X st t) (h2 : PSs X rest u) : PSs X (st :: rest) (tSeq t u) := by
 intro pins s σ H D I h
 refine wpAny_execs_cons (thn (h1 pins s σ H { D with nx := u D } I h) fun f s1 q => ?_)
 cases f with
 | next =>
  obtain ⟨σ', H', I', q⟩ := q
  exact h2 pins s1 σ' H' D I' q
 | ret v => exact q
 | brk => exact q
 | cont => exact q
theorem zej (h1 : PS X st t) : PSs X [st] t := by
 intro pins s σ H D I h
 refine wpAny_execs_cons (thn (h1 pins s σ H D I h) fun f s1 q => ?_)
 cases f with
 | next => exact wpAny_execs_nil q
 | ret v => exact q
 | brk => exact q
 | cont => exact q
theorem Inv.quiet {pins : List (Addr × Obj)} {σ : St} {H : Hp} {s : Shared} (I : Inv X pins σ H s) : interactive X.env = false := by simp [interactive, I.ok.kind]
def tDrop (te : TE) : TS := fun D σ H => te σ H fun _ H1 => D.nx σ H1
theorem zbw (he : PE X e te) (hs : swapsWith e none pos.line X.env = pure false := by rfl) : PS X (.Expr e pos) (tDrop te) := by
 intro pins s σ H D I h
 exact wpAny_Expr_any (thn (he pins s σ H _ I h) fun v s1 ⟨x, H1, I1, r1, q1⟩ => ⟨σ, H1, I1, q1⟩) I.quiet hs
def tRet (te : TE) : TS := fun D σ H => te σ H D.rt
theorem zel (he : PE X e te) : PS X (.Return (some e) pos) (tRet te) := by
 intro pins s σ H D I h
 exact wpAny_Return_some (thn (he pins s σ H _ I h) fun v s1 ⟨x, H1, I1, r1, q1⟩ => ⟨x, σ, H1, I1, r1, q1⟩)
def tIfS (c : TT) (t u : TS) : TS := fun D σ H => c σ H fun b H1 => if b = true then t D σ H1 else u D σ H1
theorem ps_if {c : Expr} {a b : List Stmt} {tc : TT} (hc : PT X c tc) (ha : PSs X a t) (hb : PSs X b u) : PS X (.If c a b pos) (tIfS tc t u) := by
 intro pins s σ H D I h
 refine wpAny_If (thn (hc pins s σ H _ I h) fun d s1 ⟨H1, I1, q1⟩ => ?_)
 cases d with
 | true => exact ha pins s1 σ H1 D I1 q1
 | false => exact hb pins s1 σ H1 D I1 q1
def tNever : TS := fun _ _ _ => False
theorem ps_never : PS X st tNever := fun _ _ _ _ _ _ h => h.elim
end
abbrev TG := V -> St -> Hp -> (St -> Hp -> Prop) -> Prop
abbrev TGs := List V -> St -> Hp -> (St -> Hp -> Prop) -> Prop
def PG (X : Cx) (target : Expr) (t : TG) : Prop :=
 ∀ (pins : List (Addr × Obj)) (s : Shared) (σ : St) (H : Hp) (v : V) (u : Value) (Q : St -> Hp -> Prop), Inv X pins σ H s -> RelV v u -> t v σ H Q ->
  wpAny (model X.prog X.w) X.A (assign target X.env u) (fun _ s' => ∃ σ' H', Inv X pins σ' H' s' /\ Q σ' H') X.xe s
def PGs (X : Cx) (ts : List Expr) (t : TGs) : Prop :=
 ∀ (pins : List (Addr × Obj)) (s : Shared) (σ : St) (H : Hp) (vs : List V) (us : List Value) (Q : St -> Hp -> Prop), Inv X pins σ H s -> Vals vs us -> t vs σ H Q ->
  wpAny (model X.prog X.w) X.A (assignInOrder ((assignEach ts X.env).map (·.2)) us) (fun _ s' => ∃ σ' H', Inv X pins σ' H' s' /\ Q σ' H') X.xe s
abbrev TSet := V -> V -> V -> Hp -> (Hp -> Prop) -> Prop
def PSet (X : Cx) (t : TSet) : Prop :=
 ∀ (pins : List (Addr × Obj)) (s : Shared) (σ : St) (H : Hp) (o i v : V) (ov iv u : Value) (Q : Hp -> Prop), Inv X pins σ H s -> RelV o ov -> RelV i iv -> RelV v u -> t o i v H Q ->
  wpAny (model X.prog X.w) X.A (setItem ov iv u) (fun _ s' => ∃ H', Inv X pins σ H' s' /\ Q H') X.xe s
section
variable {X : Cx} {pos : Pos}
def gName (i : Nat) : TG := fun v σ H Q => Q (σ.set i (some v)) H
theorem zby {i : Nat} {x : Str} (hN : X.N.Nodup) (hi : X.N[i]? = some x) (hx : Loc X.env.scope x) (hf : X.fn x = true \/ X.env.scope.names.lookup x = some .local := by first | exact .inl rfl | exact .inr rfl | assumption) : PG X (.Name x pos) (gName i) := by
 intro pins s σ H v u Q I r h
 exact wpAny_assign_Name (UK I hN hi hx r (fun s' I' => ⟨_, H, I', h⟩) hf)
def gNil : TGs := fun vs σ H Q => vs = [] /\ Q σ H
def gCons (t : TG) (u : TGs) : TGs := fun vs σ H Q => ∃ v r, vs = v :: r /\ t v σ H fun σ' H' => u r σ' H' Q
theorem pgs_nil : PGs X [] gNil := by
 intro pins s σ H vs us Q I r h
 obtain ⟨e, h⟩ := h
 subst e
 cases r
 exact assignInOrder_nil ⟨σ, H, I, h⟩
theorem zcv {e : Expr} {es : List Expr} {t : TG} {u : TGs} (h1 : PG X e t) (h2 : PGs X es u)
  (hs : (assignEach (e :: es) X.env).map (·.2) = assign e X.env :: (assignEach es X.env).map (·.2) := by rfl) : PGs X (e :: es) (gCons t u) := by
 intro pins s σ H vs us Q I r h
 obtain ⟨v, vr, e1, h⟩ := h
 subst e1
 cases r with
 | cons r rr =>
  rw [hs]
  refine assignInOrder_cons (thn (h1 pins s σ H _ _ _ I r h) fun _ s1 ⟨σ1, H1, I1, q1⟩ => ?_)
  exact h2 pins s1 σ1 H1 _ _ Q I1 rr q1
def gTup (K : PySem.W.Frag) (n : Nat) (t : TGs) : TG := fun v σ H Q => ∃ a xs, v = .ref a /\ SqT K H a xs /\ xs.length = n /\ t xs σ H Q
theorem pg_tup {es : List Expr} {k : Nat} {t : TGs} {n : Nat} (hc : X.calm = true) (h : PGs X es t)
  (hn : (assignEach es X.env).length = n := by rfl) (hst : (assignEach es X.env).findIdx? (·.1) = none := by rfl) : PG X (.Tuple es k pos) (gTup X.K n t) := by
 intro pins s σ H v u Q I r hw
 obtain ⟨a, xs, e1, hq, hl, hw⟩ := hw
 subst e1
 cases r
 obtain ⟨its, rv, ht, hz⟩ := I.tuple hq
 refine assign_Tuple_tuple (I.ok.hd hc) ht (by simp [hn, <- hl, rv.length]) hst fun h' hx => ?_
 have I1 : Inv X pins σ H { s with heap := h' } := I.kept (t' := s.toks) fun b o e => hx b o (Nat.ne_of_lt (Heap.lt_size e)) e
 exact h pins _ σ H xs _ Q I1 (by simpa using rv) hw
def gSub (to ti : TE) (t : TSet) : TG := fun v σ H Q => to σ H fun o H1 => ti σ H1 fun i H2 => t o i v H2 fun H3 => Q σ H3
theorem pg_sub {o i : Expr} {to ti : TE} {t : TSet} (ho : PE X o to) (hi : PE X i ti) (hs : PSet X t)
  (ha : ∀ v, assign (.Subscript o i pos) X.env v = (do
   let ov <- holding [v] (eval o X.env)
   let iv <- holding [v, ov] (eval i X.env)
   standAt pos
   holding [v, ov, iv] (setItem ov iv v)
   release [v, ov, iv] []) := by intro _; rfl) : PG X (.Subscript o i pos) (gSub to ti t) := by
 intro pins s σ H v u Q I r h
 rw [ha]
 refine wpAny_bind (wpAny_holding (thn (ho pins s σ H _ I h) fun ov s1 ⟨x, H1, I1, r1, q1⟩ => ?_))
 refine wpAny_bind (wpAny_holding (thn (hi pins s1 σ H1 _ I1 q1) fun iv s2 ⟨y, H2, I2, r2, q2⟩ => ?_))
 refine wpAny_bind (wpAny_standAt (wpAny_bind (wpAny_holding (thn (hs pins s2 σ H2 x y v ov iv u _ I2 r1 r2 r q2) fun _ s3 ⟨H3, I3, q3⟩ => ?_))))
 exact wpAny_release ⟨σ, H3, I3, q3⟩
def tAsg (te : TE) (g : TG) : TS := fun D σ H => te σ H fun x H1 => g x σ H1 D.nx
theorem ps_asg {tg e : Expr} {te : TE} {g : TG} (he : PE X e te) (hg : PG X tg g) (hs : swapsWithSole [tg] e pos.line X.env = pure false := by rfl) (hw : swappedStores [tg] e X.env = pure none := by rfl)
  (h1 : (assignEach [tg] X.env).map (·.2) = [assign tg X.env] := by rfl) : PS X (.Assign [tg] e pos) (tAsg te g) := by
 intro pins s σ H D I h
 refine wpAny_Assign_stores (thn (he pins s σ H _ I h) fun v s1 ⟨x, H1, I1, r1, q1⟩ => ?_) hs hw
 rw [h1]
 exact thn (hg pins s1 σ H1 x v _ I1 r1 q1) fun _ s2 q => q
theorem zek {i : Nat} {x : Str} {e : Expr} {te : TE} {pos' : Pos} (hN : X.N.Nodup) (hi : X.N[i]? = some x) (hx : Loc X.env.scope x) (he : PE X e te) (hs : swapsWith e (some (.Name x pos')) pos.line X.env = pure false := by rfl) (hf : X.fn x = true \/ X.env.scope.names.lookup x = some .local := by first | exact .inl rfl | exact .inr rfl | assumption) :
  PS X (.Assign [.Name x pos'] e pos) (tAsg te (gName i)) := by
 intro pins s σ H D I h
 refine wpAny_Assign_Name (thn (he pins s σ H _ I h) fun v s1 ⟨y, H1, I1, r1, q1⟩ => ?_) hs
 exact UK I1 hN hi hx r1 (fun s2 I2 => ⟨_, H1, I2, q1⟩) hf
end
section
variable {X : Cx} {pos : Pos}
def tWhile (c : TT) (tb : TS) : TS := fun D σ H => ∃ W : Nat -> St -> Hp -> Prop, (∃ m, W m σ H) /\ ∀ m σ H, W m σ H ->
 c σ H fun b H1 => if b = true then ∃ N : St -> Hp -> Prop, (∀ σ' H', N σ' H' -> ∃ m', m' < m /\ W m' σ' H') /\ tb { D with nx := N, ct := N, bk := D.nx } σ H1 else D.nx σ H1
theorem ps_while {c : Expr} {body : List Stmt} {tc : TT} {tb : TS} (hp : PassesOwn (model X.prog X.w) X.A X.env X.xe) (hc : PT X c tc) (hb : PSs X body tb) : PS X (.While c body [] pos) (tWhile tc tb) := by
 intro pins s σ H D I h
 obtain ⟨W, ⟨m0, w0⟩, turn⟩ := h
 refine wpAny_While (codeAny_whileLoop (fun n s' => ∃ σ' H', Inv X pins σ' H' s' /\ W n σ' H') ?_ m0 ⟨σ, H, I, w0⟩)
 rintro n s1 ⟨σ1, H1, I1, w1⟩
 refine wpAny_passesOwn hp (thn (hc pins s1 σ1 H1 _ I1 (turn n σ1 H1 w1)) fun b s2 ⟨H2, I2, q2⟩ => ?_)
 cases b with
 | true =>
  obtain ⟨N, hN, q2⟩ := q2
  rw [if_pos rfl]
  refine wpAny_passesOwn hp (thn (hb pins s2 σ1 H2 _ I2 q2) fun f s3 q3 => ?_)
  cases f with
  | next =>
   obtain ⟨σ3, H3, I3, n3⟩ := q3
   obtain ⟨m', hm, w3⟩ := hN σ3 H3 n3
   exact ⟨m', hm, σ3, H3, I3, w3⟩
  | cont =>
   obtain ⟨σ3, H3, I3, n3⟩ := q3
   obtain ⟨m', hm, w3⟩ := hN σ3 H3 n3
   exact ⟨m', hm, σ3, H3, I3, w3⟩
  | brk => exact q3
  | ret v => exact q3
 | false =>
  rw [if_neg Bool.false_ne_true]
  exact wpAny_execs_nil ⟨σ1, H2, I2, q2⟩
end
structure It where
 go : Nat -> Hp -> Prop
 yld : Nat -> Hp -> V -> Hp -> Prop
 stop : Nat -> Hp -> Prop
def FpOk (X : Cx) (pins : List (Addr × Obj)) (H : Hp) (b : Addr) : Prop :=
 H b = none /\ b ≠ X.env.locals /\ b ∉ X.fs /\ (b ∈ X.ex \/ X.s₀.heap.objs.size <= b) /\ (∀ x c, X.env.cells.lookup x = some c -> c ≠ b) /\ ∀ p ∈ X.pn ++ pins, p.1 ≠ b
theorem Inv.fpOk {X : Cx} {pins : List (Addr × Obj)} {σ : St} {H H' : Hp} {s : Shared} {b : Addr} (I : Inv X pins σ H s) (hb : s.heap.objs.size <= b) (hn : H' b = none) : FpOk X pins H' b := by
 refine ⟨hn, Nat.ne_of_gt (Nat.lt_of_lt_of_le I.lt hb), I.nofs hb, .inr (Nat.le_trans I.sz hb), fun x c e z => ?_, fun p hp z => ?_⟩
 ·obtain ⟨v, q⟩ := I.cell x c e
  exact absurd (Nat.lt_of_lt_of_le q.lt (by rw [z]; exact hb)) (Nat.lt_irrefl _)
 ·exact absurd (Nat.lt_of_lt_of_le (Heap.lt_size (I.pin p hp).1) (by rw [z]; exact hb)) (Nat.lt_irrefl _)
structure Turn (P : Program) (w : World) (K : PySem.W.Frag) (tg : Expr) (J : It) (fp : List Addr) (it : Addr) (tn : Nat -> Heap -> Prop) : Prop where
 mem : it ∈ fp
 obj : ∀ i h, tn i h -> ∀ b ∈ fp, ∃ o, h.get? b = some o /\ ∀ v, o.data ≠ .cell v
 keep : ∀ i h h', tn i h -> (∀ b ∈ fp, ∀ o, h.get? b = some o -> h'.get? b = some o) -> tn i h'
 item : ∀ (X : Cx), X.prog = P -> X.w = w -> X.K = K -> X.calm = true -> ∀ (i : Nat) (pins : List (Addr × Obj)) (s : Shared) (σ : St) (H : Hp) (E : Value -> Shared -> Prop), Inv X pins σ H s -> (∀ b ∈ fp, FpOk X pins H b) -> tn i s.heap -> J.go i H ->
  wpAny (model P w) X.A (pyNext (.ref it)) (fun r s1 => ∃ u, r = some u /\
   wpAny (model P w) X.A (letOwnedTupleGo tg (.ref it) u) (fun _ s2 => ∃ x H', Inv X pins σ H' s2 /\ RelV x u /\ J.yld i H x H' /\ tn (i + 1) s2.heap /\ ∀ b ∈ fp, H' b = none) E s1) E s
 done : ∀ (X : Cx), X.prog = P -> X.w = w -> X.K = K -> X.calm = true -> ∀ (i : Nat) (pins : List (Addr × Obj)) (s : Shared) (σ : St) (H : Hp) (E : Value -> Shared -> Prop), Inv X pins σ H s -> (∀ b ∈ fp, FpOk X pins H b) -> tn i s.heap -> J.stop i H ->
  wpAny (model P w) X.A (pyNext (.ref it)) (fun r s1 => r = none /\ Inv X pins σ H s1) E s
 self : ∀ (A : Around) (i : Nat) (s : Shared) (Q : Value -> Shared -> Prop) (E : Value -> Shared -> Prop), tn i s.heap -> Q (.ref it) s -> wpAny (model P w) A (pyIter (.ref it)) Q E s
abbrev TI := St -> Hp -> (It -> Hp -> Prop) -> Prop
def PIE (X : Cx) (pins : List (Addr × Obj)) (σ : St) (tg : Expr) (R : It -> Hp -> Prop) (itv : Value) (s2 : Shared) : Prop :=
 ∃ (it : Addr) (fp : List Addr) (tn : Nat -> Heap -> Prop) (J : It) (H' : Hp), itv = .ref it /\ Inv X pins σ H' s2 /\ Turn X.prog X.w X.K tg J fp it tn /\ tn 0 s2.heap /\ (∀ b ∈ fp, FpOk X pins H' b) /\ R J H'
def PI (X : Cx) (tg iter : Expr) (wi : TI) : Prop :=
 ∀ (pins : List (Addr × Obj)) (s : Shared) (σ : St) (H : Hp) (R : It -> Hp -> Prop), Inv X pins σ H s -> wi σ H R ->
  wpAny (model X.prog X.w) X.A (eval iter X.env) (fun v s1 => wpAny (model X.prog X.w) X.A (pyIter v) (PIE X pins σ tg R) X.xe s1) X.xe s
theorem go_of {M : Model} {A : Around} {E : Value -> Shared -> Prop} {s : Shared} {tg : Expr} {it : Addr} {u : Value} {o : Obj} {n : String} {vs : Array Value} {Q : Unit -> Shared -> Prop} (ho : s.heap.get? it = some o) (hc : o.cls = .type n) (hd : o.data = .fields vs)
  (hn : ["enumerate", "zip", "dict_itemiterator", "dict_reverseitemiterator", "odict_iterator", "itertools.zip_longest", "itertools.pairwise"].contains n = false) (hQ : Q () s) : wpAny M A (letOwnedTupleGo tg (.ref it) u) Q E s := by
 unfold letOwnedTupleGo
 cases tg <;> first
  | exact wpAny_pure hQ
  | (cases u <;> first
    | exact wpAny_pure hQ
    | (refine wpAny_bind (wpAny_load ho ?_)
       rw [hc, hd]
       show wpAny M A (if (["enumerate", "zip", "dict_itemiterator", "dict_reverseitemiterator", "odict_iterator", "itertools.zip_longest", "itertools.pairwise"].contains n && vs[0]? == some (rawInt _)) = true then _ else _) Q E s
       rw [if_neg (by intro h; rw [hn, Bool.false_and] at h; cases h)]
       exact wpAny_pure hQ))
def Itl (K : PySem.W.Frag) (a : Addr) : It :=
 ⟨fun i H => ∃ xs x, SqL K H a xs /\ xs[i]? = some x, fun i H x H' => H' = H /\ ∀ xs, SqL K H a xs -> xs[i]? = some x, fun i H => ∃ xs, SqL K H a xs /\ xs.length <= i⟩
def Itt (K : PySem.W.Frag) (a : Addr) : It :=
 ⟨fun i H => ∃ xs x, SqT K H a xs /\ xs[i]? = some x, fun i H x H' => H' = H /\ ∀ xs, SqT K H a xs -> xs[i]? = some x, fun i H => ∃ xs, SqT K H a xs /\ xs.length <= i⟩
def Itr (lo : Int) (n : Nat) : It := ⟨fun i _ => i < n, fun i H x H' => H' = H /\ x = .int (lo + i), fun i _ => n <= i⟩
theorem zdW {P : Program} {w : World} {K : PySem.W.Frag} {tg : Expr} (a it : Addr) : Turn P w K tg (Itl K a) [it] it (fun i h => h.IsListIter it a i) where
 mem := by simp
 obj := fun i h st b hb => by
  have e : b = it := by simpa using hb
  subst e
  obtain ⟨o, e, c, d⟩ := st
  exact ⟨o, e, fun v z => by rw [d] at z; cases z⟩
 keep := fun i h h' st k => st.at fun o e => k it (by simp) o e
 item := by
  intro X hP hw hK hc i pins s σ H E I hf st hg
  subst hP hw hK
  obtain ⟨xs, x, hq, hx⟩ := hg
  obtain ⟨its, rv, p, hz⟩ := I.list hq
  obtain ⟨u, hu, ru⟩ := rv.get hx
  obtain ⟨f0, f1, f2, f3, f4, f5⟩ := hf it (by simp)
  refine wpAny_pyNext_list_item st p.isList (x := u) (by simpa using hu) fun h' st' sb => ?_
  have I1 : Inv X pins σ H { s with heap := h' } := I.turned (t' := s.toks) (fun b o hb e => (sb.2 b hb).trans e) f0 f1 f3 f4 f5
  obtain ⟨o, e, c, d⟩ := id st'
  exact ⟨u, rfl, go_of (s := { s with heap := h' }) e c d (by decide) ⟨x, H, I1, ru, ⟨rfl, fun ys hy => by rw [I.list_inj hy hq]; exact hx⟩, st', fun b hb => (hf b hb).1⟩⟩
 done := by
  intro X hP hw hK hc i pins s σ H E I hf st hg
  subst hP hw hK
  obtain ⟨xs, hq, hx⟩ := hg
  obtain ⟨its, rv, p, hz⟩ := I.list hq
  obtain ⟨f0, f1, f2, f3, f4, f5⟩ := hf it (by simp)
  have hl := rv.length
  exact wpAny_pyNext_list_end (I.ok.hd hc) st p.isList (by simp; omega) fun h' eb => ⟨rfl, I.turned (t' := s.toks) (fun b o hb e => eb b o hb e) f0 f1 f3 f4 f5⟩
 self := fun _ _ _ _ _ st h => wpAny_pyIter_listiter st h
theorem zcY {P : Program} {w : World} {K : PySem.W.Frag} {tg : Expr} (a it : Addr) : Turn P w K tg (Itt K a) [it] it (fun i h => h.IsTupleIter it a i) where
 mem := by simp
 obj := fun i h st b hb => by
  have e : b = it := by simpa using hb
  subst e
  obtain ⟨o, e, c, d⟩ := st
  exact ⟨o, e, fun v z => by rw [d] at z; cases z⟩
 keep := fun i h h' st k => st.at fun o e => k it (by simp) o e
 item := by
  intro X hP hw hK hc i pins s σ H E I hf st hg
  subst hP hw hK
  obtain ⟨xs, x, hq, hx⟩ := hg
  obtain ⟨its, rv, p, hz⟩ := I.tuple hq
  obtain ⟨u, hu, ru⟩ := rv.get hx
  obtain ⟨f0, f1, f2, f3, f4, f5⟩ := hf it (by simp)
  refine wpAny_pyNext_tuple_item st (show s.heap.IsTuple a its.toArray from p) (x := u) (by simpa using hu) fun h' st' sb => ?_
  have I1 : Inv X pins σ H { s with heap := h' } := I.turned (t' := s.toks) (fun b o hb e => (sb.2 b hb).trans e) f0 f1 f3 f4 f5
  obtain ⟨o, e, c, d⟩ := id st'
  exact ⟨u, rfl, go_of (s := { s with heap := h' }) e c d (by decide) ⟨x, H, I1, ru, ⟨rfl, fun ys hy => by rw [I.tuple_inj hy hq]; exact hx⟩, st', fun b hb => (hf b hb).1⟩⟩
 done := by
  intro X hP hw hK hc i pins s σ H E I hf st hg
  subst hP hw hK
  obtain ⟨xs, hq, hx⟩ := hg
  obtain ⟨its, rv, p, hz⟩ := I.tuple hq
  obtain ⟨f0, f1, f2, f3, f4, f5⟩ := hf it (by simp)
  have hl := rv.length
  exact wpAny_pyNext_tuple_end (I.ok.hd hc) st (show s.heap.IsTuple a its.toArray from p) (by simp; omega) fun h' eb => ⟨rfl, I.turned (t' := s.toks) (fun b o hb e => eb b o hb e) f0 f1 f3 f4 f5⟩
 self := fun _ _ _ _ _ st h => wpAny_pyIter_tupleiter st h
theorem zcZ {P : Program} {w : World} {K : PySem.W.Frag} {tg : Expr} (it : Addr) (lo : Int) (n : Nat) : Turn P w K tg (Itr lo n) [it] it (fun i h => IsRangeIter h it (lo + (i : Nat) * 1) ((n : Int) - (i : Nat)) 1) where
 mem := by simp
 obj := fun i h st b hb => by
  have e : b = it := by simpa using hb
  subst e
  exact ⟨_, st, fun v z => by
   have z' : Data.fields _ = Data.cell v := z
   cases z'⟩
 keep := fun i h h' st k => k it (by simp) _ st
 item := by
  intro X hP hw hK hc i pins s σ H E I hf st hg
  subst hP hw hK
  obtain ⟨f0, f1, f2, f3, f4, f5⟩ := hf it (by simp)
  have W := Walks.range (prog := X.prog) (w := X.w) (I.ok.hd hc) it lo 1 n
  refine W.item i s _ _ hg st fun v h' tk hv st' kk => ?_
  obtain ⟨t, rfl⟩ := hv
  have I1 : Inv X pins σ H { s with heap := h', toks := tk } := I.turned (fun b o hb e => kk b o (by simpa using hb) e) f0 f1 f3 f4 f5
  refine ⟨_, rfl, go_of (s := { s with heap := h', toks := tk }) (n := "range_iterator") st' rfl rfl (by decide) ⟨.int (lo + i), H, I1, ⟨t, ?_⟩, ⟨rfl, rfl⟩, st', fun b hb => (hf b hb).1⟩⟩
  rw [Int.mul_one]
 done := by
  intro X hP hw hK hc i pins s σ H E I hf st hg
  subst hP hw hK
  obtain ⟨f0, f1, f2, f3, f4, f5⟩ := hf it (by simp)
  exact wpAny_pyNext_range_end (I.ok.hd hc) st (by have : n <= i := hg; omega) fun h' eb => ⟨rfl, I.turned (t' := s.toks) (fun b o hb e => eb b o hb e) f0 f1 f3 f4 f5⟩
 self := fun _ _ _ _ _ st h => wpAny_pyIter_rangeiter st h
end L2
namespace L2
open PySem PySem.Spec PyProof.Rows
section
variable {X : Cx} {tg : Expr}
theorem range_it {pins : List (Addr × Obj)} {σ : St} {H : Hp} {s : Shared} {R : It -> Hp -> Prop} {E : Value -> Shared -> Prop} {lo hi : Int} {t u v : Tok} {tk : Nat} (I : Inv X pins σ H s) (h1 : -(2 ^ 62) <= lo) (h2 : lo < 2 ^ 62) (h3 : -(2 ^ 62) <= hi) (h4 : hi < 2 ^ 62)
  (q : R (Itr lo (hi - lo).toNat) H) : wpAny (model X.prog X.w) X.A (pyIter (.ref s.heap.objs.size)) (PIE X pins σ tg R) E { s with heap := s.heap.push { cls := .type "range", data := .fields #[.int lo t, .int hi u, .int 1 v] }, toks := tk } := by
 refine wpAny_pyIter_range (IsRange.new ..) (small_one h1 h2 h3 h4) ?_
 have I1 : Inv X pins σ H { s with heap := s.heap.push { cls := .type "range", data := .fields #[.int lo t, .int hi u, .int 1 v] }, toks := tk } := I.kept fun b o e => Heap.get?_push_of_some _ e
 refine ⟨(s.heap.push { cls := .type "range", data := .fields #[.int lo t, .int hi u, .int 1 v] }).objs.size, [(s.heap.push { cls := .type "range", data := .fields #[.int lo t, .int hi u, .int 1 v] }).objs.size], _, _, H, rfl,
  I1.kept (t' := tk) fun b o e => Heap.get?_push_of_some _ e, zcZ _ lo (hi - lo).toNat, ?_, fun b hb => ?_, q⟩
 ·have e1 : lo + ((0 : Nat) : Int) * 1 = lo := by simp
  have e2 : (((hi - lo).toNat : Nat) : Int) - ((0 : Nat) : Int) = Builtin.Range.rangeSize lo hi 1 := by rw [rangeSize_one]; split <;> omega
  show IsRangeIter _ _ (lo + ((0 : Nat) : Int) * 1) ((((hi - lo).toNat : Nat) : Int) - ((0 : Nat) : Int)) 1
  rw [e1, e2]
  exact Heap.get?_push_size _ rfl
 ·have e : b = (s.heap.push { cls := .type "range", data := .fields #[.int lo t, .int hi u, .int 1 v] }).objs.size := by simpa using hb
  subst e
  exact I1.fpOk (Nat.le_refl _) (I1.hok.fresh (Nat.le_refl _))
def iRng1 (ta : TA) : TI := fun σ H R => ta σ H fun vs H1 => ∃ j : Int, vs = [.int j] /\ -(2 ^ 62) <= j /\ j < 2 ^ 62 /\ R (Itr 0 j.toNat) H1
theorem zeo {a : Expr} {ta : TA} {p pos : Pos} (hg : Gl X "range") (hm : X.mg "range" = none) (ha : PA X [a] ta) (hs : starEach [a] X.env = [(false, eval a X.env)] := by rfl) : PI X tg (.Call (.Name "range" p) [a] [] pos) (iRng1 ta) := by
 intro pins s σ H R I h
 refine Call_ (Uf I hg hm boot_range (PyProof.Rows.callWith_type1 (thn (ha pos pins s σ H _ I h) fun us s1 ⟨vs, H1, I1, r1, q1⟩ => ?_) hs rfl))
 obtain ⟨j, e, q1, q2, q⟩ := q1
 subst e
 cases r1 with
 | cons r rr =>
  cases rr
  obtain ⟨t, rfl⟩ := r
  exact call_range_1 (range_it I1 (by omega) (by omega) q1 q2 (by simpa using q))
def tFor (wi : TI) (g : TG) (tb : TS) : TS := fun D σ H => wi σ H fun J H1 => ∃ W : Nat -> Nat -> St -> Hp -> Prop, (∃ m, W 0 m σ H1) /\ ∀ i m σ H, W i m σ H ->
 (J.stop i H /\ D.nx σ H) \/ (J.go i H /\ ∃ N : St -> Hp -> Prop, (∀ σ' H', N σ' H' -> ∃ m', m' < m /\ W (i + 1) m' σ' H') /\ ∀ x H', J.yld i H x H' -> g x σ H' fun σ2 H2 => tb { D with nx := N, ct := N, bk := D.nx } σ2 H2)
def Xq (fp : List Addr) (h : Heap) : List (Addr × Obj) := fp.filterMap fun b => (h.get? b).map fun o => (b, o)
theorem W5 {fp : List Addr} {h : Heap} {b : Addr} {o : Obj} (hb : b ∈ fp) (e : h.get? b = some o) : (b, o) ∈ Xq fp h := List.mem_filterMap.mpr ⟨b, hb, by rw [e]; rfl⟩
theorem zeH {fp : List Addr} {h : Heap} {p : Addr × Obj} (hp : p ∈ Xq fp h) : p.1 ∈ fp /\ h.get? p.1 = some p.2 := by
 obtain ⟨b, hb, e⟩ := List.mem_filterMap.mp hp
 cases q : h.get? b with
 | none => rw [q] at e; cases e
 | some o =>
  rw [q] at e
  have e' : (b, o) = p := Option.some.inj e
  subst e'
  exact ⟨hb, q⟩
theorem Inv.pinned {pins : List (Addr × Obj)} {σ : St} {H : Hp} {s : Shared} {fp : List Addr} (I : Inv X pins σ H s) (hf : ∀ b ∈ fp, FpOk X pins H b) (ho : ∀ b ∈ fp, ∃ o, s.heap.get? b = some o /\ ∀ v, o.data ≠ .cell v) : Inv X (pins ++ Xq fp s.heap) σ H s :=
 I.pins_of fun p hp => (List.mem_append.mp hp).elim (fun z => I.pin p (List.mem_append_right _ z)) fun z => by
  obtain ⟨hb, e⟩ := zeH z
  obtain ⟨f0, f1, f2, _⟩ := hf p.1 hb
  obtain ⟨o, e', d⟩ := ho p.1 hb
  rw [e] at e'; cases e'
  exact ⟨e, f0, f1, f2, d⟩
theorem Inv.unpinned {pins pl : List (Addr × Obj)} {σ : St} {H : Hp} {s : Shared} (I : Inv X (pins ++ pl) σ H s) : Inv X pins σ H s := I.pins_of fun p hp => I.pin p (List.mem_append_right _ (List.mem_append_left _ hp))
theorem ps_for {iter : Expr} {body : List Stmt} {wi : TI} {g : TG} {tb : TS} {pos : Pos} (hp : PassesOwn (model X.prog X.w) X.A X.env X.xe) (hc : X.calm = true) (hi : PI X tg iter wi) (hg : PG X tg g) (hb : PSs X body tb)
  (hs : ∀ x, foldedSetIterable iter X.env x = pure x := by intro _; rfl) : PS X (.For tg iter body [] pos) (tFor wi g tb) := by
 intro pins s σ H D I h
 refine wpAny_For (thn (hi pins s σ H _ I h) fun v s1 h1 => thn h1 fun itv s2 h2 => ?_) hs
 obtain ⟨it, fp, tn, J, H2, e, I2, T, st2, f2, W, ⟨m0, w0⟩, turn⟩ := h2
 subst e
 -- what stays true of the iterator's objects through the loop
 have stat : ∀ {H' : Hp}, (∀ b ∈ fp, H' b = none) -> ∀ b ∈ fp, FpOk X pins H' b := fun hn b hb => ⟨hn b hb, (f2 b hb).2⟩
 refine codeAny_forLoop_any (fun n s' => ∃ i σ' H', Inv X pins σ' H' s' /\ tn i s'.heap /\ (∀ b ∈ fp, H' b = none) /\ W i n σ' H') ?_ m0 ⟨0, σ, H2, I2, st2, fun b hb => (f2 b hb).1, w0⟩
 rintro n s3 ⟨i, σ3, H3, I3, st3, fr3, w3⟩
 rcases turn i n σ3 H3 w3 with ⟨stop, qn⟩ | ⟨go, N, hN, step⟩
 ·refine wpAny_passesOwn hp (thn (T.done X rfl rfl rfl hc i pins s3 σ3 H3 X.xe I3 (stat fr3) st3 stop) fun r s4 ⟨hr, I4⟩ => ?_)
  subst hr
  exact wpAny_execs_nil ⟨σ3, H3, I4, qn⟩
 ·refine wpAny_passesOwn hp (thn (T.item X rfl rfl rfl hc i pins s3 σ3 H3 X.xe I3 (stat fr3) st3 go) fun r s4 ⟨u, hr, h4⟩ => ?_)
  subst hr
  refine wpAny_passesOwn hp (thn h4 fun _ s5 ⟨x, H5, I5, r5, y5, st5, fr5⟩ => ?_)
  have I5' := I5.pinned (stat fr5) (T.obj _ _ st5)
  refine wpAny_passesOwn hp (thn (hg _ s5 σ3 H5 x u _ I5' r5 (step x H5 y5)) fun _ s6 ⟨σ6, H6, I6, q6⟩ => ?_)
  refine wpAny_passesOwn hp (thn (hb _ s6 σ6 H6 _ I6 q6) fun f s7 q7 => ?_)
  have again : ∀ {σ7 : St} {H7 : Hp}, Inv X (pins ++ Xq fp s5.heap) σ7 H7 s7 -> N σ7 H7 -> ∃ m, m < n /\ ∃ i σ' H', Inv X pins σ' H' s7 /\ tn i s7.heap /\ (∀ b ∈ fp, H' b = none) /\ W i m σ' H' := fun {σ7 H7} I7 n7 => by
   obtain ⟨m', hm, w7⟩ := hN σ7 H7 n7
   refine ⟨m', hm, i + 1, σ7, H7, I7.unpinned, T.keep _ _ _ st5 fun b hb o e => (I7.pin (b, o) (List.mem_append_right _ (List.mem_append_right _ (W5 hb e)))).1, fun b hb => ?_, w7⟩
   obtain ⟨o, e, d⟩ := T.obj _ _ st5 b hb
   exact (I7.pin (b, o) (List.mem_append_right _ (List.mem_append_right _ (W5 hb e)))).2.1
  cases f with
  | next => obtain ⟨σ7, H7, I7, n7⟩ := q7; exact again I7 n7
  | cont => obtain ⟨σ7, H7, I7, n7⟩ := q7; exact again I7 n7
  | brk => obtain ⟨σ7, H7, I7, q7⟩ := q7; exact ⟨σ7, H7, I7.unpinned, q7⟩
  | ret v => obtain ⟨x7, σ7, H7, I7, r7, q7⟩ := q7; exact ⟨x7, σ7, H7, I7.unpinned, r7, q7⟩
end
end L2
namespace L2
open PySem PySem.Spec PyProof.Rows
abbrev R2 := V -> V -> Hp -> VK -> Prop
def OpR (X : Cx) (f : Value -> Value -> Sem Value) (r : R2) : Prop :=
 ∀ (pins : List (Addr × Obj)) (s : Shared) (σ : St) (H : Hp) (x y : V) (v u : Value) (Q : VK), Inv X pins σ H s -> RelV x v -> RelV y u -> r x y H Q ->
  wpAny (model X.prog X.w) X.A (f v u) (EP X pins σ Q) X.xe s
def UnR (X : Cx) (f : Value -> Sem Value) (r : V -> Hp -> VK -> Prop) : Prop :=
 ∀ (pins : List (Addr × Obj)) (s : Shared) (σ : St) (H : Hp) (x : V) (v : Value) (Q : VK), Inv X pins σ H s -> RelV x v -> r x H Q ->
  wpAny (model X.prog X.w) X.A (f v) (EP X pins σ Q) X.xe s
def UH (X : Cx) (f : Value) (r : List V -> Hp -> VK -> Prop) : Prop :=
 ∀ (pins : List (Addr × Obj)) (s : Shared) (σ : St) (H : Hp) (xs : List V) (us : List Value) (Q : VK), Inv X pins σ H s -> Vals xs us -> r xs H Q ->
  wpAny (model X.prog X.w) X.A (call f us) (EP X pins σ Q) X.xe s
def TruR (X : Cx) (r : V -> Hp -> (Bool -> Hp -> Prop) -> Prop) : Prop :=
 ∀ (pins : List (Addr × Obj)) (s : Shared) (σ : St) (H : Hp) (x : V) (v : Value) (Q : Bool -> Hp -> Prop), Inv X pins σ H s -> RelV x v -> r x H Q ->
  wpAny (model X.prog X.w) X.A (truthy v) (TP X pins σ Q) X.xe s
def tOp (r : R2) (ta tb : TE) : TE := fun σ H Q => ta σ H fun x H1 => tb σ H1 fun y H2 => r x y H2 Q
def tUn (r : V -> Hp -> VK -> Prop) (ta : TE) : TE := fun σ H Q => ta σ H fun x H1 => r x H1 Q
def rI (C : Int -> Int -> Prop) (g : Int -> Int -> V) : R2 := fun x y H Q => ∃ i j, x = .int i /\ y = .int j /\ C i j /\ Q (g i j) H
def rI0 (g : Int -> Int -> V) : R2 := fun x y H Q => ∃ i j, x = .int i /\ y = .int j /\ Q (g i j) H
def rU (g : Int -> V) : V -> Hp -> VK -> Prop := fun x H Q => ∃ i, x = .int i /\ Q (g i) H
section
variable {X : Cx} {a b c : Expr} {ta tb tc : TE} {pos : Pos}
theorem binT (ha : PE X a ta) (hb : PE X b tb) {pins : List (Addr × Obj)} {s : Shared} {σ : St} {H : Hp} {R : V -> V -> Hp -> Prop} (I : Inv X pins σ H s)
  (h : ta σ H fun x H1 => tb σ H1 fun y H2 => R x y H2) {Q : Value -> Shared -> Prop} {f : Value -> Value -> Sem Value}
  (hf : ∀ v u s2 x y H2, Inv X pins σ H2 s2 -> RelV x v -> RelV y u -> R x y H2 -> wpAny (model X.prog X.w) X.A (f v u) Q X.xe s2) :
  wpAny (model X.prog X.w) X.A (eval a X.env) (fun v s₁ => wpAny (model X.prog X.w) X.A (eval b X.env) (fun u s₂ => wpAny (model X.prog X.w) X.A (f v u) Q X.xe s₂) X.xe s₁) X.xe s := by
 refine thn (ha pins s σ H _ I h) fun v s1 ⟨x, H1, I1, r1, q1⟩ => ?_
 refine thn (hb pins s1 σ H1 _ I1 q1) fun u s2 ⟨y, H2, I2, r2, q2⟩ => ?_
 exact hf v u s2 x y H2 I2 r1 r2 q2
theorem pe_op {op : Operator} {r : R2} (ho : OpR X (binaryOp op) r) (ha : PE X a ta) (hb : PE X b tb) : PE X (.BinOp a op b pos) (tOp r ta tb) := by
 intro pins s σ H Q I h
 exact wpAny_BinOp (binT ha hb I h fun v u s2 x y H2 I2 rx ry q => ho pins s2 σ H2 x y v u Q I2 rx ry q)
theorem pe_un {op : UnaryOp} {r : V -> Hp -> VK -> Prop} (ho : UnR X (unaryOp op) r) (ha : PE X a ta) : PE X (.UnaryOp op a pos) (tUn r ta) := by
 intro pins s σ H Q I h
 exact UnaryOp_ (thn (ha pins s σ H _ I h) fun v s1 ⟨x, H1, I1, r1, q1⟩ => ho pins s1 σ H1 x v Q I1 r1 q1)
theorem opI {f : Value -> Value -> Sem Value} {C : Int -> Int -> Prop} {g : Int -> Int -> Int}
  (rule : ∀ (i j : Int) (t u : Tok) (s : Shared) (Q : Value -> Shared -> Prop) (E : Value -> Shared -> Prop), C i j -> Q (.int (g i j) s.toks) { s with toks := s.toks + 1 } -> wpAny (model X.prog X.w) X.A (f (.int i t) (.int j u)) Q E s) :
  OpR X f (rI C fun i j => .int (g i j)) := by
 intro pins s σ H x y v u Q I rx ry h
 obtain ⟨i, j, rfl, rfl, hc, q⟩ := h
 obtain ⟨t, rfl⟩ := rx
 obtain ⟨t', rfl⟩ := ry
 exact rule i j t t' s _ _ hc ⟨.int (g i j), H, I.tok _, ⟨_, rfl⟩, q⟩
theorem opI0 {f : Value -> Value -> Sem Value} {g : Int -> Int -> Int}
  (rule : ∀ (i j : Int) (t u : Tok) (s : Shared) (Q : Value -> Shared -> Prop) (E : Value -> Shared -> Prop), Q (.int (g i j) s.toks) { s with toks := s.toks + 1 } -> wpAny (model X.prog X.w) X.A (f (.int i t) (.int j u)) Q E s) :
  OpR X f (rI0 fun i j => .int (g i j)) := by
 intro pins s σ H x y v u Q I rx ry h
 obtain ⟨i, j, rfl, rfl, q⟩ := h
 obtain ⟨t, rfl⟩ := rx
 obtain ⟨t', rfl⟩ := ry
 exact rule i j t t' s _ _ ⟨.int (g i j), H, I.tok _, ⟨_, rfl⟩, q⟩
theorem opB0 {f : Value -> Value -> Sem Value} {g : Int -> Int -> Bool}
  (rule : ∀ (i j : Int) (t u : Tok) (s : Shared) (Q : Value -> Shared -> Prop) (E : Value -> Shared -> Prop), Q (.bool (g i j)) s -> wpAny (model X.prog X.w) X.A (f (.int i t) (.int j u)) Q E s) :
  OpR X f (rI0 fun i j => .bl (g i j)) := by
 intro pins s σ H x y v u Q I rx ry h
 obtain ⟨i, j, rfl, rfl, q⟩ := h
 obtain ⟨t, rfl⟩ := rx
 obtain ⟨t', rfl⟩ := ry
 exact rule i j t t' s _ _ ⟨.bl (g i j), H, I, rfl, q⟩
theorem op_add : OpR X (binaryOp .Add) (rI0 fun i j => .int (i + j)) := opI0 fun _ _ _ _ _ _ _ q => add_int q
theorem op_sub : OpR X (binaryOp .Sub) (rI0 fun i j => .int (i - j)) := opI0 fun _ _ _ _ _ _ _ q => sub_int q
theorem op_modN : OpR X (binaryOp .Mod) (rI (fun _ j => j ≠ 0) fun i j => .int (i.fmod j)) := opI fun _ _ _ _ _ _ _ hc q => mod_int' hc q
theorem unI {f : Value -> Sem Value} {g : Int -> Int}
  (rule : ∀ (i : Int) (t : Tok) (s : Shared) (Q : Value -> Shared -> Prop) (E : Value -> Shared -> Prop), Q (.int (g i) s.toks) { s with toks := s.toks + 1 } -> wpAny (model X.prog X.w) X.A (f (.int i t)) Q E s) :
  UnR X f (rU fun i => .int (g i)) := by
 intro pins s σ H x v Q I rx h
 obtain ⟨i, rfl, q⟩ := h
 obtain ⟨t, rfl⟩ := rx
 exact rule i t s _ _ ⟨.int (g i), H, I.tok _, ⟨_, rfl⟩, q⟩
theorem un_neg : UnR X (unaryOp .USub) (rU fun i => .int (-i)) := unI fun _ _ _ _ _ q => neg_int q
end
section
variable {X : Cx} {a b c : Expr} {ta tb tc : TE} {pos : Pos}
theorem op_lt : OpR X (compareOp .Lt) (rI0 fun i j => .bl (decide (i < j))) := opB0 fun _ _ _ _ _ _ _ q => lt_int q
theorem op_le : OpR X (compareOp .LtE) (rI0 fun i j => .bl (decide (i <= j))) := opB0 fun _ _ _ _ _ _ _ q => le_int q
theorem op_gt : OpR X (compareOp .Gt) (rI0 fun i j => .bl (decide (j < i))) := opB0 fun _ _ _ _ _ _ _ q => gt_int q
theorem op_ge : OpR X (compareOp .GtE) (rI0 fun i j => .bl (decide (j <= i))) := opB0 fun _ _ _ _ _ _ _ q => ge_int q
theorem OpR.or {f : Value -> Value -> Sem Value} {r r' : R2} (h : OpR X f r) (h' : OpR X f r') : OpR X f (fun x y H Q => r x y H Q \/ r' x y H Q) := by
 intro pins s σ H x y v u Q I rx ry q
 rcases q with q | q
 ·exact h pins s σ H x y v u Q I rx ry q
 ·exact h' pins s σ H x y v u Q I rx ry q
theorem Zz (b : Expr) {op : CmpOp} (h : op ≠ .In := by decide) (h2 : op ≠ .NotIn := by decide) : behindInMarks op b = false := by
 have e1 : (op == CmpOp.In) = false := by cases op <;> first | rfl | exact absurd rfl h
 have e2 : (op == CmpOp.NotIn) = false := by cases op <;> first | rfl | exact absurd rfl h2
 cases b <;> simp [behindInMarks, e1, e2]
theorem pe_cmpR {op : CmpOp} {r : R2} (ho : OpR X (compareOp op) r) (ha : PE X a ta) (hb : PE X b tb) (hm : behindInMarks op b = false) : PE X (.Compare a [op] [b] pos) (tOp r ta tb) := by
 intro pins s σ H Q I h
 exact wpAny_Compare1 (binT ha hb I h fun v u s2 x y H2 I2 rx ry q => ho pins s2 σ H2 x y v u Q I2 rx ry q) hm
def tTest (t : TE) : TT := fun σ H Q => t σ H fun x H' => ∃ k, x = .bl k /\ Q k H'
theorem pt_cmpR {op : CmpOp} {r : R2} (ho : OpR X (compareOp op) r) (ha : PE X a ta) (hb : PE X b tb) (hm : behindInMarks op b = false) : PT X (.Compare a [op] [b] pos) (tTest (tOp r ta tb)) := by
 intro pins s σ H Q I h
 refine wpAny_isTrue_Compare1 (thn (ha pins s σ H _ I h) fun v s1 ⟨x, H1, I1, r1, q1⟩ => thn (hb pins s1 σ H1 _ I1 q1) fun u s2 ⟨y, H2, I2, r2, q2⟩ =>
  thn (ho pins s2 σ H2 x y v u _ I2 r1 r2 q2) fun c s3 ⟨z, H3, I3, r3, k, e, q3⟩ => ?_) hm
 subst e
 cases r3
 exact wpAny_truthy_bool ⟨H3, I3, q3⟩
def TruV (K : PySem.W.Frag) (x : V) (H : Hp) (k : Bool) : Prop :=
 match x with
 | .non => k = false
 | .bl b => k = b
 | .int i => k = (i != 0)
 | .str y => y.length <= sizeLine /\ k = ((y.length : Int) != 0)
 | .byt y => y.size <= sizeLine /\ k = ((y.size : Int) != 0)
 | .ref p => (∃ xs, SqL K H p xs /\ k = !xs.isEmpty) \/ (∃ xs, SqT K H p xs /\ k = !xs.isEmpty) \/ ∃ kvs, H p = some (.dK kvs) /\ k = !kvs.isEmpty
 | _ => False
theorem zdl {κ : Type} {kvs : List (κ × V)} {vs : List (κ × Value)} (r : KV kvs vs) : (!vs.isEmpty) = !kvs.isEmpty := by
 cases r <;> rfl
theorem Jp {xs : List V} {its : List Value} (r : Vals xs its) : (!its.toArray.isEmpty) = !xs.isEmpty := by
 cases r <;> simp
theorem zaI : (sizeLine : Nat) < 2 ^ 63 := by rw [sizeLine_eq]; decide
theorem tru_ok : TruR X (fun x H Q => ∃ k, TruV X.K x H k /\ Q k H) := by
 intro pins s σ H x v Q I rx h
 obtain ⟨k, e, q⟩ := h
 have hl := zaI
 have hs : sizeLine = 16777216 := sizeLine_eq
 cases x with
 | non =>
  cases rx
  have e' : k = false := e
  subst e'
  exact truthy_none ⟨H, I, q⟩
 | bl b =>
  cases rx
  have e' : k = b := e
  subst e'
  exact wpAny_truthy_bool ⟨H, I, q⟩
 | int i =>
  obtain ⟨t, rfl⟩ := rx
  have e' : k = (i != 0) := e
  subst e'
  exact PySem.P.truthy_int ⟨H, I, q⟩
 | str y =>
  obtain ⟨t, rfl⟩ := rx
  obtain ⟨hy, e'⟩ : y.length <= sizeLine /\ k = ((y.length : Int) != 0) := e
  subst e'
  exact PySem.P.truthy_str (by omega) ⟨H, I.tok _, q⟩
 | byt y =>
  obtain ⟨t, rfl⟩ := rx
  obtain ⟨hy, e'⟩ : y.size <= sizeLine /\ k = ((y.size : Int) != 0) := e
  subst e'
  exact PySem.W.truthy_bytes (by omega) ⟨H, I.tok _, q⟩
 | ref p =>
  cases rx
  have e' : (∃ xs, SqL X.K H p xs /\ k = !xs.isEmpty) \/ (∃ xs, SqT X.K H p xs /\ k = !xs.isEmpty) \/ ∃ kvs, H p = some (.dK kvs) /\ k = !kvs.isEmpty := e
  rcases e' with ⟨xs, hx, e'⟩ | ⟨xs, hx, e'⟩ | ⟨kvs, hx, e'⟩
  ·subst e'
   obtain ⟨its, r, pl, hz⟩ := I.list hx
   have hlen := r.length
   exact wpAny_truthy_list pl.isList (by simp only [List.size_toArray]; omega) ⟨H, I.tok _, by rw [Jp r]; exact q⟩
  ·subst e'
   obtain ⟨its, r, pl, hz⟩ := I.tuple hx
   have hlen := r.length
   exact truthy_tuple pl (by simp only [List.size_toArray]; omega) ⟨H, I.tok _, by rw [Jp r]; exact q⟩
  ·subst e'
   obtain ⟨hz, hS, vs, r, m⟩ : kvs.length <= sizeLine /\ (p == sysModules) = false /\ ∃ vs, KV kvs vs /\ s.heap.DictOf (YG X.prog X.w) p vs := I.hok p _ hx
   have hlen : kvs.length = vs.length := Paired.length r
   exact wpAny_truthy_dict hS m (by omega) ⟨H, I.tok _, by rw [zdl r]; exact q⟩
 | _ => exact (show False from e).elim
theorem pt_truth (ha : PE X a ta) (he : ∀ whole, isTrue a X.env whole = (do let v <- whole; standAt a.pos; holding [v] (truthy v))) :
  PT X a (fun σ H Q => ta σ H fun x H' => ∃ k, TruV X.K x H' k /\ Q k H') := by
 intro pins s σ H Q I h
 exact isTrue_plain (thn (ha pins s σ H _ I h) fun v s1 ⟨x, H1, I1, r1, q1⟩ => tru_ok pins s1 σ H1 x v Q I1 r1 q1) (he _)
theorem UR {x : V} {us : List Value} (r : Vals [x] us) : ∃ u, us = [u] /\ RelV x u := by
 cases r with
 | cons r1 r2 => cases r2; exact ⟨_, rfl, r1⟩
theorem vals2 {x y : V} {us : List Value} (r : Vals [x, y] us) : ∃ u w', us = [u, w'] /\ RelV x u /\ RelV y w' := by
 cases r with
 | cons r1 r2 =>
  cases r2 with
  | cons r3 r4 => cases r4; exact ⟨_, _, rfl, r1, r3⟩
theorem call_abs : UH X (.builtin "abs") (fun xs H Q => ∃ i, xs = [.int i] /\ Q (.int (if i < 0 then -i else i)) H) := by
 intro pins s σ H xs us Q I r h
 obtain ⟨i, rfl, q⟩ := h
 obtain ⟨u, rfl, t, rfl⟩ := UR r
 exact call_abs_int fun u tk => ⟨.int (if i < 0 then -i else i), H, I.tok _, ⟨_, rfl⟩, q⟩
theorem zfx (hc : X.calm = true) : UH X (.builtin "max") (fun xs H Q => ∃ i j, xs = [.int i, .int j] /\ Q (.int (if j > i then j else i)) H) := by
 intro pins s σ H xs us Q I r h
 obtain ⟨i, j, rfl, q⟩ := h
 obtain ⟨u, w', rfl, ⟨t, rfl⟩, ⟨t', rfl⟩⟩ := vals2 r
 refine max_two_ints (I.ok.hd hc) fun h' tk k => ⟨_, H, I.kept k, ?_, q⟩
 by_cases hj : j > i
 ·rw [if_pos hj, if_pos hj]; exact ⟨_, rfl⟩
 ·rw [if_neg hj, if_neg hj]; exact ⟨_, rfl⟩
end
end L2
namespace L2
open PySem PySem.Spec PyProof.Rows
structure ObjM (h : Heap) (x dx C : Addr) (mA : Str -> Option Value) : Prop where
 obj : h.get? x = some (PySem.W.instObj C dx)
 ns : h.Ns1 dx mA
 ne : dx ≠ x
theorem zeN {h : Heap} {dx : Addr} {mA : Str -> Option Value} (n : h.Ns1 dx mA) : ∃ od, h.get? dx = some od /\ ∀ name, PySem.W.lookIn name od = some (mA name) := by
 obtain ⟨o, es, ep, ho, hd, hk, _, hm⟩ := n
 refine ⟨o, ho, fun name => ?_⟩
 have e := hm name
 unfold nsFind findBy at e
 rw [<- Array.find?_toList] at e
 unfold PySem.W.lookIn
 rw [hd]
 dsimp only
 split
 ·rename_i y q
  rw [q] at e
  exact congrArg some e
 ·rename_i q
  rw [q] at e
  have a : es.toList.any (·.refKey) = false := by
   rw [List.any_eq_false]
   intro y hy
   obtain ⟨z, t, hkey⟩ := hk y (Array.mem_toList_iff.mp hy)
   simp [DictEntry.refKey, hkey]
  have a' : ¬ es.toList.any (·.refKey) = true := by rw [a]; exact Bool.false_ne_true
  rw [if_neg a']
  exact congrArg some e
theorem ObjM.look {h : Heap} {x dx C : Addr} {mA : Str -> Option Value} (I : ObjM h x dx C mA) : ∃ od, PySem.W.InstAt h x (PySem.W.instObj C dx) C (some od) /\ ∀ name, PySem.W.lookIn name od = some (mA name) :=
 let ⟨od, ho, hl⟩ := zeN I.ns
 ⟨od, ⟨I.obj, rfl, rfl, ho⟩, hl⟩
section
variable {prog : Program} {w : World} {A : Around} {E : Value -> Shared -> Prop} {s : Shared} {K : PySem.W.Frag} {x dx C f : Addr} {mA : Str -> Option Value} {name : Str} {v : Value}
theorem get_map {expr : Bool} {Q : Value -> Shared -> Prop} (X : K.In s.heap) (I : ObjM s.heap x dx C mA) (hg : PySem.W.plainGet K C name = true) (hh : PySem.W.hasDictIn K C = true)
  (ha : PySem.W.findIn K (.ref C) name = some none) (hv : mA name = some v) (hv' : PySem.W.handedIn v = true) (h : Q v { s with toks := s.toks + 1 }) :
  wpAny (model prog w) A (getAttr (.ref x) name expr) Q E s := by
 obtain ⟨od, J, hl⟩ := I.look
 exact PySem.W.get_value X J (PySem.W.plainGet_of hg).1 (PySem.W.findObj_own hh ha rfl (by rw [hl, hv])) hv' h
theorem set_map {ns : List Str} {Q : Unit -> Shared -> Prop} (X : K.In s.heap) (I : ObjM s.heap x dx C mA)
  (hs : PySem.W.findIn K (.ref C) "__setattr__" = some (some (.builtin "object.__setattr__"))) (hp : PySem.W.plainOver K C = true) (ht : PySem.W.takerIn K C name = some none) (hh : PySem.W.hasDictIn K C = true)
  (hw : PySem.Within mA ns) (hsz : ns.length <= sizeLine)
  (h : ∀ h', ObjM h' x dx C (fun y => if y = name then some v else mA y) -> Heap.SameBut dx s.heap h' -> Q () { s with heap := h', toks := s.toks + 2 }) :
  wpAny (model prog w) A (setAttr (.ref x) name v) Q E s := by
 obtain ⟨od, J, hl⟩ := I.look
 refine PySem.W.set_plain X J hs (PySem.W.osa_open (s := { s with toks := s.toks + 1 }) (r := none) X J hp ht fun b => ?_)
 obtain ⟨cd, hc, hd'⟩ := PySem.W.any_some hh
 have hx : s.heap.get? x = some ⟨.ref C, some dx, .plain, #[]⟩ := I.obj
 refine wpAny_bind (wpAny_pure (wpAny_bind (wpAny_bind (wpAny_loadPart hx (wpAny_bind (PySem.W.Looks.here (s := { s with toks := s.toks + 1 }) (PySem.W.looks_clsIn X hc) ?_))))))
 rw [hd']
 refine wpAny_pure (a := some dx) (wpAny_bind (wpAny_pure (wpAny_bind ?_)))
 refine wpAny_nsSet1 (s := { s with toks := s.toks + 1 }) I.ns fun h' hn2 hs2 => ?_
 obtain ⟨oD, esD, epD, hoD, hdD, hcD⟩ := hn2.count (PySem.Within.cons name v hw)
 refine wpAny_bind (wpAny_lookBehind hoD (by rw [hdD]; exact pastItsLine_dict (Nat.le_trans hcD (by rw [List.length_cons]; omega))) ?_)
 exact wpAny_pure (h _ ⟨(hs2.2 _ (Ne.symm I.ne)).trans I.obj, hn2, I.ne⟩ hs2)
theorem make_map {R : Result -> Shared -> Prop} {vs : List Value} {kw : List (Str × Value)} (X : K.In s.heap) (hm : PySem.W.makesIn K C = true)
  (hi : PySem.W.findIn K (.ref C) "__init__" = some (some (.ref f))) (hf : PySem.W.typeIn K (.ref f) = some (.type "function"))
  (h : codeAny (model prog w) (A.under (.builtin "type.__call__" ⟨.ref C :: vs, kw⟩)) (.call (.ref f) ⟨.ref (s.heap.objs.size + 1) :: vs, kw⟩) (PySem.W.InitBack (s.heap.objs.size + 1) R)
   { s with heap := (s.heap.push PySem.W.emptyDict).push (PySem.W.instObj C s.heap.objs.size) }) :
  codeAny (model prog w) A (.call (.ref C) ⟨vs, kw⟩) R s := by
 obtain ⟨hh, g, d, t, os⟩ := s
 exact PySem.W.make_core (PySem.W.makes_of X hm) (PySem.W.looks_findIn X hi) (fun self => PySem.W.bind_fn X self hf) (.inl rfl) h
end
def putF (f : Str) (v : V) : List (Str × V) -> List (Str × V)
 | [] => [(f, v)]
 | (g, x) :: r => if g = f then (g, v) :: r else (g, x) :: putF f v r
theorem U9 (f g : Str) (v : V) : ∀ fs : List (Str × V), (putF f v fs).lookup g = if g = f then some v else fs.lookup g
 | [] => by
  show List.lookup g [(f, v)] = _
  by_cases h : g = f
  ·have hb : (g == f) = true := beq_iff_eq.mpr h
   simp only [List.lookup, hb, if_pos h]
  ·have hb : (g == f) = false := beq_eq_false_iff_ne.mpr h
   simp only [List.lookup, hb, if_neg h]
 | (k, x) :: r => by
  have ih := U9 f g v r
  rw [show putF f v ((k, x) :: r) = (if k = f then (k, v) :: r else (k, x) :: putF f v r) from rfl]
  by_cases hk : k = f
  ·rw [if_pos hk]
   by_cases h : g = k
   ·have hb : (g == k) = true := beq_iff_eq.mpr h
    simp only [List.lookup, hb, if_pos (h.trans hk)]
   ·have hb : (g == k) = false := beq_eq_false_iff_ne.mpr h
    simp only [List.lookup, hb, if_neg (fun e : g = f => h (e.trans hk.symm))]
  ·rw [if_neg hk]
   by_cases h : g = k
   ·have hb : (g == k) = true := beq_iff_eq.mpr h
    simp only [List.lookup, hb, if_neg (fun e : g = f => hk (h.symm.trans e))]
   ·have hb : (g == k) = false := beq_eq_false_iff_ne.mpr h
    simp only [List.lookup, hb]
    exact ih
theorem Qc (f : Str) (v : V) : ∀ fs : List (Str × V), f ∈ (putF f v fs).map (·.1) /\ ∀ g, g ∈ fs.map (·.1) -> g ∈ (putF f v fs).map (·.1)
 | [] => ⟨by simp [putF], fun g h => by simp at h⟩
 | (k, x) :: r => by
  obtain ⟨i1, i2⟩ := Qc f v r
  rw [show putF f v ((k, x) :: r) = (if k = f then (k, v) :: r else (k, x) :: putF f v r) from rfl]
  by_cases hk : k = f
  ·rw [if_pos hk]
   subst hk
   exact ⟨by simp, fun g h => by simpa using h⟩
  ·rw [if_neg hk]
   refine ⟨?_, fun g h => ?_⟩
   ·rw [List.map_cons]
    exact List.mem_cons_of_mem _ i1
   ·rw [List.map_cons] at h ⊢
    rcases List.mem_cons.mp h with e | e
    ·exact List.mem_cons.mpr (.inl e)
    ·exact List.mem_cons_of_mem _ (i2 g e)
theorem Qb (f : Str) (v : V) : ∀ fs : List (Str × V), (putF f v fs).length <= fs.length + 1
 | [] => by simp [putF]
 | (k, x) :: r => by
  have ih := Qb f v r
  rw [show putF f v ((k, x) :: r) = (if k = f then (k, v) :: r else (k, x) :: putF f v r) from rfl]
  by_cases hk : k = f
  ·rw [if_pos hk, List.length_cons, List.length_cons]; omega
  ·rw [if_neg hk, List.length_cons, List.length_cons]; omega
theorem RelO.some_of {v : V} {o : Option Value} (r : RelO (some v) o) : ∃ u, o = some u /\ RelV v u := by
 cases o with
 | none => exact (show False from r).elim
 | some u => exact ⟨u, rfl, r⟩
theorem ze3 {v : V} {u : Value} (r : RelV v u) : PySem.W.handedIn u = true := by
 cases v with
 | non => cases (show u = Value.none from r); rfl
 | bl b => cases (show u = Value.bool b from r); rfl
 | int i => obtain ⟨t, e⟩ := (show ∃ t, u = Value.int i t from r); cases e; rfl
 | str x => obtain ⟨t, e⟩ := (show ∃ t, u = Value.str x t from r); cases e; rfl
 | byt b => obtain ⟨t, e⟩ := (show ∃ t, u = Value.bytes b t from r); cases e; rfl
 | flt b => obtain ⟨t, e⟩ := (show ∃ t, u = Value.float b t from r); cases e; rfl
 | ref a => cases (show u = Value.ref a from r); rfl
 | ty n => cases (show u = Value.type n from r); rfl
section
variable {P : Program} {w : World} {H H' : Hp} {h h' : Heap} {a C dx : Addr} {fs fs' : List (Str × V)}
theorem ze0 (hok : HOk P w H h) (e : H a = some (.ins C dx fs)) : ∃ mA, ObjM h a dx C mA /\ (∀ f, RelO (fs.lookup f) (mA f)) /\ PySem.Within mA (fs.map (·.1)) /\ fs.length <= 1000 /\ H dx = some (.own a) := by
 obtain ⟨d, z, ne, ob, mA, n, r, q⟩ := (show Y6 P w H h a (.ins C dx fs) from hok a _ e)
 exact ⟨mA, ⟨ob, n, ne⟩, r, q, z, d⟩
end
structure Cls (K : PySem.W.Frag) (C : Addr) : Prop where
 pg : PySem.W.plainGet K C Str.empty = true
 hd : PySem.W.hasDictIn K C = true
 po : PySem.W.plainOver K C = true
 sa : PySem.W.findIn K (.ref C) "__setattr__" = some (some (.builtin "object.__setattr__"))
theorem Cls.get {K : PySem.W.Frag} {C : Addr} (c : Cls K C) (f : Str) : PySem.W.plainGet K C f = true := c.pg
def X5 (K : PySem.W.Frag) (C : Addr) (f : Str) : Prop := PySem.W.findIn K (.ref C) f = some none
theorem X5.taker {K : PySem.W.Frag} {C : Addr} {f : Str} (n : X5 K C f) : PySem.W.takerIn K C f = some none := by
 unfold PySem.W.takerIn
 rw [show PySem.W.findIn K (.ref C) f = some none from n]
 rfl
section
variable {X : Cx} {pins : List (Addr × Obj)} {σ : St} {H : Hp} {s : Shared} {a C dx : Addr} {fs : List (Str × V)} {f : Str} {v : V} {A : Around} {E : Value -> Shared -> Prop}
theorem zdp {b : Bool} {Q : Value -> Shared -> Prop} (I : Inv X pins σ H s) (e : H a = some (.ins C dx fs)) (c : Cls X.K C) (n : X5 X.K C f) (l : fs.lookup f = some v)
  (h : ∀ u s', Inv X pins σ H s' -> RelV v u -> Q u s') : wpAny (model X.prog X.w) A (getAttr (.ref a) f b) Q E s := by
 obtain ⟨mA, O, r, _, _, _⟩ := ze0 I.hok e
 obtain ⟨u, hu, ru⟩ := RelO.some_of (v := v) (o := mA f) (by rw [<- l]; exact r f)
 exact get_map I.kIn O (c.get f) c.hd n hu (ze3 ru) (h u _ (I.tok _) ru)
theorem zc1 {y : V} {u : Value} {Q : Unit -> Shared -> Prop} (I : Inv X pins σ H s) (e : H a = some (.ins C dx fs)) (c : Cls X.K C) (n : X5 X.K C f) (hl : fs.length < 1000) (ry : RelV y u)
  (h : ∀ s', Inv X pins σ (upd H a (.ins C dx (putF f y fs))) s' -> Q () s') : wpAny (model X.prog X.w) A (setAttr (.ref a) f u) Q E s := by
 obtain ⟨mA, O, r, wi, _, ho⟩ := ze0 I.hok e
 have hz : (fs.map (·.1)).length <= sizeLine := by rw [List.length_map, sizeLine_eq]; omega
 refine set_map I.kIn O c.sa c.po n.taker c.hd wi hz fun h' O' sb => h _ ?_
 have hd : ∃ o, h'.get? dx = some o := let ⟨o, _, _, e', _⟩ := O'.ns; ⟨o, e'⟩
 refine I.write (x := a) (e := dx) (by rw [e]; exact True.intro) (.inr ho) (fun b q hb z => (sb.2 b hb).trans z) hd ?_
 refine ⟨by rw [Zn O.ne]; exact ho, ?_, O.ne, O'.obj, _, O'.ns, fun g => ?_, fun g hg => ?_⟩
 ·have := Qb f y fs; omega
 ·show RelO ((putF f y fs).lookup g) (if g = f then some u else mA g)
  rw [U9]
  by_cases q : g = f
  ·rw [if_pos q, if_pos q]; exact ry
  ·rw [if_neg q, if_neg q]; exact r g
 ·by_cases q : g = f
  ·rw [q]; exact (Qc f y fs).1
  ·refine (Qc f y fs).2 g (wi g fun z => hg ?_)
   show (if g = f then some u else mA g) = none
   rw [if_neg q]; exact z
theorem Inv.made (I : Inv X pins σ H s) : Inv X pins σ (upd (upd H s.heap.objs.size (.own (s.heap.objs.size + 1))) (s.heap.objs.size + 1) (.ins C s.heap.objs.size []))
  { s with heap := (s.heap.push PySem.W.emptyDict).push (PySem.W.instObj C s.heap.objs.size) } := by
 have e1 : (s.heap.push PySem.W.emptyDict).get? s.heap.objs.size = some PySem.W.emptyDict := Heap.get?_push_size s.heap rfl
 have e2 : ((s.heap.push PySem.W.emptyDict).push (PySem.W.instObj C s.heap.objs.size)).get? (s.heap.objs.size + 1) = some (PySem.W.instObj C s.heap.objs.size) := by
  have := Heap.get?_push_size (s.heap.push PySem.W.emptyDict) (o := PySem.W.instObj C s.heap.objs.size) rfl
  rwa [Heap.size_push] at this
 have e3 : (s.heap.push PySem.W.emptyDict).Ns s.heap.objs.size (fun _ => none) := ⟨PySem.W.emptyDict, #[], _, e1, rfl, (fun e he => absurd he (by simp)), fun _ => rfl⟩
 have I1 := I.laid (a := s.heap.objs.size) (o := .own (s.heap.objs.size + 1)) (h' := s.heap.push PySem.W.emptyDict) (t' := s.toks) (fun b u q => Heap.get?_push_of_some _ q) (Nat.le_refl _) ⟨_, e1⟩
 refine I1.laid (a := s.heap.objs.size + 1) (o := .ins C s.heap.objs.size []) (t' := s.toks) (fun b u q => Heap.get?_push_of_some _ q) (Nat.le_of_eq (Heap.size_push _ _)) ?_
 have ne : s.heap.objs.size ≠ s.heap.objs.size + 1 := Nat.ne_of_lt (Nat.lt_succ_self _)
 refine ⟨by rw [Zn ne, Zp], Nat.zero_le _, ne, e2, fun _ => none, (Heap.Ns1.of_empty e3).at fun o q => Heap.get?_push_of_some _ q, fun _ => True.intro, fun y hy => absurd rfl hy⟩
theorem attr_of {prog : Program} {w : World} {env : Env} {e : Expr} {f : Str} {pos : Pos} {s : Shared} {Q : Value -> Shared -> Prop} (hb : attributeBase e f env (eval e env) = eval e env)
  (h : wpAny (model prog w) A (eval e env) (fun o s₁ => wpAny (model prog w) A (getAttr o f true) Q E s₁) E s) : wpAny (model prog w) A (eval (.Attribute e f pos) env) Q E s :=
 Attribute_any_ h (by rw [arm_eval_Attribute, hb])
end
def tFld (K : PySem.W.Frag) (ta : TE) (f : Str) : TE := fun σ H Q => ta σ H fun x H1 => ∃ a C dx fs v, x = .ref a /\ H1 a = some (.ins C dx fs) /\ Cls K C /\ X5 K C f /\ fs.lookup f = some v /\ Q v H1
def sFld (K : PySem.W.Frag) (ta tv : TE) (f : Str) : TS := fun D σ H => tv σ H fun y H1 => ta σ H1 fun x H2 => ∃ a C dx fs, x = .ref a /\ H2 a = some (.ins C dx fs) /\ Cls K C /\ X5 K C f /\ fs.length < 1000 /\
 D.nx σ (upd H2 a (.ins C dx (putF f y fs)))
section
variable {X : Cx} {o e value : Expr} {f : Str} {pos pos' tpos : Pos} {ta tv : TE}
theorem pe_fld (he : PE X e ta) (hb : attributeBase e f X.env (eval e X.env) = eval e X.env) : PE X (.Attribute e f pos) (tFld X.K ta f) := by
 intro pins s σ H Q I h
 refine attr_of hb (thn (he pins s σ H _ I h) fun u s1 ⟨x, H1, I1, rx, a, C, dx, fs, v, ex, ea, c, n, l, q⟩ => ?_)
 subst ex
 obtain rfl : u = Value.ref a := rx
 exact zdp I1 ea c n l fun u' s2 I2 ru => ⟨v, H1, I2, ru, q⟩
theorem zem (ha : PE X o ta) (hv : PE X value tv) (hs : swapsWith value (some (.Attribute o f pos')) pos.line X.env = pure false) : PS X (.Assign [.Attribute o f pos'] value pos) (sFld X.K ta tv f) := by
 intro pins s σ H D I h
 refine plainObj_wpAny_Assign_Attribute (thn (hv pins s σ H _ I h) fun u s1 ⟨y, H1, I1, ry, q⟩ => thn (ha pins s1 σ H1 _ I1 q) fun ov s2 ⟨x, H2, I2, rx, a, C, dx, fs, ex, ea, c, n, l, q2⟩ => ?_) hs
 subst ex
 obtain rfl : ov = Value.ref a := rx
 exact zc1 I2 ea c n l ry fun s3 I3 => ⟨σ, _, I3, q2⟩
end
section
variable {X : Cx} {pins : List (Addr × Obj)} {σ : St} {H : Hp} {s : Shared} {A : Around} {E : Value -> Shared -> Prop} {Q : Value -> Shared -> Prop} {c : Value} {b : Bool}
end
end L2
namespace L2
open PySem PySem.Spec PyProof.Rows
structure Room (k : Nat) (A : Around) : Prop where
 hd : A.handled = none
 dp : A.depth + 3 * k + 5 < recursionLimit
 un : A.units + 16 * k + 200 < cLine
theorem Room.mono {j k : Nat} {A : Around} (r : Room k A) (h : j <= k) : Room j A := ⟨r.hd, by have := r.dp; omega, by have := r.un; omega⟩
theorem Room.deeper {k : Nat} {A : Around} (r : Room (k + 1) A) (env : Env) : Room k (A.deeper env) :=
 ⟨r.hd, by have := r.dp; show A.depth + 1 + 3 * k + 5 < _; omega, by have := r.un; show A.units + 3 + 16 * k + 200 < _; omega⟩
theorem Room.in1 {k : Nat} {A : Around} (r : Room (k + 1) A) : Room k A.in1 :=
 ⟨r.hd, by have := r.dp; show A.depth + 3 * k + 5 < _; omega, by have := r.un; show A.units + 1 + 16 * k + 200 < _; omega⟩
theorem zdj {A : Around} {C : Addr} {us : List Value} {kw : List (Str × Value)} : (A.under (.builtin "type.__call__" ⟨.ref C :: us, kw⟩)).depth = A.depth + 1 := by
 first | rfl | simp [Around.under, Code.weight, Code.isCreation, Code.isGuard, Code.isCaller, Code.frames, Code.isFrame, guardIds]
theorem zdi {A : Around} {C : Addr} {us : List Value} {kw : List (Str × Value)} : (A.under (.builtin "type.__call__" ⟨.ref C :: us, kw⟩)).units = A.units + 1 := by
 first | rfl | simp [Around.under, Code.cUnits, Code.frames, Code.isFrame]
theorem Room.make {k : Nat} {A : Around} (r : Room (k + 1) A) (C : Addr) (us : List Value) (kw : List (Str × Value)) : Room k (A.under (.builtin "type.__call__" ⟨.ref C :: us, kw⟩)) :=
 ⟨r.hd, by have := r.dp; rw [zdj]; omega, by have := r.un; rw [zdi]; omega⟩
theorem Room.depth {k : Nat} {A : Around} (r : Room k A) : A.depth < recursionLimit := by have := r.dp; omega
theorem Room.units {k : Nat} {A : Around} (r : Room k A) : A.units + 64 < cLine := by have := r.un; omega
def tNil : TA := fun _ H Q => Q [] H
def zd0 (ta : TE) (tr : TA) : TA := fun σ H Q => ta σ H fun x H1 => tr σ H1 fun xs H2 => Q (x :: xs) H2
section
variable {X : Cx} {e : Expr} {es : List Expr} {te : TE} {t : TA} {pos : Pos}
theorem YX : PA X [] tNil := fun _ _ _ _ H Q I h => Calls.spliced_nil ⟨[], H, I, .nil, h⟩
theorem ZV (ha : PE X e te) (hr : PA X es t) (hs : starEach (e :: es) X.env = (false, eval e X.env) :: starEach es X.env := by rfl) : PA X (e :: es) (zd0 te t) := by
 intro pos pins s σ H Q I h
 rw [hs]
 show wpAny _ _ (spliced ((false, eval e X.env) :: backTo pos (starEach es X.env))) _ _ s
 refine Calls.spliced_cons (thn (ha pins s σ H _ I h) fun u s1 ⟨x, H1, I1, r1, q1⟩ => ?_)
 exact thn (hr pos pins s1 σ H1 _ I1 q1) fun us s2 ⟨xs, H2, I2, r2, q2⟩ => ⟨x :: xs, H2, I2, .cons r1 r2, q2⟩
def tTup (t : TA) : TE := fun σ H Q => t σ H fun xs H1 => xs.length <= sizeLine /\ ∀ p, H1 p = none -> Q (.ref p) (upd H1 p (.tup xs))
def tLst (t : TA) : TE := fun σ H Q => t σ H fun xs H1 => xs.length <= sizeLine /\ ∀ p, H1 p = none -> Q (.ref p) (upd H1 p (.lst xs))
theorem pe_tup {x1} (h : PA X es t) : PE X (.Tuple es x1 pos) (tTup t) := by
 intro pins s σ H Q I hq
 refine wpAny_Tuple_spliced (thn (h pos pins s σ H _ I hq) fun us s1 ⟨xs, H1, I1, r, z, q⟩ => ⟨by rw [<- r.length]; exact z, ?_⟩)
 have hf : H1 s1.heap.objs.size = none := I1.hok.fresh (Nat.le_refl _)
 refine ⟨.ref s1.heap.objs.size, upd H1 s1.heap.objs.size (.tup xs), I1.laid (t' := s1.toks) (fun b u e => Heap.get?_push_of_some _ e) (Nat.le_refl _) ?_, rfl, q _ hf⟩
 exact ⟨z, us, r, ⟨_, Heap.get?_push_size _ rfl, rfl, _, rfl⟩⟩
theorem pe_lst (h : PA X es t) : PE X (.List es pos) (tLst t) := by
 intro pins s σ H Q I hq
 refine wpAny_List_spliced (thn (h pos pins s σ H _ I hq) fun us s1 ⟨xs, H1, I1, r, z, q⟩ => ⟨by rw [<- r.length]; exact z, ?_⟩)
 have hf : H1 s1.heap.objs.size = none := I1.hok.fresh (Nat.le_refl _)
 refine ⟨.ref s1.heap.objs.size, upd H1 s1.heap.objs.size (.lst xs), I1.laid (t' := s1.toks) (fun b u e => Heap.get?_push_of_some _ e) (Nat.le_refl _) ?_, rfl, q _ hf⟩
 exact ⟨z, us, 0, r, Heap.get?_push_size _ rfl⟩
end
abbrev Sp := List V -> Hp -> VK -> XK -> Prop
abbrev CXT := List Env -> Hp -> Shared -> XK -> Value -> Shared -> Prop
structure Env0 (P : Program) (w : World) (K : PySem.W.Frag) (mg : Str -> Option Value) (base : Heap) (A : Around) (outer : List Env) (s : Shared) (H : Hp) : Prop where
 frames : A.frames = some outer
 mod : Mod K mg base
 bs : ∀ b o, base.get? b = some o -> s.heap.get? b = some o /\ H b = none
 bsz : base.objs.size <= s.heap.objs.size
 funs : s.heap.FunFrames base outer
 frf : ∀ b ∈ frs outer, H b = none
 hok : HOk P w H s.heap
 bare : AllBare s.gens
def CE (outer : List Env) (P : Program) (w : World) (H : Hp) (s : Shared) (Q : VK) (u : Value) (s' : Shared) : Prop :=
 ∃ v H', s'.os = s.os /\ AllBare s'.gens /\ Un (frs outer) [] H H' s.heap s'.heap /\ HOk P w H' s'.heap /\ RelV v u /\ Q v H'
def CR (CX : CXT) (outer : List Env) (P : Program) (w : World) (H : Hp) (s : Shared) (Q : VK) (E : XK) (r : Result) (s' : Shared) : Prop :=
 match r with
 | .ok (.ret u) => CE outer P w H s Q u s'
 | .ok _ => False
 | .error e => CX outer H s E e s'
structure FnOk (P : Program) (w : World) (K : PySem.W.Frag) (mg : Str -> Option Value) (base : Heap) (CX : CXT) (k : Nat) (f : Addr) (fd : FuncData) (ps : List Str) (sp : Sp) : Prop where
 len : ∀ vs H Q E, sp vs H Q E -> vs.length = ps.length
 run : ∀ (A : Around) (outer : List Env) (s : Shared) (H : Hp) (args : Args) (us : List Value) (vs : List V) (Q : VK) (E : XK), Room k A -> Env0 P w K mg base A outer s H -> BindsTo s fd args (ps.zip us) -> Vals vs us -> sp vs H Q E ->
  codeAny (model P w) A (.call (.ref f) args) (CR CX outer P w H s Q E) s
theorem FnOk.mono {P : Program} {w : World} {K : PySem.W.Frag} {mg : Str -> Option Value} {base : Heap} {CX : CXT} {j k : Nat} {f : Addr} {fd : FuncData} {ps : List Str} {sp : Sp} (F : FnOk P w K mg base CX j f fd ps sp) (h : j <= k) :
  FnOk P w K mg base CX k f fd ps sp := ⟨F.len, fun A outer s H args us vs Q E hr => F.run A outer s H args us vs Q E (hr.mono h)⟩
theorem FnOk.imp {P : Program} {w : World} {K : PySem.W.Frag} {mg : Str -> Option Value} {base : Heap} {CX : CXT} {k : Nat} {f : Addr} {fd : FuncData} {ps : List Str} {sp sp' : Sp} (F : FnOk P w K mg base CX k f fd ps sp)
  (h : ∀ vs H Q E, sp' vs H Q E -> sp vs H Q E) : FnOk P w K mg base CX k f fd ps sp' :=
 ⟨fun vs H Q E q => F.len vs H Q E (h _ _ _ _ q), fun A outer s H args us vs Q E hr he hb hv hs => F.run A outer s H args us vs Q E hr he hb hv (h _ _ _ _ hs)⟩
theorem Env0.make {P : Program} {w : World} {K : PySem.W.Frag} {mg : Str -> Option Value} {base : Heap} {A : Around} {outer : List Env} {s : Shared} {H : Hp} (e : Env0 P w K mg base A outer s H) (C : Addr) (us : List Value) (kw : List (Str × Value)) :
  Env0 P w K mg base (A.under (.builtin "type.__call__" ⟨.ref C :: us, kw⟩)) outer s H := ⟨by first | exact e.frames | (simpa [Around.under, Code.envs, Code.isFrame, pushEnvs] using e.frames), e.mod, e.bs, e.bsz, e.funs, e.frf, e.hok, e.bare⟩
section
variable {X : Cx} {pins : List (Addr × Obj)} {σ : St} {H : Hp} {s s' : Shared}
theorem Inv.env0 (I : Inv X pins σ H s) : Env0 X.prog X.w X.K X.mg X.base X.A X.stack s H :=
 ⟨I.ok.frames, I.ok.mod, I.bs, Nat.le_trans I.ok.bsz I.sz, I.stack, I.stkFree, I.hok, I.bare⟩
theorem Inv.after {Q : VK} {u : Value} (I : Inv X pins σ H s) (h : CE X.stack X.prog X.w H s Q u s') : EP X pins σ Q u s' := by
 obtain ⟨v, H', os, bare, un, hok, r, q⟩ := h
 obtain ⟨hh, g, d, t, os'⟩ := s'
 obtain rfl : os' = s.os := os
 exact ⟨v, H', I.call (h' := hh) (g' := g) (d' := d) (t' := t) (ch := []) un hok bare (fun b z => absurd z (by simp)), r, q⟩
end
def tCall (sp : Sp) (dvs : List V) (E : XK) (t : TA) : TE := fun σ H Q => t σ H fun vs H1 => sp (vs ++ dvs) H1 Q E
def tMake (C : Addr) (sp : Sp) (dvs : List V) (E : XK) (t : TA) : TE := fun σ H Q => t σ H fun vs H1 => ∀ x dx, H1 x = none -> H1 dx = none -> dx ≠ x ->
 sp (.ref x :: (vs ++ dvs)) (upd (upd H1 dx (.own x)) x (.ins C dx [])) (fun v H2 => v = .non /\ Q (.ref x) H2) E
def ZC (K : PySem.W.Frag) (fd : FuncData) (ps : List Str) (ds : List Value) : Prop :=
 ∀ (s : Shared) (us : List Value), K.In s.heap -> (us ++ ds).length = ps.length -> BindsTo s fd ⟨us, []⟩ (ps.zip (us ++ ds))
theorem ZC.all {K : PySem.W.Frag} {fd : FuncData} {ps : List Str} (h : ∀ us : List Value, us.length = ps.length -> bindArgs fd ⟨us, []⟩ = pure (ps.zip us)) : ZC K fd ps [] := fun s us _ hl => by
 rw [List.append_nil] at hl ⊢
 exact .of_eq (h us hl)
def Us (CX : CXT) (X : Cx) (E : XK) : Prop := ∀ (pins : List (Addr × Obj)) (σ : St) (H : Hp) (s : Shared) (e : Value) (s' : Shared), Inv X pins σ H s -> CX X.stack H s E e s' -> X.xe e s'
section
variable {X : Cx} {CX : CXT} {k : Nat} {f C : Addr} {fd : FuncData} {ps : List Str} {sp : Sp} {dvs : List V} {ds : List Value} {E : XK} {x m : Str} {p pos apos : Pos} {e o : Expr} {es : List Expr} {ta : TE} {t : TA}
theorem run_fn {pins : List (Addr × Obj)} {σ : St} {H : Hp} {s : Shared} {Q : VK} {us : List Value} {vs : List V} (F : FnOk X.prog X.w X.K X.mg X.base CX k f fd ps sp) (hr : Room k X.A) (hb : ZC X.K fd ps ds) (hd : Vals dvs ds) (hx : Us CX X E)
  (I : Inv X pins σ H s) (r : Vals vs us) (h : sp (vs ++ dvs) H Q E) : wpAny (model X.prog X.w) X.A (call (.ref f) us) (EP X pins σ Q) X.xe s := by
 have r2 : Vals (vs ++ dvs) (us ++ ds) := r.append hd
 have hl : (us ++ ds).length = ps.length := by rw [<- r2.length]; exact F.len _ _ _ _ h
 refine wpAny_call (codeAny_mono (F.run X.A X.stack s H ⟨us, []⟩ (us ++ ds) (vs ++ dvs) Q E hr I.env0 (hb s us I.kIn hl) r2 h) fun r s' hq => ?_)
 cases r with
 | error e => exact hx pins σ H s e s' I hq
 | ok fl =>
  cases fl with
  | ret u => exact I.after hq
  | next => exact False.elim hq
  | brk => exact False.elim hq
  | cont => exact False.elim hq
theorem zeq (F : FnOk X.prog X.w X.K X.mg X.base CX k f fd ps sp) (hr : Room k X.A) (hg : Gl X x) (hm : X.mg x = some (.ref f)) (hk : PySem.W.keepIn X.K (.ref f) = true) (hb : ZC X.K fd ps ds) (hd : Vals dvs ds) (hx : Us CX X E)
  (ha : PA X (e :: es) t) (hdb : (x == ("__debug__" : Str)) = false := by decide) (he : starEach (e :: es) X.env = (false, eval e X.env) :: starEach es X.env := by rfl) (hpl : (backTo pos (starEach es X.env)).any (·.1) = false := by rfl) :
  PE X (.Call (.Name x p) (e :: es) [] pos) (tCall sp dvs E t) := by
 intro pins s σ H Q I h
 refine wpAny_Call_Name_kw (Vi I hg hm ?_ hdb)
 refine PySem.W.callWith_K (h₀ := X.base) I.ok.mod.kin hk (thn (ha pos pins s σ H _ I h) fun us s1 ⟨vs, H1, I1, r, q⟩ => ⟨I1.kIn, ?_⟩) he hpl
 exact run_fn F hr hb hd hx I1 r q
structure Mk (K : PySem.W.Frag) (C f : Addr) : Prop where
 makes : PySem.W.makesIn K C = true
 init : PySem.W.findIn K (.ref C) "__init__" = some (some (.ref f))
 fn : PySem.W.isFn K (.ref f) = true
 kp : PySem.W.keepIn K (.ref C) = true
theorem run_make {pins : List (Addr × Obj)} {σ : St} {H : Hp} {s : Shared} {Q : VK} {us : List Value} {vs : List V} (M : Mk X.K C f) (F : FnOk X.prog X.w X.K X.mg X.base CX k f fd ps sp) (hr : Room (k + 1) X.A) (hb : ZC X.K fd ps ds) (hd : Vals dvs ds)
  (hx : Us CX X E) (I : Inv X pins σ H s) (r : Vals vs us)
  (h : ∀ x dx, H x = none -> H dx = none -> dx ≠ x -> sp (.ref x :: (vs ++ dvs)) (upd (upd H dx (.own x)) x (.ins C dx [])) (fun v H2 => v = .non /\ Q (.ref x) H2) E) :
  wpAny (model X.prog X.w) X.A (call (.ref C) us) (EP X pins σ Q) X.xe s := by
 have hq := h (s.heap.objs.size + 1) s.heap.objs.size (I.hok.fresh (Nat.le_succ _)) (I.hok.fresh (Nat.le_refl _)) (Nat.ne_of_lt (Nat.lt_succ_self _))
 have I2 := Inv.made (C := C) I
 have r2 : Vals (V.ref (s.heap.objs.size + 1) :: (vs ++ dvs)) (Value.ref (s.heap.objs.size + 1) :: (us ++ ds)) := .cons rfl (r.append hd)
 have hl : (Value.ref (s.heap.objs.size + 1) :: us ++ ds).length = ps.length := by
  have e := r2.length
  rw [F.len _ _ _ _ hq] at e
  exact e.symm
 refine wpAny_call (make_map (f := f) I.kIn M.makes M.init (beq_iff_eq.mp M.fn) (codeAny_mono (F.run _ X.stack _ _ ⟨Value.ref (s.heap.objs.size + 1) :: us, []⟩ (Value.ref (s.heap.objs.size + 1) :: (us ++ ds)) _ _ E (hr.make C us [])
  (I2.env0.make C us []) (hb _ (Value.ref (s.heap.objs.size + 1) :: us) I2.kIn hl) r2 hq) fun r s' hq' => ?_))
 cases r with
 | error e => exact hx pins σ _ _ e s' I2 hq'
 | ok fl =>
  cases fl with
  | ret u =>
   obtain ⟨v, H', I3, rv, ev, q3⟩ := I2.after hq'
   subst ev
   exact ⟨rv, ⟨V.ref (s.heap.objs.size + 1), H', I3, rfl, q3⟩⟩
  | next => exact False.elim hq'
  | brk => exact False.elim hq'
  | cont => exact False.elim hq'
theorem pe_make (M : Mk X.K C f) (F : FnOk X.prog X.w X.K X.mg X.base CX k f fd ps sp) (hr : Room (k + 1) X.A) (hg : Gl X x) (hm : X.mg x = some (.ref C)) (hb : ZC X.K fd ps ds) (hd : Vals dvs ds) (hx : Us CX X E)
  (ha : PA X (e :: es) t) (hdb : (x == ("__debug__" : Str)) = false := by decide) (he : starEach (e :: es) X.env = (false, eval e X.env) :: starEach es X.env := by rfl) (hpl : (backTo pos (starEach es X.env)).any (·.1) = false := by rfl) :
  PE X (.Call (.Name x p) (e :: es) [] pos) (tMake C sp dvs E t) := by
 intro pins s σ H Q I h
 refine wpAny_Call_Name_kw (Vi I hg hm ?_ hdb)
 refine PySem.W.callWith_K (h₀ := X.base) I.ok.mod.kin M.kp (thn (ha pos pins s σ H _ I h) fun us s1 ⟨vs, H1, I1, r, q⟩ => ⟨I1.kIn, ?_⟩) he hpl
 exact run_make M F hr hb hd hx I1 r q
end
def PK (X : Cx) (kws : List Keyword) (t : TA) : Prop :=
 ∀ (pos : Pos) (pins : List (Addr × Obj)) (s : Shared) (σ : St) (H : Hp) (Q : List V -> Hp -> Prop), Inv X pins σ H s -> t σ H Q -> wpAny (model X.prog X.w) X.A (evalAll ((backToKw pos (keywordEach kws X.env)).map (·.2))) (AP X pins σ Q) X.xe s
section
variable {X : Cx} {CX : CXT} {k : Nat} {f C : Addr} {fd : FuncData} {ps ks : List Str} {sp : Sp} {E : XK} {x m : Str} {p pos apos kpos : Pos} {e o : Expr} {es : List Expr} {kws : List Keyword} {te ta : TE} {t tk : TA} {nm : Option Str}
theorem pk_nil : PK X [] tNil := fun _ _ _ _ H Q I h => wpAny_evalAll_nil ⟨[], H, I, .nil, h⟩
theorem zbx (ha : PE X e te) (hr : PK X kws t) : PK X (⟨nm, e, kpos⟩ :: kws) (zd0 te t) := by
 intro pos pins s σ H Q I h
 show wpAny _ _ (evalAll ((do let v <- eval e X.env; standAt pos; pure v) :: (backToKw pos (keywordEach kws X.env)).map (·.2))) _ _ s
 refine wpAny_evalAll_cons (wpAny_bind (thn (ha pins s σ H _ I h) fun u s1 ⟨x, H1, I1, r1, q1⟩ => wpAny_bind (wpAny_standAt (wpAny_pure ?_))))
 exact thn (hr pos pins s1 σ H1 _ I1 q1) fun us s2 ⟨xs, H2, I2, r2, q2⟩ => ⟨x :: xs, H2, I2, .cons r1 r2, q2⟩
variable {g : List Value -> List Value -> List Value} {gV : List V -> List V -> List V}
end
structure FnScope (N P : List Str) (sc : Scope) : Prop where
 kind : sc.kind = .function
 co : sc.isCoroutine = false
 gen : sc.isGenerator = false
 nd : N.Nodup
 pre : N.take P.length = P
 par : ∀ x ∈ P, sc.names.lookup x = some .local \/ sc.names.lookup x = some .cell
 nofree : ∀ y ∈ sc.names, y.2 ≠ .free
theorem zbd {kindOf : Str -> Option NameKind} {x : Str} : ∀ {binds : List (Str × Value)} {m : Str -> Option Value}, (∀ v, (x, v) ∉ binds) -> bindL kindOf binds m x = m x
 | [], _, _ => rfl
 | (n, v) :: r, m, h => by
  unfold bindL
  rw [zbd fun w hw => h w (List.mem_cons_of_mem _ hw)]
  split
  ·have : x ≠ n := by rintro rfl; exact h v List.mem_cons_self
   simp [this]
  ·rfl
theorem zbf {kindOf : Str -> Option NameKind} {x : Str} : ∀ {binds : List (Str × Value)} {m : Str -> Option Value}, (∀ v, (x, v) ∉ binds) -> bindC kindOf binds m x = m x
 | [], _, _ => rfl
 | (n, v) :: r, m, h => by
  unfold bindC
  rw [zbf fun w hw => h w (List.mem_cons_of_mem _ hw)]
  split
  ·rfl
  ·have : x ≠ n := by rintro rfl; exact h v List.mem_cons_self
   simp [this]
theorem zbe {kindOf : Str -> Option NameKind} {x : Str} {v : Value} : ∀ {P : List Str} {vs : List Value} {i : Nat} {m : Str -> Option Value}, P.Nodup -> P[i]? = some x -> vs[i]? = some v -> kindOf x = some .local ->
  bindL kindOf (P.zip vs) m x = some v
 | [], _, _, _, _, h, _, _ => by simp at h
 | _ :: _, [], _, _, _, _, h, _ => by simp at h
 | p :: P, w :: vs, 0, m, nd, h1, h2, hk => by
  simp at h1 h2; subst h1; subst h2
  show bindL kindOf ((p, w) :: P.zip vs) m p = _
  unfold bindL
  rw [zbd fun v hv => (List.nodup_cons.mp nd).1 (List.of_mem_zip hv).1, if_pos hk]
  simp
 | p :: P, w :: vs, i + 1, m, nd, h1, h2, hk => by
  show bindL kindOf ((p, w) :: P.zip vs) m x = _
  unfold bindL
  exact zbe (i := i) (List.nodup_cons.mp nd).2 (by simpa using h1) (by simpa using h2) hk
theorem zbg {kindOf : Str -> Option NameKind} {x : Str} {v : Value} : ∀ {P : List Str} {vs : List Value} {i : Nat} {m : Str -> Option Value}, P.Nodup -> P[i]? = some x -> vs[i]? = some v -> kindOf x ≠ some .local ->
  bindC kindOf (P.zip vs) m x = some v
 | [], _, _, _, _, h, _, _ => by simp at h
 | _ :: _, [], _, _, _, _, h, _ => by simp at h
 | p :: P, w :: vs, 0, m, nd, h1, h2, hk => by
  simp at h1 h2; subst h1; subst h2
  show bindC kindOf ((p, w) :: P.zip vs) m p = _
  unfold bindC
  rw [zbf fun v hv => (List.nodup_cons.mp nd).1 (List.of_mem_zip hv).1, if_neg hk]
  simp
 | p :: P, w :: vs, i + 1, m, nd, h1, h2, hk => by
  show bindC kindOf ((p, w) :: P.zip vs) m x = _
  unfold bindC
  exact zbg (i := i) (List.nodup_cons.mp nd).2 (by simpa using h1) (by simpa using h2) hk
def start (N : List Str) (vs : List V) : St := vs.map some ++ List.replicate (N.length - vs.length) none
def cxOf (CX : CXT) (P : Program) (w : World) (K : PySem.W.Frag) (mg : Str -> Option Value) (base : Heap) (N : List Str) (qual : Str) (scope : Scope) (f : Addr) (cd : Value) (A : Around) (outer : List Env) (s : Shared) (H : Hp) (E : XK) : Cx where
 prog := P
 w := w
 K := K
 mg := mg
 base := base
 A := A.deeper (envOfC qual scope s.heap.objs.size f cd)
 N := N
 s₀ := s
 H₀ := H
 env := envOfC qual scope s.heap.objs.size f cd
 outer := outer
 stack := envOfC qual scope s.heap.objs.size f cd :: outer
 ex := []
 calm := true
 fn := fun _ => true
 pn := []
 xe := fun e s' => wpAny (model P w) (A.deeper (envOfC qual scope s.heap.objs.size f cd)) (leaving (envOfC qual scope s.heap.objs.size f cd) e) (fun _ s'' => CX outer H s E e s'') (fun e' s'' => CX outer H s E e' s'') s'
theorem zcR {sc : Scope} {n : Nat} {x : Str} (h : sc.names.lookup x = some .cell) : ∃ c, (cellsFrom n sc.names []).lookup x = some c := by
 have q := PySem.W.cellsFrom_some sc.names n [] (.inl h)
 exact Option.isSome_iff_exists.mp q
theorem zeY {CX : CXT} {P : Program} {w : World} {K : PySem.W.Frag} {mg : Str -> Option Value} {base : Heap} {N ps : List Str} {qual : Str} {scope : Scope} {f : Addr} {cd : Value} {A : Around} {outer : List Env} {s s1 : Shared} {H : Hp} {E : XK} {us : List Value} {vs : List V}
  (S : FnScope N ps scope) (hd : A.handled = none) (e0 : Env0 P w K mg base A outer s H) (hl : vs.length = ps.length) (r : Vals vs us)
  (x : InCallC s s.heap.objs.size (bindL (envOfC qual scope s.heap.objs.size f cd).kindOf (ps.zip us) fun _ => none) (cellsFrom (s.heap.objs.size + 1) scope.names []) (bindC (envOfC qual scope s.heap.objs.size f cd).kindOf (ps.zip us) fun _ => none) s1) :
  Inv (cxOf CX P w K mg base N qual scope f cd A outer s H E) [] (start N vs) H s1 := by
 have hpl : ps.length <= N.length := by have := congrArg List.length S.pre; rw [List.length_take] at this; omega
 obtain ⟨h1, tk, rfl, hk⟩ := x.done
 have noA : ∀ b : Addr, b ∉ (cxOf CX P w K mg base N qual scope f cd A outer s H E).ex := fun b z => absurd (show b ∈ ([] : List Addr) from z) (by simp)
 refine ⟨⟨e0.mod, S.kind, rfl, rfl, Nat.le_refl _, fun y z c h1 h2 => ?_, fun y hy => ?_, fun y c _ h => ?_, fun _ => hd, Around.frames_deeper e0.frames, .inr ⟨rfl, rfl⟩, fun b z => absurd z (noA b), e0.bs, e0.bsz, fun b _ _ => noA b, fun b z => absurd z (noA b), e0.funs, e0.frf⟩,
  rfl, e0.bare, Un.kept hk, ⟨_, x.toInCall.ns, fun i y v h1 h2 h3 => ?_⟩, fun y c h => ⟨_, x.cell y c h⟩, e0.hok.fresh (Nat.le_refl _), fun y c h => ?_, fun p hp => absurd (show p ∈ ([] : List (Addr × Obj)) from hp) (by simp), e0.hok.kept hk, ?_⟩
 ·exact name_of_addr x.apart (PySem.mem_of_lookup h1) (PySem.mem_of_lookup h2)
 ·have hy : scope.names.lookup y = some .cell \/ scope.names.lookup y = some .free := hy
  rcases hy with hy | hy
  ·exact zcR hy
  ·exact absurd rfl (S.nofree _ (PySem.mem_of_lookup hy))
 ·exact Nat.le_of_lt (x.above y c (PySem.mem_of_lookup h))
 ·have hi : i < vs.length := by
   unfold start at h2
   by_cases hi : i < vs.length
   ·exact hi
   ·rw [List.getElem?_append_right (by simpa using hi)] at h2
    rw [List.getElem?_replicate] at h2
    split at h2 <;> cases h2
  have ha : vs[i]? = some v := by
   unfold start at h2
   rw [List.getElem?_append_left (by simpa using hi), List.getElem?_map] at h2
   cases e : vs[i]? with
   | none => rw [e] at h2; cases h2
   | some a => rw [e] at h2; cases h2; rfl
  obtain ⟨u, hu, rv⟩ := r.get ha
  have hp : ps[i]? = some y := by
   rw [<- S.pre, List.getElem?_take_of_lt (by omega)]; exact h1
  have ndP : ps.Nodup := by rw [<- S.pre]; exact S.nd.sublist (List.take_sublist _ _)
  refine ⟨u, rv, ?_⟩
  rcases S.par y (List.mem_of_getElem? hp) with k | k
  ·exact .inl ⟨k, zbe ndP hp hu k⟩
  ·obtain ⟨c, e⟩ := zcR (n := s.heap.objs.size + 1) k
   refine .inr ⟨.inl k, c, e, ?_⟩
   have q := x.cell y c e
   rw [zbg ndP hp hu (by show scope.names.lookup y ≠ _; rw [k]; decide)] at q
   exact q
 ·exact e0.hok.fresh (Nat.le_of_lt (x.above y c (PySem.mem_of_lookup h)))
 ·unfold start
  show _ = N.length
  rw [List.length_append, List.length_map, List.length_replicate]
  omega
theorem fn_of {CX : CXT} {P : Program} {w : World} {K : PySem.W.Frag} {mg : Str -> Option Value} {base : Heap} {k : Nat} {f : Addr} {name qual : Str} {params : Arguments} {body : List Stmt} {scope : Scope} {dV kV doc pm cdv ct oc : Value} {an od : Option Addr}
  {osl : Array (Option Value)} {N ps : List Str} {sp : Sp} (lk : K.lookup f = some ⟨oc, od, .func (PySem.W.fnOf name qual params body scope dV kV doc pm an cdv ct), osl⟩) (hcd : PySem.W.codeIn K cdv qual = true) (S : FnScope N ps scope)
  (len : ∀ vs H Q E, sp vs H Q E -> vs.length = ps.length)
  (hbody : ∀ (A : Around) (outer : List Env) (s : Shared) (H : Hp) (vs : List V) (Q : VK) (E : XK), Room k (A.deeper (envOfC qual scope s.heap.objs.size f cdv)) -> sp vs H Q E ->
   ∃ t, PSs (cxOf CX P w K mg base N qual scope f cdv A outer s H E) body t /\ t { nx := fun _ H' => Q .non H', rt := Q } (start N vs) H) :
  FnOk P w K mg base CX (k + 1) f (PySem.W.fnOf name qual params body scope dV kV doc pm an cdv ct) ps sp := by
 refine ⟨len, fun A outer s H args us vs Q E hr e0 hb r hsp => ?_⟩
 have hl := len _ _ _ _ hsp
 have KX : K.In s.heap := e0.mod.kin.keeps fun b o e => (e0.bs b o e).1
 have lim : s.heap.NoLimit := e0.mod.nolimit.keeps fun b o e => (e0.bs b o e).1
 have hkind : ∀ y ∈ ps.zip us, scope.names.lookup y.1 = some .local \/ (scope.names.lookup y.1 = some .cell /\ ((cellsFrom (s.heap.objs.size + 1) scope.names []).lookup y.1).isSome = true) := fun ⟨n, v⟩ hy => by
  rcases S.par n (List.of_mem_zip hy).1 with q | q
  ·exact .inl q
  ·exact .inr ⟨q, PySem.W.cellsFrom_some _ _ _ (.inl q)⟩
 refine codeAny_call_function hr.depth (KX _ _ lk) rfl S.co S.gen rfl (PySem.W.codeRec_of KX hcd) (hb _ _ _ _ ?_)
 refine wpAny_newFunctionEnv_cells S.kind hkind fun env he s1 x => ?_
 subst he
 refine ⟨lim.keeps x.toInCall.keep, codeAny_func ?_⟩
 obtain ⟨t, ht, hq⟩ := hbody A outer s H vs Q E (hr.deeper _) hsp
 have I : Inv (cxOf CX P w K mg base N qual scope f cdv A outer s H E) [] (start N vs) H s1 := zeY S hr.hd e0 hl r x
 refine wpAny_mono (ht [] s1 (start N vs) H _ I hq) (fun fl s' hs => ?_) fun e s' hs => hs
 have fin : ∀ {σ' : St} {H' : Hp} {v : V} {u : Value}, Inv (cxOf CX P w K mg base N qual scope f cdv A outer s H E) [] σ' H' s' -> RelV v u -> Q v H' -> CE outer P w H s Q u s' :=
  fun {σ' H' v u} J rv q => ⟨v, H', J.os, J.bare, J.base, J.hok, rv, q⟩
 cases fl with
 | ret u =>
  obtain ⟨v, σ', H', J, rv, q⟩ := hs
  exact fin J rv q
 | next =>
  obtain ⟨σ', H', J, q⟩ := hs
  exact fin (v := V.non) (u := Value.none) J rfl q
 | brk =>
  obtain ⟨_, _, _, q⟩ := hs
  exact False.elim q
 | cont =>
  obtain ⟨_, _, _, q⟩ := hs
  exact False.elim q
end L2
namespace L2
open PySem PySem.Spec PyProof.Rows
section
variable {X : Cx} {x : Str} {p pos : Pos} {e : Expr} {es : List Expr} {t : TA} {id T : String} {r : List V -> Hp -> VK -> Prop}
def tCB (r : List V -> Hp -> VK -> Prop) (t : TA) : TE := fun σ H Q => t σ H fun vs H1 => r vs H1 Q
theorem W4 (hc : UH X (.builtin id) r) (hg : Gl X x) (hm : X.mg x = none) (hv : bootBuiltins x = some (.builtin id)) (ha : PA X (e :: es) t) (hn : x ≠ "__name__" := by decide) (hdb : (x == ("__debug__" : Str)) = false := by decide)
  (he : starEach (e :: es) X.env = (false, eval e X.env) :: starEach es X.env := by rfl) (hpl : (backTo pos (starEach es X.env)).any (·.1) = false := by rfl) : PE X (.Call (.Name x p) (e :: es) [] pos) (tCB r t) := by
 intro pins s σ H Q I h
 refine wpAny_Call_Name_kw (Uf I hg hm hv ?_ hn hdb)
 exact PyProof.Rows.callWith_builtin1 (thn (ha pos pins s σ H _ I h) fun us s1 ⟨vs, H1, I1, r1, q1⟩ => hc pins s1 σ H1 vs us Q I1 r1 q1) he hpl
theorem Wn (hc : UH X (.type T) r) (hg : Gl X x) (hm : X.mg x = none) (hv : bootBuiltins x = some (.type T)) (ha : PA X (e :: es) t) (hn : x ≠ "__name__" := by decide) (hdb : (x == ("__debug__" : Str)) = false := by decide)
  (he : starEach (e :: es) X.env = (false, eval e X.env) :: starEach es X.env := by rfl) (hpl : (backTo pos (starEach es X.env)).any (·.1) = false := by rfl) : PE X (.Call (.Name x p) (e :: es) [] pos) (tCB r t) := by
 intro pins s σ H Q I h
 refine wpAny_Call_Name_kw (Uf I hg hm hv ?_ hn hdb)
 exact PyProof.Rows.callWith_type1 (thn (ha pos pins s σ H _ I h) fun us s1 ⟨vs, H1, I1, r1, q1⟩ => hc pins s1 σ H1 vs us Q I1 r1 q1) he hpl
end
end L2
namespace HT
open PySem PyProof.Rows
def zdk : List Int -> List Int -> Bool
 | [], [] => false
 | [], _ :: _ => true
 | _ :: _, [] => false
 | x :: xs, y :: ys => if x = y then zdk xs ys else decide (x < y)
theorem lexLt_cons (x y : Int) (xs ys : List Int) : zdk (x :: xs) (y :: ys) = if x = y then zdk xs ys else decide (x < y) := rfl
theorem lexLt_nil_nil : zdk [] [] = false := rfl
theorem lexLt_nil_cons (y : Int) (ys : List Int) : zdk [] (y :: ys) = true := rfl
theorem lexLt_cons_nil (x : Int) (xs : List Int) : zdk (x :: xs) [] = false := rfl
section
open PySem.SeqAt
open PySem.AutoSeq1 (wpAny_loadPart')
open PySem.MeetsSeq PySem.MeetsSeq2 PySem.MeetsSeq3
end
section
variable {prog : Program} {w : World} {A : Around} {E : Value -> Shared -> Prop} {s : Shared}
theorem cat_tup {t b : Addr} {vs ws : List Value} {Q : Value -> Shared -> Prop} (ht : IsTup s.heap t vs.toArray) (hb : IsTup s.heap b ws.toArray) (hv : vs ≠ [])
  (h1 : ws = [] -> Q (.ref t) s) (h2 : ws ≠ [] -> Q (.ref s.heap.objs.size) { s with heap := s.heap.push { cls := .type "tuple", data := .seq (vs ++ ws).toArray } })
  (hsz : vs.length + ws.length <= sizeLine) : wpAny (model prog w) A (binaryOp .Add (.ref t) (.ref b)) Q E s := by
 obtain ⟨⟨cls, dd, data, sl⟩, ho, hc, n, hd⟩ := id ht
 obtain ⟨⟨cls2, dd2, data2, sl2⟩, ho2, hc2, n2, hd2⟩ := id hb
 simp only at hc hd hc2 hd2
 subst hc hd hc2 hd2
 have e : vs.toArray ++ ws.toArray = (vs ++ ws).toArray := by simp
 by_cases hw : ws = []
 ·exact concat_meets ⟨_, ho, rfl⟩ ⟨_, ho2, rfl⟩ noFill_tuple_add seq_tuple_add PySem.F.slot_tuple_add PySem.F.entry_tuple_add (PySem.F.args_tuple_add_2 _ _)
   (tuple_addW1 t b vs.toArray ws.toArray n n2 dd dd2 sl sl2 (by simpa using hv) (by simp [hw])) ⟨ho, ho2, h1 hw⟩
 ·refine concat_meets ⟨_, ho, rfl⟩ ⟨_, ho2, rfl⟩ noFill_tuple_add seq_tuple_add PySem.F.slot_tuple_add PySem.F.entry_tuple_add (PySem.F.args_tuple_add_2 _ _)
   (tuple_addW2 t b vs.toArray ws.toArray n n2 dd dd2 sl sl2 (by simpa using hv) (by simpa using hw) (by rw [List.size_toArray, List.size_toArray]; exact hsz)) ⟨ho, ho2, ?_⟩
  rw [e]
  exact h2 hw
def sIx (n d : Nat) : Option Int -> Nat
 | none => d
 | some v => if v < 0 then (v + (n : Int)).toNat else min v.toNat n
theorem sIx_none (n d : Nat) : sIx n d none = d := rfl
theorem sIx_le (n d : Nat) (hd : d <= n) (o : Option Int) : sIx n d o <= n := by
 cases o with
 | none => exact hd
 | some v =>
  show (if v < 0 then (v + (n : Int)).toNat else min v.toNat n) <= n
  by_cases hv : v < 0
  ·rw [if_pos hv]; omega
  ·rw [if_neg hv]; exact Nat.min_le_right _ _
theorem zfv (v : Int) (n d : Nat) : (if v < 0 then max (v + (n : Int)) 0 else min v (n : Int)) = ((sIx n d (some v) : Nat) : Int) := by
 show (if v < 0 then max (v + (n : Int)) 0 else min v (n : Int)) = (((if v < 0 then (v + (n : Int)).toNat else min v.toNat n) : Nat) : Int)
 by_cases hv : v < 0
 ·simp only [if_pos hv]; omega
 ·simp only [if_neg hv]; omega
theorem zdN (lo hi : Option Int) (n : Nat) : Builtin.Slice.sliceAdjust lo hi 1 (n : Int) = (((sIx n 0 lo : Nat) : Int), ((sIx n n hi : Nat) : Int)) := by
 have h1 : ¬ ((1 : Int) < 0) := by omega
 unfold Builtin.Slice.sliceAdjust
 simp only [h1, if_false]
 refine Prod.ext ?_ ?_
 ·cases lo with
  | none => rfl
  | some v => exact zfv v n 0
 ·cases hi with
  | none => rfl
  | some v => exact zfv v n n
theorem zc5 (i j : Nat) : Builtin.Slice.slicePlaces (i : Int) (j : Int) 1 = j - i := by
 unfold Builtin.Slice.slicePlaces
 have h1 : (1 : Int) > 0 := by omega
 simp only [h1, if_true, Int.ediv_one]
 split <;> omega
theorem Q8 {v : Value} {o : Option Int} {Q : Option Int -> Shared -> Prop} (p : IsPart v o) (h : Q o s) : wpAny (model prog w) A (Builtin.Slice.slicePartIndex v) Q E s := by
 cases p with
 | none => exact slicePart_none h
 | int i t => exact slicePart_int h
theorem Ut {sl : Addr} {vl vu : Value} {lo hi : Option Int} {n : Nat} {Q : Int × Int × Nat -> Shared -> Prop} (hs : s.heap.IsSliceOf sl vl vu .none) (pl : IsPart vl lo) (pu : IsPart vu hi)
  (h : Q (((sIx n 0 lo : Nat) : Int), 1, sIx n n hi - sIx n 0 lo) s) : wpAny (model prog w) A (Builtin.Slice.sliceApplied (.ref sl) (pure (n : Int))) Q E s := by
 obtain ⟨os, hos, hcs, hds⟩ := id hs
 unfold Builtin.Slice.sliceApplied Builtin.Slice.sliceFields
 refine wpAny_bind (wpAny_bind (wpAny_field hos hds (x := vl) rfl (wpAny_bind (wpAny_field hos hds (x := vu) rfl (wpAny_bind (wpAny_field hos hds (x := .none) rfl (wpAny_pure ?_)))))))
 refine wpAny_bind (slicePart_none ?_)
 show wpAny _ _ (if ((1 : Int) == 0) = true then _ else _) _ _ s
 rw [if_neg (by decide)]
 refine wpAny_bind (Q8 pl (wpAny_bind (Q8 pu (wpAny_bind (wpAny_pure ?_)))))
 show wpAny _ _ (match Builtin.Slice.sliceAdjust lo hi 1 (n : Int) with | (lo, hi) => pure (lo, (1 : Int), Builtin.Slice.slicePlaces lo hi 1)) _ _ s
 rw [zdN lo hi n]
 show wpAny _ _ (pure (((sIx n 0 lo : Nat) : Int), (1 : Int), Builtin.Slice.slicePlaces ((sIx n 0 lo : Nat) : Int) ((sIx n n hi : Nat) : Int) 1)) _ _ s
 rw [zc5]
 exact wpAny_pure h
theorem pick_gen (xs : Array Value) (i k : Nat) : ((List.range k).filterMap fun (m : Nat) => xs[((i : Int) + (m : Int) * 1).toNat]?).toArray = ((xs.toList.drop i).take k).toArray := by
 have e : (fun (m : Nat) => xs[((i : Int) + (m : Int) * 1).toNat]?) = fun m => xs[i + m]? := by
  funext m
  have : ((i : Int) + (m : Int) * 1).toNat = i + m := by omega
  rw [this]
 rw [e]
 have := pick_run xs i k
 rw [List.filterMap_map] at this
 have e2 : ((fun x => xs[x]?) ∘ fun x => i + x) = fun m => xs[i + m]? := rfl
 rw [e2] at this
 rw [this]
theorem getItem_tuple_cut {t sl : Addr} {items : Array Value} {vl vu : Value} {lo hi : Option Int} {Q : Value -> Shared -> Prop} (ht : IsTup s.heap t items) (hs : s.heap.IsSliceOf sl vl vu .none) (pl : IsPart vl lo) (pu : IsPart vu hi)
  (hw : ¬ (sIx items.size 0 lo = 0 /\ sIx items.size items.size hi = items.size))
  (h : Q (.ref s.heap.objs.size) { s with heap := s.heap.push { cls := .type "tuple", data := .seq ((items.toList.drop (sIx items.size 0 lo)).take (sIx items.size items.size hi - sIx items.size 0 lo)).toArray } })
  (hsz : items.size <= sizeLine) : wpAny (model prog w) A (getItem (.ref t) (.ref sl)) Q E s := by
 have htake : sizeOk (.seq ((items.toList.drop (sIx items.size 0 lo)).take (sIx items.size items.size hi - sIx items.size 0 lo)).toArray) := by
  show ((items.toList.drop (sIx items.size 0 lo)).take (sIx items.size items.size hi - sIx items.size 0 lo)).toArray.size <= sizeLine
  rw [List.size_toArray, List.length_take, List.length_drop, Array.length_toList]
  omega
 have hj : sIx items.size items.size hi <= items.size := sIx_le _ _ (Nat.le_refl _) hi
 obtain ⟨os, hos, hcs, hds⟩ := id hs
 have hTs : s.TypeIs (.ref sl) "slice" := ⟨os, hos, hcs⟩
 unfold getItem
 try with_reducible refine wpAny_holding ?_
 first | refine wpAny_bind (wpAny_pure ?_) | skip
 refine wpAny_bind (wpAny_sequenceKey ht.typeIs (by decide) ?_)
 refine wpAny_bind (wpAny_callSpecial?_slot (name := Str.ofString "__getitem__") ht.typeIs PyProof.Rows.slot_tuple_getitem
  (wpAny_call_entry PyProof.Rows.slot_tuple_getitem ht.typeIs entry_tuple_getitem ?_ (args_tuple_getitem _ _)))
 show wpAny _ _ (Builtin.Tuple.tupleItemsOf (.ref t) >>= _) _ _ s
 refine wpAny_bind (tupleItemsOf_ ht ?_)
 refine wpAny_bind (wpAny_typeOf hTs ?_)
 rw [if_pos (by decide)]
 refine wpAny_bind (Ut hs pl pu ?_)
 have hno : ¬ ((((sIx items.size 0 lo : Nat) : Int) == 0 && (1 : Int) == 1 && (sIx items.size items.size hi - sIx items.size 0 lo) == items.size) = true) := by
  intro q
  rw [Bool.and_eq_true, Bool.and_eq_true] at q
  have q1 : ((sIx items.size 0 lo : Nat) : Int) = 0 := eq_of_beq q.1.1
  have q2 : sIx items.size items.size hi - sIx items.size 0 lo = items.size := eq_of_beq q.2
  exact hw ⟨by omega, by omega⟩
 show wpAny _ _ (if (((sIx items.size 0 lo : Nat) : Int) == 0 && (1 : Int) == 1 && (sIx items.size items.size hi - sIx items.size 0 lo) == items.size) = true then _ else _) _ _ s
 rw [if_neg hno, pick_gen]
 first
  | exact wpAny_bind (m := Builtin.Tuple.tupleExact _) (wpAny_newObj_type (wpAny_pure ⟨_, rfl, wpAny_pure h⟩) htake)
  | exact wpAny_bind (m := Builtin.Tuple.tupleExact _) (wpAny_newObj_type (wpAny_bind (wpAny_pure (wpAny_pure ⟨_, rfl, wpAny_pure h⟩))) htake)
  | exact wpAny_bind (wpAny_bind (m := Builtin.Tuple.tupleExact _) (wpAny_newObj_type (wpAny_pure (wpAny_pure ⟨_, rfl, wpAny_pure h⟩)) htake))
  | exact wpAny_bind (wpAny_bind (m := Builtin.Tuple.tupleExact _) (wpAny_newObj_type (wpAny_pure ⟨_, rfl, wpAny_pure h⟩) htake))
end
end HT
namespace L2
open PySem PySem.Spec PyProof.Rows
abbrev TO := St -> Hp -> (Option Int -> Hp -> Prop) -> Prop
def PO (X : Cx) (e : Option Expr) (t : TO) : Prop :=
 ∀ (pins : List (Addr × Obj)) (s : Shared) (σ : St) (H : Hp) (Q : Option Int -> Hp -> Prop), Inv X pins σ H s -> t σ H Q ->
  wpAny (model X.prog X.w) X.A (evalPart e X.env) (fun u s' => ∃ o H', Inv X pins σ H' s' /\ IsPart u o /\ Q o H') X.xe s
def tNoPart : TO := fun _ H Q => Q none H
def tPart (t : TE) : TO := fun σ H Q => t σ H fun x H1 => ∃ i, x = .int i /\ Q (some i) H1
section
variable {X : Cx} {e : Expr} {te : TE} {lo hi : Option Expr} {tl th : TO} {pos p2 : Pos}
theorem po_none : PO X none tNoPart := by
 intro pins s σ H Q I h
 rw [evalPart_none]
 exact wpAny_pure ⟨none, H, I, .none, h⟩
theorem po_some (h : PE X e te) : PO X (some e) (tPart te) := by
 intro pins s σ H Q I hw
 rw [evalPart_some]
 refine thn (h pins s σ H _ I hw) fun u s1 ⟨x, H1, I1, r1, q1⟩ => ?_
 obtain ⟨i, rfl, q⟩ := q1
 obtain ⟨t, rfl⟩ := r1
 exact ⟨some i, H1, I1, .int i t, q⟩
def SlR (X : Cx) (r : V -> Option Int -> Option Int -> Hp -> VK -> Prop) : Prop :=
 ∀ (pins : List (Addr × Obj)) (s : Shared) (σ : St) (H : Hp) (x : V) (v vl vu : Value) (lo hi : Option Int) (sl : Addr) (Q : VK), Inv X pins σ H s -> RelV x v -> s.heap.IsSliceOf sl vl vu .none -> IsPart vl lo -> IsPart vu hi -> r x lo hi H Q ->
  ∃ T id, typeLookup (.type T) "__getitem__" = pure (some (.builtin id)) /\ s.TypeIs v T /\ wpAny (model X.prog X.w) X.A (getItem v (.ref sl)) (EP X pins σ Q) X.xe s
def tSl (r : V -> Option Int -> Option Int -> Hp -> VK -> Prop) (te : TE) (tl th : TO) : TE := fun σ H Q => te σ H fun x H1 => tl σ H1 fun l H2 => th σ H2 fun u H3 => r x l u H3 Q
theorem zcw {r : V -> Option Int -> Option Int -> Hp -> VK -> Prop} (hr : SlR X r) (he : PE X e te) (hl : PO X lo tl) (hu : PO X hi th) : PE X (.Subscript e (.Slice lo hi none p2) pos) (tSl r te tl th) := by
 intro pins s σ H Q I h
 refine Subscript_ (thn (he pins s σ H _ I h) fun v s1 ⟨x, H1, I1, r1, q1⟩ => ?_)
 refine wpAny_Slice (thn (hl pins s1 σ H1 _ I1 q1) fun vl s2 ⟨l, H2, I2, pl, q2⟩ => thn (hu pins s2 σ H2 _ I2 q2) fun vu s3 ⟨u, H3, I3, pu, q3⟩ => ?_)
 rw [evalPart_none]
 refine wpAny_pure ?_
 have I4 : Inv X pins σ H3 { s3 with heap := s3.heap.push { cls := .type "slice", data := .fields #[vl, vu, .none] } } := I3.kept (t' := s3.toks) fun b ob q => Heap.get?_push_of_some _ q
 obtain ⟨T, id, hT, ht, hg⟩ := hr pins { s3 with heap := s3.heap.push { cls := .type "slice", data := .fields #[vl, vu, .none] } } σ H3 x v vl vu l u s3.heap.objs.size Q I4 r1 (Heap.IsSliceOf.new ..) pl pu q3
 show wpAny (model X.prog X.w) X.A (subscriptTail e (.Slice lo hi none p2) v (.ref s3.heap.objs.size)) (EP X pins σ Q) X.xe { s3 with heap := s3.heap.push { cls := .type "slice", data := .fields #[vl, vu, .none] } }
 exact tail_any (ops := [.ref s3.heap.objs.size, v]) ht hT hg (by with_unfolding_all rfl)
def cutV (xs : List V) (lo hi : Option Int) : List V := (xs.drop (HT.sIx xs.length 0 lo)).take (HT.sIx xs.length xs.length hi - HT.sIx xs.length 0 lo)
theorem QJ (xs : List V) (lo hi : Option Int) : (cutV xs lo hi).length <= xs.length := by
 unfold cutV
 rw [List.length_take, List.length_drop]
 omega
def rSlT (K : PySem.W.Frag) : V -> Option Int -> Option Int -> Hp -> VK -> Prop := fun x lo hi H Q => ∃ a xs, x = .ref a /\ SqT K H a xs /\
 ¬ (HT.sIx xs.length 0 lo = 0 /\ HT.sIx xs.length xs.length hi = xs.length) /\ ∀ p, H p = none -> Q (.ref p) (upd H p (.tup (cutV xs lo hi)))
theorem sl_tup : SlR X (rSlT X.K) := by
 intro pins s σ H x v vl vu lo hi sl Q I rx hs pl pu h
 obtain ⟨a, xs, rfl, hx, hw, q⟩ := h
 cases rx
 obtain ⟨its, r, ht, hz⟩ := I.tuple hx
 have hlen : its.toArray.size = xs.length := by rw [List.size_toArray]; exact r.length.symm
 refine ⟨"tuple", _, PyProof.Rows.slot_tuple_getitem.lookup, ht.typeIs, ?_⟩
 refine HT.getItem_tuple_cut ht hs pl pu (by rw [hlen]; exact hw) ?_ (by rw [hlen]; exact hz)
 rw [hlen]
 refine ⟨.ref s.heap.objs.size, _, I.laid (t' := s.toks) (o := .tup (cutV xs lo hi)) (fun b ob q => Heap.get?_push_of_some _ q) (Nat.le_refl _) ?_, rfl, q _ (I.hok.fresh (Nat.le_refl _))⟩
 exact ⟨Nat.le_trans (QJ xs lo hi) hz, _, (r.drop (HT.sIx xs.length 0 lo)).take (HT.sIx xs.length xs.length hi - HT.sIx xs.length 0 lo), IsTup.new _ _⟩
def rCatT (K : PySem.W.Frag) : R2 := fun x y H Q => ∃ a b xs ys, x = .ref a /\ y = .ref b /\ SqT K H a xs /\ SqT K H b ys /\ xs ≠ [] /\ xs.length + ys.length <= sizeLine /\
 (ys = [] -> Q (.ref a) H) /\ (ys ≠ [] -> ∀ p, H p = none -> Q (.ref p) (upd H p (.tup (xs ++ ys))))
theorem Vals.nil_iff {xs : List V} {us : List Value} (r : Vals xs us) : us = [] ↔ xs = [] := by
 cases r with
 | nil => simp
 | cons _ _ => simp
theorem op_catT : OpR X (binaryOp .Add) (rCatT X.K) := by
 intro pins s σ H x y v u Q I rx ry h
 obtain ⟨a, b, xs, ys, rfl, rfl, ha, hb, hx, hz, q1, q2⟩ := h
 cases rx
 cases ry
 obtain ⟨its, r1, p1, _⟩ := I.tuple ha
 obtain ⟨its2, r2, p2, _⟩ := I.tuple hb
 refine HT.cat_tup p1 p2 (fun z => hx (r1.nil_iff.mp z)) (fun z => ⟨.ref a, H, I, rfl, q1 (r2.nil_iff.mp z)⟩) (fun z => ?_) (by rw [<- r1.length, <- r2.length]; exact hz)
 refine ⟨.ref s.heap.objs.size, _, I.laid (t' := s.toks) (o := .tup (xs ++ ys)) (fun b ob q => Heap.get?_push_of_some _ q) (Nat.le_refl _) ?_, rfl, q2 (fun w => z (r2.nil_iff.mpr w)) _ (I.hok.fresh (Nat.le_refl _))⟩
 exact ⟨by rw [List.length_append]; exact hz, _, r1.append r2, IsTup.new _ _⟩
end
end L2
namespace L2
open PySem PySem.Spec PyProof.Rows
def ixN (n : Nat) (i : Int) : Option Nat := if 0 <= i then (if i < n then some i.toNat else none) else if -(n : Int) <= i then some (i + n).toNat else none
def atI {α : Type} (xs : List α) (i : Int) : Option α := (ixN xs.length i).bind fun j => xs[j]?
theorem zeV {n : Nat} {i : Int} {j : Nat} (h : ixN n i = some j) : seqIndex? i n = some j /\ j < n /\ -(n : Int) <= i /\ i < n := by
 unfold ixN at h
 by_cases h0 : 0 <= i
 ·rw [if_pos h0] at h
  by_cases h1 : i < n
  ·rw [if_pos h1] at h
   have e : i.toNat = j := Option.some.inj h
   exact ⟨by rw [seqIndex_of h0 h1, e], by omega, by omega, h1⟩
  ·rw [if_neg h1] at h; cases h
 ·rw [if_neg h0] at h
  by_cases h1 : -(n : Int) <= i
  ·rw [if_pos h1] at h
   have e : (i + n).toNat = j := Option.some.inj h
   exact ⟨by rw [seqIndex_neg (by omega) h1, e], by omega, h1, by omega⟩
  ·rw [if_neg h1] at h; cases h
theorem zfC {α : Type} {xs : List α} {i : Int} {v : α} (h : atI xs i = some v) : ∃ j, seqIndex? i xs.length = some j /\ xs[j]? = some v /\ j < xs.length /\ -(xs.length : Int) <= i /\ i < xs.length := by
 unfold atI at h
 cases e : ixN xs.length i with
 | none => rw [e] at h; cases h
 | some j =>
  rw [e] at h
  obtain ⟨h1, h2, h3, h4⟩ := zeV e
  exact ⟨j, h1, h, h2, h3, h4⟩
def zfF (b : Expr) : Prop := ∀ o i, subscripted b false o i = operate [o, i] (getItem o i)
def IxR (X : Cx) (r : R2) : Prop :=
 ∀ (value slice : Expr) (pins : List (Addr × Obj)) (s : Shared) (σ : St) (H : Hp) (x y : V) (v u : Value) (Q : VK), Inv X pins σ H s -> RelV x v -> RelV y u -> r x y H Q ->
  subscripted slice false v u = operate [v, u] (getItem v u) -> wpAny (model X.prog X.w) X.A (subscriptTail value slice v u) (EP X pins σ Q) X.xe s
def MtR (X : Cx) (id : String) (r : V -> List V -> Hp -> VK -> Prop) : Prop :=
 ∀ (pins : List (Addr × Obj)) (s : Shared) (σ : St) (H : Hp) (x : V) (xs : List V) (v : Value) (us : List Value) (Q : VK), Inv X pins σ H s -> RelV x v -> Vals xs us -> r x xs H Q ->
  wpAny (model X.prog X.w) X.A (call (.builtin id) (v :: us)) (EP X pins σ Q) X.xe s
section
variable {X : Cx} {a b : Expr} {ta tb : TE} {pos : Pos}
theorem IxR.or {r r' : R2} (h : IxR X r) (h' : IxR X r') : IxR X (fun x y H Q => r x y H Q \/ r' x y H Q) := by
 intro value slice pins s σ H x y v u Q I rx ry q hs
 rcases q with q | q
 ·exact h value slice pins s σ H x y v u Q I rx ry q hs
 ·exact h' value slice pins s σ H x y v u Q I rx ry q hs
theorem pe_ix {r : R2} (hr : IxR X r) (ha : PE X a ta) (hb : PE X b tb) (hs : zfF b) : PE X (.Subscript a b pos) (tOp r ta tb) := by
 intro pins s σ H Q I h
 exact Subscript_ (binT ha hb I h fun v u s2 x y H2 I2 rx ry q => hr a b pins s2 σ H2 x y v u Q I2 rx ry q (hs _ _))
def rIxL (K : PySem.W.Frag) : R2 := fun x y H Q => ∃ p xs i v, x = .ref p /\ y = .int i /\ SqL K H p xs /\ atI xs i = some v /\ Q v H
def rIxT (K : PySem.W.Frag) : R2 := fun x y H Q => ∃ p xs i v, x = .ref p /\ y = .int i /\ SqT K H p xs /\ atI xs i = some v /\ Q v H
theorem ix_list : IxR X (rIxL X.K) := by
 intro value slice pins s σ H x y v u Q I rx ry h hs
 obtain ⟨p, xs, i, z, rfl, rfl, hq, he, q⟩ := h
 cases rx
 obtain ⟨t, rfl⟩ := ry
 obtain ⟨its, r, pl, hz⟩ := I.list hq
 obtain ⟨j, h1, h2, h3, h4, h5⟩ := zfC he
 obtain ⟨w, ew, rw'⟩ := r.get h2
 have hl := r.length
 have hn := zaI
 have fin : EP X pins σ Q w s := ⟨z, H, I, rw', q⟩
 by_cases h0 : 0 <= i
 ·have hj : i.toNat = j := by
   rw [seqIndex_of h0 h5] at h1
   exact Option.some.inj h1
  exact item_listR pl.isList h0 (by omega) (by rw [hj]; simpa using ew) fin hs
 ·have hj : (i + (its.toArray.size : Int)).toNat = j := by
   rw [seqIndex_neg (by omega) h4] at h1
   rw [List.size_toArray, <- hl]
   exact Option.some.inj h1
  exact subscriptTail_builtinR (x := w) pl.isList.typeIs slot_list_getitem.lookup
   (wpAny_getItem_list_neg (Q := fun r s' => r = w /\ EP X pins σ Q r s') pl.isList (by omega) (by rw [List.size_toArray] <;> omega) (by omega) (by rw [hj]; simpa using ew) ⟨rfl, fin⟩) hs
theorem ix_tup : IxR X (rIxT X.K) := by
 intro value slice pins s σ H x y v u Q I rx ry h hs
 obtain ⟨p, xs, i, z, rfl, rfl, hq, he, q⟩ := h
 cases rx
 obtain ⟨t, rfl⟩ := ry
 obtain ⟨its, r, pl, hz⟩ := I.tuple hq
 obtain ⟨j, h1, h2, h3, h4, h5⟩ := zfC he
 obtain ⟨w, ew, rw'⟩ := r.get h2
 have hl := r.length
 have hn := zaI
 have fin : EP X pins σ Q w s := ⟨z, H, I, rw', q⟩
 exact subscriptTail_builtinR (x := w) pl.typeIs slot_tuple_getitem.lookup
  (getItem_tuple (j := j) (Q := fun r s' => r = w /\ EP X pins σ Q r s') pl (by omega) (by omega) (by rw [List.size_toArray, <- hl]; exact h1) (by simpa using ew) ⟨rfl, fin⟩) hs
theorem zdh (its : List Value) (n j : Nat) (u : Value) : Obj.mapSeq (·.setIfInBounds j u) { cls := .type "list", data := .seq its.toArray n } = { cls := .type "list", data := .seq (its.set j u).toArray n } := by
 simp [Obj.mapSeq]
theorem Inv.lst {pins : List (Addr × Obj)} {σ : St} {H : Hp} {s : Shared} {p : Addr} {xs : List V} (I : Inv X pins σ H s) (h : H p = some (.lst xs)) :
  ∃ (its : List Value) (n : Nat), Vals xs its /\ s.heap.get? p = some { cls := .type "list", data := .seq its.toArray n } /\ xs.length <= sizeLine := by
 obtain ⟨z, its, n, r, e⟩ := I.hok p _ h
 exact ⟨its, n, r, e, z⟩
theorem Inv.lstUpd {pins : List (Addr × Obj)} {σ : St} {H : Hp} {s : Shared} {p : Addr} {xs ys : List V} {its its' : List Value} {n n' : Nat} {f : Obj -> Obj} (I : Inv X pins σ H s) (h : H p = some (.lst xs))
  (ho : s.heap.get? p = some { cls := .type "list", data := .seq its.toArray n }) (hf : f { cls := .type "list", data := .seq its.toArray n } = { cls := .type "list", data := .seq its'.toArray n' }) (r : Vals ys its') (hz : ys.length <= sizeLine) (t : Nat) :
  Inv X pins σ (upd H p (.lst ys)) { s with heap := s.heap.update p f, toks := t } := by
 have e : (s.heap.update p f).get? p = some { cls := .type "list", data := .seq its'.toArray n' } := by
  rw [Heap.get?_update_self f ho (by rw [hf] <;> rfl), hf]
 refine I.write (x := p) (e := p) (by rw [h]; trivial) (.inl rfl) (fun b u hb q => (Heap.get?_update_other _ _ (Ne.symm hb)).trans q) ⟨_, e⟩ ?_
 exact ⟨hz, its', n', r, e⟩
def rSetL : V -> V -> V -> Hp -> (Hp -> Prop) -> Prop := fun o i v H Q => ∃ p xs k j, o = .ref p /\ i = .int k /\ H p = some (.lst xs) /\ ixN xs.length k = some j /\ Q (upd H p (.lst (xs.set j v)))
theorem set_list : PSet X rSetL := by
 intro pins s σ H o i v ov iv u Q I ro ri rv h
 obtain ⟨p, xs, k, j, rfl, rfl, hp, hj, q⟩ := h
 cases ro
 obtain ⟨t, rfl⟩ := ri
 obtain ⟨its, n, r, ho, hz⟩ := I.lst hp
 obtain ⟨h1, h2, h3, h4⟩ := zeV hj
 have hl := r.length
 have hn := zaI
 have I' : Inv X pins σ (upd H p (.lst (xs.set j v))) { s with heap := s.heap.update p (Obj.mapSeq (·.setIfInBounds j u)) } :=
  I.lstUpd hp ho (zdh its n j u) (r.set rv j) (by rw [List.length_set]; exact hz) s.toks
 by_cases h0 : 0 <= k
 ·have hk : k.toNat = j := by
   rw [seqIndex_of h0 h4] at h1
   exact Option.some.inj h1
  exact PySem.W.ki_setAt ho h0 (by omega) (by rw [List.size_toArray, <- hl]; exact h4) (by rw [hk]; exact ⟨_, I', q⟩)
 ·have hk : (k + (its.toArray.size : Int)).toNat = j := by
   rw [seqIndex_neg (by omega) h3] at h1
   rw [List.size_toArray, <- hl]
   exact Option.some.inj h1
  exact PySem.W.ki_setBack ho (by omega) (by rw [List.size_toArray, <- hl]; exact h3) (by omega) (by rw [hk]; exact ⟨_, I', q⟩)
theorem zax (lo hi : Option Int) (n : Nat) : (sliceBounds lo hi none n).1 = ((HT.sIx n 0 lo : Nat) : Int) /\ (sliceBounds lo hi none n).2.1 = ((HT.sIx n n hi : Nat) : Int) /\ (sliceBounds lo hi none n).2.2 = 1 := by
 refine ⟨?_, ?_, rfl⟩
 ·cases lo with
  | none => simp [sliceBounds, HT.sIx]
  | some i =>
   simp only [sliceBounds, HT.sIx, Option.getD_none, show (1 : Int) > 0 by decide, if_true]
   by_cases h : i < 0
   ·simp only [h, if_true] <;> omega
   ·simp only [h, if_false] <;> omega
 ·cases hi with
  | none => simp [sliceBounds, HT.sIx]
  | some i =>
   simp only [sliceBounds, HT.sIx, Option.getD_none, show (1 : Int) > 0 by decide, if_true]
   by_cases h : i < 0
   ·simp only [h, if_true] <;> omega
   ·simp only [h, if_false] <;> omega
theorem JB (its : List Value) (lo hi : Option Int) : slicePick its.toArray lo hi none = ((its.drop (HT.sIx its.length 0 lo)).take (HT.sIx its.length its.length hi - HT.sIx its.length 0 lo)).toArray := by
 obtain ⟨h1, h2, h3⟩ := zax lo hi its.toArray.size
 unfold slicePick
 rw [h1, h2, h3]
 simp only [sliceRange_one, pick_run, List.size_toArray] <;> rfl
def rSlL (K : PySem.W.Frag) : V -> Option Int -> Option Int -> Hp -> VK -> Prop := fun x lo hi H Q => ∃ a xs, x = .ref a /\ SqL K H a xs /\ ∀ p, H p = none -> Q (.ref p) (upd H p (.lst (cutV xs lo hi)))
theorem sl_list : SlR X (rSlL X.K) := by
 intro pins s σ H x v vl vu lo hi sl Q I rx hs pl pu h
 obtain ⟨a, xs, rfl, hx, q⟩ := h
 cases rx
 obtain ⟨its, r, ht, hz⟩ := I.list hx
 have hlen := r.length
 refine ⟨"list", _, slot_list_getitem.lookup, ht.isList.typeIs, ?_⟩
 refine wpAny_getItem_list_slice ht.isList hs pl pu .none (by simp) ?_ (by rw [List.size_toArray] <;> omega)
 rw [JB, <- hlen]
 refine ⟨.ref s.heap.objs.size, _, I.laid (t' := s.toks) (o := .lst (cutV xs lo hi)) (fun b ob q => Heap.get?_push_of_some _ q) (Nat.le_refl _) ?_, rfl, q _ (I.hok.fresh (Nat.le_refl _))⟩
 exact ⟨Nat.le_trans (QJ xs lo hi) hz, _, 0, (r.drop (HT.sIx xs.length 0 lo)).take (HT.sIx xs.length xs.length hi - HT.sIx xs.length 0 lo), Heap.get?_push_size _ rfl⟩
theorem zbc : UH X (.builtin "len") (fun xs H Q => ∃ p ys, xs = [.ref p] /\ (SqL X.K H p ys \/ SqT X.K H p ys) /\ Q (.int ys.length) H) := by
 intro pins s σ H xs us Q I r h
 obtain ⟨p, ys, rfl, hq, q⟩ := h
 obtain ⟨u, rfl, rx⟩ := UR r
 cases rx
 have hn := zaI
 rcases hq with hq | hq
 ·obtain ⟨its, r', pl, hz⟩ := I.list hq
  have hlen := r'.length
  exact Calls.call_len_list pl.isList (by simp only [List.size_toArray] <;> omega) ⟨.int ys.length, H, I.tok _, ⟨s.toks + 1, by rw [List.size_toArray, hlen]⟩, q⟩
 ·obtain ⟨its, r', pl, hz⟩ := I.tuple hq
  have hlen := r'.length
  exact len_tuple pl (by simp only [List.size_toArray] <;> omega) ⟨.int ys.length, H, I.tok _, ⟨s.toks + 1, by rw [List.size_toArray, hlen]⟩, q⟩
theorem zbb : UH X (.type "list") (fun xs H Q => ∃ p ys, xs = [.ref p] /\ (SqL X.K H p ys \/ SqT X.K H p ys) /\ ∀ l, H l = none -> Q (.ref l) (upd H l (.lst ys))) := by
 intro pins s σ H xs us Q I r h
 obtain ⟨p, ys, rfl, hq, q⟩ := h
 obtain ⟨u, rfl, rx⟩ := UR r
 cases rx
 have fin : ∀ (its : List Value), Vals ys its -> ys.length <= sizeLine -> ∀ (h' : Heap) (c' : Nat), (∀ b o', s.heap.get? b = some o' -> h'.get? b = some o') ->
   h'.get? s.heap.objs.size = some { cls := .type "list", dict := none, data := .seq its.toArray c', slots := #[] } -> EP X pins σ Q (.ref s.heap.objs.size) { s with heap := h' } := fun its r' hz h' c' kp e =>
  ⟨.ref s.heap.objs.size, _, I.laid (t' := s.toks) kp (Nat.le_refl _) (show Y6 X.prog X.w _ h' _ (.lst ys) from ⟨hz, its, c', r', e⟩), rfl, q _ (I.hok.fresh (Nat.le_refl _))⟩
 rcases hq with hq | hq
 ·obtain ⟨its, r', pl, hz⟩ := I.list hq
  have hlen := r'.length
  obtain ⟨o, ho, hc, n, hd⟩ := pl.isList
  exact call_list_seq p (.inl rfl) ho hc hd (fun h' c' kp e => fin its r' hz h' c' kp e) (by simp only [List.size_toArray] <;> omega)
 ·obtain ⟨its, r', pl, hz⟩ := I.tuple hq
  have hlen := r'.length
  obtain ⟨o, ho, hc, n, hd⟩ := pl
  exact call_list_seq p (.inr rfl) ho hc hd (fun h' c' kp e => fin its r' hz h' c' kp e) (by simp only [List.size_toArray] <;> omega)
theorem zar : UH X (.type "tuple") (fun xs H Q => ∃ p ys, xs = [.ref p] /\ ((SqL X.K H p ys /\ ∀ l, H l = none -> Q (.ref l) (upd H l (.tup ys))) \/ (SqT X.K H p ys /\ Q (.ref p) H))) := by
 intro pins s σ H xs us Q I r h
 obtain ⟨p, ys, rfl, h⟩ := h
 obtain ⟨u, rfl, rx⟩ := UR r
 cases rx
 rcases h with ⟨hq, q⟩ | ⟨hq, q⟩
 ·obtain ⟨its, r', pl, hz⟩ := I.list hq
  have hlen := r'.length
  refine call_tuple_list pl.isList (fun h' kp => ?_) (by simp only [List.size_toArray] <;> omega)
  have I1 : Inv X pins σ H { s with heap := h' } := I.kept (t' := s.toks) kp
  have I2 : Inv X pins σ (upd H h'.objs.size (.tup ys)) { s with heap := h'.push { cls := .type "tuple", data := .seq its.toArray } } :=
   I1.laid (t' := s.toks) (fun b o e => Heap.get?_push_of_some _ e) (Nat.le_refl _) (show Y6 X.prog X.w _ _ _ (.tup ys) from ⟨hz, its, r', IsTup.new _ _⟩)
  exact ⟨.ref h'.objs.size, _, I2, rfl, q _ (I1.hok.fresh (Nat.le_refl _))⟩
 ·obtain ⟨its, r', pl, hz⟩ := I.tuple hq
  exact call_tuple_same pl ⟨.ref p, H, I, rfl, q⟩
def tyV (K : PySem.W.Frag) (T : String) (x : V) (H : Hp) : Prop := match x with
 | .str _ => T = "str"
 | .int _ => T = "int"
 | .ref p => (T = "list" /\ ∃ xs, SqL K H p xs) \/ (T = "tuple" /\ ∃ o, K.lookup p = some o /\ o.cls = .type "tuple" /\ o.dict = none) \/
   (T = "dict" /\ ((∃ kvs, H p = some (.dK kvs)) \/ ∃ kvs, H p = some (.dT kvs))) \/ (T = "set" /\ ∃ S n, H p = some (.set S n))
 | _ => False
theorem tyV_is {pins : List (Addr × Obj)} {σ : St} {H : Hp} {s : Shared} {T : String} {x : V} {v : Value} (I : Inv X pins σ H s) (r : RelV x v) (ty : tyV X.K T x H) :
  s.TypeIs v T /\ ∀ a, v = .ref a -> ∃ ob, s.heap.get? a = some ob /\ ob.dict = none := by
 cases x with
 | str z =>
  obtain ⟨t, rfl⟩ := r
  cases (show T = "str" from ty)
  exact ⟨typeIs_str s z t, fun _ e => nomatch e⟩
 | int i =>
  obtain ⟨t, rfl⟩ := r
  cases (show T = "int" from ty)
  exact ⟨typeIs_int s i t, fun _ e => nomatch e⟩
 | ref p =>
  cases r
  rcases ty with ⟨rfl, xs, hq⟩ | ⟨rfl, o, hk, hc, hd⟩ | ⟨rfl, hk⟩ | ⟨rfl, S, n, hk⟩
  ·obtain ⟨its, _, pl, _⟩ := I.list hq
   refine ⟨pl.isList.typeIs, fun a e => ?_⟩
   cases e
   obtain ⟨o, n, e, c, hd, _⟩ := pl
   exact ⟨o, e, hd⟩
  ·refine ⟨⟨o, I.kIn p o hk, hc⟩, fun a e => ?_⟩
   cases e
   exact ⟨o, I.kIn _ o hk, hd⟩
  ·have z : ∃ o, s.heap.get? p = some o /\ o.ExactDict := by
    rcases hk with ⟨kvs, hk⟩ | ⟨kvs, hk⟩
    ·obtain ⟨_, _, _, _, o, _, _, e, ex, _⟩ := I.hok p _ hk
     exact ⟨o, e, ex⟩
    ·obtain ⟨_, _, _, _, o, _, _, e, ex, _⟩ := I.hok p _ hk
     exact ⟨o, e, ex⟩
   obtain ⟨o, e, ex⟩ := z
   refine ⟨⟨o, e, ex.1⟩, fun a e2 => ?_⟩
   cases e2
   exact ⟨o, e, ex.2.1⟩
  ·obtain ⟨o, _, _, _, e, ex, _⟩ := I.hok p _ hk
   refine ⟨⟨o, e, ex.1⟩, fun a e2 => ?_⟩
   cases e2
   exact ⟨o, e, ex.2.1⟩
 | _ => exact False.elim ty
def tBM (K : PySem.W.Frag) (T : String) (r : V -> List V -> Hp -> VK -> Prop) (to : TE) (t : TA) : TE := fun σ H Q => to σ H fun x H1 => tyV K T x H1 /\ t σ H1 fun xs H2 => r x xs H2 Q
variable {o e : Expr} {es : List Expr} {to : TE} {t : TA} {name : Str} {apos cpos : Pos} {T id : String} {r : V -> List V -> Hp -> VK -> Prop}
theorem pe_bm (pa : PlainAttrs T) (slot : Slot T name id) (hty : typeOf (.builtin id) = pure (.type "method_descriptor")) (hm : MtR X id r) (ho : PE X o to) (ha : PA X (e :: es) t)
  (hbase : attributeBase o name X.env (eval o X.env) = eval o X.env := by rfl)
  (hfew : ((backTo cpos (starEach (e :: es) X.env)).all (fun x => !x.1) && (backToKw cpos (keywordEach [] X.env)).all (fun x => x.1.isSome)
   && decide ((e :: es).length + ([] : List Keyword).length + (if ([] : List Keyword).isEmpty then 0 else 1) < 30)) = true := by rfl)
  (hline : (apos.endLine == cpos.line) = true := by rfl) (hs : starEach (e :: es) X.env = (false, eval e X.env) :: starEach es X.env := by rfl) (hplain : (backTo cpos (starEach es X.env)).any (·.1) = false := by rfl) :
  PE X (.Call (.Attribute o name apos) (e :: es) [] cpos) (tBM X.K T r to t) := by
 intro pins s σ H Q I h
 refine wpAny_Call_method_late hbase hfew hline rfl (thn (ho pins s σ H _ I h) fun v s1 ⟨x, H1, I1, r1, ty, q1⟩ => ?_)
 obtain ⟨h1, h2⟩ := tyV_is I1 r1 ty
 refine ⟨T, id, pa, slot, hty, h1, h2, ?_⟩
 have hA := ha cpos pins s1 σ H1 _ I1 q1
 rw [hs] at hA ⊢
 refine Calls.callWith_builtin (by show (false || (backTo cpos (starEach es X.env)).any (·.1)) = false; rw [hplain] <;> rfl) (Calls.evalArgs_plain ?_)
 exact thn hA fun us s2 ⟨vs, H2, I2, r2, q2⟩ => hm pins s2 σ H2 x vs v us Q I2 r1 r2 q2
end
end L2
namespace L2
open PySem PySem.Spec PyProof.Rows
def MtM (X : Cx) (id : String) (r : V -> List V -> Hp -> VK -> Prop) : Prop :=
 ∀ (pins : List (Addr × Obj)) (s : Shared) (σ : St) (H : Hp) (x : V) (xs : List V) (v : Value) (us : List Value) (Q : VK), Inv X pins σ H s -> RelV x v -> Vals xs us -> r x xs H Q ->
  wpAny (model X.prog X.w) X.A (call (.builtin id) (v :: us)) (EP X pins σ Q) X.xe s
theorem Vals.one : ∀ {x : V} {us : List Value}, Vals [x] us -> ∃ u, us = [u] /\ RelV x u
 | _, _, .cons r .nil => ⟨_, rfl, r⟩
theorem Vals.rep {xs : List V} {us : List Value} (h : Vals xs us) : ∀ k : Nat, Vals (List.replicate k xs).flatten (List.replicate k us).flatten
 | 0 => .nil
 | k + 1 => by
  rw [List.replicate_succ, List.replicate_succ, List.flatten_cons, List.flatten_cons]
  exact Vals.append h (Vals.rep h k)
theorem zaR (its : List Value) : ∀ (k : Nat) (acc : List Value),
  List.foldl (fun x1 x2 => x1 ++ x2) acc.toArray (List.replicate k its.toArray) = (acc ++ (List.replicate k its).flatten).toArray
 | 0, acc => by simp
 | k + 1, acc => by
  have e : acc.toArray ++ its.toArray = (acc ++ its).toArray := by simp
  have e2 : (acc ++ its) ++ (List.replicate k its).flatten = acc ++ (List.replicate (k + 1) its).flatten := by
   rw [List.replicate_succ, List.flatten_cons, List.append_assoc]
  rw [<- e2, <- zaR its k (acc ++ its), <- e, List.replicate_succ, List.foldl_cons]
section
variable {X : Cx} {pins : List (Addr × Obj)} {σ : St} {H : Hp} {s : Shared} {l b : Addr} {xs ys zs : List V}
theorem Inv.lset {its its' : List Value} {n : Nat} {f : Array Value -> Array Value} {t' : Nat} (I : Inv X pins σ H s) (hH : H l = some (.lst xs))
  (e : s.heap.get? l = some { cls := .type "list", data := .seq its.toArray n }) (hf : f its.toArray = its'.toArray) (hv : Vals ys its') (hz : ys.length <= sizeLine) :
  Inv X pins σ (upd H l (.lst ys)) { s with heap := s.heap.update l (Obj.mapSeq f), toks := t' } := by
 have q := PySem.IsL.update e f
 rw [hf] at q
 refine I.write (x := l) (e := l) (by rw [hH]; exact trivial) (.inl rfl) (fun b' u hb hu => (Heap.get?_update_other s.heap (Obj.mapSeq f) (Ne.symm hb)).trans hu) ⟨_, q⟩ ?_
 exact ⟨hz, its', _, hv, q⟩
theorem Inv.lnew {its : List Value} {t' : Nat} (I : Inv X pins σ H s) (hv : Vals ys its) (hz : ys.length <= sizeLine) :
  Inv X pins σ (upd H s.heap.objs.size (.lst ys)) { s with heap := s.heap.push { cls := .type "list", data := .seq its.toArray }, toks := t' } :=
 I.laid (fun _ _ q => Heap.get?_push_of_some _ q) (Nat.le_refl _) ⟨hz, its, 0, hv, Heap.get?_push_size _ rfl⟩
theorem Inv.fresh (I : Inv X pins σ H s) : H s.heap.objs.size = none := I.hok.fresh (Nat.le_refl _)
theorem Inv.lstM (I : Inv X pins σ H s) (hH : H l = some (.lst xs)) : xs.length <= sizeLine /\ ∃ (its : List Value) (n : Nat), Vals xs its /\ xs.length = its.length /\ s.heap.get? l = some { cls := .type "list", data := .seq its.toArray n } := by
 obtain ⟨z, its, n, r, e⟩ := I.hok l _ hH
 exact ⟨z, its, n, r, r.length, e⟩
theorem zcx {n : Nat} (h : n <= sizeLine) : Builtin.List.listTooLong n = false := by
 unfold Builtin.List.listTooLong
 exact decide_eq_false (by omega)
end
section
variable {X : Cx}
def rAppend : V -> List V -> Hp -> VK -> Prop := fun x vs H Q => ∃ l xs y, x = .ref l /\ vs = [y] /\ H l = some (.lst xs) /\ xs.length < sizeLine /\ Q .non (upd H l (.lst (xs ++ [y])))
theorem zaH : MtM X "list.append" rAppend := by
 intro pins s σ H x vs v us Q I rx rv h
 obtain ⟨l, xs, y, rfl, rfl, hH, hz, q⟩ := h
 cases rx
 obtain ⟨u, rfl, ru⟩ := rv.one
 obtain ⟨z, its, n, r, hl, e⟩ := I.lstM hH
 refine call_meets F.slot_list_append ⟨_, e, rfl⟩ F.entry_list_append (F.args_list_append_2 _ _) (PySem.list_append l its.toArray n u (by rw [List.size_toArray]; omega)) ⟨e, ?_⟩
 refine ⟨.non, _, I.lset (its' := its ++ [u]) hH e (by simp) (r.append (.cons ru .nil)) ?_, rfl, q⟩
 rw [List.length_append, List.length_singleton]
 omega
def rExtend : V -> List V -> Hp -> VK -> Prop := fun x vs H Q => ∃ l b xs zs, x = .ref l /\ vs = [.ref b] /\ H l = some (.lst xs) /\ H b = some (.lst zs) /\ xs.length + zs.length <= sizeLine /\ Q .non (upd H l (.lst (xs ++ zs)))
theorem zeK : MtM X "list.extend" rExtend := by
 intro pins s σ H x vs v us Q I rx rv h
 obtain ⟨l, b, xs, zs, rfl, rfl, hH, hB, hz, q⟩ := h
 cases rx
 obtain ⟨u, rfl, ru⟩ := rv.one
 cases ru
 obtain ⟨z, its, n, r, hl, e⟩ := I.lstM hH
 obtain ⟨z2, its2, n2, r2, hl2, e2⟩ := I.lstM hB
 have hsz : its.toArray.size + its2.toArray.size <= sizeLine := by rw [List.size_toArray, List.size_toArray]; omega
 have hlong : ¬ (!its.toArray.isEmpty && Builtin.List.listTooLong (its.toArray.size + its2.toArray.size)) = true := by
  rw [zcx hsz, Bool.and_false]
  exact Bool.false_ne_true
 refine call_meets F.slot_list_extend ⟨_, e, rfl⟩ F.entry_list_extend (F.args_list_extend_2 _ _)
  (AutoSeq1.list_extend_list_list_0 l its.toArray n b its2.toArray n2 hlong (by rw [List.size_toArray]; omega) (by omega)) ⟨e, e2, ?_⟩
 refine ⟨.non, _, I.lset (its' := its ++ its2) hH e (by simp) (r.append r2) ?_, rfl, q⟩
 rw [List.length_append]
 omega
def rRep : R2 := fun x y H Q => ∃ l k xs, x = .ref l /\ y = .int k /\ H l = some (.lst xs) /\ -(2 ^ 63) <= k /\ k < 2 ^ 63 /\ xs.length * k.toNat <= sizeLine /\
 ∀ p, H p = none -> Q (.ref p) (upd H p (.lst (List.replicate k.toNat xs).flatten))
theorem len_rep {α : Type} (xs : List α) (k : Nat) : (List.replicate k xs).flatten.length = k * xs.length := by
 induction k with
 | zero => simp
 | succ k ih => rw [List.replicate_succ, List.flatten_cons, List.length_append, ih, Nat.succ_mul, Nat.add_comm]
theorem op_rep : OpR X (binaryOp .Mult) rRep := by
 intro pins s σ H x y v u Q I rx ry h
 obtain ⟨l, k, xs, rfl, rfl, hH, h1, h2, hz, q⟩ := h
 cases rx
 obtain ⟨t, rfl⟩ := ry
 obtain ⟨z, its, n, r, hl, e⟩ := I.lstM hH
 have hlen : its.toArray.size * k.toNat <= sizeLine := by rw [List.size_toArray, <- hl]; exact hz
 have hcap : ¬ its.toArray.size * k.toNat > (2 ^ 63 - 1) / 8 := by
  have : (sizeLine : Nat) <= (2 ^ 63 - 1) / 8 := by decide
  omega
 have hfit : ¬ (!Builtin.List.listFitsIndex k) = true := by
  rw [fitsIndex_both h1 h2]
  exact Bool.false_ne_true
 have hlong : ¬ Builtin.List.listTooLong (its.toArray.size * k.toNat) = true := by
  rw [zcx hlen]
  exact Bool.false_ne_true
 have hnew : List.foldl (fun x1 x2 => x1 ++ x2) #[] (List.replicate (if its.toArray.isEmpty = true then 0 else k.toNat) its.toArray) = (List.replicate k.toNat its).flatten.toArray := by
  have f0 : ∀ m : Nat, List.foldl (fun x1 x2 => x1 ++ x2) #[] (List.replicate m its.toArray) = (List.replicate m its).flatten.toArray := fun m => by
   have := zaR its m []
   rw [List.nil_append] at this
   exact this
  rw [f0]
  cases its with
  | nil => simp
  | cons a r' => rw [if_neg (by simp)]
 refine wpAny_binaryOp_repeat_ref (T := "list") (U := "int") (by decide) ⟨_, e, rfl⟩ (fun s' => typeIs_int s' k t) noFill_list_mul F.fills_int_mul F.slot_int_rmul repeat_list F.slot_int_index.lookup
  (call_meets F.slot_int_rmul (typeIs_int s k t) F.entry_int_rmul (F.args_int_rmul_2 _ _) (int___rmul___int_list k t l its.toArray n)
   ⟨e, rfl, ⟨_, e, rfl⟩, call_meets F.slot_list_mul ⟨_, e, rfl⟩ F.entry_list_mul (F.args_list_mul_2 _ _) (AutoListH.list___mul___list_int_3 l its.toArray n k t hfit hcap hlong) ⟨e, ?_⟩⟩)
 rw [hnew]
 exact ⟨.ref _, _, I.lnew (t' := s.toks) (r.rep k.toNat) (by rw [len_rep, Nat.mul_comm]; exact hz), rfl, q _ I.fresh⟩
end
section
variable {prog : Program} {w : World} {A : Around} {E : Value -> Shared -> Prop} {s : Shared}
end
section
variable {X : Cx}
end
end L2
namespace Att
open PySem PySem.W PySem.Calls PyProof.Rows
theorem Qe {P : Params} {h : Heap} : ∀ (ns : List Int) (vs : List Value), WellAll P h vs (ns.map WData.int) -> IntsAre vs ns := by
 intro ns
 induction ns with
 | nil =>
  intro vs w
  rw [List.map_nil] at w
  cases w
  exact .nil
 | cons n ns ih =>
  intro vs w
  rw [List.map_cons] at w
  cases w with
  | cons a b =>
   cases a
   exact .cons _ _ (ih _ b)
theorem zd4 {l : OpenLaw} {n : Nat} (hn : l.most = some n) {P : Params} {h : Heap} {args : List WData} {vals : List Value}
  (hpre : l.row.toRowW.claim.pre args = true) (hwl : WellAll P h vals args) :
  ∃ a vs ns, vals = [Value.ref a] /\ args = [WData.list (ns.map WData.int)] /\ h.get? a = some { cls := .type "list", data := .seq vs.toArray } /\ IntsAre vs ns /\ ns.length <= n := by
 have hsh : WShape.hasAll [] args [.list .int] = true := (pre_splitW hpre).1
 have hc : l.pre.holds [] { args := args } = true := (pre_splitW hpre).2
 obtain ⟨d, r, rfl, h1, h2⟩ := hasAllW_cons hsh
 obtain rfl := hasAllW_nil h2
 obtain ⟨xs, rfl, h3⟩ := hasW_list h1
 obtain ⟨ns, rfl⟩ := items_int h3
 have hlen : ns.length <= n := by
  unfold OpenLaw.pre at hc
  have h4 : (WTm.not (.lt (.lit (.int (n : Int))) (.len (.arg 0)))).holds [] { args := [.list (ns.map .int)] } = true := by
   have h4 := (holds_andW hc).1
   rw [hn] at h4
   exact h4
  have h5 := condW_of h4 (w_not (w_lt w_lit (w_len_list (w_arg rfl))))
  rw [List.length_map] at h5
  refine Nat.le_of_not_lt fun q => ?_
  have q' : (n : Int) < ((ns.length : Nat) : Int) := by omega
  first
   | (rw [decide_eq_true q'] at h5; exact absurd h5 (by decide))
   | (simp at h5; omega)
 cases hwl with
 | cons w1 w2 =>
  cases w2
  cases w1 with
  | list ho hall => exact ⟨_, _, ns, rfl, rfl, ho, Qe ns _ hall, hlen⟩
theorem zen (l : OpenLaw) (args : List WData) : l.row.toRowW.claim.post args (.bool true) args = true :=
 postW_of (r := l.row.toRowW) (X := (true == true))
  (show WShape.has [] (.bool true) .bool = true by first | rfl | decide | simp [WShape.has, WShape.arms, WShape.armsAll])
  (show (WTm.eq .res (.lit (.bool true))).value [] { args := args, res := some (.bool true), after := args } = some (.bool (true == true)) from w_eq_bool (w_res rfl) w_lit) rfl
theorem attach_call {l : OpenLaw} {n : Nat} {q : Program} {loose : List Str} {XP : (Str -> Option Value) -> Heap -> Prop} {YP : World -> Heap -> Prop} {d : DefRec}
  (hn : l.most = some n) (hdf : d.params.defaults = [])
  (call : ∀ (w : World) (s₀ s₁ : Shared) (mg mb : Str -> Option Value) (fa : Addr) (o : Obj) (pm cd doc : Value) (a : Addr) (vs : List Value) (ns : List Int),
   Ground q loose [] XP w s₀ mg mb s₁.heap -> YP w s₁.heap ->
   s₁.heap.get? fa = some o -> o.data = .func (docDef d.name d.params d.body d.scope pm cd doc) -> s₁.heap.CodeRec cd d.name -> mg d.name = some (.ref fa) ->
   s₁.heap.get? a = some { cls := .type "list", data := .seq vs.toArray } -> IntsAre vs ns -> ns.length <= n -> s₁.gens = #[] ->
   codeAny (model l.prog w) callerA (.call (.ref fa) ⟨[.ref a], []⟩) (fun r s' => r = .ok (.ret (.bool true)) /\ OldK s₁.heap s'.heap /\ s'.os = s₁.os /\ AllBare s'.gens) s₁) :
  WalkO q loose XP YP l.row.toRowW d [] (fun f vs => PySem.call f vs) := by
 intro w s₀ s₁ mg mb G Y fa o pm cd doc dV kV ho hd hcd hD hmg hg args vals as hpre hlay hrd hwl hlo
 obtain rfl : dV = .none := Dflts.none hD hdf
 obtain rfl : kV = .none := Dflts.noKw hD
 obtain ⟨a, vs, ns, rfl, rfl, hobj, hints, hlen⟩ := zd4 hn hpre hwl
 refine enter_call (codeAny_mono (call w s₀ s₁ mg mb fa o pm cd doc a vs ns G Y ho (fd_plain hd) hcd hmg hobj hints hlen hg) fun r s' hq => ?_)
 obtain ⟨rfl, h2, h3, h4⟩ := hq
 exact ⟨.inl ⟨.bool true, .bool true, [], rfl, fun _ => rfl, .bool true, zen l _, fun _ => ⟨List.Pairwise.nil, fun _ hm => (nomatch hm)⟩⟩, h2, h3, h4⟩
section
variable {prog : Program} {w : World} {A : Around} {E : Value -> Shared -> Prop} {s : Shared} {K : Frag}
end
end Att
namespace L2
open PySem PySem.Spec PyProof.Rows
theorem zau : ∀ {vs : List Value} {ns : List Int}, IntsAre vs ns -> Vals (ns.map V.int) vs
 | _, _, .nil => .nil
 | _, _, .cons n t h => .cons ⟨t, rfl⟩ (zau h)
end L2
namespace L2
open PySem PySem.Spec PyProof.Rows
end L2
namespace L2
open PySem PySem.Spec PyProof.Rows
def Zk (s : Stmt) : Arguments := match s with
 | .FunctionDef _ a _ _ _ _ _ _ _ _ => a
 | _ => { posonlyargs := [], args := [], vararg := none, kwonlyargs := [], kw_defaults := [], kwarg := none, defaults := [] }
def Zj (s : Stmt) : List Stmt := match s with
 | .FunctionDef _ _ b _ _ _ _ _ _ _ => b
 | _ => []
def Zd (s : Stmt) : Scope := match s with
 | .FunctionDef _ _ _ _ _ _ sc _ _ _ => sc
 | _ => { kind := .function, names := [], isGenerator := false, isCoroutine := false }
abbrev CX0 : CXT := fun _ _ _ _ _ _ => False
abbrev E0 : XK := fun _ _ _ => False
theorem pass0 {X : Cx} : Us CX0 X E0 := fun _ _ _ _ _ _ _ h => h.elim
structure Fun (K : PySem.W.Frag) (x qual : Str) (st : Stmt) (f : Addr) (fd : FuncData) : Prop where
 ex : ∃ (oc : Value) (od : Option Addr) (kV doc pm : Value) (an : Option Addr) (cdv ct : Value) (osl : Array (Option Value)),
  fd = PySem.W.fnOf x qual (Zk st) (Zj st) (Zd st) .none kV doc pm an cdv ct /\ K.lookup f = some ⟨oc, od, .func fd, osl⟩ /\ PySem.W.codeIn K cdv qual = true
 kp : PySem.W.keepIn K (.ref f) = true
section
variable {P : Program} {w : World} {K : PySem.W.Frag} {mg : Str -> Option Value} {base : Heap}
theorem Fun.ok {x qual : Str} {st : Stmt} {f : Addr} {fd : FuncData} {N ps : List Str} {k : Nat} {sp : Sp} (F : Fun K x qual st f fd) (S : FnScope N ps (Zd st)) (len : ∀ vs H Q E, sp vs H Q E -> vs.length = ps.length)
  (hbody : ∀ (cdv : Value) (A : Around) (outer : List Env) (s : Shared) (H : Hp) (vs : List V) (Q : VK) (E : XK), Room k (A.deeper (envOfC qual (Zd st) s.heap.objs.size f cdv)) -> sp vs H Q E ->
   ∃ t, PSs (cxOf CX0 P w K mg base N qual (Zd st) f cdv A outer s H E).nox (Zj st) t /\ t { nx := fun _ H' => Q .non H', rt := Q } (start N vs) H) : FnOk P w K mg base CX0 (k + 1) f fd ps sp := by
 obtain ⟨oc, od, kV, doc, pm, an, cdv, ct, osl, rfl, lk, hcd⟩ := F.ex
 refine fn_of lk hcd S len fun A outer s H vs Q E hr hsp => ?_
 obtain ⟨t, h, q⟩ := hbody cdv A outer s H vs Q E hr hsp
 exact ⟨t, h.nox, q⟩
theorem Fun.binds {x qual : Str} {st : Stmt} {f : Addr} {fd : FuncData} {ps : List Str} (F : Fun K x qual st f fd)
  (h : ∀ (kV doc pm : Value) (an : Option Addr) (cdv ct : Value) (us : List Value), us.length = ps.length -> bindArgs (PySem.W.fnOf x qual (Zk st) (Zj st) (Zd st) .none kV doc pm an cdv ct) ⟨us, []⟩ = pure (ps.zip us)) : ZC K fd ps [] := by
 obtain ⟨oc, od, kV, doc, pm, an, cdv, ct, osl, rfl, lk, hcd⟩ := F.ex
 exact .all (h kV doc pm an cdv ct)
theorem Zs {x qual : Str} {st : Stmt} {f : Addr} {oc : Value} {od an : Option Addr} {osl : Array (Option Value)} {kV doc pm cdv ct : Value} (l : K.lookup f = some ⟨oc, od, .func (PySem.W.fnOf x qual (Zk st) (Zj st) (Zd st) .none kV doc pm an cdv ct), osl⟩)
  (c : PySem.W.codeIn K cdv qual = true) (k : PySem.W.keepIn K (.ref f) = true) : Fun K x qual st f (PySem.W.fnOf x qual (Zk st) (Zj st) (Zd st) .none kV doc pm an cdv ct) := ⟨⟨oc, od, kV, doc, pm, an, cdv, ct, osl, rfl, l, c⟩, k⟩
end
section
variable {X : Cx}
theorem pv (i : Nat) {x : Str} {pos : Pos} (hN : X.N[i]? = some x := by rfl) (hv : Vis X.env.scope x := by first | exact Or.inl rfl | exact Or.inr (Or.inl rfl) | exact Or.inr (Or.inr rfl)) (hd : (x == ("__debug__" : Str)) = false := by decide)
  (hcd : (x == ("__classdict__" : Str)) = false := by decide) : PE X (.Name x pos) (tVar i) := Vc hN hv hd hcd
end
theorem iteF {A B : Prop} (h : B) : if false = true then A else B := by
 rw [if_neg Bool.false_ne_true]
 exact h
theorem iteT {A B : Prop} (h : A) : if true = true then A else B := by
 rw [if_pos rfl]
 exact h
end L2
namespace Fx
open PySem
inductive Sl where
 | emp | val (t : PyData) | own (xs : List PyData) | dct (es : List (PyData × PyData))
inductive Res (α : Type) where
 | ok (a : α) | exc (c : Str) | stuck
def Res.bind {α β : Type} (r : Res α) (f : α -> Res β) : Res β :=
 match r with
 | .ok a => f a
 | .exc c => .exc c
 | .stuck => .stuck
@[simp] theorem Res.bind_ok {α β : Type} (a : α) (f : α -> Res β) : Res.bind (.ok a) f = f a := rfl
@[simp] theorem Res.bind_exc {α β : Type} (c : Str) (f : α -> Res β) : Res.bind (.exc c) f = .exc c := rfl
@[simp] theorem Res.bind_stuck {α β : Type} (f : α -> Res β) : Res.bind .stuck f = .stuck := rfl
abbrev DE := List Sl -> Res PyData
abbrev DT := List Sl -> Res Bool
abbrev DA := List Sl -> Res (List PyData)
inductive Out where
 | nx (G : List Sl) | rt (t : PyData) | bk (G : List Sl) | ct (G : List Sl)
abbrev DS := List Sl -> Res Out
abbrev DF := List PyData -> Res PyData
@[simp] def frz1 (G : List Sl) (i : Nat) : List Sl :=
 match G[i]? with
 | some (.own xs) => G.set i (.val (.list xs))
 | _ => G
@[simp] def frz (is : List Nat) (G : List Sl) : List Sl := is.foldl frz1 G
@[simp] def frzA : List Sl -> List Sl
 | [] => []
 | .own xs :: r => .val (.list xs) :: frzA r
 | .emp :: r => .emp :: frzA r
 | .val t :: r => .val t :: frzA r
 | .dct _ :: r => .emp :: frzA r
@[simp] def frzS : Sl -> Sl
 | .own xs => .val (.list xs)
 | .emp => .emp
 | .val t => .val t
 | .dct _ => .emp
@[simp] theorem frzA_cons (s : Sl) (G : List Sl) : frzA (s :: G) = frzS s :: frzA G := by cases s <;> simp
mutual
def Xi : PyData -> Bool
 | .none | .bool _ | .int _ | .str _ => true
 | .tuple xs => Wv xs
 | .list _ => false
 | .dict _ => false
def Wv : List PyData -> Bool
 | [] => true
 | x :: xs => Xi x && Wv xs
end
@[simp] theorem scalT_tuple (xs : List PyData) : Xi (.tuple xs) = Wv xs := by simp [Xi]
@[simp] theorem scalT_dict (xs : List (PyData × PyData)) : Xi (.dict xs) = false := by simp [Xi]
@[simp] theorem scalT_list (xs : List PyData) : Xi (.list xs) = false := by simp [Xi]
@[simp] theorem zaz (x : PyData) (xs : List PyData) : Wv (x :: xs) = (Xi x && Wv xs) := by simp [Wv]
@[simp] def dC (t : PyData) : DE := fun _ => .ok t
@[simp] def dVar (i : Nat) : DE := fun G => match G[i]? with
 | some (.val t) => .ok t
 | _ => .stuck
@[simp] def d1 (f : PyData -> Res PyData) (a : DE) : DE := fun G => (a G).bind f
@[simp] def d2 (f : PyData -> PyData -> Res PyData) (a b : DE) : DE := fun G => (a G).bind fun x => (b G).bind fun y => f x y
@[simp] def dNil : DA := fun _ => .ok []
@[simp] def Zc (a : DE) (r : DA) : DA := fun G => (a G).bind fun x => (r G).bind fun xs => .ok (x :: xs)
@[simp] def lenOk (xs : List PyData) : Bool := decide (xs.length <= 16777216)
@[simp] def dTup (a : DA) : DE := fun G => (a G).bind fun xs => if lenOk xs then .ok (.tuple xs) else .stuck
@[simp] def dLst (a : DA) : DE := fun G => (a G).bind fun xs => if lenOk xs then .ok (.list xs) else .stuck
@[simp] def Zl (f : DF) (a : DA) : DE := fun G => (a G).bind f
@[simp] def dIfE (c : DT) (a b : DE) : DE := fun G => (c G).bind fun k => if k then a G else b G
@[simp] def zdI (a b : DE) : DE := fun G => (a G).bind fun x => match x with
 | .bool k => if k then b G else .ok (.bool false)
 | _ => .stuck
@[simp] def dOrV (a b : DE) : DE := fun G => (a G).bind fun x => match x with
 | .bool k => if k then .ok (.bool true) else b G
 | _ => .stuck
@[simp] def dNotV (a : DE) : DE := fun G => (a G).bind fun x => match x with
 | .bool k => .ok (.bool (!k))
 | _ => .stuck
def Va (i j : Int) : Bool := decide (i.natAbs.log2 + j.natAbs.log2 + 2 <= 134217728) || decide (i.natAbs < 18446744073709551616) || decide (j.natAbs < 18446744073709551616)
def zdr (j : Int) : Bool := decide (j ≠ 0) && decide (j.natAbs.log2 < 9000)
@[simp] def fAdd : PyData -> PyData -> Res PyData
 | .int i, .int j => .ok (.int (i + j))
 | .list xs, .list ys => if xs.length + ys.length <= 16777216 then .ok (.list (xs ++ ys)) else .stuck
 | _, _ => .stuck
@[simp] def fSub : PyData -> PyData -> Res PyData
 | .int i, .int j => .ok (.int (i - j))
 | _, _ => .stuck
@[simp] def fMul : PyData -> PyData -> Res PyData
 | .int i, .int j => if Va i j then .ok (.int (i * j)) else .stuck
 | _, _ => .stuck
@[simp] def fDiv : PyData -> PyData -> Res PyData
 | .int i, .int j => if zdr j then .ok (.int (i.fdiv j)) else .stuck
 | _, _ => .stuck
@[simp] def fMod : PyData -> PyData -> Res PyData
 | .int i, .int j => if j = 0 then .stuck else .ok (.int (i.fmod j))
 | _, _ => .stuck
@[simp] def fNeg : PyData -> Res PyData
 | .int i => .ok (.int (-i))
 | _ => .stuck
@[simp] def fLt : PyData -> PyData -> Res PyData
 | .int i, .int j => .ok (.bool (decide (i < j)))
 | _, _ => .stuck
@[simp] def fLe : PyData -> PyData -> Res PyData
 | .int i, .int j => .ok (.bool (decide (i <= j)))
 | _, _ => .stuck
@[simp] def fGt : PyData -> PyData -> Res PyData
 | .int i, .int j => .ok (.bool (decide (j < i)))
 | _, _ => .stuck
@[simp] def fGe : PyData -> PyData -> Res PyData
 | .int i, .int j => .ok (.bool (decide (j <= i)))
 | _, _ => .stuck
def XL (d : PyData) : Bool := d.canLay0 && decide (d.depth <= 64)
def fEq : PyData -> PyData -> Res PyData
 | .int i, .int j => .ok (.bool (decide (i = j)))
 | x, y => if XL x && XL y then .ok (.bool (x.eqv y)) else .stuck
def fNe : PyData -> PyData -> Res PyData
 | .int i, .int j => .ok (.bool (!decide (i = j)))
 | x, y => if XL x && XL y then .ok (.bool (!x.eqv y)) else .stuck
@[simp] def fIsN : PyData -> Res PyData
 | .none => .ok (.bool true)
 | _ => .ok (.bool false)
@[simp] def zaS : PyData -> Res PyData
 | .none => .ok (.bool false)
 | _ => .ok (.bool true)
@[simp] def fLen : PyData -> Res PyData
 | .list xs => .ok (.int xs.length)
 | .tuple xs => .ok (.int xs.length)
 | _ => .stuck
@[simp] def fAbs : PyData -> Res PyData
 | .int i => .ok (.int (if i < 0 then -i else i))
 | _ => .stuck
def ixP (n : Nat) (i : Int) : Option Nat := if 0 <= i then (if i < n then some i.toNat else none) else if -(n : Int) <= i then some (i + n).toNat else none
def atP (xs : List PyData) (i : Int) : Option PyData := (ixP xs.length i).bind fun j => xs[j]?
@[simp] def ofO {α : Type} : Option α -> Res α
 | some a => .ok a
 | none => .stuck
@[simp] def fIx : PyData -> PyData -> Res PyData
 | .list xs, .int i => ofO (atP xs i)
 | .tuple xs, .int i => ofO (atP xs i)
 | _, _ => .stuck
@[simp] def isInt : PyData -> Bool
 | .int _ => true
 | .bool _ => true
 | _ => false
@[simp] def isBool : PyData -> Bool
 | .bool _ => true
 | _ => false
@[simp] def zeW : PyData -> Bool
 | .tuple _ => true
 | _ => false
@[simp] def isList : PyData -> Bool
 | .list _ => true
 | _ => false
@[simp] def fIs (p : PyData -> Bool) : PyData -> Res PyData
 | .dict _ => .stuck
 | .none => .ok (.bool (p .none))
 | .bool b => .ok (.bool (p (.bool b)))
 | .int b => .ok (.bool (p (.int b)))
 | .str b => .ok (.bool (p (.str b)))
 | .list b => .ok (.bool (p (.list b)))
 | .tuple b => .ok (.bool (p (.tuple b)))
@[simp] def fIsX : PyData -> Res PyData
 | .dict [] => .ok (.bool true)
 | _ => .stuck
@[simp] def fList : PyData -> Res (List PyData)
 | .list xs => .ok xs
 | .tuple xs => .ok xs
 | _ => .stuck
@[simp] def Jr : PyData -> Res PyData
 | .list xs => .ok (.tuple xs)
 | .tuple xs => .ok (.tuple xs)
 | _ => .stuck
@[simp] def truth : PyData -> Res Bool
 | .none => .ok false
 | .bool b => .ok b
 | .int i => .ok (i != 0)
 | .list xs => .ok (!xs.isEmpty)
 | .tuple xs => .ok (!xs.isEmpty)
 | _ => .stuck
@[simp] def tV (a : DE) : DT := fun G => (a G).bind truth
@[simp] def tAnd (a b : DT) : DT := fun G => (a G).bind fun k => if k then b G else .ok false
@[simp] def tOr (a b : DT) : DT := fun G => (a G).bind fun k => if k then .ok true else b G
@[simp] def tNot (a : DT) : DT := fun G => (a G).bind fun k => .ok (!k)
@[simp] def dSeq (a b : DS) : DS := fun G => (a G).bind fun o => match o with
 | .nx G' => b G'
 | .rt t => .ok (.rt t)
 | .bk G' => .ok (.bk G')
 | .ct G' => .ok (.ct G')
@[simp] def ZZ : DS := fun G => .ok (.nx G)
@[simp] def dNev : DS := fun _ => .stuck
@[simp] def X4 (c : Str) (a : DA) : DS := fun G => (a (frzA G)).bind fun _ => .exc c
def dSet (i : Nat) (is : List Nat) (e : DE) : DS := fun G => (e (frz is G)).bind fun t => .ok (.nx ((if Xi t then G else frz is G).set i (.val t)))
@[simp] theorem dSet_nil (i : Nat) (e : DE) (G : List Sl) : dSet i [] e G = (e G).bind fun t => .ok (.nx (G.set i (.val t))) := by
 unfold dSet
 show (e G).bind _ = _
 congr 1
 funext t
 show Res.ok (Out.nx ((if Xi t = true then G else G).set i (.val t))) = _
 rw [ite_self]
@[simp] theorem dSet_cons (i j : Nat) (is : List Nat) (e : DE) (G : List Sl) : dSet i (j :: is) e G = (e (frz (j :: is) G)).bind fun t => .ok (.nx ((if Xi t then G else frz (j :: is) G).set i (.val t))) := rfl
@[simp] def Vb (i : Nat) (is : List Nat) (e : DA) : DS := fun G => (e (frz is G)).bind fun xs => if i < G.length then .ok (.nx ((frz is G).set i (.own xs))) else .stuck
@[simp] def dRet (e : DE) : DS := fun G => (e (frzA G)).bind fun t => .ok (.rt t)
@[simp] def dIf (c : DT) (a b : DS) : DS := fun G => (c (frzA G)).bind fun k => if k then a G else b G
@[simp] def QI (e : DE) : DS := fun G => (e (frzA G)).bind fun _ => .ok (.nx G)
@[simp] def zbh (i : Nat) (G' : List Sl) (t : PyData) : Res Out :=
 match G'[i]? with
 | some (.own xs) => if xs.length < 16777216 then .ok (.nx (G'.set i (.own (xs ++ [t])))) else .stuck
 | _ => .stuck
@[simp] def zaO (G : List Sl) (i : Nat) : Bool := match G[i]? with
 | some (.own _) => true
 | _ => false
def dApp (i : Nat) (is : List Nat) (e : DE) : DS := fun G => if zaO G i then (e (frz is G)).bind fun t => zbh i (if Xi t then G else frz is G) t else .stuck
@[simp] theorem dApp_nil (i : Nat) (e : DE) (G : List Sl) : dApp i [] e G = if zaO G i then (e G).bind fun t => zbh i G t else .stuck := by
 unfold dApp
 congr 1
 show (e G).bind _ = _
 congr 1
 funext t
 show zbh i (if Xi t = true then G else G) t = _
 rw [ite_self]
@[simp] theorem dApp_cons (i j : Nat) (is : List Nat) (e : DE) (G : List Sl) : dApp i (j :: is) e G = if zaO G i then (e (frz (j :: is) G)).bind fun t => zbh i (if Xi t then G else frz (j :: is) G) t else .stuck := rfl
def forL (st : PyData -> List Sl -> Res (List Sl)) (b : DS) : List PyData -> List Sl -> Res Out
 | [], G => .ok (.nx G)
 | t :: ts, G => (st t G).bind fun G1 => (b G1).bind fun o => match o with
  | .nx G' => forL st b ts G'
  | .ct G' => forL st b ts G'
  | .bk G' => .ok (.nx G')
  | .rt t => .ok (.rt t)
@[simp] def dFor (st : PyData -> List Sl -> Res (List Sl)) (is : List Nat) (it : DA) (b : DS) : DS := fun G => (it (frz is G)).bind fun ts => forL st b ts (frz is G)
@[simp] def ZQ (i : Nat) : PyData -> List Sl -> Res (List Sl) := fun t G => .ok (G.set i (.val t))
def Ub (c : DT) (b : DS) : Nat -> List Sl -> Res Out
 | 0, _ => .stuck
 | n + 1, G => (c (frzA G)).bind fun k => if k then (b G).bind fun o => match o with
   | .nx G' => Ub c b n G'
   | .ct G' => Ub c b n G'
   | .bk G' => .ok (.nx G')
   | .rt t => .ok (.rt t)
  else .ok (.nx G)
@[simp] def Ju (fuel : List Sl -> Nat) (c : DT) (b : DS) : DS := fun G => Ub c b (fuel G) G
@[simp] def noX {α : Type} : Res α -> Res α
 | .ok a => .ok a
 | _ => .stuck
@[simp] def Jv (f : DF) (a : DA) : DE := fun G => (noX (a G)).bind f
@[simp] def dTryA (i : Nat) (b : DS) (sub : Str -> Bool) (h : DS) : DS := fun G => match b G with
 | .exc c => if sub c then (noX (h (G.set i (.val (.dict []))))).bind fun o => match o with
  | .nx G' => .ok (.nx (G'.set i .emp))
  | .rt t => .ok (.rt t)
  | _ => .stuck
  else .stuck
 | .ok o => .ok o
 | .stuck => .stuck
def runF (n np : Nat) (b : DS) : DF := fun ts => if ts.length = np then (b (ts.map .val ++ List.replicate (n - np) .emp)).bind fun o => match o with
  | .rt t => .ok t
  | .nx _ => .ok .none
  | _ => .stuck
 else .stuck
theorem WK {α : Type} (r : Res α) : (∃ a, noX r = .ok a) \/ noX r = .stuck := by
 cases r
 ·exact .inl ⟨_, rfl⟩
 ·exact .inr rfl
 ·exact .inr rfl
theorem zcy {α : Type} {r : Res α} {a : α} (h : noX r = .ok a) : r = .ok a := by
 cases r <;> simp at h
 rw [h]
def runQ (n np : Nat) (b : DS) : DF := fun ts => noX (runF n np b ts)
theorem JK (n np : Nat) (b : DS) (ts : List PyData) (c : Str) : runQ n np b ts ≠ .exc c := by
 unfold runQ
 cases runF n np b ts <;> simp
def rngT (lo : Int) (n : Nat) : List PyData := (List.range n).map fun (k : Nat) => .int (lo + (k : Int))
def Uu (j : Int) : Bool := decide (j.natAbs <= 1000000000000)
theorem Vy {n : Nat} (h : n <= 1000000000) : Uu (n : Int) = true := by
 unfold Uu
 exact decide_eq_true (by omega)
theorem W2 {j : Int} (h : Uu j = true) : -(2 ^ 62) <= j /\ j < 2 ^ 62 := by
 have h' : j.natAbs <= 1000000000000 := of_decide_eq_true h
 omega
@[simp] def iRng (a : DE) : DA := fun G => (a G).bind fun x => match x with
 | .int j => if Uu j = true then .ok (rngT 0 j.toNat) else .stuck
 | _ => .stuck
@[simp] def iRng2 (a b : DE) : DA := fun G => (a G).bind fun x => (b G).bind fun y => match x, y with
 | .int i, .int j => if Uu i = true /\ Uu j = true then .ok (rngT i (j - i).toNat) else .stuck
 | _, _ => .stuck
theorem fLt_b : ∀ x y, (∃ k, fLt x y = .ok (.bool k)) \/ fLt x y = .stuck := by intro x y; cases x <;> cases y <;> simp
theorem fLe_b : ∀ x y, (∃ k, fLe x y = .ok (.bool k)) \/ fLe x y = .stuck := by intro x y; cases x <;> cases y <;> simp
theorem fGt_b : ∀ x y, (∃ k, fGt x y = .ok (.bool k)) \/ fGt x y = .stuck := by intro x y; cases x <;> cases y <;> simp
theorem fGe_b : ∀ x y, (∃ k, fGe x y = .ok (.bool k)) \/ fGe x y = .stuck := by intro x y; cases x <;> cases y <;> simp
theorem fEq_b : ∀ x y, (∃ k, fEq x y = .ok (.bool k)) \/ fEq x y = .stuck := by
 intro x y
 unfold fEq
 split
 ·exact .inl ⟨_, rfl⟩
 ·split
  ·exact .inl ⟨_, rfl⟩
  ·exact .inr rfl
theorem fNe_b : ∀ x y, (∃ k, fNe x y = .ok (.bool k)) \/ fNe x y = .stuck := by
 intro x y
 unfold fNe
 split
 ·exact .inl ⟨_, rfl⟩
 ·split
  ·exact .inl ⟨_, rfl⟩
  ·exact .inr rfl
@[simp] def iSeq (a : DE) : DA := fun G => (a G).bind fun x => match x with
 | .list xs => .ok xs
 | .tuple xs => .ok xs
 | _ => .stuck
def zah : Nat -> List PyData -> List PyData
 | _, [] => []
 | n, x :: r => .tuple [.int n, x] :: zah (n + 1) r
def zipT : List PyData -> List PyData -> List PyData
 | x :: xs, y :: ys => .tuple [x, y] :: zipT xs ys
 | _, _ => []
@[simp] def iEnum (a : DA) : DA := fun G => (a G).bind fun xs => .ok (zah 0 xs)
@[simp] def iZip (a b : DA) : DA := fun G => (a G).bind fun xs => (b G).bind fun ys => .ok (zipT xs ys)
@[simp] def VV (i j : Nat) : PyData -> List Sl -> Res (List Sl)
 | .tuple [x, y], G => .ok ((G.set i (.val x)).set j (.val y))
 | _, _ => .stuck
@[simp] def capS (cap : List Nat) (G : List Sl) : List Sl := cap.map fun i => match (G[i]? : Option Sl) with
 | some (.val t) => .val t
 | _ => .emp
def Y7 (st : PyData -> List Sl -> Res (List Sl)) (c : DT) (e : DE) (C : List Sl) : List PyData -> Res (List PyData)
 | [] => .ok []
 | t :: ts => (noX (st t C)).bind fun G1 => (c G1).bind fun k => if k then (e G1).bind fun y => (Y7 st c e C ts).bind fun ys => .ok (y :: ys) else Y7 st c e C ts
@[simp] def YH (nv : Nat) (cap : List Nat) (st : PyData -> List Sl -> Res (List Sl)) (it : DA) (c : DT) (e : DE) : DA := fun G => (it G).bind fun ts => if ts.length <= 16777216 then Y7 st c e (List.replicate nv .emp ++ capS cap G) ts else .stuck
@[simp] def tT : DT := fun _ => .ok true
def sIxT (n d : Nat) : Option Int -> Nat
 | none => d
 | some i => if i < 0 then (i + n).toNat else min i.toNat n
def cutT (xs : List PyData) (lo hi : Option Int) : List PyData := (xs.drop (sIxT xs.length 0 lo)).take (sIxT xs.length xs.length hi - sIxT xs.length 0 lo)
abbrev DP := List Sl -> Res (Option Int)
@[simp] def pNo : DP := fun _ => .ok none
@[simp] def pAt (a : DE) : DP := fun G => (a G).bind fun x => match x with
 | .int i => .ok (some i)
 | _ => .stuck
@[simp] def oCut (a : DE) (lo hi : DP) : DA := fun G => (a G).bind fun x => (lo G).bind fun l => (hi G).bind fun h => match x with
 | .list xs => .ok (cutT xs l h)
 | _ => .stuck
@[simp] def subs (l : List Str) (c : Str) : Bool := l.contains c
@[simp] def dL (a : DA) : DE := fun G => (a G).bind fun xs => .ok (.list xs)
@[simp] def oLst (a : DA) : DA := fun G => (a G).bind fun xs => if lenOk xs then .ok xs else .stuck
@[simp] def oList (a : DE) : DA := fun G => (a G).bind fList
@[simp] def oCat (a b : DE) : DA := fun G => (a G).bind fun x => (b G).bind fun y => match x, y with
 | .list xs, .list ys => if xs.length + ys.length <= 16777216 then .ok (xs ++ ys) else .stuck
 | _, _ => .stuck
def allT : List PyData -> Res Bool
 | [] => .ok true
 | .bool k :: r => (allT r).bind fun m => .ok (k && m)
 | _ => .stuck
theorem zfD : ∀ {xs : List PyData} {k : Bool}, allT xs = .ok k -> ∃ bs : List Bool, xs = bs.map .bool /\ k = bs.all id
 | [], k, h => by simp [allT] at h; exact ⟨[], rfl, by simp [<- h]⟩
 | x :: r, k, h => by
  cases x with
  | bool b =>
   simp only [allT] at h
   cases e : allT r with
   | ok m =>
    rw [e] at h
    simp at h
    obtain ⟨bs, h1, h2⟩ := zfD e
    exact ⟨b :: bs, by simp [h1], by simp [<- h, h2]⟩
   | exc c => rw [e] at h; cases h
   | stuck => rw [e] at h; cases h
  | none => simp [allT] at h
  | int _ => simp [allT] at h
  | str _ => simp [allT] at h
  | list _ => simp [allT] at h
  | tuple _ => simp [allT] at h
  | dict _ => simp [allT] at h
theorem zcW : ∀ (xs : List PyData) (c : Str), allT xs ≠ .exc c
 | [], c => by simp [allT]
 | x :: r, c => by
  cases x with
  | bool b =>
   simp only [allT]
   cases e : allT r with
   | ok m => simp
   | exc c' => exact absurd e (zcW r c')
   | stuck => simp
  | none => simp [allT]
  | int _ => simp [allT]
  | str _ => simp [allT]
  | list _ => simp [allT]
  | tuple _ => simp [allT]
  | dict _ => simp [allT]
@[simp] def fAll : PyData -> Res PyData
 | .list xs => (allT xs).bind fun k => .ok (.bool k)
 | _ => .stuck
@[simp] def zd3 (i : Nat) (G' : List Sl) (t kt : PyData) : Res Out :=
 match G'[i]?, kt with
 | some (.own xs), .int j => match ixP xs.length j with
  | some m => .ok (.nx (G'.set i (.own (xs.set m t))))
  | none => .stuck
 | _, _ => .stuck
def Up (i : Nat) (is : List Nat) (k e : DE) : DS := fun G => (e (frz is G)).bind fun t => if zaO (if Xi t then G else frz is G) i then (k (frz is G)).bind fun kt => zd3 i (if Xi t then G else frz is G) t kt else .stuck
@[simp] theorem dSetIt_cons (i j : Nat) (is : List Nat) (k e : DE) (G : List Sl) : Up i (j :: is) k e G = (e (frz (j :: is) G)).bind fun t => if zaO (if Xi t then G else frz (j :: is) G) i then (k (frz (j :: is) G)).bind fun kt => zd3 i (if Xi t then G else frz (j :: is) G) t kt else .stuck := rfl
theorem zeb {i : Nat} : ∀ t G c, ZQ i t G ≠ .exc c := by intro t G c; simp
theorem zea {i j : Nat} : ∀ t G c, VV i j t G ≠ .exc c := by
 intro t G c
 unfold VV
 split <;> simp
def zbj (nv : Nat) (st : PyData -> List Sl -> Res (List Sl)) : Prop := ∀ t G G1, st t G = .ok G1 -> G1.length = G.length /\ ∀ i, nv <= i -> G1[i]? = G[i]?
theorem ZI {nv i : Nat} (h : i < nv) : zbj nv (ZQ i) := by
 intro t G G1 e
 simp at e
 subst e
 refine ⟨by simp, fun j hj => ?_⟩
 rw [List.getElem?_set_ne (by omega)]
theorem Qd {nv i j : Nat} (h : i < nv) (h2 : j < nv) : zbj nv (VV i j) := by
 intro t G G1 e
 unfold VV at e
 split at e
 ·cases e
  refine ⟨by simp, fun k hk => ?_⟩
  rw [List.getElem?_set_ne (by omega), List.getElem?_set_ne (by omega)]
 ·cases e
end Fx
namespace Fx
open PySem
theorem mulOk_r {i j : Int} (hj : j.natAbs < 18446744073709551616) : Va i j = true := by
 simp only [Va, Bool.or_eq_true, decide_eq_true_eq]
 exact .inr hj
theorem JY {i j : Int} (hi : i.natAbs < 18446744073709551616) : Va i j = true := by
 simp only [Va, Bool.or_eq_true, decide_eq_true_eq]
 exact .inl (.inr hi)
def uGcd : List Sl -> Nat := fun G => match (G[1]? : Option Sl) with
 | some (.val (.int b)) => b.natAbs + 1
 | _ => 0
end Fx
namespace Fx
open PySem
theorem zcG {st : PyData -> List Sl -> Res (List Sl)} {b : DS} (Inv : Nat -> List Sl -> Prop) : ∀ (ts : List PyData) (k : Nat) (G : List Sl), Inv k G ->
  (∀ i t G, ts[i]? = some t -> Inv (k + i) G -> ∃ G1, st t G = .ok G1 /\ ∃ G2, (b G1 = .ok (.nx G2) \/ b G1 = .ok (.ct G2)) /\ Inv (k + i + 1) G2) ->
  ∃ G', forL st b ts G = .ok (.nx G') /\ Inv (k + ts.length) G'
 | [], k, G, h0, _ => ⟨G, rfl, h0⟩
 | t :: ts, k, G, h0, hs => by
  obtain ⟨G1, e1, G2, e2, h2⟩ := hs 0 t G rfl h0
  obtain ⟨G', e3, h3⟩ := zcG Inv ts (k + 1) G2 h2 fun i t' G' ht hi => by
   have := hs (i + 1) t' G' (by simpa using ht) (by rw [<- Nat.add_assoc, Nat.add_right_comm]; exact hi)
   simpa [Nat.add_assoc, Nat.add_comm, Nat.add_left_comm] using this
  refine ⟨G', ?_, by simpa [Nat.add_assoc, Nat.add_comm, Nat.add_left_comm] using h3⟩
  rw [forL, e1, Res.bind_ok]
  rcases e2 with e2 | e2 <;> rw [e2, Res.bind_ok] <;> exact e3
theorem JL (lo : Int) (n : Nat) : (rngT lo n).length = n := by simp [rngT]
theorem rngT_at {lo : Int} {n i : Nat} {t : PyData} (h : (rngT lo n)[i]? = some t) : i < n /\ t = .int (lo + (i : Int)) := by
 unfold rngT at h
 rw [List.getElem?_map] at h
 by_cases hi : i < n
 ·rw [List.getElem?_eq_getElem (by simpa using hi)] at h
  simp at h
  exact ⟨hi, h.symm⟩
 ·rw [List.getElem?_eq_none (by simpa using hi)] at h
  cases h
theorem for_rng {st : PyData -> List Sl -> Res (List Sl)} {b : DS} {n : Nat} {G : List Sl} (Inv : Nat -> List Sl -> Prop) (h0 : Inv 0 G)
  (hs : ∀ i G, i < n -> Inv i G -> ∃ G1, st (.int (i : Int)) G = .ok G1 /\ ∃ G2, (b G1 = .ok (.nx G2) \/ b G1 = .ok (.ct G2)) /\ Inv (i + 1) G2) :
  ∃ G', forL st b (rngT 0 n) G = .ok (.nx G') /\ Inv n G' := by
 obtain ⟨G', e, h⟩ := zcG Inv (rngT 0 n) 0 G h0 fun i t G ht hi => by
  obtain ⟨hl, rfl⟩ := rngT_at ht
  simpa using hs i G hl (by simpa using hi)
 refine ⟨G', e, ?_⟩
 rw [JL] at h
 simpa using h
theorem zaq {α : Type} {st : PyData -> List Sl -> Res (List Sl)} {e : DE} {C : List Sl} (inj f : α -> PyData) : ∀ (xs : List α), (∀ x ∈ xs, ∃ G1, st (inj x) C = .ok G1 /\ e G1 = .ok (f x)) -> Y7 st tT e C (xs.map inj) = .ok (xs.map f)
 | [], _ => rfl
 | t :: ts, h => by
  obtain ⟨G1, e1, e2⟩ := h t List.mem_cons_self
  have ih := zaq inj f ts fun t' ht => h t' (List.mem_cons_of_mem _ ht)
  rw [List.map_cons]
  unfold Y7
  simp [e1, e2, ih]
theorem rngT_map (n : Nat) : rngT 0 n = (List.range n).map fun (k : Nat) => PyData.int (k : Int) := by simp [rngT]
mutual
theorem eqv_refl : ∀ (t : PyData), t.canLay0 = true -> t.eqv t = true
 | .none, _ => by simp [PyData.eqv]
 | .bool b, _ => by simp [PyData.eqv]
 | .int i, _ => by simp [PyData.eqv]
 | .str x, _ => by simp [PyData.eqv]
 | .list xs, h => by simp only [PyData.eqv]; exact Vk xs (by simpa [PyData.canLay0] using h)
 | .tuple xs, h => by simp only [PyData.eqv]; exact Vk xs (by simpa [PyData.canLay0] using h)
 | .dict _, h => by simp [PyData.canLay0] at h
theorem Vk : ∀ (ts : List PyData), PyData.canLayAll0 ts = true -> PyData.eqvAll ts ts = true
 | [], _ => by simp [PyData.eqvAll]
 | t :: ts, h => by
  simp only [PyData.canLayAll0, Bool.and_eq_true] at h
  simp [PyData.eqvAll, eqv_refl t h.1, Vk ts h.2]
end
end Fx
namespace Lw
open PySem Fx
abbrev Vo : List Sl -> Nat := uGcd
def Jt : DS :=
  (dRet (zdI (d1 (fIs isInt) (dVar 0)) (dNotV (d1 (fIs isBool) (dVar 0)))))
def Z3 : DF := runQ 1 1 Jt
def VI : DS :=
  (dRet (dVar 0))
def VJ : DS :=
  dSeq (Ju Vo (tV (d2 fNe (dVar 1) (dC (.int 0))))
  (dSeq (dSet 2 [] (d2 fMod (dVar 0) (dVar 1)))
  (dSeq (dSet 0 [] (dVar 1))
  (dSet 1 [] (dVar 2)))))
  VI
def VL : DS :=
  dSeq (dSet 1 [] (d1 fAbs (dVar 1)))
  VJ
def UF : DS :=
  dSeq (dSet 0 [] (d1 fAbs (dVar 0)))
  VL
def Yh : DF := runQ 3 2 UF
def d_frac_3 : DS :=
  (dRet (dTup (Zc (d2 fDiv (dVar 0) (dVar 2)) (Zc (d2 fDiv (dVar 1) (dVar 2)) dNil))))
def d_frac_2 : DS :=
  dSeq (dIf (tV (d2 fLt (dVar 1) (dC (.int 0))))
  (dSet 2 [] (d1 fNeg (dVar 2)))
  ZZ)
  d_frac_3
def d_frac_1 : DS :=
  dSeq (dSet 2 [] (Zl Yh (Zc (dVar 0) (Zc (dVar 1) dNil))))
  d_frac_2
def d_frac : DS :=
  dSeq (dIf (tV (d2 fEq (dVar 1) (dC (.int 0))))
  dNev
  ZZ)
  d_frac_1
def Y2 : DF := runQ 3 2 d_frac
def d_plus : DS :=
  (dRet (Zl Y2 (Zc (d2 fAdd (d2 fMul (d2 fIx (dVar 0) (dC (.int 0))) (d2 fIx (dVar 1) (dC (.int 1)))) (d2 fMul (d2 fIx (dVar 1) (dC (.int 0))) (d2 fIx (dVar 0) (dC (.int 1))))) (Zc (d2 fMul (d2 fIx (dVar 0) (dC (.int 1))) (d2 fIx (dVar 1) (dC (.int 1)))) dNil))))
def Qi : DF := runQ 2 2 d_plus
def d_less : DS :=
  (dRet (Zl Y2 (Zc (d2 fSub (d2 fMul (d2 fIx (dVar 0) (dC (.int 0))) (d2 fIx (dVar 1) (dC (.int 1)))) (d2 fMul (d2 fIx (dVar 1) (dC (.int 0))) (d2 fIx (dVar 0) (dC (.int 1))))) (Zc (d2 fMul (d2 fIx (dVar 0) (dC (.int 1))) (d2 fIx (dVar 1) (dC (.int 1)))) dNil))))
def ze7 : DF := runQ 2 2 d_less
def d_times : DS :=
  (dRet (Zl Y2 (Zc (d2 fMul (d2 fIx (dVar 0) (dC (.int 0))) (d2 fIx (dVar 1) (dC (.int 0)))) (Zc (d2 fMul (d2 fIx (dVar 0) (dC (.int 1))) (d2 fIx (dVar 1) (dC (.int 1)))) dNil))))
def zbL : DF := runQ 2 2 d_times
def d_over : DS :=
  (dRet (Zl Y2 (Zc (d2 fMul (d2 fIx (dVar 0) (dC (.int 0))) (d2 fIx (dVar 1) (dC (.int 1)))) (Zc (d2 fMul (d2 fIx (dVar 0) (dC (.int 1))) (d2 fIx (dVar 1) (dC (.int 0)))) dNil))))
def ze6 : DF := runQ 2 2 d_over
def d_below : DS :=
  (dRet (d2 fLt (d2 fMul (d2 fIx (dVar 0) (dC (.int 0))) (d2 fIx (dVar 1) (dC (.int 1)))) (d2 fMul (d2 fIx (dVar 1) (dC (.int 0))) (d2 fIx (dVar 0) (dC (.int 1))))))
def WD : DF := runQ 2 2 d_below
def Qz : DS :=
  (dRet (zdI (Zl Z3 (Zc (dVar 0) dNil)) (d2 fLe (d1 fAbs (dVar 0)) (dC (.int 999999999999)))))
def YN : DF := runQ 1 1 Qz
def zdt : DS :=
  (dRet (dVar 2))
def zdu : DS :=
  dSeq (dFor (VV 3 4) [] (iZip (iSeq (dVar 0)) (iSeq (dVar 1)))
  (dSet 2 [] (Zl Qi (Zc (dVar 2) (Zc (Zl Y2 (Zc (d2 fMul (dVar 3) (d2 fIx (dVar 4) (dC (.int 0)))) (Zc (d2 fIx (dVar 4) (dC (.int 1))) dNil))) dNil)))))
  zdt
def d_weight : DS :=
  dSeq (dSet 2 [] (dTup (Zc (dC (.int 0)) (Zc (dC (.int 1)) dNil))))
  zdu
def W6 : DF := runQ 5 2 d_weight
def XZ : DS :=
  (dRet (d2 fAdd (d2 fMul (d2 fIx (dVar 0) (d2 fMod (dVar 1) (d1 fLen (dVar 0)))) (dC (.int 31))) (dVar 1)))
def Y5 : DS :=
  dSeq (dIf (tV (d2 fEq (dVar 0) (dLst dNil)))
  (dRet (dC (.int 0)))
  ZZ)
  XZ
def Xw : DS :=
  dSeq (dIf (tV (d2 fLt (dVar 1) (d1 fLen (dVar 0))))
  (dRet (d2 fIx (dVar 0) (dVar 1)))
  ZZ)
  Y5
def Zt : DF := runQ 2 2 Xw
def Wa : DS :=
  (dRet (dVar 2))
def Wb : DS :=
  dSeq (dIf (tV (d2 fGt (dVar 2) (dVar 1)))
  (dRet (d2 fSub (d2 fSub (dVar 2) (d2 fMul (dC (.int 2)) (dVar 1))) (dC (.int 1))))
  ZZ)
  Wa
def WP : DS :=
  dSeq (dSet 2 [] (d2 fMod (dVar 0) (d2 fAdd (d2 fMul (dC (.int 2)) (dVar 1)) (dC (.int 1)))))
  Wb
def Yc : DF := runQ 3 2 WP
end Lw
namespace Lw
open PySem Fx
theorem at0 (x y : PyData) : atP [x, y] 0 = some x := rfl
theorem at1 (x y : PyData) : atP [x, y] 1 = some y := rfl
section
variable {a b : Rat} {m n : Nat}
end
theorem at_lt {ns : List Int} {k : Int} (h0 : 0 <= k) (h : k < ns.length) : ∃ c : Int, atP (ns.map .int) k = some (.int c) := by
 have hk : k.toNat < ns.length := by omega
 refine ⟨ns[k.toNat], ?_⟩
 simp [atP, ixP, h0, h, hk]
theorem UW : ∀ ns : List Int, XL (.list (ns.map .int)) = true := by
 intro ns
 have h1 : ∀ ns : List Int, PyData.canLayAll0 (ns.map .int) = true := by
  intro ns
  induction ns with
  | nil => simp [PyData.canLayAll0]
  | cons n ns ih => simp [PyData.canLayAll0, PyData.canLay0, ih]
 have h2 : ∀ ns : List Int, PyData.depthAll (ns.map .int) = 0 := by
  intro ns
  induction ns with
  | nil => simp [PyData.depthAll]
  | cons n ns ih => simp [PyData.depthAll, PyData.depth, ih]
 simp [XL, PyData.canLay0, PyData.depth, h1, h2]
theorem eqv_nil (ns : List Int) : PyData.eqv (.list (ns.map .int)) (.list []) = ns.isEmpty := by
 cases ns <;> simp [PyData.eqv, PyData.eqvAll]
theorem Q9 : XL (.list []) = true := UW []
theorem Ua (ns : List Int) (k : Int) (h0 : 0 <= k) : ∃ c : Int, Zt [.list (ns.map .int), .int k] = .ok (.int c) := by
 by_cases h : k < ns.length
 ·obtain ⟨c, e⟩ := at_lt h0 h
  exact ⟨c, by simp [Zt, runQ, runF, Xw, Y5, XZ, h, e]⟩
 ·by_cases hz : ns = []
  ·subst hz
   exact ⟨0, by
    have z := Q9
    have hk : ¬ k < 0 := by omega
    simp [Zt, runQ, runF, Xw, Y5, fEq, z, hk, PyData.eqv, PyData.eqvAll]⟩
  ·have hl : (0 : Int) < ns.length := by
    have : ns.length ≠ 0 := by simpa using hz
    omega
   have hf : Int.fmod k ns.length = k % ns.length := Int.fmod_eq_emod_of_nonneg _ (by omega)
   obtain ⟨c, e⟩ := at_lt (ns := ns) (k := k % ns.length) (Int.emod_nonneg _ (by omega)) (Int.emod_lt_of_pos _ hl)
   have hE : ns.isEmpty = false := by simpa using hz
   have o : Va c 31 = true := mulOk_r (by decide)
   refine ⟨c * 31 + k, ?_⟩
   simp [Zt, runQ, runF, Xw, Y5, XZ, h, fEq, UW, Q9, eqv_nil, hE, hz, hf, e, o]
theorem zeI (c w : Int) (hw : 0 <= w) (hs : w.natAbs < 2 ^ 67) : ∃ r : Int, Yc [.int c, .int w] = .ok (.int r) /\ -w <= r /\ r <= w := by
 have o : Va 2 w = true := JY (by decide)
 have hm : 2 * w + 1 ≠ 0 := by omega
 have hf : Int.fmod c (2 * w + 1) = c % (2 * w + 1) := Int.fmod_eq_emod_of_nonneg _ (by omega)
 have h1 : 0 <= c % (2 * w + 1) := Int.emod_nonneg _ hm
 have h2 : c % (2 * w + 1) < 2 * w + 1 := Int.emod_lt_of_pos _ (by omega)
 by_cases h : w < c % (2 * w + 1)
 ·refine ⟨c % (2 * w + 1) - 2 * w - 1, ?_, by omega, by omega⟩
  simp [Yc, runQ, runF, WP, Wb, Wa, o, hm, hf, h]
 ·refine ⟨c % (2 * w + 1), ?_, by omega, by omega⟩
  simp [Yc, runQ, runF, WP, Wb, Wa, o, hm, hf, h]
@[simp] def noD : PyData -> Bool
 | .dict _ => false
 | _ => true
theorem whole_ok (t : PyData) (h : noD t = true) : Z3 [t] = .ok (.bool (match t with | .int _ => true | _ => false)) := by
 cases t <;> simp [Z3, runQ, runF, Jt] at h ⊢
theorem UQ (i : Int) : Z3 [.int i] = .ok (.bool true) := whole_ok (.int i) rfl
theorem atP_map {α : Type} {f : α -> PyData} {xs : List α} {i : Nat} (h : i < xs.length) : atP (xs.map f) (i : Int) = some (f xs[i]) := by
 simp [atP, ixP, h]
end Lw
namespace Lw
open PySem Fx
abbrev Lim := List Int × Int
def limL (l : Lim) : PyData := .tuple [.list (l.1.map .int), .int l.2]
def limT (l : Lim) : PyData := .tuple [.tuple (l.1.map .int), .int l.2]
theorem U8 {c : Int} {n : Nat} (h : 0 < n) : ∃ r : Nat, Int.fmod c (n : Int) = (r : Int) /\ r < n := by
 rw [Int.fmod_eq_emod_of_nonneg _ (by omega)]
 have h1 := Int.emod_nonneg c (b := (n : Int)) (by omega)
 have h2 := Int.emod_lt_of_pos c (b := (n : Int)) (by omega)
 exact ⟨(c % n).toNat, by omega, by omega⟩
end Lw
namespace Lw
open PySem Fx
theorem zcF {i : Int} (h : i.natAbs <= 999999999999) : YN [.int i] = .ok (.bool true) := by
 have : (if i < 0 then -i else i) <= 999999999999 := by split <;> omega
 simp [YN, runQ, runF, Qz, UQ, this]
theorem zbi {α : Type} : ∀ (xs : List α), allT (xs.map fun _ => PyData.bool true) = .ok true
 | [] => rfl
 | _ :: xs => by simp [allT, zbi xs]
structure LimOk (k w : Nat) (l : Lim) : Prop where
 len : l.1.length = k
 ws : ∀ x ∈ l.1, x.natAbs <= w
 bd : l.2.natAbs <= w
section
variable {k w : Nat} {ls : List Lim} {ps : List Rat}
end
end Lw
namespace Fx
open PySem PySem.Spec PyProof.Rows L2
def LD (o : HO) : Prop := (∃ vs, o = .lst vs) \/ ∃ kvs, o = .dT kvs
def CO (c : Addr) (q : Str) : HO := .ext fun h => ∃ oc vs t, h.get? c = some oc /\ oc.data = .fields vs /\ vs[1]? = some (.str q t)
def X2 : List Str := ["raising_column"]
def lamQ (x : Str) : Str := x ++ ".<locals>." ++ "<lambda>"
def Ws (K : PySem.W.Frag) (H : Hp) : Prop := ∀ x c T, x ∈ X2 -> PySem.W.tabIn K x = some (c, T) ->
 ∃ ps, H T = some (.tbl ps) /\ TriplesOk ps.toList /\ ∀ pos cv, codeAmong pos ps.toList = some cv -> ∃ c', cv = .ref c' /\ H c' = some (CO c' (lamQ x))
def Nt (o : HO) : Prop := ∀ ps, o ≠ .tbl ps
theorem not_nt {o : HO} (h : ¬ Nt o) : ∃ ps, o = .tbl ps := Classical.byContradiction fun z => h fun ps e => z ⟨ps, e⟩
theorem Ue {xs : List V} : Nt (.lst xs) := fun _ z => by cases z
theorem nt_tup {xs : List V} : Nt (.tup xs) := fun _ z => by cases z
theorem nt_ins {C dx : Addr} {fs : List (Str × V)} : Nt (.ins C dx fs) := fun _ z => by cases z
theorem Jm {o : Obj} {u : HO} : Nt (.frz o u) := fun _ z => by cases z
theorem zeJ {φ : Heap -> Prop} : Nt (.ext φ) := fun _ z => by cases z
theorem nt_dT {kvs : List (List Key × V)} : Nt (.dT kvs) := fun _ z => by cases z
theorem LD.nt {o : HO} (h : LD o) : Nt o := by rcases h with ⟨_, rfl⟩ | ⟨_, rfl⟩ <;> exact fun _ z => by cases z
structure Same (H H' : Hp) : Prop where
 kp : ∀ b o, H b = some o -> Nt o -> H' b = some o
 free : ∀ {b}, H' b = none -> H b = none
 tab : ∀ K, Ws K H -> Ws K H'
 tbk : ∀ b ps, H b = some (.tbl ps) -> ∃ qs, H' b = some (.tbl qs)
theorem Same.refl (H : Hp) : Same H H := ⟨fun _ _ h _ => h, fun h => h, fun _ h => h, fun _ ps h => ⟨ps, h⟩⟩
theorem Same.trans {H H1 H2 : Hp} (a : Same H H1) (b : Same H1 H2) : Same H H2 := ⟨fun c o h n => b.kp c o (a.kp c o h n) n, fun h => a.free (b.free h), fun K h => b.tab K (a.tab K h), fun c ps h => let ⟨qs, h1⟩ := a.tbk c ps h; b.tbk c qs h1⟩
theorem Ws.mono {K : PySem.W.Frag} {H H' : Hp} (h : Ws K H) (e : ∀ b o, H b = some o -> ¬ LD o -> H' b = some o) : Ws K H' := fun x c T hx ht => by
 obtain ⟨ps, h1, h2, h3⟩ := h x c T hx ht
 refine ⟨ps, e _ _ h1 (fun z => by rcases z with ⟨_, z⟩ | ⟨_, z⟩ <;> cases z), h2, fun pos cv hc => ?_⟩
 obtain ⟨c', e1, e2⟩ := h3 pos cv hc
 exact ⟨c', e1, e _ _ e2 (fun z => by rcases z with ⟨_, z⟩ | ⟨_, z⟩ <;> cases z)⟩
theorem Same.of {H H' : Hp} (e : ∀ b o, H b = some o -> H' b = some o) : Same H H' where
 kp := fun b o h _ => e b o h
 free := fun {b} h => by
  cases q : H b with
  | none => rfl
  | some o => rw [e b o q] at h; cases h
 tab := fun K h => Ws.mono h fun b o q _ => e b o q
 tbk := fun b ps h => ⟨ps, e b _ h⟩
structure Pv where
 own : Nat -> Option Addr
 fb : Addr -> Prop
def Off (P : Pv) (a : Addr) : Prop := (∀ i, P.own i ≠ some a) /\ ¬ P.fb a
def Tr (H : Hp) (P : Pv) (H' : Hp) (P' : Pv) : Prop := ∀ a o, H a = some o -> Nt o -> Off P a -> H' a = some o /\ Off P' a
theorem Tr.refl (H : Hp) (P : Pv) : Tr H P H P := fun _ _ h _ o => ⟨h, o⟩
theorem Tr.same {H H' : Hp} {P : Pv} (e : Same H H') : Tr H P H' P := fun a o h n q => ⟨e.kp a o h n, q⟩
structure Go (H : Hp) (P : Pv) (H' : Hp) (P' : Pv) : Prop where
 mv : ∀ a o, H a = some o -> Nt o -> (∀ i, P.own i ≠ some a) -> H' a = some o /\ ∀ i, P'.own i ≠ some a
 fbe : P'.fb = P.fb
 free : ∀ {b}, H' b = none -> H b = none
 tab : ∀ K, Ws K H -> Ws K H'
 tbk : ∀ b ps, H b = some (.tbl ps) -> ∃ qs, H' b = some (.tbl qs)
theorem Go.refl (H : Hp) (P : Pv) : Go H P H P := ⟨fun _ _ h _ o => ⟨h, o⟩, rfl, fun h => h, fun _ h => h, fun _ ps h => ⟨ps, h⟩⟩
theorem Go.trans {H H1 H2 : Hp} {P P1 P2 : Pv} (a : Go H P H1 P1) (b : Go H1 P1 H2 P2) : Go H P H2 P2 := ⟨fun c o h n q =>
 let ⟨h1, q1⟩ := a.mv c o h n q
 b.mv c o h1 n q1, b.fbe.trans a.fbe, fun h => a.free (b.free h), fun K h => b.tab K (a.tab K h), fun c ps h => let ⟨qs, h1⟩ := a.tbk c ps h; b.tbk c qs h1⟩
theorem Go.same {H H' : Hp} {P : Pv} (e : Same H H') : Go H P H' P := ⟨fun a o h n q => ⟨e.kp a o h n, q⟩, rfl, fun h => e.free h, e.tab, e.tbk⟩
theorem Go.tr {H H' : Hp} {P P' : Pv} (g : Go H P H' P') : Tr H P H' P' := fun a o h n q => ⟨(g.mv a o h n q.1).1, (g.mv a o h n q.1).2, by rw [g.fbe]; exact q.2⟩
theorem Go.all {H H' : Hp} {P P' : Pv} (g : Go H P H' P') (ho : ∀ i, P.own i = none) : Same H H' := ⟨fun b o e n => (g.mv b o e n fun i => by rw [ho i]; exact fun z => by cases z).1, fun h => g.free h, g.tab, g.tbk⟩
def ModL (K : PySem.W.Frag) (a : Addr) (xs : List V) : Prop :=
 ∃ (o : Obj) (its : Array Value) (n : Nat), K.lookup a = some o /\ o.cls = .type "list" /\ o.dict = none /\ o.data = .seq its n /\ its.size <= sizeLine /\ Vals xs its.toList
def SL (K : PySem.W.Frag) (H : Hp) (P : Pv) (a : Addr) (xs : List V) : Prop := (Rd H a (.lst xs) /\ Off P a) \/ ModL K a xs
def ST (K : PySem.W.Frag) (H : Hp) (P : Pv) (a : Addr) (xs : List V) : Prop := H a = some (.tup xs) /\ Off P a
theorem SL.sq {K : PySem.W.Frag} {H : Hp} {P : Pv} {a : Addr} {xs : List V} (h : SL K H P a xs) : SqL K H a xs := by
 rcases h with ⟨h, _⟩ | h
 ·exact .inl h
 ·exact .inr h
theorem ST.sq {K : PySem.W.Frag} {H : Hp} {P : Pv} {a : Addr} {xs : List V} (h : ST K H P a xs) : SqT K H a xs := .inl (.inl h.1)
theorem Rd.go {H H' : Hp} {P P' : Pv} {a : Addr} {u : HO} (g : Tr H P H' P') (n : Nt u) (h : Rd H a u) (o : Off P a) : Rd H' a u /\ Off P' a := by
 rcases h with h | ⟨ob, h⟩
 ·exact ⟨.inl (g _ _ h n o).1, (g _ _ h n o).2⟩
 ·exact ⟨.inr ⟨ob, (g _ _ h Jm o).1⟩, (g _ _ h Jm o).2⟩
theorem SL.go {K : PySem.W.Frag} {H H' : Hp} {P P' : Pv} {a : Addr} {xs : List V} (g : Tr H P H' P') (h : SL K H P a xs) : SL K H' P' a xs := by
 rcases h with ⟨h, o⟩ | h
 ·exact .inl (Fx.Rd.go g Ue h o)
 ·exact .inr h
theorem ST.go {K : PySem.W.Frag} {H H' : Hp} {P P' : Pv} {a : Addr} {xs : List V} (g : Tr H P H' P') (h : ST K H P a xs) : ST K H' P' a xs := g _ _ h.1 nt_tup h.2
def XO (K : PySem.W.Frag) (a : Addr) : HO := .ext fun h => ∃ ob C, h.get? a = some ob /\ ob.cls = .ref C /\ PySem.W.subIn K (.ref C) (.type "ValueError") = some true
mutual
def Rl (K : PySem.W.Frag) (H : Hp) (P : Pv) : PyData -> V -> Prop
 | .none, v => v = .non
 | .bool b, v => v = .bl b
 | .int i, v => v = .int i
 | .str x, v => v = .str x
 | .list xs, v => ∃ a vs, v = .ref a /\ SL K H P a vs /\ Rls K H P xs vs
 | .tuple xs, v => ∃ a vs, v = .ref a /\ ST K H P a vs /\ Rls K H P xs vs
 | .dict xs, v => (xs = [] /\ ∃ a, v = .ref a /\ H a = some (XO K a) /\ Off P a) \/ (xs ≠ [] /\ ∃ a C dx fs, v = .ref a /\ H a = some (.ins C dx fs) /\ Off P a /\ Cls K C /\ Rlp K H P C xs fs) \/
   ∃ a ob kvs, v = .ref a /\ H a = some (.frz ob (.dT kvs)) /\ Off P a /\ Rld K H P xs kvs
def Rls (K : PySem.W.Frag) (H : Hp) (P : Pv) : List PyData -> List V -> Prop
 | [], vs => vs = []
 | x :: xs, vs => ∃ v r, vs = v :: r /\ Rl K H P x v /\ Rls K H P xs r
def Rlp (K : PySem.W.Frag) (H : Hp) (P : Pv) (C : Addr) : List (PyData × PyData) -> List (Str × V) -> Prop
 | [], fs => fs = []
 | (k, t) :: xs, fs => ∃ n v r, fs = (n, v) :: r /\ k = .str n /\ X5 K C n /\ Rl K H P t v /\ Rlp K H P C xs r
def Rld (K : PySem.W.Frag) (H : Hp) (P : Pv) : List (PyData × PyData) -> List (List Key × V) -> Prop
 | [], _ => False
 | (k, t) :: xs, kvs => k = .none /\ t = .none /\ Rlk K H P xs kvs
def Rlk (K : PySem.W.Frag) (H : Hp) (P : Pv) : List (PyData × PyData) -> List (List Key × V) -> Prop
 | [], kvs => kvs = []
 | (k, t) :: xs, kvs => ∃ ns v r, kvs = (List.map Sum.inl ns, v) :: r /\ k = .tuple (List.map .int ns) /\ Rl K H P t v /\ Rlk K H P xs r
end
mutual
theorem Rl.go {K : PySem.W.Frag} {H H' : Hp} {P P' : Pv} (g : Tr H P H' P') : ∀ (t : PyData) (v : V), Rl K H P t v -> Rl K H' P' t v
 | .none, v, h => by simpa only [Rl] using h
 | .bool b, v, h => by simpa only [Rl] using h
 | .int i, v, h => by simpa only [Rl] using h
 | .str x, v, h => by simpa only [Rl] using h
 | .list xs, v, h => by
  simp only [Rl] at h ⊢
  obtain ⟨a, vs, e, s, r⟩ := h
  exact ⟨a, vs, e, s.go g, Rls.go g xs vs r⟩
 | .tuple xs, v, h => by
  simp only [Rl] at h ⊢
  obtain ⟨a, vs, e, s, r⟩ := h
  exact ⟨a, vs, e, s.go g, Rls.go g xs vs r⟩
 | .dict xs, v, h => by
  simp only [Rl] at h ⊢
  rcases h with ⟨e, a, e2, s, o⟩ | ⟨e, a, C, dx, fs, e2, s, o, c, r⟩ | ⟨a, ob, kvs, e2, s, o, r⟩
  ·exact .inl ⟨e, a, e2, g a _ s zeJ o⟩
  ·exact .inr (.inl ⟨e, a, C, dx, fs, e2, (g a _ s nt_ins o).1, (g a _ s nt_ins o).2, c, Rlp.go g xs fs r⟩)
  ·exact .inr (.inr ⟨a, ob, kvs, e2, (g a _ s Jm o).1, (g a _ s Jm o).2, Rld.go g xs kvs r⟩)
theorem Rls.go {K : PySem.W.Frag} {H H' : Hp} {P P' : Pv} (g : Tr H P H' P') : ∀ (ts : List PyData) (vs : List V), Rls K H P ts vs -> Rls K H' P' ts vs
 | [], vs, h => by simpa only [Rls] using h
 | x :: xs, vs, h => by
  simp only [Rls] at h ⊢
  obtain ⟨v, r, e, q, t⟩ := h
  exact ⟨v, r, e, Rl.go g x v q, Rls.go g xs r t⟩
theorem Rlp.go {K : PySem.W.Frag} {H H' : Hp} {P P' : Pv} {C : Addr} (g : Tr H P H' P') : ∀ (ts : List (PyData × PyData)) (fs : List (Str × V)), Rlp K H P C ts fs -> Rlp K H' P' C ts fs
 | [], vs, h => by simpa only [Rlp] using h
 | (k, t) :: xs, vs, h => by
  simp only [Rlp] at h ⊢
  obtain ⟨n, v, r, e, e2, na, q, z⟩ := h
  exact ⟨n, v, r, e, e2, na, Rl.go g t v q, Rlp.go g xs r z⟩
theorem Rld.go {K : PySem.W.Frag} {H H' : Hp} {P P' : Pv} (g : Tr H P H' P') : ∀ (ts : List (PyData × PyData)) (kvs : List (List Key × V)), Rld K H P ts kvs -> Rld K H' P' ts kvs
 | [], kvs, h => by simp only [Rld] at h
 | (k, t) :: xs, kvs, h => by
  simp only [Rld] at h ⊢
  exact ⟨h.1, h.2.1, Rlk.go g xs kvs h.2.2⟩
theorem Rlk.go {K : PySem.W.Frag} {H H' : Hp} {P P' : Pv} (g : Tr H P H' P') : ∀ (ts : List (PyData × PyData)) (kvs : List (List Key × V)), Rlk K H P ts kvs -> Rlk K H' P' ts kvs
 | [], kvs, h => by simpa only [Rlk] using h
 | (k, t) :: xs, kvs, h => by
  simp only [Rlk] at h ⊢
  obtain ⟨ns, v, r, e, e2, q, z⟩ := h
  exact ⟨ns, v, r, e, e2, Rl.go g t v q, Rlk.go g xs r z⟩
end
section
variable {K : PySem.W.Frag} {H H' : Hp} {P P' : Pv}
theorem Y0 {v : V} : Rl K H P .none v ↔ v = .non := by simp only [Rl]
theorem Yp {b : Bool} {v : V} : Rl K H P (.bool b) v ↔ v = .bl b := by simp only [Rl]
theorem ZL {i : Int} {v : V} : Rl K H P (.int i) v ↔ v = .int i := by simp only [Rl]
theorem Uc {x : Str} {v : V} : Rl K H P (.str x) v ↔ v = .str x := by simp only [Rl]
theorem ZN {xs : List PyData} {v : V} : Rl K H P (.list xs) v ↔ ∃ a vs, v = .ref a /\ SL K H P a vs /\ Rls K H P xs vs := by simp only [Rl]
theorem ZH {xs : List PyData} {v : V} : Rl K H P (.tuple xs) v ↔ ∃ a vs, v = .ref a /\ ST K H P a vs /\ Rls K H P xs vs := by simp only [Rl]
theorem VW {xs : List (PyData × PyData)} {v : V} : Rl K H P (.dict xs) v ↔ (xs = [] /\ ∃ a, v = .ref a /\ H a = some (XO K a) /\ Off P a) \/ (xs ≠ [] /\ ∃ a C dx fs, v = .ref a /\ H a = some (.ins C dx fs) /\ Off P a /\ Cls K C /\ Rlp K H P C xs fs) \/ ∃ a ob kvs, v = .ref a /\ H a = some (.frz ob (.dT kvs)) /\ Off P a /\ Rld K H P xs kvs := by simp only [Rl]
theorem rld_nil {kvs : List (List Key × V)} : Rld K H P [] kvs ↔ False := by simp only [Rld]
theorem JM {k t : PyData} {xs : List (PyData × PyData)} {kvs : List (List Key × V)} : Rld K H P ((k, t) :: xs) kvs ↔ k = .none /\ t = .none /\ Rlk K H P xs kvs := by simp only [Rld]
theorem Vh {kvs : List (List Key × V)} : Rlk K H P [] kvs ↔ kvs = [] := by simp only [Rlk]
theorem Xu {k t : PyData} {xs : List (PyData × PyData)} {kvs : List (List Key × V)} : Rlk K H P ((k, t) :: xs) kvs ↔ ∃ ns v r, kvs = (List.map Sum.inl ns, v) :: r /\ k = .tuple (List.map .int ns) /\ Rl K H P t v /\ Rlk K H P xs r := by simp only [Rlk]
theorem rl_exc {v : V} : Rl K H P (.dict []) v ↔ ∃ a, v = .ref a /\ H a = some (XO K a) /\ Off P a := by
 rw [VW]
 refine ⟨fun h => ?_, fun h => .inl ⟨rfl, h⟩⟩
 rcases h with ⟨_, h⟩ | ⟨z, _⟩ | ⟨a, ob, kvs, _, _, _, r⟩
 ·exact h
 ·exact (z rfl).elim
 ·exact (rld_nil.mp r).elim
theorem rl_obj {n : Str} {t : PyData} {xs : List (PyData × PyData)} {v : V} : Rl K H P (.dict ((.str n, t) :: xs)) v ↔ ∃ a C dx fs, v = .ref a /\ H a = some (.ins C dx fs) /\ Off P a /\ Cls K C /\ Rlp K H P C ((.str n, t) :: xs) fs := by
 rw [VW]
 refine ⟨fun h => ?_, fun h => .inr (.inl ⟨by simp, h⟩)⟩
 rcases h with ⟨z, _⟩ | ⟨_, h⟩ | ⟨a, ob, kvs, _, _, _, r⟩
 ·cases z
 ·exact h
 ·cases (JM.mp r).1
abbrev dictV (es : List (PyData × PyData)) : PyData := .dict ((.none, .none) :: es)
theorem JN {es : List (PyData × PyData)} {v : V} : Rl K H P (dictV es) v ↔ ∃ a ob kvs, v = .ref a /\ H a = some (.frz ob (.dT kvs)) /\ Off P a /\ Rlk K H P es kvs := by
 rw [VW]
 refine ⟨fun h => ?_, fun ⟨a, ob, kvs, h1, h2, h3, h4⟩ => .inr (.inr ⟨a, ob, kvs, h1, h2, h3, JM.mpr ⟨rfl, rfl, h4⟩⟩)⟩
 rcases h with ⟨z, _⟩ | ⟨_, a, C, dx, fs, _, _, _, _, r⟩ | ⟨a, ob, kvs, h1, h2, h3, r⟩
 ·cases z
 ·simp only [Rlp] at r
  obtain ⟨n, v, r, _, z, _⟩ := r
  cases z
 ·exact ⟨a, ob, kvs, h1, h2, h3, (JM.mp r).2.2⟩
theorem zed {C : Addr} {fs : List (Str × V)} : Rlp K H P C [] fs ↔ fs = [] := by simp only [Rlp]
theorem zcq {C : Addr} {k t : PyData} {xs : List (PyData × PyData)} {fs : List (Str × V)} : Rlp K H P C ((k, t) :: xs) fs ↔ ∃ n v r, fs = (n, v) :: r /\ k = .str n /\ X5 K C n /\ Rl K H P t v /\ Rlp K H P C xs r := by simp only [Rlp]
theorem ZM {vs : List V} : Rls K H P [] vs ↔ vs = [] := by simp only [Rls]
theorem Zx {x : PyData} {xs : List PyData} {vs : List V} : Rls K H P (x :: xs) vs ↔ ∃ v r, vs = v :: r /\ Rl K H P x v /\ Rls K H P xs r := by simp only [Rls]
theorem Rls.length : ∀ {ts : List PyData} {vs : List V}, Rls K H P ts vs -> ts.length = vs.length
 | [], vs, h => by rw [ZM.mp h]; rfl
 | t :: ts, vs, h => by
  obtain ⟨v, r, rfl, _, q⟩ := Zx.mp h
  simp only [List.length_cons, Rls.length q]
theorem Rls.get : ∀ {ts : List PyData} {vs : List V} {i : Nat} {v : V}, Rls K H P ts vs -> vs[i]? = some v -> ∃ t, ts[i]? = some t /\ Rl K H P t v
 | [], vs, i, v, h, e => by rw [ZM.mp h] at e; simp at e
 | t :: ts, vs, 0, v, h, e => by
  obtain ⟨v', r, rfl, q, _⟩ := Zx.mp h
  simp at e; subst e
  exact ⟨t, rfl, q⟩
 | t :: ts, vs, i + 1, v, h, e => by
  obtain ⟨v', r, rfl, _, q⟩ := Zx.mp h
  exact Rls.get (i := i) q (by simpa using e)
theorem Rls.getT : ∀ {ts : List PyData} {vs : List V} {i : Nat} {t : PyData}, Rls K H P ts vs -> ts[i]? = some t -> ∃ v, vs[i]? = some v /\ Rl K H P t v
 | [], vs, i, v, h, e => by simp at e
 | t :: ts, vs, 0, t', h, e => by
  obtain ⟨v', r, rfl, q, _⟩ := Zx.mp h
  simp at e; subst e
  exact ⟨v', rfl, q⟩
 | t :: ts, vs, i + 1, t', h, e => by
  obtain ⟨v', r, rfl, _, q⟩ := Zx.mp h
  exact Rls.getT (i := i) q (by simpa using e)
theorem Rls.append : ∀ {ts us : List PyData} {vs ws : List V}, Rls K H P ts vs -> Rls K H P us ws -> Rls K H P (ts ++ us) (vs ++ ws)
 | [], us, vs, ws, h, q => by rw [ZM.mp h]; exact q
 | t :: ts, us, vs, ws, h, q => by
  obtain ⟨v, r, rfl, a, b⟩ := Zx.mp h
  exact Zx.mpr ⟨v, r ++ ws, rfl, a, Rls.append b q⟩
theorem Rls.set : ∀ {ts : List PyData} {vs : List V} {t : PyData} {v : V} (i : Nat), Rls K H P ts vs -> Rl K H P t v -> Rls K H P (ts.set i t) (vs.set i v)
 | [], vs, t, v, i, h, q => by rw [ZM.mp h]; exact ZM.mpr rfl
 | t' :: ts, vs, t, v, 0, h, q => by
  obtain ⟨v', r, rfl, a, b⟩ := Zx.mp h
  exact Zx.mpr ⟨v, r, rfl, q, b⟩
 | t' :: ts, vs, t, v, i + 1, h, q => by
  obtain ⟨v', r, rfl, a, b⟩ := Zx.mp h
  exact Zx.mpr ⟨v', r.set i v, rfl, a, Rls.set i b q⟩
theorem Rls.drop : ∀ {ts : List PyData} {vs : List V} (n : Nat), Rls K H P ts vs -> Rls K H P (ts.drop n) (vs.drop n)
 | ts, vs, 0, h => h
 | [], vs, n + 1, h => by rw [ZM.mp h]; exact ZM.mpr rfl
 | t :: ts, vs, n + 1, h => by
  obtain ⟨v', r, rfl, a, b⟩ := Zx.mp h
  exact Rls.drop n b
theorem Rls.take : ∀ {ts : List PyData} {vs : List V} (n : Nat), Rls K H P ts vs -> Rls K H P (ts.take n) (vs.take n)
 | ts, vs, 0, h => ZM.mpr rfl
 | [], vs, n + 1, h => by rw [ZM.mp h]; exact ZM.mpr rfl
 | t :: ts, vs, n + 1, h => by
  obtain ⟨v', r, rfl, a, b⟩ := Zx.mp h
  exact Zx.mpr ⟨v', r.take n, rfl, a, Rls.take n b⟩
theorem zcp (ns : List Int) : Rls K H P (ns.map .int) (ns.map V.int) := by
 induction ns with
 | nil => exact ZM.mpr rfl
 | cons n ns ih => exact Zx.mpr ⟨.int n, _, rfl, ZL.mpr rfl, ih⟩
end
def SlOk (K : PySem.W.Frag) (H : Hp) (P : Pv) (i : Nat) (x : Option V) : Sl -> Prop
 | .emp => True
 | .val t => ∃ v, x = some v /\ Rl K H P t v
 | .own xs => ∃ p vs, x = some (.ref p) /\ P.own i = some p /\ H p = some (.lst vs) /\ Rls K H P xs vs
 | .dct es => ∃ p kvs, x = some (.ref p) /\ P.own i = some p /\ H p = some (.dT kvs) /\ Rlk K H P es kvs
def Sl.mine : Sl -> Prop
 | .own _ | .dct _ => True
 | _ => False
structure Hol (K : PySem.W.Frag) (H : Hp) (P : Pv) (σ : L2.St) (G : List Sl) : Prop where
 sl : ∀ i s, G[i]? = some s -> SlOk K H P i (σ.getD i none) s
 inj : ∀ i j a, P.own i = some a -> P.own j = some a -> i = j
 only : ∀ i a, P.own i = some a -> ∃ s, G[i]? = some s /\ s.mine
 fbd : ∀ a, P.fb a -> ∃ o, H a = some o /\ LD o
 nfb : ∀ i a, P.own i = some a -> ¬ P.fb a
 len : σ.length = G.length
 tab : Ws K H
theorem getD_some {σ : L2.St} {i : Nat} {v : V} (h : σ.getD i none = some v) : σ[i]? = some (some v) := by
 rw [List.getD_eq_getElem?_getD] at h
 cases e : σ[i]? with
 | none => rw [e] at h; cases h
 | some x => rw [e] at h; simp at h; rw [h]
section
variable {K : PySem.W.Frag} {H H' : Hp} {P P' : Pv} {σ : L2.St} {G : List Sl}
theorem Hol.dom (h : Hol K H P σ G) {i : Nat} {a : Addr} (e : P.own i = some a) : ∃ o, H a = some o /\ LD o := by
 obtain ⟨s, q, m⟩ := h.only i a e
 have z := h.sl i _ q
 cases s with
 | emp => exact m.elim
 | val t => exact m.elim
 | own xs =>
  obtain ⟨p, vs, _, e', q', _⟩ := z
  rw [e] at e'; cases e'
  exact ⟨_, q', .inl ⟨vs, rfl⟩⟩
 | dct es =>
  obtain ⟨p, vs, _, e', q', _⟩ := z
  rw [e] at e'; cases e'
  exact ⟨_, q', .inr ⟨vs, rfl⟩⟩
theorem Hol.nofb (h : Hol K H P σ G) {p : Addr} (e : H p = none) : ¬ P.fb p := fun z => by obtain ⟨o, q, _⟩ := h.fbd p z; rw [e] at q; cases q
theorem Hol.off_new (h : Hol K H P σ G) {p : Addr} (e : H p = none) : Off P p := by
 refine ⟨fun i z => ?_, h.nofb e⟩
 obtain ⟨vs, q, _⟩ := h.dom z
 rw [e] at q
 cases q
theorem Hol.ld (h : Hol K H P σ G) {a : Addr} (z : ¬ Off P a) : ∃ o, H a = some o /\ LD o := by
 by_cases q : ∃ i, P.own i = some a
 ·obtain ⟨i, q⟩ := q; exact h.dom q
 ·by_cases w : P.fb a
  ·exact h.fbd a w
  ·exact (z ⟨fun i e => q ⟨i, e⟩, w⟩).elim
theorem Hol.tup_off (h : Hol K H P σ G) {a : Addr} {xs : List V} (e : H a = some (.tup xs)) : Off P a := Classical.byContradiction fun z => by
 obtain ⟨o, q, m⟩ := h.ld z
 rw [e] at q
 cases q
 rcases m with ⟨_, m⟩ | ⟨_, m⟩ <;> cases m
theorem Hol.same (h : Hol K H P σ G) (e : Same H H') : Hol K H' P σ G where
 sl := fun i s q => by
  have z := h.sl i s q
  cases s with
  | emp => trivial
  | val t => obtain ⟨v, e1, r⟩ := z; exact ⟨v, e1, Rl.go (.same e) t v r⟩
  | own xs => obtain ⟨p, vs, e1, e2, e3, r⟩ := z; exact ⟨p, vs, e1, e2, e.kp _ _ e3 Ue, Rls.go (.same e) xs vs r⟩
  | dct es => obtain ⟨p, vs, e1, e2, e3, r⟩ := z; exact ⟨p, vs, e1, e2, e.kp _ _ e3 nt_dT, Rlk.go (.same e) es vs r⟩
 inj := h.inj
 only := h.only
 fbd := fun a z => let ⟨o, q, m⟩ := h.fbd a z; ⟨o, e.kp _ _ q m.nt, m⟩
 nfb := h.nfb
 len := h.len
 tab := e.tab K h.tab
def Pv.del (P : Pv) (i : Nat) : Pv := ⟨fun j => if j = i then none else P.own j, P.fb⟩
def Pv.put (P : Pv) (i : Nat) (p : Addr) : Pv := ⟨fun j => if j = i then some p else P.own j, P.fb⟩
theorem Tr.del {i : Nat} : Tr H P H (P.del i) := fun a o h _ q => ⟨h, fun j z => by
 have z' : (if j = i then none else P.own j) = some a := z
 split at z'
 ·cases z'
 ·exact q.1 j z', q.2⟩
theorem Go.del {i : Nat} : Go H P H (P.del i) := ⟨fun a o h _ q => ⟨h, fun j z => by
 have z' : (if j = i then none else P.own j) = some a := z
 split at z'
 ·cases z'
 ·exact q j z'⟩, rfl, fun h => h, fun _ h => h, fun _ ps h => ⟨ps, h⟩⟩
theorem Go.put {i : Nat} {p : Addr} (hp : H p = none) : Go H P H (P.put i p) := ⟨fun a o h _ q => ⟨h, fun j z => by
 have z' : (if j = i then some p else P.own j) = some a := z
 split at z'
 ·cases z'; rw [hp] at h; cases h
 ·exact q j z'⟩, rfl, fun h => h, fun _ h => h, fun _ ps h => ⟨ps, h⟩⟩
theorem Wx {σ : L2.St} {i : Nat} {x : Option V} (h : i < σ.length) : (σ.set i x).getD i none = x := by
 rw [List.getD_eq_getElem?_getD, List.getElem?_set_self h]; rfl
theorem Wy {σ : L2.St} {i j : Nat} {x : Option V} (h : j ≠ i) : (σ.set i x).getD j none = σ.getD j none := by
 rw [List.getD_eq_getElem?_getD, List.getD_eq_getElem?_getD, List.getElem?_set_ne (Ne.symm h)]
theorem Hol.setVal (h : Hol K H P σ G) (i : Nat) {t : PyData} {v : V} (r : Rl K H P t v) : Hol K H (P.del i) (σ.set i (some v)) (G.set i (.val t)) where
 sl := fun j s q => by
  by_cases e : j = i
  ·subst e
   have hl : j < G.length := by
    have := (List.getElem?_eq_some_iff.mp q).1
    simpa using this
   rw [List.getElem?_set_self hl] at q
   cases q
   refine ⟨v, ?_, Rl.go .del t v r⟩
   exact Wx (by rw [h.len]; exact hl)
  ·rw [List.getElem?_set_ne (Ne.symm e)] at q
   have z := h.sl j s q
   rw [Wy e]
   cases s with
   | emp => trivial
   | val t' => obtain ⟨v', e1, r'⟩ := z; exact ⟨v', e1, Rl.go .del t' v' r'⟩
   | own xs => obtain ⟨p, vs, e1, e2, e3, r'⟩ := z; exact ⟨p, vs, e1, (by show (if j = i then none else P.own j) = _; rw [if_neg e]; exact e2), e3, Rls.go .del xs vs r'⟩
   | dct es => obtain ⟨p, vs, e1, e2, e3, r'⟩ := z; exact ⟨p, vs, e1, (by show (if j = i then none else P.own j) = _; rw [if_neg e]; exact e2), e3, Rlk.go .del es vs r'⟩
 inj := fun a b c h1 h2 => by
  have h1' : (if a = i then none else P.own a) = some c := h1
  have h2' : (if b = i then none else P.own b) = some c := h2
  split at h1'
  ·cases h1'
  ·split at h2'
   ·cases h2'
   ·exact h.inj a b c h1' h2'
 only := fun j a z => by
  have z' : (if j = i then none else P.own j) = some a := z
  split at z'
  ·cases z'
  ·rename_i ne
   obtain ⟨xs, q, m⟩ := h.only j a z'
   exact ⟨xs, by rw [List.getElem?_set_ne (Ne.symm ne)]; exact q, m⟩
 fbd := h.fbd
 nfb := fun j a z => by
  have z' : (if j = i then none else P.own j) = some a := z
  split at z'
  ·cases z'
  ·exact h.nfb j a z'
 len := by rw [List.length_set, List.length_set]; exact h.len
 tab := h.tab
theorem Zr {p : Addr} {o : HO} (h : H p = none) : Same H (upd H p o) := .of fun b u q => by rw [Zn (Zu q h)]; exact q
theorem Hol.upOwn (h : Hol K H P σ G) {i : Nat} {ys xs : List PyData} {vs : List V} {p : Addr} (hi : G[i]? = some (.own ys)) (hp : P.own i = some p) (r : Rls K H P xs vs) : Hol K (upd H p (.lst vs)) P σ (G.set i (.own xs)) /\ Go H P (upd H p (.lst vs)) P := by
 have hpl := h.dom hp
 have g0 : Go H P (upd H p (.lst vs)) P := ⟨fun a o e _ q => ⟨by rw [Zn (fun z => q i (by rw [z]; exact hp))]; exact e, q⟩, rfl, fun {b} w => by
  by_cases z : b = p
  ·rw [z, Zp] at w; cases w
  ·rw [Zn z] at w; exact w, fun K t => Ws.mono t fun b o e nl => by
  rw [Zn (fun z => by obtain ⟨us, w, m⟩ := hpl; rw [z, w] at e; cases e; exact nl m)]; exact e, fun b ps e => ⟨ps, by rw [Zn (fun z => by obtain ⟨us, w, m⟩ := hpl; rw [z, w] at e; cases e; rcases m with ⟨_, m⟩ | ⟨_, m⟩ <;> cases m)]; exact e⟩⟩
 have gg := g0.tr
 have hl : i < G.length := (List.getElem?_eq_some_iff.mp hi).1
 refine ⟨⟨fun j s q => ?_, h.inj, fun j a z => ?_, fun a z => ?_, h.nfb, by rw [List.length_set]; exact h.len, g0.tab K h.tab⟩, g0⟩
 ·by_cases e : j = i
  ·subst e
   rw [List.getElem?_set_self hl] at q
   cases q
   obtain ⟨p', vs', e1, e2, _, _⟩ := h.sl j _ hi
   rw [hp] at e2; cases e2
   exact ⟨p, vs, e1, hp, Zp, Rls.go gg xs vs r⟩
  ·rw [List.getElem?_set_ne (Ne.symm e)] at q
   have z := h.sl j s q
   cases s with
   | emp => trivial
   | val t' => obtain ⟨v', e1, r'⟩ := z; exact ⟨v', e1, Rl.go gg t' v' r'⟩
   | own xs' =>
    obtain ⟨p', vs', e1, e2, e3, r'⟩ := z
    refine ⟨p', vs', e1, e2, ?_, Rls.go gg xs' vs' r'⟩
    rw [Zn (fun z => e (h.inj j i p' e2 (by rw [z]; exact hp)))]
    exact e3
   | dct xs' =>
    obtain ⟨p', vs', e1, e2, e3, r'⟩ := z
    refine ⟨p', vs', e1, e2, ?_, Rlk.go gg xs' vs' r'⟩
    rw [Zn (fun z => e (h.inj j i p' e2 (by rw [z]; exact hp)))]
    exact e3
 ·by_cases e : j = i
  ·subst e; exact ⟨_, List.getElem?_set_self hl, trivial⟩
  ·obtain ⟨xs', q, m⟩ := h.only j a z
   exact ⟨xs', by rw [List.getElem?_set_ne (Ne.symm e)]; exact q, m⟩
 ·rw [Zn (fun e => h.nfb i p hp (by rw [<- e]; exact z))]
  exact h.fbd a z
end
section
variable {K : PySem.W.Frag} {H H' : Hp} {P P' : Pv} {σ : L2.St} {G : List Sl}
theorem Hol.frz1 (h : Hol K H P σ G) (i : Nat) : ∃ P', Hol K H P' σ (Fx.frz1 G i) /\ Go H P H P' := by
 unfold Fx.frz1
 split
 ·rename_i xs q
  obtain ⟨p, vs, e1, e2, e3, r⟩ := h.sl i _ q
  have off : Off (P.del i) p := ⟨fun j z => by
   have z' : (if j = i then none else P.own j) = some p := z
   split at z'
   ·cases z'
   ·rename_i ne; exact ne (h.inj j i p z' e2), h.nfb i p e2⟩
  have r0 : Rl K H (P.del i) (.list xs) (.ref p) := ZN.mpr ⟨p, vs, rfl, .inl ⟨.inl e3, off⟩, Rls.go .del xs vs r⟩
  refine ⟨P.del i, ⟨fun j s z => ?_, ?_, ?_, h.fbd, ?_, by rw [List.length_set]; exact h.len, h.tab⟩, .del⟩
  ·by_cases e : j = i
   ·subst e
    rw [List.getElem?_set_self (List.getElem?_eq_some_iff.mp q).1] at z
    cases z
    exact ⟨.ref p, e1, r0⟩
   ·rw [List.getElem?_set_ne (Ne.symm e)] at z
    have z := h.sl j s z
    cases s with
    | emp => trivial
    | val t' => obtain ⟨v', e1, r'⟩ := z; exact ⟨v', e1, Rl.go .del t' v' r'⟩
    | own xs => obtain ⟨p, vs, e1, e2, e3, r'⟩ := z; exact ⟨p, vs, e1, (by show (if j = i then none else P.own j) = _; rw [if_neg e]; exact e2), e3, Rls.go .del xs vs r'⟩
    | dct es => obtain ⟨p, vs, e1, e2, e3, r'⟩ := z; exact ⟨p, vs, e1, (by show (if j = i then none else P.own j) = _; rw [if_neg e]; exact e2), e3, Rlk.go .del es vs r'⟩
  ·intro a b c h1 h2
   have h1' : (if a = i then none else P.own a) = some c := h1
   have h2' : (if b = i then none else P.own b) = some c := h2
   split at h1'
   ·cases h1'
   ·split at h2'
    ·cases h2'
    ·exact h.inj a b c h1' h2'
  ·intro j a z
   have z' : (if j = i then none else P.own j) = some a := z
   split at z'
   ·cases z'
   ·rename_i ne
    obtain ⟨xs, q, m⟩ := h.only j a z'
    exact ⟨xs, by rw [List.getElem?_set_ne (Ne.symm ne)]; exact q, m⟩
  ·intro j a z
   have z' : (if j = i then none else P.own j) = some a := z
   split at z'
   ·cases z'
   ·exact h.nfb j a z'
 ·exact ⟨P, h, .refl _ _⟩
theorem Hol.frz (is : List Nat) : ∀ {P : Pv} {G : List Sl}, Hol K H P σ G -> ∃ P', Hol K H P' σ (Fx.frz is G) /\ Go H P H P' := by
 induction is with
 | nil => exact fun {P G} h => ⟨P, h, .refl _ _⟩
 | cons i is ih =>
  intro P G h
  obtain ⟨P1, h1, g1⟩ := h.frz1 i
  obtain ⟨P2, h2, g2⟩ := ih h1
  exact ⟨P2, h2, g1.trans g2⟩
theorem Wz : ∀ (G : List Sl) (i : Nat), (frzA G)[i]? = (G[i]?).map fun s => match s with | .own xs => .val (.list xs) | .dct _ => .emp | s => s
 | [], i => by simp [frzA]
 | .own xs :: r, 0 => by simp [frzA]
 | .emp :: r, 0 => by simp [frzA]
 | .val t :: r, 0 => by simp [frzA]
 | .dct t :: r, 0 => by simp [frzA]
 | .own xs :: r, i + 1 => by simp [frzA, Wz r i]
 | .emp :: r, i + 1 => by simp [frzA, Wz r i]
 | .val t :: r, i + 1 => by simp [frzA, Wz r i]
 | .dct t :: r, i + 1 => by simp [frzA, Wz r i]
theorem XR : ∀ (G : List Sl), (frzA G).length = G.length
 | [] => rfl
 | .own xs :: r => by simp [frzA, XR r]
 | .emp :: r => by simp [frzA, XR r]
 | .val t :: r => by simp [frzA, XR r]
 | .dct t :: r => by simp [frzA, XR r]
def Pv.bare (P : Pv) : Pv := ⟨fun _ => none, P.fb⟩
theorem Hol.frzA (h : Hol K H P σ G) : Hol K H P.bare σ (Fx.frzA G) /\ Go H P H P.bare := by
 have g0 : Go H P H P.bare := ⟨fun a o e _ q => ⟨e, fun _ z => (by cases z)⟩, rfl, fun h => h, fun _ h => h, fun _ ps h => ⟨ps, h⟩⟩
 have gg := g0.tr
 refine ⟨⟨fun j s z => ?_, fun _ _ _ z => (by cases z), fun _ _ z => (by cases z), h.fbd, fun _ _ z => (by cases z), by rw [XR]; exact h.len, h.tab⟩, g0⟩
 rw [Wz] at z
 cases q : G[j]? with
 | none => rw [q] at z; cases z
 | some s' =>
  rw [q] at z
  have w := h.sl j s' q
  cases s' with
  | emp => cases z; trivial
  | val t => cases z; obtain ⟨v, e, r⟩ := w; exact ⟨v, e, Rl.go gg t v r⟩
  | dct t => cases z; trivial
  | own xs =>
   cases z
   obtain ⟨p, vs, e1, e2, e3, r⟩ := w
   exact ⟨.ref p, e1, ZN.mpr ⟨p, vs, rfl, .inl ⟨.inl e3, fun _ z => (by cases z), h.nfb j p e2⟩, Rls.go gg xs vs r⟩⟩
end
end Fx
namespace Fx
open PySem PySem.Spec PyProof.Rows L2
def Yu (K : PySem.W.Frag) (W : Str -> Hp -> Prop) (H : Hp) (P : Pv) (r : Res PyData) (Q : VK) : Prop :=
 match r with
 | .ok t => ∀ v H', Same H H' -> Rl K H' P t v -> Q v H'
 | .exc c => ∀ H', Same H H' -> W c H'
 | .stuck => False
def tF (K : PySem.W.Frag) (W : Str -> Hp -> Prop) (d : DE) : TE := fun σ H Q => ∃ G P, Hol K H P σ G /\ Yu K W H P (d G) Q
def zdO (K : PySem.W.Frag) (W : Str -> Hp -> Prop) (H : Hp) (P : Pv) (r : Res (List PyData)) (Q : List V -> Hp -> Prop) : Prop :=
 match r with
 | .ok ts => ∀ vs H', Same H H' -> Rls K H' P ts vs -> Q vs H'
 | .exc c => ∀ H', Same H H' -> W c H'
 | .stuck => False
def tFA (K : PySem.W.Frag) (W : Str -> Hp -> Prop) (d : DA) : TA := fun σ H Q => ∃ G P, Hol K H P σ G /\ zdO K W H P (d G) Q
def QK (W : Str -> Hp -> Prop) (H : Hp) (r : Res Bool) (Q : Bool -> Hp -> Prop) : Prop :=
 match r with
 | .ok b => ∀ H', Same H H' -> Q b H'
 | .exc c => ∀ H', Same H H' -> W c H'
 | .stuck => False
def tFT (K : PySem.W.Frag) (W : Str -> Hp -> Prop) (d : DT) : TT := fun σ H Q => ∃ G P, Hol K H P σ G /\ QK W H (d G) Q
def Pv.fbd (P : Pv) (p : Addr) : Pv := ⟨P.own, fun a => P.fb a \/ a = p⟩
def NewL (K : PySem.W.Frag) (H : Hp) (P : Pv) (H' : Hp) (P' : Pv) (t : PyData) (v : V) : Prop :=
 ∃ p us xs, v = .ref p /\ t = .list xs /\ H' p = some (.lst us) /\ Rls K H' (P'.fbd p) xs us /\ ∀ o, H p = some o -> Nt o -> ∃ i, P.own i = some p
theorem NewL.back {K : PySem.W.Frag} {H H1 H' : Hp} {P P1 P' : Pv} {t : PyData} {v : V} (g : Go H P H1 P1) (n : NewL K H1 P1 H' P' t v) : NewL K H P H' P' t v := by
 obtain ⟨p, us, xs, e1, e2, e3, r, q⟩ := n
 refine ⟨p, us, xs, e1, e2, e3, r, fun o e nt => Classical.byContradiction fun z => ?_⟩
 have := g.mv p o e nt fun i w => z ⟨i, w⟩
 obtain ⟨i, w⟩ := q o this.1 nt
 exact this.2 i w
def Xm (K : PySem.W.Frag) (W : Str -> Hp -> Prop) (fl : Bool) (H : Hp) (P : Pv) (r : Res Out) (D : Ends) : Prop :=
 match r with
 | .ok (.nx G') => ∀ σ' H' P', Go H P H' P' -> Hol K H' P' σ' G' -> D.nx σ' H'
 | .ok (.bk G') => ∀ σ' H' P', Go H P H' P' -> Hol K H' P' σ' G' -> D.bk σ' H'
 | .ok (.ct G') => ∀ σ' H' P', Go H P H' P' -> Hol K H' P' σ' G' -> D.ct σ' H'
 | .ok (.rt t) => ∀ v H' P', Go H P H' P' -> Rl K H' P' t v -> (fl = true -> NewL K H P H' P' t v) -> D.rt v H'
 | .exc c => ∀ H' P', Go H P H' P' -> W c H'
 | .stuck => False
def tFS (K : PySem.W.Frag) (W : Str -> Hp -> Prop) (fl : Bool) (d : DS) : TS := fun D σ H => ∃ G P, Hol K H P σ G /\ Xm K W fl H P (d G) D
def EV (X : Cx) (W : Str -> Hp -> Prop) (e : Expr) (d : DE) : Prop := PE X e (tF X.K W d)
def AV (X : Cx) (W : Str -> Hp -> Prop) (es : List Expr) (d : DA) : Prop := PA X es (tFA X.K W d)
def TV (X : Cx) (W : Str -> Hp -> Prop) (e : Expr) (d : DT) : Prop := PT X e (tFT X.K W d)
def TW (X : Cx) (W : Str -> Hp -> Prop) (e : Expr) (d : DT) : Prop := PW X e (tFT X.K W d)
def SV (X : Cx) (W : Str -> Hp -> Prop) (fl : Bool) (st : Stmt) (d : DS) : Prop := PS X st (tFS X.K W fl d)
def SVs (X : Cx) (W : Str -> Hp -> Prop) (fl : Bool) (st : List Stmt) (d : DS) : Prop := PSs X st (tFS X.K W fl d)
theorem ZA {X : Cx} {e : Expr} {t t' : TE} (h : PE X e t) (w : ∀ σ H Q, t' σ H Q -> t σ H Q) : PE X e t' := fun pins s σ H Q I q => h pins s σ H Q I (w σ H Q q)
theorem zet {X : Cx} {e : List Expr} {t t' : TA} (h : PA X e t) (w : ∀ σ H Q, t' σ H Q -> t σ H Q) : PA X e t' := fun pos pins s σ H Q I q => h pos pins s σ H Q I (w σ H Q q)
theorem JO {X : Cx} {e : Expr} {t t' : TT} (h : PT X e t) (w : ∀ σ H Q, t' σ H Q -> t σ H Q) : PT X e t' := fun pins s σ H Q I q => h pins s σ H Q I (w σ H Q q)
theorem zeg {X : Cx} {e : Expr} {t t' : TT} (h : PW X e t) (w : ∀ σ H Q, t' σ H Q -> t σ H Q) : PW X e t' := fun wh pins s σ H Q I q => h wh pins s σ H Q I (w σ H Q q)
theorem YF {X : Cx} {e : Stmt} {t t' : TS} (h : PS X e t) (w : ∀ D σ H, t' D σ H -> t D σ H) : PS X e t' := fun pins s σ H D I q => h pins s σ H D I (w D σ H q)
theorem zcu {X : Cx} {e : List Stmt} {t t' : TS} (h : PSs X e t) (w : ∀ D σ H, t' D σ H -> t D σ H) : PSs X e t' := fun pins s σ H D I q => h pins s σ H D I (w D σ H q)
theorem Zy {K : PySem.W.Frag} {W : Str -> Hp -> Prop} {σ : L2.St} {G : List Sl} {H : Hp} {P : Pv} {a : DE} (h : Hol K H P σ G) {Q : VK}
  (hx : ∀ c, a G = .exc c -> ∀ H', Same H H' -> W c H') (hs : a G ≠ .stuck)
  (q : ∀ t v H', a G = .ok t -> Same H H' -> Hol K H' P σ G -> Rl K H' P t v -> Q v H') : tF K W a σ H Q := by
 refine ⟨G, P, h, ?_⟩
 unfold Yu
 cases e : a G with
 | ok t => exact fun v H' s r => q t v H' e s (h.same s) r
 | exc c => exact hx c e
 | stuck => exact hs e
theorem Wt {K : PySem.W.Frag} {W : Str -> Hp -> Prop} {σ : L2.St} {G : List Sl} {H : Hp} {P : Pv} {a : DT} (h : Hol K H P σ G) {Q : Bool -> Hp -> Prop}
  (hx : ∀ c, a G = .exc c -> ∀ H', Same H H' -> W c H') (hs : a G ≠ .stuck)
  (q : ∀ t H', a G = .ok t -> Same H H' -> Hol K H' P σ G -> Q t H') : tFT K W a σ H Q := by
 refine ⟨G, P, h, ?_⟩
 unfold QK
 cases e : a G with
 | ok t => exact fun H' s => q t H' e s (h.same s)
 | exc c => exact hx c e
 | stuck => exact hs e
theorem Wu {K : PySem.W.Frag} {W : Str -> Hp -> Prop} {σ : L2.St} {G : List Sl} {H : Hp} {P : Pv} {a : DA} (h : Hol K H P σ G) {Q : List V -> Hp -> Prop}
  (hx : ∀ c, a G = .exc c -> ∀ H', Same H H' -> W c H') (hs : a G ≠ .stuck)
  (q : ∀ t v H', a G = .ok t -> Same H H' -> Hol K H' P σ G -> Rls K H' P t v -> Q v H') : tFA K W a σ H Q := by
 refine ⟨G, P, h, ?_⟩
 unfold zdO
 cases e : a G with
 | ok t => exact fun v H' s r => q t v H' e s (h.same s) r
 | exc c => exact hx c e
 | stuck => exact hs e
section
variable {X : Cx} {W : Str -> Hp -> Prop} {a b c e : Expr} {es : List Expr} {da db : DE} {pos : Pos}
theorem Za (i : Nat) {x : Str} {pos : Pos} (hN : X.N[i]? = some x := by rfl) (hv : Vis X.env.scope x := by first | exact Or.inl rfl | exact Or.inr (Or.inl rfl) | exact Or.inr (Or.inr rfl)) (hd : (x == ("__debug__" : Str)) = false := by decide)
  (hcd : (x == ("__classdict__" : Str)) = false := by decide) : EV X W (.Name x pos) (dVar i) :=
 ZA (Vc hN hv hd hcd) fun σ H Q ⟨G, P, h, q⟩ => by
  unfold dVar at q
  cases e : G[i]? with
  | none => rw [e] at q; exact q.elim
  | some s =>
   rw [e] at q
   cases s with
   | emp => exact q.elim
   | own xs => exact q.elim
   | dct xs => exact q.elim
   | val t =>
    obtain ⟨v, e1, r⟩ := h.sl i _ e
    exact ⟨v, getD_some e1, q v H (Same.refl H) r⟩
theorem Ze {i j pos} : EV X W (.Constant (.int i) j pos) (dC (.int i)) := ZA pe_int fun σ H Q ⟨G, P, h, q⟩ => q _ H (Same.refl H) (ZL.mpr rfl)
theorem ev_bl {b j pos} : EV X W (.Constant (.bool b) j pos) (dC (.bool b)) := ZA pe_bl fun σ H Q ⟨G, P, h, q⟩ => q _ H (Same.refl H) (Yp.mpr rfl)
theorem Ug {j pos} : EV X W (.Constant .none j pos) (dC .none) := ZA pe_non fun σ H Q ⟨G, P, h, q⟩ => q _ H (Same.refl H) (Y0.mpr rfl)
theorem YE {x j pos} : EV X W (.Constant (.str x) j pos) (dC (.str x)) := ZA pe_str fun σ H Q ⟨G, P, h, q⟩ => q _ H (Same.refl H) (Uc.mpr rfl)
theorem VE {x : Str} {i : Int} {t : Tok} {pos : Pos} (hg : Gl X x) (hm : X.mg x = some (.int i t)) (hd : (x == ("__debug__" : Str)) = false := by decide) : EV X W (.Name x pos) (dC (.int i)) :=
 ZA (pe_glob (v := .int i) hg hm ⟨t, rfl⟩ hd) fun σ H Q ⟨G, P, h, q⟩ => q _ H (Same.refl H) (ZL.mpr rfl)
def Fop (X : Cx) (W : Str -> Hp -> Prop) (r : R2) (f : PyData -> PyData -> Res PyData) : Prop :=
 ∀ (H : Hp) (P : Pv) (σ : L2.St) (G : List Sl) (x y : V) (tx ty : PyData) (Q : VK), Hol X.K H P σ G -> Rl X.K H P tx x -> Rl X.K H P ty y -> Yu X.K W H P (f tx ty) Q -> r x y H Q
theorem Wr {a : Res PyData} {f : PyData -> Res PyData} {K : PySem.W.Frag} {H : Hp} {P : Pv} {Q : VK} (q : Yu K W H P (a.bind f) Q) :
  (∀ c, a = .exc c -> ∀ H', Same H H' -> W c H') /\ a ≠ .stuck /\ ∀ t, a = .ok t -> Yu K W H P (f t) Q := by
 cases a with
 | ok t => exact ⟨fun c e => (by cases e), (by intro e; cases e), fun t' e => by cases e; exact q⟩
 | exc c => exact ⟨fun c' e => by cases e; exact q, (by intro e; cases e), fun t e => by cases e⟩
 | stuck => exact q.elim
theorem Yu.up {K : PySem.W.Frag} {H H' : Hp} {P : Pv} {r : Res PyData} {Q : VK} (q : Yu K W H P r Q) (s : Same H H') : Yu K W H' P r Q := by
 cases r with
 | ok t => exact fun v H2 s2 r2 => q v H2 (s.trans s2) r2
 | exc c => exact fun H2 s2 => q H2 (s.trans s2)
 | stuck => exact q
theorem zch {r : R2} {f : PyData -> PyData -> Res PyData} (hf : Fop X W r f) {σ : L2.St} {H : Hp} {Q : VK} (h : tF X.K W (d2 f da db) σ H Q) : tOp r (tF X.K W da) (tF X.K W db) σ H Q := by
 obtain ⟨G, P, h, q⟩ := h
 unfold d2 at q
 obtain ⟨q1, q2, q3⟩ := Wr q
 refine Zy h q1 q2 fun tx x H1 ex s1 h1 rx => ?_
 obtain ⟨q4, q5, q6⟩ := Wr (q3 tx ex)
 refine Zy h1 (fun c e H' s => q4 c e H' (s1.trans s)) q5 fun ty y H2 ey s2 h2 ry => ?_
 exact hf H2 P σ G x y tx ty Q h2 (Rl.go (.same s2) tx x rx) ry ((q6 ty ey).up (s1.trans s2))
theorem Zv {op : Operator} {r : R2} {f : PyData -> PyData -> Res PyData} (ho : OpR X (binaryOp op) r /\ Fop X W r f) (ha : EV X W a da) (hb : EV X W b db) : EV X W (.BinOp a op b pos) (d2 f da db) :=
 ZA (pe_op ho.1 ha hb) fun σ H Q h => zch ho.2 h
theorem Qm {op : CmpOp} {r : R2} {f : PyData -> PyData -> Res PyData} (ho : OpR X (compareOp op) r /\ Fop X W r f) (ha : EV X W a da) (hb : EV X W b db) (hm : behindInMarks op b = false) : EV X W (.Compare a [op] [b] pos) (d2 f da db) :=
 ZA (pe_cmpR ho.1 ha hb hm) fun σ H Q h => zch ho.2 h
theorem ze4 {C : Int -> Int -> Prop} {g : Int -> Int -> V} {f : PyData -> PyData -> Res PyData}
  (h : ∀ (H : Hp) (P : Pv) (tx ty : PyData) (Q : VK), Yu X.K W H P (f tx ty) Q -> ∃ i j, tx = .int i /\ ty = .int j /\ C i j /\ Q (g i j) H) : Fop X W (rI C g) f := fun H P σ G x y tx ty Q hh rx ry q => by
 obtain ⟨i, j, rfl, rfl, c, q'⟩ := h H P tx ty Q q
 exact ⟨i, j, ZL.mp rx, ZL.mp ry, c, q'⟩
theorem Qg {g : Int -> Int -> V} {f : PyData -> PyData -> Res PyData}
  (h : ∀ (H : Hp) (P : Pv) (tx ty : PyData) (Q : VK), Yu X.K W H P (f tx ty) Q -> ∃ i j, tx = .int i /\ ty = .int j /\ Q (g i j) H) : Fop X W (rI0 g) f := fun H P σ G x y tx ty Q hh rx ry q => by
 obtain ⟨i, j, rfl, rfl, q'⟩ := h H P tx ty Q q
 exact ⟨i, j, ZL.mp rx, ZL.mp ry, q'⟩
theorem Xg {K : PySem.W.Frag} {H : Hp} {P : Pv} {Q : VK} {i : Int} (q : Yu K W H P (.ok (.int i)) Q) : Q (.int i) H := q _ H (Same.refl H) (ZL.mpr rfl)
theorem ZE {K : PySem.W.Frag} {H : Hp} {P : Pv} {Q : VK} {i : Bool} (q : Yu K W H P (.ok (.bool i)) Q) : Q (.bl i) H := q _ H (Same.refl H) (Yp.mpr rfl)
theorem SL.off {K : PySem.W.Frag} {H : Hp} {P : Pv} {a : Addr} {xs : List V} (h : H a = some (.lst xs)) (o : Off P a) : SL K H P a xs := .inl ⟨.inl h, o⟩
def rCatS (K : PySem.W.Frag) : R2 := fun x y H Q => ∃ l b xs zs, x = .ref l /\ y = .ref b /\ SqL K H l xs /\ SqL K H b zs /\ xs.length + zs.length <= sizeLine /\ ∀ p, H p = none -> Q (.ref p) (upd H p (.lst (xs ++ zs)))
theorem zey : OpR X (binaryOp .Add) (rCatS X.K) := by
 intro pins s σ H x y v u Q I rx ry h
 obtain ⟨l, b, xs, zs, rfl, rfl, hH, hB, hz, q⟩ := h
 cases rx
 cases ry
 obtain ⟨its, r, ⟨o, n, e, hc, hd, hs⟩, z⟩ := I.list hH
 obtain ⟨its2, r2, ⟨o2, n2, e2, hc2, hd2, hs2⟩, z2⟩ := I.list hB
 obtain ⟨c1, c2, c3, c4⟩ := o
 obtain ⟨k1, k2, k3, k4⟩ := o2
 simp only at hc hd hs hc2 hd2 hs2
 subst hc hd hs hc2 hd2 hs2
 have l1 := r.length
 have l2 := r2.length
 refine concat_meets ⟨_, e, rfl⟩ ⟨_, e2, rfl⟩ noFill_list_add seq_list_add PySem.F.slot_list_add PySem.F.entry_list_add (PySem.F.args_list_add_2 _ _) (list_addW l b its.toArray its2.toArray n n2 none none c4 k4 (by simp; omega)) ⟨e, e2, ?_⟩
 have ea : its.toArray ++ its2.toArray = (its ++ its2).toArray := by simp
 rw [ea]
 exact ⟨.ref _, _, I.lnew (t' := s.toks) (r.append r2) (by rw [List.length_append]; omega), rfl, q _ I.fresh⟩
theorem ZP : OpR X (binaryOp .Add) (fun x y H Q => rI0 (fun i j => .int (i + j)) x y H Q \/ rCatS X.K x y H Q) /\ Fop X W (fun x y H Q => rI0 (fun i j => .int (i + j)) x y H Q \/ rCatS X.K x y H Q) fAdd :=
 ⟨op_add.or zey, fun H P σ G x y tx ty Q h rx ry q => by
  cases tx <;> cases ty <;> try exact q.elim
  ·exact .inl ⟨_, _, ZL.mp rx, ZL.mp ry, Xg q⟩
  ·rename_i xs ys
   refine .inr ?_
   obtain ⟨l, us, rfl, s1, r1⟩ := ZN.mp rx
   obtain ⟨m, ws, rfl, s2, r2⟩ := ZN.mp ry
   simp only [fAdd] at q
   split at q
   ·rename_i hz
    have e1 := r1.length
    have e2 := r2.length
    refine ⟨l, m, us, ws, rfl, rfl, s1.sq, s2.sq, by rw [sizeLine_eq]; omega, fun p hp => q _ _ (Zr hp) (ZN.mpr ⟨p, us ++ ws, rfl, .off Zp (h.off_new hp), ?_⟩)⟩
    exact (Rls.go (.same (Zr hp)) xs us r1).append (Rls.go (.same (Zr hp)) ys ws r2)
   ·exact q.elim⟩
theorem XN : OpR X (binaryOp .Sub) (rI0 fun i j => .int (i - j)) /\ Fop X W (rI0 fun i j => .int (i - j)) fSub :=
 ⟨op_sub, Qg fun H P tx ty Q q => by
  cases tx <;> cases ty <;> try exact q.elim
  exact ⟨_, _, rfl, rfl, Xg q⟩⟩
theorem mulOk_ok {i j : Int} (h : Va i j = true) : IntMulOk i j := by
 have bits : ∀ k : Int, Builtin.Int.intBits k <= k.natAbs.log2 + 1 := fun k => by
  unfold Builtin.Int.intBits
  split <;> omega
 simp only [Va, Bool.or_eq_true, decide_eq_true_eq] at h
 rcases h with (h | h) | h
 ·have h1 := bits i
  have h2 := bits j
  unfold IntMulOk
  intro z
  simp only [Bool.and_eq_true, decide_eq_true_eq, Builtin.Int.intTooBig] at z
  have := z.2
  simp only [bitsLine] at this
  omega
 ·exact .of_left (intBits_le_64 (by omega) (by omega))
 ·exact .of_right (intBits_le_64 (by omega) (by omega))
theorem ZO : OpR X (binaryOp .Mult) (rI (fun i j => Va i j = true) fun i j => .int (i * j)) /\ Fop X W (rI (fun i j => Va i j = true) fun i j => .int (i * j)) fMul :=
 ⟨opI fun _ _ _ _ _ _ _ hc q => mul_int q (mulOk_ok hc), ze4 fun H P tx ty Q q => by
  cases tx <;> cases ty <;> try exact q.elim
  simp only [fMul] at q
  split at q
  ·rename_i hc; exact ⟨_, _, rfl, rfl, hc, Xg q⟩
  ·exact q.elim⟩
theorem zcL {i j : Int} (h : zdr j = true) : j ≠ 0 /\ Builtin.divisionGoesByPylong i j = false := by
 simp only [zdr, Bool.and_eq_true, decide_eq_true_eq] at h
 refine ⟨h.1, ?_⟩
 unfold Builtin.divisionGoesByPylong
 have e : (j == 0) = false := by simpa using h.1
 simp only [e]
 have : ¬ (j.natAbs.log2 / 30 + 1 > 300) := by omega
 simp [this]
theorem VX : OpR X (binaryOp .FloorDiv) (rI (fun _ j => zdr j = true) fun i j => .int (i.fdiv j)) /\ Fop X W (rI (fun _ j => zdr j = true) fun i j => .int (i.fdiv j)) fDiv :=
 ⟨opI fun _ _ _ _ _ _ _ hc q => floordiv_int (zcL (i := 0) hc).1 q (.inl (zcL hc).2), ze4 fun H P tx ty Q q => by
  cases tx <;> cases ty <;> try exact q.elim
  simp only [fDiv] at q
  split at q
  ·rename_i hc; exact ⟨_, _, rfl, rfl, hc, Xg q⟩
  ·exact q.elim⟩
theorem Xo : OpR X (binaryOp .Mod) (rI (fun _ j => j ≠ 0) fun i j => .int (i.fmod j)) /\ Fop X W (rI (fun _ j => j ≠ 0) fun i j => .int (i.fmod j)) fMod :=
 ⟨op_modN, ze4 fun H P tx ty Q q => by
  cases tx <;> cases ty <;> try exact q.elim
  simp only [fMod] at q
  split at q
  ·exact q.elim
  ·rename_i hc; exact ⟨_, _, rfl, rfl, hc, Xg q⟩⟩
theorem XQ : OpR X (compareOp .Lt) (rI0 fun i j => .bl (decide (i < j))) /\ Fop X W (rI0 fun i j => .bl (decide (i < j))) fLt :=
 ⟨op_lt, Qg fun H P tx ty Q q => by
  cases tx <;> cases ty <;> try exact q.elim
  exact ⟨_, _, rfl, rfl, ZE q⟩⟩
theorem op_leF : OpR X (compareOp .LtE) (rI0 fun i j => .bl (decide (i <= j))) /\ Fop X W (rI0 fun i j => .bl (decide (i <= j))) fLe :=
 ⟨op_le, Qg fun H P tx ty Q q => by
  cases tx <;> cases ty <;> try exact q.elim
  exact ⟨_, _, rfl, rfl, ZE q⟩⟩
theorem WJ : OpR X (compareOp .Gt) (rI0 fun i j => .bl (decide (j < i))) /\ Fop X W (rI0 fun i j => .bl (decide (j < i))) fGt :=
 ⟨op_gt, Qg fun H P tx ty Q q => by
  cases tx <;> cases ty <;> try exact q.elim
  exact ⟨_, _, rfl, rfl, ZE q⟩⟩
theorem zex : OpR X (compareOp .GtE) (rI0 fun i j => .bl (decide (j <= i))) /\ Fop X W (rI0 fun i j => .bl (decide (j <= i))) fGe :=
 ⟨op_ge, Qg fun H P tx ty Q q => by
  cases tx <;> cases ty <;> try exact q.elim
  exact ⟨_, _, rfl, rfl, ZE q⟩⟩
mutual
theorem Rl.reads {pins : List (Addr × Obj)} {σ : L2.St} {H : Hp} {s : Shared} {P : Pv} (I : Inv X pins σ H s) : ∀ (t : PyData) (v : V) (u : Value), t.canLay0 = true -> Rl X.K H P t v -> RelV v u -> ∃ as, Reads s.heap u t as
 | .none, v, u, _, h, r => by rw [Y0.mp h] at r; cases r; exact ⟨_, .none⟩
 | .bool b, v, u, hl, h, r => by rw [Yp.mp h] at r; cases r; exact ⟨_, .bool b⟩
 | .int i, v, u, hl, h, r => by rw [ZL.mp h] at r; obtain ⟨t, rfl⟩ := r; exact ⟨_, .int i t⟩
 | .str x, v, u, hl, h, r => by rw [Uc.mp h] at r; obtain ⟨t, rfl⟩ := r; exact ⟨_, .str x t⟩
 | .list xs, v, u, hl, h, r => by
  obtain ⟨a, vs, rfl, sl, rs⟩ := ZN.mp h
  cases r
  obtain ⟨its, rv, ⟨o, n, e, hc, hd, hs⟩, z⟩ := I.list sl.sq
  obtain ⟨as, ra⟩ := Rls.reads I xs vs its (by simpa [PyData.canLay0] using hl) rs rv
  exact ⟨_, .list e hc hs (by simpa using ra)⟩
 | .tuple xs, v, u, hl, h, r => by
  obtain ⟨a, vs, rfl, sl, rs⟩ := ZH.mp h
  cases r
  obtain ⟨its, rv, ⟨o, e, hc, n, hs⟩, z⟩ := I.tuple sl.sq
  obtain ⟨as, ra⟩ := Rls.reads I xs vs its (by simpa [PyData.canLay0] using hl) rs rv
  exact ⟨_, .tuple e hc hs (by simpa using ra)⟩
 | .dict _, v, u, hl, h, r => by simp [PyData.canLay0] at hl
theorem Rls.reads {pins : List (Addr × Obj)} {σ : L2.St} {H : Hp} {s : Shared} {P : Pv} (I : Inv X pins σ H s) : ∀ (ts : List PyData) (vs : List V) (us : List Value), PyData.canLayAll0 ts = true -> Rls X.K H P ts vs -> Vals vs us -> ∃ as, ReadsAll s.heap us ts as
 | [], vs, us, _, h, r => by rw [ZM.mp h] at r; cases r; exact ⟨_, .nil⟩
 | t :: ts, vs, us, hl, h, r => by
  simp only [PyData.canLayAll0, Bool.and_eq_true] at hl
  obtain ⟨v, vs', rfl, h1, h2⟩ := Zx.mp h
  cases r with
  | cons r1 r2 =>
   obtain ⟨as, ra⟩ := Rl.reads I t v _ hl.1 h1 r1
   obtain ⟨bs, rb⟩ := Rls.reads I ts vs' _ hl.2 h2 r2
   exact ⟨_, .cons ra rb⟩
end
theorem WS {t : PyData} (h : XL t = true) : t.canLay0 = true := by
 unfold XL at h
 rw [Bool.and_eq_true] at h
 exact h.1
def rEqD (K : PySem.W.Frag) (k : Bool -> Bool) : R2 := fun x y H Q => ∃ P tx ty, Rl K H P tx x /\ Rl K H P ty y /\ XL tx = true /\ XL ty = true /\ Q (.bl (k (tx.eqv ty))) H
theorem op_eqD (hu : X.A.units + 64 < cLine) : OpR X (compareOp .Eq) (rEqD X.K fun k => k) := by
 intro pins s σ H x y v u Q I rx ry h
 obtain ⟨P, tx, ty, hx, hy, sx, sy, q⟩ := h
 obtain ⟨as, ra⟩ := Rl.reads I tx x v (WS sx) hx rx
 obtain ⟨bs, rb⟩ := Rl.reads I ty y u (WS sy) hy ry
 exact SeqAt.compareEq_shaped ra rb sx sy hu ⟨.bl _, H, I, rfl, q⟩
theorem op_neD (hu : X.A.units + 64 < cLine) : OpR X (compareOp .NotEq) (rEqD X.K fun k => !k) := by
 intro pins s σ H x y v u Q I rx ry h
 obtain ⟨P, tx, ty, hx, hy, sx, sy, q⟩ := h
 obtain ⟨as, ra⟩ := Rl.reads I tx x v (WS sx) hx rx
 obtain ⟨bs, rb⟩ := Rl.reads I ty y u (WS sy) hy ry
 exact SeqAt.compareNe_shaped ra rb sx sy hu ⟨.bl _, H, I, rfl, q⟩
def rEqI (k : Bool -> Bool) : R2 := rI0 fun i j => .bl (k (decide (i = j)))
theorem op_eqI : OpR X (compareOp .Eq) (rEqI fun k => k) := opB0 fun i j _ _ _ _ _ q => eq_int (by rw [Bool.beq_eq_decide_eq]; exact q)
theorem op_neI : OpR X (compareOp .NotEq) (rEqI fun k => !k) := opB0 fun i j _ _ _ _ _ q => ne_int (by rw [bne, Bool.beq_eq_decide_eq]; exact q)
theorem Wo (hu : X.A.units + 64 < cLine) : OpR X (compareOp .Eq) (fun x y H Q => rEqI (fun k => k) x y H Q \/ rEqD X.K (fun k => k) x y H Q) /\ Fop X W (fun x y H Q => rEqI (fun k => k) x y H Q \/ rEqD X.K (fun k => k) x y H Q) fEq :=
 ⟨op_eqI.or (op_eqD hu), fun H P σ G x y tx ty Q h rx ry q => by
  unfold fEq at q
  split at q
  ·exact .inl ⟨_, _, ZL.mp rx, ZL.mp ry, ZE q⟩
  ·split at q
   ·rename_i hc
    rw [Bool.and_eq_true] at hc
    exact .inr ⟨P, tx, ty, rx, ry, hc.1, hc.2, ZE q⟩
   ·exact q.elim⟩
theorem Vd (hu : X.A.units + 64 < cLine) : OpR X (compareOp .NotEq) (fun x y H Q => rEqI (fun k => !k) x y H Q \/ rEqD X.K (fun k => !k) x y H Q) /\ Fop X W (fun x y H Q => rEqI (fun k => !k) x y H Q \/ rEqD X.K (fun k => !k) x y H Q) fNe :=
 ⟨op_neI.or (op_neD hu), fun H P σ G x y tx ty Q h rx ry q => by
  unfold fNe at q
  split at q
  ·exact .inl ⟨_, _, ZL.mp rx, ZL.mp ry, ZE q⟩
  ·split at q
   ·rename_i hc
    rw [Bool.and_eq_true] at hc
    exact .inr ⟨P, tx, ty, rx, ry, hc.1, hc.2, ZE q⟩
   ·exact q.elim⟩
theorem tUn_of {r : V -> Hp -> VK -> Prop} {f : PyData -> Res PyData} (hf : ∀ (H : Hp) (P : Pv) (x : V) (tx : PyData) (Q : VK), Rl X.K H P tx x -> Yu X.K W H P (f tx) Q -> r x H Q) {σ : L2.St} {H : Hp} {Q : VK} (h : tF X.K W (d1 f da) σ H Q) :
  tUn r (tF X.K W da) σ H Q := by
 obtain ⟨G, P, h, q⟩ := h
 unfold d1 at q
 obtain ⟨q1, q2, q3⟩ := Wr q
 exact Zy h q1 q2 fun tx x H1 ex s1 h1 rx => hf H1 P x tx Q rx ((q3 tx ex).up s1)
theorem Xr (ha : EV X W a da) : EV X W (.UnaryOp .USub a pos) (d1 fNeg da) :=
 ZA (pe_un un_neg ha) fun σ H Q h => tUn_of (r := rU fun i => .int (-i)) (fun H P x tx Q rx q => by
  cases tx <;> try exact q.elim
  exact ⟨_, ZL.mp rx, Xg q⟩) h
theorem bindA {a : Res PyData} {f : PyData -> Res (List PyData)} {K : PySem.W.Frag} {H : Hp} {P : Pv} {Q : List V -> Hp -> Prop} (q : zdO K W H P (a.bind f) Q) :
  (∀ c, a = .exc c -> ∀ H', Same H H' -> W c H') /\ a ≠ .stuck /\ ∀ t, a = .ok t -> zdO K W H P (f t) Q := by
 cases a with
 | ok t => exact ⟨fun c e => (by cases e), (by intro e; cases e), fun t' e => by cases e; exact q⟩
 | exc c => exact ⟨fun c' e => by cases e; exact q, (by intro e; cases e), fun t e => by cases e⟩
 | stuck => exact q.elim
theorem bindAA {a : Res (List PyData)} {f : List PyData -> Res (List PyData)} {K : PySem.W.Frag} {H : Hp} {P : Pv} {Q : List V -> Hp -> Prop} (q : zdO K W H P (a.bind f) Q) :
  (∀ c, a = .exc c -> ∀ H', Same H H' -> W c H') /\ a ≠ .stuck /\ ∀ t, a = .ok t -> zdO K W H P (f t) Q := by
 cases a with
 | ok t => exact ⟨fun c e => (by cases e), (by intro e; cases e), fun t' e => by cases e; exact q⟩
 | exc c => exact ⟨fun c' e => by cases e; exact q, (by intro e; cases e), fun t e => by cases e⟩
 | stuck => exact q.elim
theorem zcV {a : Res (List PyData)} {f : List PyData -> Res PyData} {K : PySem.W.Frag} {H : Hp} {P : Pv} {Q : VK} (q : Yu K W H P (a.bind f) Q) :
  (∀ c, a = .exc c -> ∀ H', Same H H' -> W c H') /\ a ≠ .stuck /\ ∀ t, a = .ok t -> Yu K W H P (f t) Q := by
 cases a with
 | ok t => exact ⟨fun c e => (by cases e), (by intro e; cases e), fun t' e => by cases e; exact q⟩
 | exc c => exact ⟨fun c' e => by cases e; exact q, (by intro e; cases e), fun t e => by cases e⟩
 | stuck => exact q.elim
theorem bindTE {a : Res Bool} {f : Bool -> Res PyData} {K : PySem.W.Frag} {H : Hp} {P : Pv} {Q : VK} (q : Yu K W H P (a.bind f) Q) :
  (∀ c, a = .exc c -> ∀ H', Same H H' -> W c H') /\ a ≠ .stuck /\ ∀ t, a = .ok t -> Yu K W H P (f t) Q := by
 cases a with
 | ok t => exact ⟨fun c e => (by cases e), (by intro e; cases e), fun t' e => by cases e; exact q⟩
 | exc c => exact ⟨fun c' e => by cases e; exact q, (by intro e; cases e), fun t e => by cases e⟩
 | stuck => exact q.elim
theorem bindT {a : Res Bool} {f : Bool -> Res Bool} {H : Hp} {Q : Bool -> Hp -> Prop} (q : QK W H (a.bind f) Q) :
  (∀ c, a = .exc c -> ∀ H', Same H H' -> W c H') /\ a ≠ .stuck /\ ∀ t, a = .ok t -> QK W H (f t) Q := by
 cases a with
 | ok t => exact ⟨fun c e => (by cases e), (by intro e; cases e), fun t' e => by cases e; exact q⟩
 | exc c => exact ⟨fun c' e => by cases e; exact q, (by intro e; cases e), fun t e => by cases e⟩
 | stuck => exact q.elim
theorem bindET {a : Res PyData} {f : PyData -> Res Bool} {H : Hp} {Q : Bool -> Hp -> Prop} (q : QK W H (a.bind f) Q) :
  (∀ c, a = .exc c -> ∀ H', Same H H' -> W c H') /\ a ≠ .stuck /\ ∀ t, a = .ok t -> QK W H (f t) Q := by
 cases a with
 | ok t => exact ⟨fun c e => (by cases e), (by intro e; cases e), fun t' e => by cases e; exact q⟩
 | exc c => exact ⟨fun c' e => by cases e; exact q, (by intro e; cases e), fun t e => by cases e⟩
 | stuck => exact q.elim
theorem QK.up {H H' : Hp} {r : Res Bool} {Q : Bool -> Hp -> Prop} (q : QK W H r Q) (s : Same H H') : QK W H' r Q := by
 cases r with
 | ok t => exact fun H2 s2 => q H2 (s.trans s2)
 | exc c => exact fun H2 s2 => q H2 (s.trans s2)
 | stuck => exact q
theorem Zf : AV X W [] dNil := zet YX fun σ H Q ⟨G, P, h, q⟩ => q [] H (Same.refl H) (ZM.mpr rfl)
theorem Zb {dr : DA} (ha : EV X W e da) (hr : AV X W es dr) (hs : starEach (e :: es) X.env = (false, eval e X.env) :: starEach es X.env := by rfl) : AV X W (e :: es) (Zc da dr) :=
 zet (ZV ha hr hs) fun σ H Q ⟨G, P, h, q⟩ => by
  unfold Zc at q
  obtain ⟨q1, q2, q3⟩ := bindA q
  refine Zy h q1 q2 fun tx x H1 ex s1 h1 rx => ?_
  obtain ⟨q4, q5, q6⟩ := bindAA (q3 tx ex)
  refine Wu h1 (fun c e H' s => q4 c e H' (s1.trans s)) q5 fun ts vs H2 es' s2 h2 rs => ?_
  exact (q6 ts es') (x :: vs) H2 (s1.trans s2) (Zx.mpr ⟨x, vs, rfl, Rl.go (.same s2) tx x rx, rs⟩)
theorem zaa {xs : List PyData} {vs : List V} {K : PySem.W.Frag} {H : Hp} {P : Pv} (h : lenOk xs = true) (r : Rls K H P xs vs) : vs.length <= sizeLine := by
 have := r.length
 have h' : xs.length <= 16777216 := of_decide_eq_true h
 rw [sizeLine_eq]; omega
theorem ST.off {K : PySem.W.Frag} {H : Hp} {P : Pv} {a : Addr} {xs : List V} (h : H a = some (.tup xs)) (o : Off P a) : ST K H P a xs := ⟨h, o⟩
theorem ZY {da : DA} {x1} (h : AV X W es da) : EV X W (.Tuple es x1 pos) (dTup da) :=
 ZA (pe_tup h) fun σ H Q ⟨G, P, h, q⟩ => by
  unfold dTup at q
  obtain ⟨q1, q2, q3⟩ := zcV q
  refine Wu h q1 q2 fun ts vs H1 es' s1 h1 rs => ?_
  have q4 := q3 ts es'
  split at q4
  ·rename_i hl
   exact ⟨zaa hl rs, fun p hp => q4 _ _ (s1.trans (Zr hp)) (ZH.mpr ⟨p, vs, rfl, .off Zp (h1.off_new hp), Rls.go (.same (Zr hp)) ts vs rs⟩)⟩
  ·exact q4.elim
theorem X3 {da : DA} (h : AV X W es da) : EV X W (.List es pos) (dLst da) :=
 ZA (pe_lst h) fun σ H Q ⟨G, P, h, q⟩ => by
  unfold dLst at q
  obtain ⟨q1, q2, q3⟩ := zcV q
  refine Wu h q1 q2 fun ts vs H1 es' s1 h1 rs => ?_
  have q4 := q3 ts es'
  split at q4
  ·rename_i hl
   exact ⟨zaa hl rs, fun p hp => q4 _ _ (s1.trans (Zr hp)) (ZN.mpr ⟨p, vs, rfl, .off Zp (h1.off_new hp), Rls.go (.same (Zr hp)) ts vs rs⟩)⟩
  ·exact q4.elim
theorem ixP_eq (n : Nat) (i : Int) : ixP n i = ixN n i := rfl
theorem atP_rl {K : PySem.W.Frag} {H : Hp} {P : Pv} {ts : List PyData} {vs : List V} {i : Int} {t : PyData} (r : Rls K H P ts vs) (h : atP ts i = some t) : ∃ v, atI vs i = some v /\ Rl K H P t v := by
 unfold atP at h
 unfold atI
 rw [<- r.length, <- ixP_eq]
 cases e : ixP ts.length i with
 | none => rw [e] at h; cases h
 | some j =>
  rw [e] at h
  exact r.getT (i := j) h
theorem Zm (ha : EV X W a da) (hb : EV X W b db) (hs : zfF b) : EV X W (.Subscript a b pos) (d2 fIx da db) :=
 ZA (pe_ix (ix_list.or ix_tup) ha hb hs) fun σ H Q h => zch (r := fun x y H Q => rIxL X.K x y H Q \/ rIxT X.K x y H Q) (fun H P σ G x y tx ty Q h rx ry q => by
  cases tx <;> cases ty <;> try exact q.elim
  ·rename_i xs i
   obtain ⟨l, us, rfl, s1, r1⟩ := ZN.mp rx
   simp only [fIx] at q
   cases e : atP xs i with
   | none => rw [e] at q; exact q.elim
   | some t =>
    rw [e] at q
    obtain ⟨v, e1, r⟩ := atP_rl r1 e
    exact .inl ⟨l, us, i, v, rfl, ZL.mp ry, s1.sq, e1, q v H (Same.refl H) r⟩
  ·rename_i xs i
   obtain ⟨l, us, rfl, s1, r1⟩ := ZH.mp rx
   simp only [fIx] at q
   cases e : atP xs i with
   | none => rw [e] at q; exact q.elim
   | some t =>
    rw [e] at q
    obtain ⟨v, e1, r⟩ := atP_rl r1 e
    exact .inr ⟨l, us, i, v, rfl, ZL.mp ry, s1.sq, e1, q v H (Same.refl H) r⟩) h
theorem zci {r : List V -> Hp -> VK -> Prop} {f : PyData -> Res PyData} (hf : ∀ (H : Hp) (P : Pv) (σ : L2.St) (G : List Sl) (x : V) (tx : PyData) (Q : VK), Hol X.K H P σ G -> Rl X.K H P tx x -> Yu X.K W H P (f tx) Q -> r [x] H Q) {σ : L2.St} {H : Hp} {Q : VK} (h : tF X.K W (d1 f da) σ H Q) :
  tCB r (zd0 (tF X.K W da) tNil) σ H Q := by
 obtain ⟨G, P, h, q⟩ := h
 unfold d1 at q
 obtain ⟨q1, q2, q3⟩ := Wr q
 exact Zy h q1 q2 fun tx x H1 ex s1 h1 rx => hf H1 P σ G x tx Q h1 rx ((q3 tx ex).up s1)
theorem Yj {p : Pos} (hg : Gl X "len") (hm : X.mg "len" = none) (ha : EV X W a da) (hs : starEach [a] X.env = (false, eval a X.env) :: starEach [] X.env := by rfl) : EV X W (.Call (.Name "len" p) [a] [] pos) (d1 fLen da) :=
 ZA (W4 zbc hg hm PySem.boot_len (ZV ha YX hs) (he := hs)) fun σ H Q h => zci (fun H P σ G x tx Q h rx q => by
  cases tx <;> try exact q.elim
  ·obtain ⟨l, us, rfl, s1, r1⟩ := ZN.mp rx
   have e := r1.length
   refine ⟨l, us, rfl, .inl s1.sq, ?_⟩
   rw [<- e]; exact Xg q
  ·obtain ⟨l, us, rfl, s1, r1⟩ := ZH.mp rx
   have e := r1.length
   refine ⟨l, us, rfl, .inr s1.sq, ?_⟩
   rw [<- e]; exact Xg q) h
theorem zaV {p : Pos} (hg : Gl X "abs") (hm : X.mg "abs" = none) (ha : EV X W a da) (hs : starEach [a] X.env = (false, eval a X.env) :: starEach [] X.env := by rfl) : EV X W (.Call (.Name "abs" p) [a] [] pos) (d1 fAbs da) :=
 ZA (W4 call_abs hg hm (show bootBuiltins "abs" = some (.builtin "abs") by decide +kernel) (ZV ha YX hs) (he := hs)) fun σ H Q h => zci (fun H P σ G x tx Q h rx q => by
  cases tx <;> try exact q.elim
  exact ⟨_, by rw [ZL.mp rx], Xg q⟩) h
def tyN : PyData -> String
 | .none => "NoneType"
 | .bool _ => "bool"
 | .int _ => "int"
 | .str _ => "str"
 | .list _ => "list"
 | .tuple _ => "tuple"
 | .dict _ => "dict"
def Kit (T : String) (p : PyData -> Bool) : Prop := ∀ (K : PySem.W.Frag) (t : PyData), PySem.W.kitOne K (.type (tyN t)) (.type T) = some (p t)
theorem kit_int : Kit "int" isInt := fun K t => by cases t <;> rfl
theorem kit_bool : Kit "bool" isBool := fun K t => by cases t <;> rfl
theorem zeS : Kit "tuple" zeW := fun K t => by cases t <;> rfl
theorem UN : Kit "list" isList := fun K t => by cases t <;> rfl
theorem call_isi {T : String} {p : PyData -> Bool} (hk : Kit T p) : UH X (.builtin "isinstance") (fun xs H Q => ∃ x t P, xs = [x, .ty T] /\ (∀ ys, t ≠ .dict ys) /\ Rl X.K H P t x /\ Q (.bl (p t)) H) := by
 intro pins s σ H xs us Q I r h
 obtain ⟨x, t, P, rfl, nd, rx, q⟩ := h
 obtain ⟨u, w', rfl, ru, rw'⟩ := vals2 r
 cases rw'
 have e := hk X.K t
 have fin : ∀ tk, EP X pins σ Q (.bool (p t)) { s with toks := tk } := fun tk => ⟨.bl (p t), H, I.tok tk, rfl, q⟩
 cases t with
 | none => rw [Y0.mp rx] at ru; cases ru; exact PySem.W.kia_one PySem.W.kitx_none I.kIn True.intro e (fun z => nomatch z) fin
 | bool b => rw [Yp.mp rx] at ru; cases ru; exact PySem.W.kia_one PySem.W.kitx_bool I.kIn True.intro e (fun z => nomatch z) fin
 | int i => rw [ZL.mp rx] at ru; obtain ⟨t, rfl⟩ := ru; exact PySem.W.kia_one PySem.W.kitx_int I.kIn True.intro e (fun z => nomatch z) fin
 | str y => rw [Uc.mp rx] at ru; obtain ⟨t, rfl⟩ := ru; exact PySem.W.kia_one PySem.W.kitx_str I.kIn True.intro e (fun z => nomatch z) fin
 | list ys =>
  obtain ⟨l, vs, rfl, s1, r1⟩ := ZN.mp rx
  cases ru
  obtain ⟨its, rv, ⟨o, n, e1, hc, hd, hs⟩, z⟩ := I.list s1.sq
  exact PySem.W.kia_one PySem.W.kitx_list I.kIn ⟨o, e1, hc⟩ e (fun z => nomatch z) fin
 | tuple ys =>
  obtain ⟨l, vs, rfl, s1, r1⟩ := ZH.mp rx
  cases ru
  obtain ⟨its, rv, ⟨o, e1, hc, n, hs⟩, z⟩ := I.tuple s1.sq
  exact PySem.W.kia_one PySem.W.kitx_tuple I.kIn ⟨o, e1, hc⟩ e (fun z => nomatch z) fin
 | dict ys => exact absurd rfl (nd ys)
theorem XY {T : String} {x : Str} {f : PyData -> Bool} {p p2 : Pos} (hk : Kit T f) (hv : bootBuiltins x = some (.type T)) (hg : Gl X "isinstance") (hm : X.mg "isinstance" = none) (hg2 : Gl X x) (hm2 : X.mg x = none) (ha : EV X W a da)
  (hs : starEach [a, .Name x p2] X.env = (false, eval a X.env) :: starEach [.Name x p2] X.env := by rfl) (hs2 : starEach [.Name x p2] X.env = (false, eval (.Name x p2) X.env) :: starEach [] X.env := by rfl)
  (hpl : (backTo pos (starEach [.Name x p2] X.env)).any (·.1) = false := by rfl) (hn : x ≠ "__name__" := by decide) (hdb : (x == ("__debug__" : Str)) = false := by decide) :
  EV X W (.Call (.Name "isinstance" p) [a, .Name x p2] [] pos) (d1 (fIs f) da) :=
 ZA (W4 (call_isi hk) hg hm (show bootBuiltins "isinstance" = some (.builtin "isinstance") by decide +kernel) (ZV ha (ZV (zer (v := .ty T) hg2 hm2 hv rfl hn hdb) YX hs2) hs) (he := hs) (hpl := hpl)) fun σ H Q ⟨G, P, h, q⟩ => by
  unfold d1 at q
  obtain ⟨q1, q2, q3⟩ := Wr q
  refine Zy h q1 q2 fun tx x H1 ex s1 h1 rx => ?_
  have q4 := Yu.up (q3 tx ex) s1
  refine ⟨x, tx, P, rfl, fun ys z => (by subst z; exact q4.elim), rx, ?_⟩
  cases tx <;> first | exact ZE q4 | exact q4.elim
theorem zaU {op} (h : EV X W a da) : EV X W (.BoolOp op [a] pos) da := pe_one h
theorem zcK {rest : List Expr} (ha : EV X W a da) (hb : EV X W (.BoolOp .And (b :: rest) pos) db) : EV X W (.BoolOp .And (a :: b :: rest) pos) (zdI da db) :=
 ZA (pe_and ha hb) fun σ H Q ⟨G, P, h, q⟩ => by
  unfold zdI at q
  obtain ⟨q1, q2, q3⟩ := Wr q
  refine Zy h q1 q2 fun tx x H1 ex s1 h1 rx => ?_
  have q4 := q3 tx ex
  cases tx <;> try exact q4.elim
  rename_i k
  refine ⟨k, Yp.mp rx, ?_⟩
  cases k with
  | true => exact iteT ⟨G, P, h1, Yu.up q4 s1⟩
  | false => exact iteF (ZE (Yu.up q4 s1))
theorem ev_or {rest : List Expr} (ha : EV X W a da) (hb : EV X W (.BoolOp .Or (b :: rest) pos) db) : EV X W (.BoolOp .Or (a :: b :: rest) pos) (dOrV da db) :=
 ZA (pe_or ha hb) fun σ H Q ⟨G, P, h, q⟩ => by
  unfold dOrV at q
  obtain ⟨q1, q2, q3⟩ := Wr q
  refine Zy h q1 q2 fun tx x H1 ex s1 h1 rx => ?_
  have q4 := q3 tx ex
  cases tx <;> try exact q4.elim
  rename_i k
  refine ⟨k, Yp.mp rx, ?_⟩
  cases k with
  | true => exact iteT (ZE (Yu.up q4 s1))
  | false => exact iteF ⟨G, P, h1, Yu.up q4 s1⟩
theorem ev_not (ha : EV X W a da) : EV X W (.UnaryOp .Not a pos) (dNotV da) :=
 ZA (pe_not ha) fun σ H Q ⟨G, P, h, q⟩ => by
  unfold dNotV at q
  obtain ⟨q1, q2, q3⟩ := Wr q
  refine Zy h q1 q2 fun tx x H1 ex s1 h1 rx => ?_
  have q4 := q3 tx ex
  cases tx <;> try exact q4.elim
  exact ⟨_, Yp.mp rx, ZE (Yu.up q4 s1)⟩
theorem zcJ {dc : DT} (hc : TV X W c dc) (ha : EV X W a da) (hb : EV X W b db) : EV X W (.IfExp c a b pos) (dIfE dc da db) :=
 ZA (pe_ifExp hc ha hb) fun σ H Q ⟨G, P, h, q⟩ => by
  unfold dIfE at q
  obtain ⟨q1, q2, q3⟩ := bindTE q
  refine Wt h q1 q2 fun k H1 ek s1 h1 => ?_
  have q4 := q3 k ek
  cases k with
  | true => exact iteT ⟨G, P, h1, Yu.up q4 s1⟩
  | false => exact iteF ⟨G, P, h1, Yu.up q4 s1⟩
theorem ev_isN {j pos'} (ha : EV X W a da) : EV X W (.Compare a [.Is] [.Constant .none j pos'] pos) (d1 fIsN da) :=
 ZA (pe_cmp (pc_isN ha)) fun σ H Q ⟨G, P, h, q⟩ => by
  unfold d1 at q
  obtain ⟨q1, q2, q3⟩ := Wr q
  refine Zy h q1 q2 fun tx x H1 ex s1 h1 rx => ?_
  have q4 := Yu.up (q3 tx ex) s1
  cases tx with
  | none => rw [Y0.mp rx]; exact ZE q4
  | bool b => rw [Yp.mp rx]; exact ZE q4
  | int b => rw [ZL.mp rx]; exact ZE q4
  | str b => rw [Uc.mp rx]; exact ZE q4
  | list b => obtain ⟨l, us, rfl, _⟩ := ZN.mp rx; exact ZE q4
  | tuple b => obtain ⟨l, us, rfl, _⟩ := ZH.mp rx; exact ZE q4
  | dict b => rcases VW.mp rx with ⟨_, l, rfl, _⟩ | ⟨_, l, _, _, _, rfl, _⟩ | ⟨l, _, _, rfl, _⟩ <;> exact ZE q4
theorem truth_ok {H : Hp} {P : Pv} {x : V} {tx : PyData} {k : Bool} (r : Rl X.K H P tx x) (e : truth tx = .ok k) : TruV X.K x H k := by
 cases tx with
 | none => rw [Y0.mp r]; cases e; rfl
 | bool b => rw [Yp.mp r]; cases e; rfl
 | int i => rw [ZL.mp r]; cases e; rfl
 | str x => cases e
 | list xs =>
  obtain ⟨l, us, rfl, s1, r1⟩ := ZN.mp r
  cases e
  refine .inl ⟨us, s1.sq, ?_⟩
  have := r1.length
  cases xs <;> cases us <;> first | rfl | simp at this
 | tuple xs =>
  obtain ⟨l, us, rfl, s1, r1⟩ := ZH.mp r
  cases e
  refine .inr (.inl ⟨us, s1.sq, ?_⟩)
  have := r1.length
  cases xs <;> cases us <;> first | rfl | simp at this
 | dict _ => cases e
theorem Xp (ha : EV X W a da) (he : ∀ whole, isTrue a X.env whole = (do let v <- whole; standAt a.pos; holding [v] (truthy v))) : TV X W a (tV da) :=
 JO (pt_truth ha he) fun σ H Q ⟨G, P, h, q⟩ => by
  unfold Fx.tV at q
  obtain ⟨q1, q2, q3⟩ := bindET q
  refine Zy h q1 q2 fun tx x H1 ex s1 h1 rx => ?_
  have q4 := q3 tx ex
  cases e : truth tx with
  | stuck => rw [e] at q4; exact q4.elim
  | exc c => cases tx <;> cases e
  | ok k => rw [e] at q4; exact ⟨k, truth_ok rx e, q4 H1 s1⟩
theorem ZD {op : CmpOp} {r : R2} {f : PyData -> PyData -> Res PyData} (ho : OpR X (compareOp op) r /\ Fop X W r f) (ha : EV X W a da) (hb : EV X W b db) (hm : behindInMarks op b = false)
  (hf : ∀ x y, (∃ k, f x y = .ok (.bool k)) \/ f x y = .stuck := by first | exact fLt_b | exact fLe_b | exact fGt_b | exact fGe_b | exact fEq_b | exact fNe_b) : TV X W (.Compare a [op] [b] pos) (tV (d2 f da db)) :=
 JO (pt_cmpR ho.1 ha hb hm) fun σ H Q ⟨G, P, h, q⟩ => by
  refine zch ho.2 ⟨G, P, h, ?_⟩
  unfold Fx.tV at q
  cases e : d2 f da db G with
  | stuck => rw [e] at q; exact q
  | exc c => rw [e] at q; exact q
  | ok t =>
   rw [e] at q
   have hb : ∃ k, t = .bool k := by
    unfold d2 at e
    cases e1 : da G with
    | stuck => rw [e1] at e; cases e
    | exc c => rw [e1] at e; cases e
    | ok tx =>
     rw [e1, Res.bind_ok] at e
     cases e2 : db G with
     | stuck => rw [e2] at e; cases e
     | exc c => rw [e2] at e; cases e
     | ok ty =>
      rw [e2, Res.bind_ok] at e
      rcases hf tx ty with ⟨k, e3⟩ | e3
      ·rw [e3] at e; cases e; exact ⟨k, rfl⟩
      ·rw [e3] at e; cases e
   obtain ⟨k, rfl⟩ := hb
   exact fun v H' s r => ⟨k, Yp.mp r, q H' s⟩
theorem UT {dt : DT} (ha : TV X W a dt) : TW X W (.BoolOp .And [a] pos) dt := pw_and1 ha
theorem Vp {dt : DT} (ha : TV X W a dt) : TW X W (.BoolOp .Or [a] pos) dt := pw_or1 ha
theorem zav {dt du : DT} {rest : List Expr} (ha : TV X W a dt) (hb : TW X W (.BoolOp .And (b :: rest) pos) du) : TW X W (.BoolOp .And (a :: b :: rest) pos) (tAnd dt du) :=
 zeg (pw_and ha hb) fun σ H Q ⟨G, P, h, q⟩ => by
  unfold Fx.tAnd at q
  obtain ⟨q1, q2, q3⟩ := bindT q
  refine Wt h q1 q2 fun k H1 ek s1 h1 => ?_
  have q4 := q3 k ek
  cases k with
  | true => exact iteT ⟨G, P, h1, QK.up q4 s1⟩
  | false => exact iteF (q4 H1 s1)
theorem US {dt du : DT} {rest : List Expr} (ha : TV X W a dt) (hb : TW X W (.BoolOp .Or (b :: rest) pos) du) : TW X W (.BoolOp .Or (a :: b :: rest) pos) (tOr dt du) :=
 zeg (pw_or ha hb) fun σ H Q ⟨G, P, h, q⟩ => by
  unfold Fx.tOr at q
  obtain ⟨q1, q2, q3⟩ := bindT q
  refine Wt h q1 q2 fun k H1 ek s1 h1 => ?_
  have q4 := q3 k ek
  cases k with
  | true => exact iteT (q4 H1 s1)
  | false => exact iteF ⟨G, P, h1, QK.up q4 s1⟩
theorem tv_w {dt : DT} (h : TW X W a dt) : TV X W a dt := PW.pt h
theorem Vq {dt : DT} (ha : TV X W a dt) : TV X W (.UnaryOp .Not a pos) (tNot dt) :=
 JO (pt_not ha) fun σ H Q ⟨G, P, h, q⟩ => by
  unfold Fx.tNot at q
  obtain ⟨q1, q2, q3⟩ := bindT q
  exact Wt h q1 q2 fun k H1 ek s1 h1 => (q3 k ek) H1 s1
end
end Fx
namespace Fx
open PySem PySem.Spec PyProof.Rows L2
section
variable {X : Cx} {W : Str -> Hp -> Prop} {fl : Bool} {a b c e : Expr} {es : List Expr} {da db : DE} {pos : Pos}
theorem Xm.up {K : PySem.W.Frag} {H H' : Hp} {P P' : Pv} {r : Res Out} {D : Ends} (q : Xm K W fl H P r D) (g : Go H P H' P') : Xm K W fl H' P' r D := by
 cases r with
 | ok o =>
  cases o with
  | nx G => exact fun σ2 H2 P2 g2 h2 => q σ2 H2 P2 (g.trans g2) h2
  | bk G => exact fun σ2 H2 P2 g2 h2 => q σ2 H2 P2 (g.trans g2) h2
  | ct G => exact fun σ2 H2 P2 g2 h2 => q σ2 H2 P2 (g.trans g2) h2
  | rt t => exact fun v H2 P2 g2 h2 n2 => q v H2 P2 (g.trans g2) h2 fun z => (n2 z).back g
 | exc c => exact fun H2 P2 g2 => q H2 P2 (g.trans g2)
 | stuck => exact q
theorem Uq {a : Res PyData} {f : PyData -> Res Out} {K : PySem.W.Frag} {H : Hp} {P : Pv} {D : Ends} (q : Xm K W fl H P (a.bind f) D) :
  (∀ c, a = .exc c -> ∀ H' P', Go H P H' P' -> W c H') /\ a ≠ .stuck /\ ∀ t, a = .ok t -> Xm K W fl H P (f t) D := by
 cases a with
 | ok t => exact ⟨fun c e => (by cases e), (by intro e; cases e), fun t' e => by cases e; exact q⟩
 | exc c => exact ⟨fun c' e => by cases e; exact q, (by intro e; cases e), fun t e => by cases e⟩
 | stuck => exact q.elim
theorem zfz {a : Res Bool} {f : Bool -> Res Out} {K : PySem.W.Frag} {H : Hp} {P : Pv} {D : Ends} (q : Xm K W fl H P (a.bind f) D) :
  (∀ c, a = .exc c -> ∀ H' P', Go H P H' P' -> W c H') /\ a ≠ .stuck /\ ∀ t, a = .ok t -> Xm K W fl H P (f t) D := by
 cases a with
 | ok t => exact ⟨fun c e => (by cases e), (by intro e; cases e), fun t' e => by cases e; exact q⟩
 | exc c => exact ⟨fun c' e => by cases e; exact q, (by intro e; cases e), fun t e => by cases e⟩
 | stuck => exact q.elim
theorem zfB {a : Res (List PyData)} {f : List PyData -> Res Out} {K : PySem.W.Frag} {H : Hp} {P : Pv} {D : Ends} (q : Xm K W fl H P (a.bind f) D) :
  (∀ c, a = .exc c -> ∀ H' P', Go H P H' P' -> W c H') /\ a ≠ .stuck /\ ∀ t, a = .ok t -> Xm K W fl H P (f t) D := by
 cases a with
 | ok t => exact ⟨fun c e => (by cases e), (by intro e; cases e), fun t' e => by cases e; exact q⟩
 | exc c => exact ⟨fun c' e => by cases e; exact q, (by intro e; cases e), fun t e => by cases e⟩
 | stuck => exact q.elim
theorem ZK : SVs X W fl [] ZZ := zcu pss_nil fun D σ H ⟨G, P, h, q⟩ => q σ H P (.refl H P) h
theorem Zi {st : Stmt} {d : DS} (h : SV X W fl st d) : SVs X W fl [st] d := zej h
theorem Zg {st : Stmt} {rest : List Stmt} {d1 d2 : DS} (h1 : SV X W fl st d1) (h2 : SVs X W fl rest d2) : SVs X W fl (st :: rest) (dSeq d1 d2) :=
 zcu (JP h1 h2) fun D σ H ⟨G, P, h, q⟩ => by
  refine ⟨G, P, h, ?_⟩
  unfold dSeq at q
  cases e : d1 G with
  | stuck => rw [e] at q; exact q.elim
  | exc c => rw [e] at q; exact q
  | ok o =>
   rw [e, Res.bind_ok] at q
   cases o with
   | nx G1 => exact fun σ' H' P' g h' => ⟨G1, P', h', Xm.up q g⟩
   | rt t => exact q
   | bk G1 => exact q
   | ct G1 => exact q
theorem Jz {st : Stmt} : SV X W fl st dNev := YF ps_never fun D σ H ⟨G, P, h, q⟩ => q
theorem Zo (he : EV X W e da) : SV X W false (.Return (some e) pos) (dRet da) :=
 YF (zel he) fun D σ H ⟨G, P, h, q⟩ => by
  unfold dRet at q
  obtain ⟨h', g⟩ := h.frzA
  obtain ⟨q1, q2, q3⟩ := Uq q
  exact Zy h' (fun c e H' s => q1 c e H' P.bare (g.trans (.same s))) q2 fun t v H1 et s1 h1 r => (q3 t et) v H1 P.bare (g.trans (.same s1)) r fun z => by cases z
theorem Z4 {x y : List Stmt} {dc : DT} {dx dy : DS} (hc : TV X W c dc) (hx : SVs X W fl x dx) (hy : SVs X W fl y dy) : SV X W fl (.If c x y pos) (dIf dc dx dy) :=
 YF (ps_if hc hx hy) fun D σ H ⟨G, P, h, q⟩ => by
  unfold dIf at q
  obtain ⟨h', g⟩ := h.frzA
  obtain ⟨q1, q2, q3⟩ := zfz q
  refine Wt h' (fun c e H' s => q1 c e H' P.bare (g.trans (.same s))) q2 fun k H1 ek s1 _ => ?_
  have q4 := q3 k ek
  cases k with
  | true => exact iteT ⟨G, P, h.same s1, Xm.up q4 (.same s1)⟩
  | false => exact iteF ⟨G, P, h.same s1, Xm.up q4 (.same s1)⟩
theorem zbm (he : EV X W e da) (hs : swapsWith e none pos.line X.env = pure false := by rfl) : SV X W fl (.Expr e pos) (QI da) :=
 YF (zbw he hs) fun D σ H ⟨G, P, h, q⟩ => by
  unfold QI at q
  obtain ⟨h', g⟩ := h.frzA
  obtain ⟨q1, q2, q3⟩ := Uq q
  exact Zy h' (fun c e H' s => q1 c e H' P.bare (g.trans (.same s))) q2 fun t v H1 et s1 h1 r => (q3 t et) σ H1 P (.same s1) (h.same s1)
mutual
theorem zef {K : PySem.W.Frag} {H : Hp} {P P' : Pv} (hd : ∀ i a, P'.own i = some a -> ∃ o, H a = some o /\ LD o) (hf : P'.fb = P.fb) : ∀ (t : PyData) (v : V), Xi t = true -> Rl K H P t v -> Rl K H P' t v
 | .none, v, _, r => Y0.mpr (Y0.mp r)
 | .bool b, v, _, r => Yp.mpr (Yp.mp r)
 | .int i, v, _, r => ZL.mpr (ZL.mp r)
 | .str x, v, _, r => Uc.mpr (Uc.mp r)
 | .list _, v, h, r => by simp at h
 | .dict _, v, h, r => by simp at h
 | .tuple xs, v, h, r => by
  obtain ⟨a, vs, e, s, rs⟩ := ZH.mp r
  refine ZH.mpr ⟨a, vs, e, ?_, zco hd hf xs vs (by simpa using h) rs⟩
  refine ⟨s.1, fun i z => ?_, by rw [hf]; exact s.2.2⟩
  obtain ⟨ws, q, m⟩ := hd i a z
  rw [s.1] at q
  cases q
  rcases m with ⟨_, m⟩ | ⟨_, m⟩ <;> cases m
theorem zco {K : PySem.W.Frag} {H : Hp} {P P' : Pv} (hd : ∀ i a, P'.own i = some a -> ∃ o, H a = some o /\ LD o) (hf : P'.fb = P.fb) : ∀ (ts : List PyData) (vs : List V), Wv ts = true -> Rls K H P ts vs -> Rls K H P' ts vs
 | [], vs, _, r => ZM.mpr (ZM.mp r)
 | t :: ts, vs, h, r => by
  obtain ⟨v, r', e, a, b⟩ := Zx.mp r
  simp only [zaz, Bool.and_eq_true] at h
  exact Zx.mpr ⟨v, r', e, zef hd hf t v h.1 a, zco hd hf ts r' h.2 b⟩
end
theorem after {K : PySem.W.Frag} {H H1 : Hp} {P P1 : Pv} {σ : L2.St} {G : List Sl} {is : List Nat} {t : PyData} {v : V} (h : Hol K H P σ G) (h1 : Hol K H P1 σ (frz is G)) (g : Go H P H P1) (s : Same H H1) (r : Rl K H1 P1 t v) :
  ∃ P2, Hol K H1 P2 σ (if Xi t then G else frz is G) /\ Rl K H1 P2 t v /\ Go H P H1 P2 := by
 cases e : Xi t with
 | true => exact ⟨P, by rw [if_pos rfl]; exact h.same s, zef (fun i a z => (h.same s).dom z) g.2.symm t v e r, .same s⟩
 | false => exact ⟨P1, by rw [if_neg Bool.false_ne_true]; exact h1.same s, r, g.trans (.same s)⟩
theorem Zq {i : Nat} {x : Str} {is : List Nat} {pos' : Pos} (hN : X.N.Nodup) (hi : X.N[i]? = some x) (hx : Loc X.env.scope x) (he : EV X W e da) (hs : swapsWith e (some (.Name x pos')) pos.line X.env = pure false := by rfl)
  (hf : X.fn x = true \/ X.env.scope.names.lookup x = some .local := by first | exact .inl rfl | exact .inr rfl | assumption) : SV X W fl (.Assign [.Name x pos'] e pos) (dSet i is da) :=
 YF (zek hN hi hx he hs hf) fun D σ H ⟨G, P, h, q⟩ => by
  unfold dSet at q
  obtain ⟨P1, h1, g⟩ := h.frz is
  obtain ⟨q1, q2, q3⟩ := Uq q
  refine Zy h1 (fun c e H' s => q1 c e H' P1 (g.trans (.same s))) q2 fun t v H1 et s1 h2 r => ?_
  obtain ⟨P2, h3, r3, g3⟩ := after h h1 g s1 r
  exact (q3 t et) _ H1 (P2.del i) (g3.trans .del) (h3.setVal i r3)
theorem Vr {body : List Stmt} {fuel : List Sl -> Nat} {dc : DT} {d : DS} (hp : PassesOwn (model X.prog X.w) X.A X.env X.xe) (hc : TV X W c dc) (hb : SVs X W fl body d) : SV X W fl (.While c body [] pos) (Ju fuel dc d) :=
 YF (ps_while hp hc hb) fun D σ H ⟨G, P, h, q⟩ => by
  refine ⟨fun m σ' H' => ∃ G' P', Go H P H' P' /\ Hol X.K H' P' σ' G' /\ Xm X.K W fl H P (Ub dc d m G') D, ⟨fuel G, G, P, .refl H P, h, q⟩, ?_⟩
  rintro m σ' H' ⟨G', P', g', h', q'⟩
  cases m with
  | zero => exact q'.elim
  | succ m =>
   unfold Ub at q'
   obtain ⟨h2, g2⟩ := h'.frzA
   obtain ⟨q1, q2, q3⟩ := zfz q'
   refine Wt h2 (fun c e H1 s => q1 c e H1 P'.bare (g'.trans (g2.trans (.same s)))) q2 fun k H1 ek s1 _ => ?_
   have q4 := q3 k ek
   cases k with
   | false => exact iteF (q4 σ' H1 P' (g'.trans (.same s1)) (h'.same s1))
   | true =>
    refine iteT ⟨fun σ2 H2 => ∃ m', m' < m + 1 /\ ∃ G' P', Go H P H2 P' /\ Hol X.K H2 P' σ2 G' /\ Xm X.K W fl H P (Ub dc d m' G') D, fun σ2 H2 z => z, ?_⟩
    refine ⟨G', P', h'.same s1, ?_⟩
    have q5 : Xm X.K W fl H P ((d G').bind fun o => match o with
     | .nx G' => Ub dc d m G'
     | .ct G' => Ub dc d m G'
     | .bk G' => .ok (.nx G')
     | .rt t => .ok (.rt t)) D := q4
    cases e : d G' with
    | stuck => rw [e] at q5; exact q5.elim
    | exc c => rw [e] at q5; exact Xm.up (r := .exc c) q5 (g'.trans (.same s1))
    | ok o =>
     rw [e, Res.bind_ok] at q5
     cases o with
     | nx G1 => exact fun σ2 H2 P2 g3 h3 => ⟨m, Nat.lt_succ_self m, G1, P2, g'.trans ((Go.same s1).trans g3), h3, q5⟩
     | ct G1 => exact fun σ2 H2 P2 g3 h3 => ⟨m, Nat.lt_succ_self m, G1, P2, g'.trans ((Go.same s1).trans g3), h3, q5⟩
     | bk G1 => exact fun σ2 H2 P2 g3 h3 => q5 σ2 H2 P2 (g'.trans ((Go.same s1).trans g3)) h3
     | rt t => exact fun v H2 P2 g3 h3 n3 => q5 v H2 P2 (g'.trans ((Go.same s1).trans g3)) h3 fun z => ((n3 z).back (.same s1)).back g'
end
theorem Jn {a : DE} : ∀ G ts, Zc a dNil G = .ok ts -> ts.length = 1 := fun G ts h => by
 unfold Zc dNil at h
 cases e : a G <;> rw [e] at h <;> first | (cases h; done) | (cases h; rfl)
theorem zeO {a : DE} {r : DA} {n : Nat} (hr : ∀ G ts, r G = .ok ts -> ts.length = n) : ∀ G ts, Zc a r G = .ok ts -> ts.length = n + 1 := fun G ts h => by
 unfold Zc at h
 cases e : a G with
 | stuck => rw [e] at h; cases h
 | exc c => rw [e] at h; cases h
 | ok x =>
  rw [e, Res.bind_ok] at h
  cases e2 : r G with
  | stuck => rw [e2] at h; cases h
  | exc c => rw [e2] at h; cases h
  | ok xs => rw [e2] at h; cases h; simp [hr G xs e2]
theorem zaK {a b : DE} : ∀ G ts, Zc a (Zc b dNil) G = .ok ts -> ts.length = 2 := zeO Jn
theorem zaJ {a b c : DE} : ∀ G ts, Zc a (Zc b (Zc c dNil)) G = .ok ts -> ts.length = 3 := zeO zaK
theorem zcA {a b c d : DE} : ∀ G ts, Zc a (Zc b (Zc c (Zc d dNil))) G = .ok ts -> ts.length = 4 := zeO zaJ
def spX (E : XK) (H : Hp) (c : Str) : Option (Str -> Value) -> Prop
 | none => False
 | some cl => ∀ dx H', Same H H' -> E (cl c) dx H'
def spF (K : PySem.W.Frag) (cl : Option (Str -> Value)) (np : Nat) (f : DF) : Sp := fun vs H Q E => vs.length = np /\ ∃ ts P, Rls K H P ts vs /\ (∀ i, P.own i = none) /\ ((∀ a, P.fb a -> ∃ o, H a = some o /\ LD o) /\ Ws K H) /\
 match f ts with
 | .ok t => ∀ v H', Same H H' -> Rl K H' P t v -> Q v H'
 | .exc c => spX E H c cl
 | .stuck => False
def EX (cl : Option (Str -> Value)) (W : Str -> Hp -> Prop) : XK := fun v _ H => ∃ c f, cl = some f /\ v = f c /\ W c H
structure Cal (X : Cx) (W : Str -> Hp -> Prop) (cl : Option (Str -> Value)) (k : Nat) (x : Str) (np : Nat) (f : DF) : Prop where
 ex : ∃ (CX : CXT) (fa : Addr) (fd : FuncData) (ps : List Str), FnOk X.prog X.w X.K X.mg X.base CX k fa fd ps (spF X.K cl np f) /\ X.mg x = some (.ref fa) /\ PySem.W.keepIn X.K (.ref fa) = true /\ ZC X.K fd ps [] /\ Us CX X (EX cl W)
 nox : cl = none -> ∀ ts c, f ts ≠ .exc c
section
variable {X : Cx} {W : Str -> Hp -> Prop} {fl : Bool} {a b c e : Expr} {es : List Expr} {da db : DE} {pos : Pos}
theorem Zh {cl : Option (Str -> Value)} {k np : Nat} {x : Str} {f : DF} {d : DA} {p : Pos} (C : Cal X W cl k x np f) (hr : Room k X.A) (hg : Gl X x) (ha : AV X W (e :: es) d) (hL : ∀ G ts, d G = .ok ts -> ts.length = np := by first | exact Jn | exact zaK | exact zaJ | exact zcA) (hdb : (x == ("__debug__" : Str)) = false := by decide)
  (he : starEach (e :: es) X.env = (false, eval e X.env) :: starEach es X.env := by rfl) (hpl : (backTo pos (starEach es X.env)).any (·.1) = false := by rfl) : EV X W (.Call (.Name x p) (e :: es) [] pos) (Zl f d) := by
 obtain ⟨CX, fa, fd, ps, F, hm, hk, hb, hx⟩ := C.ex
 refine ZA (zeq (x := x) (p := p) F hr hg hm hk hb .nil hx ha (hdb := hdb) (he := he) (hpl := hpl)) fun σ H Q ⟨G, P, h, q⟩ => ?_
 unfold Zl at q
 obtain ⟨q1, q2, q3⟩ := zcV q
 refine Wu h q1 q2 fun ts vs H1 es' s1 h1 rs => ?_
 have q4 := Yu.up (q3 ts es') s1
 have el : (vs ++ []) = vs := List.append_nil vs
 rw [el]
 -- the callee sees all that the caller may not hand on as forbidden
 have gg : Tr H1 P H1 ⟨fun _ => none, fun a => ¬ Off P a⟩ := fun a o e1 _ o1 => ⟨e1, fun _ z => (by cases z), fun z => z o1⟩
 have back : ∀ H2, Tr H2 ⟨fun _ => none, fun a => ¬ Off P a⟩ H2 P := fun H2 a o e1 _ o1 => ⟨e1, Classical.byContradiction fun z => o1.2 z⟩
 refine ⟨by rw [<- rs.length]; exact hL G ts es', ts, ⟨fun _ => none, fun a => ¬ Off P a⟩, Rls.go gg ts vs rs, fun _ => rfl, ⟨fun a z => h1.ld z, h1.tab⟩, ?_⟩
 ·cases e : f ts with
  | ok t => rw [e] at q4; exact fun v H' s r => q4 v H' s (Rl.go (back H') t v r)
  | exc c =>
   rw [e] at q4
   cases ec : cl with
   | none => exact absurd e (C.nox ec ts c)
   | some g => exact fun dx H' s => ⟨c, g, rfl, rfl, q4 H' s⟩
  | stuck => rw [e] at q4; exact q4
end
theorem VB {K : PySem.W.Frag} {H : Hp} {P : Pv} {ts : List PyData} {vs : List V} {N : List Str} (r : Rls K H P ts vs) (ho : ∀ i, P.own i = none) (hf : (∀ a, P.fb a -> ∃ o, H a = some o /\ LD o) /\ Ws K H) :
  Hol K H P (L2.start N vs) (ts.map .val ++ List.replicate (N.length - ts.length) .emp) where
 sl := fun i s e => by
  by_cases hi : i < ts.length
  ·rw [List.getElem?_append_left (by simpa using hi), List.getElem?_map] at e
   cases et : ts[i]? with
   | none => rw [et] at e; cases e
   | some t =>
    rw [et] at e
    cases e
    obtain ⟨v, ev, rv⟩ := r.getT et
    refine ⟨v, ?_, rv⟩
    have hl := r.length
    unfold L2.start
    rw [List.getD_eq_getElem?_getD, List.getElem?_append_left (by simp; omega), List.getElem?_map, ev]
    rfl
  ·rw [List.getElem?_append_right (by simpa using hi)] at e
   rw [List.getElem?_replicate] at e
   split at e
   ·cases e; trivial
   ·cases e
 inj := fun i j a h _ => by rw [ho i] at h; cases h
 only := fun i a h => by rw [ho i] at h; cases h
 fbd := hf.1
 tab := hf.2
 nfb := fun i a h => by rw [ho i] at h; cases h
 len := by
  have hl := r.length
  unfold L2.start
  simp [hl]
theorem fn_ok {P : Program} {w : World} {K : PySem.W.Frag} {mg : Str -> Option Value} {base : Heap} {x qual : Str} {st : Stmt} {f : Addr} {fd : FuncData} {N ps : List Str} {k np : Nat} {d : DS} (F : Fun K x qual st f fd) (S : FnScope N ps (Zd st)) (hnp : ps.length = np)
  (hb : ∀ (cdv : Value) (A : Around) (outer : List Env) (s : Shared) (H : Hp) (E : XK), Room k (A.deeper (envOfC qual (Zd st) s.heap.objs.size f cdv)) ->
   SVs (cxOf CX0 P w K mg base N qual (Zd st) f cdv A outer s H E).nox (fun _ _ => False) false (Zj st) d) : FnOk P w K mg base CX0 (k + 1) f fd ps (spF K none np (runQ N.length np d)) := by
 refine F.ok S (fun vs H Q E h => by rw [hnp]; exact h.1) fun cdv A outer s H vs Q E hr h => ⟨_, hb cdv A outer s H E hr, ?_⟩
 obtain ⟨hl, ts, P', rs, ho, hf, q⟩ := h
 have hlt : ts.length = np := by rw [rs.length]; exact hl
 refine ⟨_, P', VB rs ho hf, ?_⟩
 unfold runQ runF at q
 rw [if_pos hlt] at q
 have en : N.length - np = N.length - ts.length := by rw [hlt]
 rw [en] at q
 have sm : ∀ H' P2, Go H P' H' P2 -> Same H H' := fun H' P2 g => g.all ho
 have bk : ∀ H' P2, Go H P' H' P2 -> Tr H' P2 H' P' := fun H' P2 g b o e _ z => ⟨e, fun i => by rw [ho i]; exact fun z => (by cases z), by rw [<- g.fbe]; exact z.2⟩
 cases e : d (ts.map .val ++ List.replicate (N.length - ts.length) .emp) with
 | stuck => rw [e] at q; exact q.elim
 | exc c => rw [e] at q; exact q.elim
 | ok o =>
  rw [e, Res.bind_ok] at q
  cases o with
  | nx G => exact fun σ' H' P2 g h' => q .non H' (sm H' P2 g) (Y0.mpr rfl)
  | rt t => exact fun v H' P2 g r _ => q v H' (sm H' P2 g) (Rl.go (bk H' P2 g) t v r)
  | bk G => exact q.elim
  | ct G => exact q.elim
end Fx
namespace Fx
open PySem PySem.Spec PyProof.Rows L2
structure Cle (P : Program) (w : World) (K : PySem.W.Frag) (mg : Str -> Option Value) (base : Heap) (k : Nat) (x : Str) (np : Nat) (f : DF) : Prop where
 ex : ∃ (fa : Addr) (fd : FuncData) (ps : List Str), FnOk P w K mg base CX0 k fa fd ps (spF K none np f) /\ mg x = some (.ref fa) /\ PySem.W.keepIn K (.ref fa) = true /\ ZC K fd ps []
 nox : ∀ ts c, f ts ≠ .exc c
section
variable {P : Program} {w : World} {K : PySem.W.Frag} {mg : Str -> Option Value} {base : Heap}
theorem Cle.cal {X : Cx} {W : Str -> Hp -> Prop} {k np : Nat} {x : Str} {f : DF} (C : Cle X.prog X.w X.K X.mg X.base k x np f) : Cal X W none k x np f := by
 obtain ⟨fa, fd, ps, F, hm, hk, hb⟩ := C.ex
 exact ⟨⟨CX0, fa, fd, ps, F, hm, hk, hb, fun _ _ _ _ _ _ _ h => h.elim⟩, fun _ => C.nox⟩
theorem Cle.mono {j k np : Nat} {x : Str} {f : DF} (C : Cle P w K mg base j x np f) (h : j <= k) : Cle P w K mg base k x np f := by
 obtain ⟨fa, fd, ps, F, r⟩ := C.ex
 exact ⟨⟨fa, fd, ps, F.mono h, r⟩, C.nox⟩
theorem ZG {x : Str} {st : Stmt} {fa : Addr} {fd : FuncData} {N ps : List Str} {k n np : Nat} {d : DS} (F : Fun K x x st fa fd) (hm : mg x = some (.ref fa)) (b : ZC K fd ps []) (S : FnScope N ps (Zd st)) (hnp : ps.length = np) (hN : N.length = n)
  (hb : ∀ (cdv : Value) (A : Around) (outer : List Env) (s : Shared) (H : Hp) (E : XK), Room k (A.deeper (envOfC x (Zd st) s.heap.objs.size fa cdv)) ->
   SVs (cxOf CX0 P w K mg base N x (Zd st) fa cdv A outer s H E).nox (fun _ _ => False) false (Zj st) d) : Cle P w K mg base (k + 1) x np (runQ n np d) := by
 subst hN
 exact ⟨⟨fa, fd, ps, fn_ok F S hnp hb, hm, F.kp, b⟩, fun ts c => JK _ _ _ ts c⟩
theorem law_sp {f : DF} {ns : List Int} (h : f [.list (ns.map .int)] = .ok (.bool true)) {H : Hp} {a : Addr} (hT : Ws K H) (hS : SqL K H a (ns.map V.int)) : spF K none 1 f [.ref a] H (fun v _ => v = .bl true) (fun _ _ _ => False) := by
 refine ⟨rfl, [.list (ns.map .int)], ⟨fun _ => none, fun _ => False⟩, Zx.mpr ⟨.ref a, [], rfl, ZN.mpr ⟨a, ns.map V.int, rfl, ?_, zcp ns⟩, ZM.mpr rfl⟩, fun _ => rfl, ⟨fun _ z => z.elim, hT⟩, ?_⟩
 ·rcases hS with h | h
  ·exact .inl ⟨h, fun _ z => (by cases z), fun z => z⟩
  ·exact .inr h
 ·rw [h]
  exact fun v H' _ r => Yp.mp r
end
end Fx
namespace Fx
open PySem PySem.Spec PyProof.Rows L2
def Yld (K : PySem.W.Frag) (J : It) (ts : List PyData) (H : Hp) (P : Pv) : Prop := ∀ H' P', Tr H P H' P' -> (∀ p, H' p = none -> Off P' p) -> ∀ i,
 (∀ t, ts[i]? = some t -> J.go i H' /\ ∀ x H'', J.yld i H' x H'' -> Same H' H'' /\ Rl K H'' P' t x) /\ (ts.length <= i -> J.stop i H')
def PostI (K : PySem.W.Frag) (W : Str -> Hp -> Prop) (H : Hp) (P : Pv) (r : Res (List PyData)) (R : It -> Hp -> Prop) : Prop :=
 match r with
 | .ok ts => ∀ J H', Same H H' -> Yld K J ts H' P -> R J H'
 | .exc c => ∀ H', Same H H' -> W c H'
 | .stuck => False
def tFI (K : PySem.W.Frag) (W : Str -> Hp -> Prop) (d : DA) : TI := fun σ H R => ∃ G P, Hol K H P σ G /\ PostI K W H P (d G) R
def IV (X : Cx) (W : Str -> Hp -> Prop) (tg iter : Expr) (d : DA) : Prop := PI X tg iter (tFI X.K W d)
theorem U2 {X : Cx} {tg e : Expr} {t t' : TI} (h : PI X tg e t) (w : ∀ σ H Q, t' σ H Q -> t σ H Q) : PI X tg e t' := fun pins s σ H Q I q => h pins s σ H Q I (w σ H Q q)
theorem zfA {a : Res PyData} {f : PyData -> Res (List PyData)} {K : PySem.W.Frag} {W : Str -> Hp -> Prop} {H : Hp} {P : Pv} {Q : It -> Hp -> Prop} (q : PostI K W H P (a.bind f) Q) :
  (∀ c, a = .exc c -> ∀ H', Same H H' -> W c H') /\ a ≠ .stuck /\ ∀ t, a = .ok t -> PostI K W H P (f t) Q := by
 cases a with
 | ok t => exact ⟨fun c e => (by cases e), (by intro e; cases e), fun t' e => by cases e; exact q⟩
 | exc c => exact ⟨fun c' e => by cases e; exact q, (by intro e; cases e), fun t e => by cases e⟩
 | stuck => exact q.elim
section
variable {X : Cx} {W : Str -> Hp -> Prop} {fl : Bool} {tg a b c e : Expr} {da db : DE} {pos : Pos}
def iSq (K : PySem.W.Frag) (tl : TE) : TI := fun σ H R => tl σ H fun x H1 => (∃ a, x = .ref a /\ (∃ xs, SqL K H1 a xs) /\ R (Itl K a) H1) \/ (∃ a, x = .ref a /\ (∃ xs, SqT K H1 a xs) /\ R (Itt K a) H1)
theorem pi_sq {l : Expr} {tl : TE} (hl : PE X l tl) : PI X tg l (iSq X.K tl) := by
 intro pins s σ H R I h
 refine thn (hl pins s σ H _ I h) fun v s1 ⟨x, H1, I1, r1, q1⟩ => ?_
 rcases q1 with ⟨a, e, ⟨xs, hq⟩, q⟩ | ⟨a, e, ⟨xs, hq⟩, q⟩
 ·subst e
  cases r1
  obtain ⟨its, rv, p, hz⟩ := I1.list hq
  refine wpAny_pyIter_list p.isList ?_
  refine ⟨s1.heap.objs.size, [s1.heap.objs.size], _, _, H1, rfl, I1.kept (t' := s1.toks) fun b o e => Heap.get?_push_of_some _ e, zdW a _, ⟨_, Heap.get?_push_size _ rfl, rfl, rfl⟩, fun b hb => ?_, q⟩
  have e : b = s1.heap.objs.size := by simpa using hb
  subst e
  exact I1.fpOk (Nat.le_refl _) (I1.hok.fresh (Nat.le_refl _))
 ·subst e
  cases r1
  obtain ⟨its, rv, p, hz⟩ := I1.tuple hq
  refine wpAny_pyIter_tuple (show s1.heap.IsTuple a its.toArray from p) ?_
  refine ⟨s1.heap.objs.size, [s1.heap.objs.size], _, _, H1, rfl, I1.kept (t' := s1.toks) fun b o e => Heap.get?_push_of_some _ e, zcY a _, ⟨_, Heap.get?_push_size _ rfl, rfl, rfl⟩, fun b hb => ?_, q⟩
  have e : b = s1.heap.objs.size := by simpa using hb
  subst e
  exact I1.fpOk (Nat.le_refl _) (I1.hok.fresh (Nat.le_refl _))
theorem yld_list {H : Hp} {P : Pv} {l : Addr} {xs : List PyData} {vs : List V} (s : SL X.K H P l vs) (r : Rls X.K H P xs vs) : Yld X.K (Itl X.K l) xs H P := fun H' P' tr nf i =>
 ⟨fun t e => by
  have r' := Rls.go tr xs vs r
  have s' := (s.go tr).sq
  obtain ⟨v, ev, rv⟩ := r'.getT e
  refine ⟨⟨vs, v, s', ev⟩, fun x H'' y => ?_⟩
  obtain ⟨rfl, y⟩ := y
  have := y vs s'
  rw [ev] at this
  cases this
  exact ⟨Same.refl _, rv⟩, fun hl => ⟨vs, (s.go tr).sq, by rw [<- r.length]; exact hl⟩⟩
theorem zdP {H : Hp} {P : Pv} {l : Addr} {xs : List PyData} {vs : List V} (s : ST X.K H P l vs) (r : Rls X.K H P xs vs) : Yld X.K (Itt X.K l) xs H P := fun H' P' tr nf i =>
 ⟨fun t e => by
  have r' := Rls.go tr xs vs r
  have s' := (s.go tr).sq
  obtain ⟨v, ev, rv⟩ := r'.getT e
  refine ⟨⟨vs, v, s', ev⟩, fun x H'' y => ?_⟩
  obtain ⟨rfl, y⟩ := y
  have := y vs s'
  rw [ev] at this
  cases this
  exact ⟨Same.refl _, rv⟩, fun hl => ⟨vs, (s.go tr).sq, by rw [<- r.length]; exact hl⟩⟩
theorem YD (ha : EV X W a da) : IV X W tg a (iSeq da) :=
 U2 (pi_sq ha) fun σ H R ⟨G, P, h, q⟩ => by
  unfold iSeq at q
  obtain ⟨q1, q2, q3⟩ := zfA q
  refine Zy h q1 q2 fun tx x H1 ex s1 h1 rx => ?_
  have q4 := q3 tx ex
  cases tx <;> try exact q4.elim
  ·obtain ⟨l, vs, rfl, sl, rs⟩ := ZN.mp rx
   exact .inl ⟨l, rfl, ⟨vs, sl.sq⟩, q4 _ H1 s1 (yld_list sl rs)⟩
  ·obtain ⟨l, vs, rfl, sl, rs⟩ := ZH.mp rx
   exact .inr ⟨l, rfl, ⟨vs, sl.sq⟩, q4 _ H1 s1 (zdP sl rs)⟩
theorem rngT_get (lo : Int) (n i : Nat) : (rngT lo n)[i]? = if i < n then some (.int (lo + (i : Int))) else none := by
 unfold rngT
 rw [List.getElem?_map]
 by_cases h : i < n
 ·rw [if_pos h, List.getElem?_eq_getElem (by simpa using h)]
  simp
 ·rw [if_neg h, List.getElem?_eq_none (by simpa using h)]
  rfl
theorem zdQ {H : Hp} {P : Pv} (lo : Int) (n : Nat) : Yld X.K (Itr lo n) (rngT lo n) H P := by
 intro H' P' tr nf i
 refine ⟨fun t e => ?_, fun hl => ?_⟩
 ·rw [rngT_get] at e
  split at e
  ·rename_i hi
   cases e
   refine ⟨hi, fun x H'' y => ?_⟩
   obtain ⟨rfl, rfl⟩ := y
   exact ⟨Same.refl _, ZL.mpr rfl⟩
  ·cases e
 ·have : (rngT lo n).length = n := by simp [rngT]
  rw [this] at hl
  exact hl
theorem YL {p : Pos} (hg : Gl X "range") (hm : X.mg "range" = none) (ha : EV X W a da) (hs : starEach [a] X.env = [(false, eval a X.env)] := by rfl) (hs' : starEach [a] X.env = (false, eval a X.env) :: starEach [] X.env := by rfl) : IV X W tg (.Call (.Name "range" p) [a] [] pos) (iRng da) :=
 U2 (zeo hg hm (ZV ha YX hs') hs) fun σ H R ⟨G, P, h, q⟩ => by
  unfold Fx.iRng at q
  obtain ⟨q1, q2, q3⟩ := zfA q
  refine Zy h q1 q2 fun tx x H1 ex s1 h1 rx => ?_
  have q4 := q3 tx ex
  cases tx <;> try exact q4.elim
  rename_i j
  simp only at q4
  split at q4
  ·rename_i hj
   exact ⟨j, by rw [ZL.mp rx], (W2 hj).1, (W2 hj).2, q4 _ H1 s1 (zdQ 0 j.toNat)⟩
  ·exact q4.elim
def GV (X : Cx) (tg : Expr) (st : PyData -> List Sl -> Res (List Sl)) : Prop :=
 ∃ g, PG X tg g /\ ∀ (t : PyData) (v : V) (σ : L2.St) (H : Hp) (P : Pv) (G : List Sl) (Q : L2.St -> Hp -> Prop), Hol X.K H P σ G -> Rl X.K H P t v ->
  (∃ G', st t G = .ok G' /\ ∀ σ' P', Go H P H P' -> Hol X.K H P' σ' G' -> Q σ' H) -> g v σ H Q
theorem ZF {i : Nat} {x : Str} (hN : X.N.Nodup) (hi : X.N[i]? = some x) (hx : Loc X.env.scope x) (hf : X.fn x = true \/ X.env.scope.names.lookup x = some .local := by first | exact .inl rfl | exact .inr rfl | assumption) : GV X (.Name x pos) (ZQ i) :=
 ⟨gName i, zby hN hi hx hf, fun t v σ H P G Q h r ⟨G', e, q⟩ => by
  cases e
  exact q _ (P.del i) .del (h.setVal i r)⟩
theorem Vj {i j : Nat} {x y : Str} {p1 p2 : Pos} {k : Nat} (hc : X.calm = true) (hN : X.N.Nodup) (hi : X.N[i]? = some x) (hx : Loc X.env.scope x) (hj : X.N[j]? = some y) (hy : Loc X.env.scope y)
  (hf : X.fn x = true \/ X.env.scope.names.lookup x = some .local := by first | exact .inl rfl | exact .inr rfl | assumption) (hf2 : X.fn y = true \/ X.env.scope.names.lookup y = some .local := by first | exact .inl rfl | exact .inr rfl | assumption)
  (hs : (assignEach [.Name x p1, .Name y p2] X.env).map (·.2) = assign (.Name x p1) X.env :: (assignEach [.Name y p2] X.env).map (·.2) := by rfl)
  (hs2 : (assignEach [.Name y p2] X.env).map (·.2) = assign (.Name y p2) X.env :: (assignEach [] X.env).map (·.2) := by rfl)
  (hn : (assignEach [.Name x p1, .Name y p2] X.env).length = 2 := by rfl) (hst : (assignEach [.Name x p1, .Name y p2] X.env).findIdx? (·.1) = none := by rfl) : GV X (.Tuple [.Name x p1, .Name y p2] k pos) (VV i j) :=
 ⟨_, pg_tup hc (zcv (zby hN hi hx hf) (zcv (zby hN hj hy hf2) pgs_nil hs2) hs) hn hst, fun t v σ H P G Q h r ⟨G', e, q⟩ => by
  unfold VV at e
  split at e
  ·rename_i tx ty G0
   cases e
   obtain ⟨l, vs, rfl, s1, rs⟩ := ZH.mp r
   obtain ⟨v1, r1, rfl, a1, b1⟩ := Zx.mp rs
   obtain ⟨v2, r2, rfl, a2, b2⟩ := Zx.mp b1
   cases ZM.mp b2
   have h1 := h.setVal i a1
   have h2 := h1.setVal j (Rl.go .del ty v2 a2)
   exact ⟨l, [v1, v2], rfl, s1.sq, rfl, v1, [v2], rfl, v2, [], rfl, rfl, q _ _ (Go.del.trans .del) h2⟩
  ·cases e⟩
theorem Hol.offn {K : PySem.W.Frag} {H : Hp} {P : Pv} {σ : L2.St} {G : List Sl} (h : Hol K H P σ G) : ∀ p, H p = none -> Off P p := fun p e => h.off_new e
theorem Xh {body : List Stmt} {is : List Nat} {st : PyData -> List Sl -> Res (List Sl)} {it : DA} {d : DS} {iter : Expr} (hp : PassesOwn (model X.prog X.w) X.A X.env X.xe) (hc : X.calm = true) (hi : IV X W tg iter it) (hg : GV X tg st) (hb : SVs X W fl body d)
  (hst : ∀ t G c, st t G ≠ .exc c := by first | exact zeb | exact zea) (hs : ∀ x, foldedSetIterable iter X.env x = pure x := by intro _; rfl) : SV X W fl (.For tg iter body [] pos) (dFor st is it d) := by
 obtain ⟨g, pg, gp⟩ := hg
 refine YF (ps_for hp hc hi pg hb hs) fun D σ H ⟨G, P, h, q⟩ => ?_
 unfold dFor at q
 obtain ⟨P1, h1, g1⟩ := h.frz is
 obtain ⟨q1, q2, q3⟩ := zfB q
 refine ⟨frz is G, P1, h1, ?_⟩
 cases e : it (frz is G) with
 | stuck => exact absurd e q2
 | exc c => exact fun H' s => q1 c e H' P1 (g1.trans (.same s))
 | ok ts =>
  intro J H1 s1 y
  have q4 := q3 ts e
  have g2 : Go H P H1 P1 := g1.trans (.same s1)
  refine ⟨fun i m σ' H' => m = ts.length - i /\ i <= ts.length /\ ∃ G' P', Go H1 P1 H' P' /\ Hol X.K H' P' σ' G' /\ Xm X.K W fl H P (forL st d (ts.drop i) G') D, ⟨ts.length, by simp, Nat.zero_le _, frz is G, P1, .refl _ _, h1.same s1, q4⟩, ?_⟩
  rintro i m σ' H' ⟨rfl, hi, G', P', g', h', q'⟩
  obtain ⟨y1, y2⟩ := y H' P' g'.tr h'.offn i
  by_cases hlt : i < ts.length
  ·have et : ts[i]? = some ts[i] := by simp [hlt]
   obtain ⟨go, yl⟩ := y1 _ et
   rw [List.drop_eq_getElem_cons hlt] at q'
   unfold forL at q'
   refine .inr ⟨go, fun σ2 H2 => ∃ G2 P2, Go H1 P1 H2 P2 /\ Hol X.K H2 P2 σ2 G2 /\ Xm X.K W fl H P (forL st d (ts.drop (i + 1)) G2) D, fun σ2 H2 z => ⟨_, by omega, rfl, hlt, z⟩, fun x H2 yy => ?_⟩
   obtain ⟨s2, r2⟩ := yl x H2 yy
   have h2 := h'.same s2
   cases es : st ts[i] G' with
   | stuck => rw [es] at q'; exact q'.elim
   | exc c => exact absurd es (hst _ _ c)
   | ok G1 =>
    rw [es, Res.bind_ok] at q'
    refine gp ts[i] x σ' H2 P' G' _ h2 r2 ⟨G1, es, fun σ3 P3 g3 h3 => ⟨G1, P3, h3, ?_⟩⟩
    have gg : Go H1 P1 H2 P3 := g'.trans ((Go.same s2).trans g3)
    cases ed : d G1 with
    | stuck => rw [ed] at q'; exact q'.elim
    | exc c => rw [ed] at q'; exact Xm.up (r := .exc c) q' (g2.trans gg)
    | ok o =>
     rw [ed, Res.bind_ok] at q'
     cases o with
     | nx G4 => exact fun σ4 H4 P4 g4 h4 => ⟨G4, P4, gg.trans g4, h4, q'⟩
     | ct G4 => exact fun σ4 H4 P4 g4 h4 => ⟨G4, P4, gg.trans g4, h4, q'⟩
     | bk G4 => exact fun σ4 H4 P4 g4 h4 => q' σ4 H4 P4 (g2.trans (gg.trans g4)) h4
     | rt t => exact fun v H4 P4 g4 h4 n4 => q' v H4 P4 (g2.trans (gg.trans g4)) h4 fun z => (n4 z).back (g2.trans gg)
  ·have ei : i = ts.length := by omega
   subst ei
   rw [List.drop_length] at q'
   exact .inl ⟨y2 (Nat.le_refl _), q' σ' H' P' (g2.trans g') h'⟩
end
end Fx
namespace Fx
open PySem PySem.Spec PyProof.Rows L2
theorem Same.updL {H H8 : Hp} {D : Addr} {vs ws : List V} (s : Same H H8) (hD : H D = none) (h8 : H8 D = some (.lst vs)) : Same H (upd H8 D (.lst ws)) where
 kp := fun b o e n => by rw [Zn (Zu e hD)]; exact s.kp b o e n
 free := fun {b} w => by
  by_cases z : b = D
  ·rw [z]; exact hD
  ·rw [Zn z] at w; exact s.free w
 tab := fun K t => Ws.mono (s.tab K t) fun b o e nl => by
  rw [Zn (fun z => by rw [z, h8] at e; cases e; exact nl (.inl ⟨_, rfl⟩))]; exact e
 tbk := fun b ps e => by rw [Zn (Zu e hD)]; exact s.tbk b ps e
def zcb (K : PySem.W.Frag) (W : Str -> Hp -> Prop) (H : Hp) (P : Pv) (r : Res (List PyData)) (Q : VK) : Prop :=
 match r with
 | .ok xs => ∀ p vs H', Same H H' -> H p = none -> H' p = some (.lst vs) -> Rls K H' (P.fbd p) xs vs -> Q (.ref p) H'
 | .exc c => ∀ H', Same H H' -> W c H'
 | .stuck => False
def tFO (K : PySem.W.Frag) (W : Str -> Hp -> Prop) (d : DA) : TE := fun σ H Q => ∃ G P, Hol K H P σ G /\ zcb K W H P (d G) Q
def OV (X : Cx) (W : Str -> Hp -> Prop) (e : Expr) (d : DA) : Prop := PE X e (tFO X.K W d)
theorem Tr.fbd {H : Hp} {P : Pv} {p : Addr} : Tr H (P.fbd p) H P := fun a o e _ q => ⟨e, q.1, fun z => q.2 (.inl z)⟩
theorem Tr.tofbd {H : Hp} {P : Pv} {p : Addr} (hp : H p = none) : Tr H P H (P.fbd p) := fun a o e _ q => ⟨e, q.1, fun z => z.elim q.2 fun z => by rw [z, hp] at e; cases e⟩
theorem rl_new {K : PySem.W.Frag} {H H' : Hp} {P : Pv} {σ : L2.St} {G : List Sl} {p : Addr} {vs : List V} {xs : List PyData} (h : Hol K H P σ G) (s : Same H H') (hp : H p = none) (hl : H' p = some (.lst vs)) (r : Rls K H' (P.fbd p) xs vs) : Rl K H' P (.list xs) (.ref p) :=
 ZN.mpr ⟨p, vs, rfl, .off hl (h.off_new hp), Rls.go .fbd xs vs r⟩
theorem Hol.own' {K : PySem.W.Frag} {H H' : Hp} {P : Pv} {σ : L2.St} {G : List Sl} {p : Addr} {vs : List V} {xs : List PyData} {i : Nat} (h : Hol K H P σ G) (hi : i < G.length) (s : Same H H') (hp : H p = none) (hl : H' p = some (.lst vs)) (r : Rls K H' (P.fbd p) xs vs) :
  Hol K H' (P.put i p) (σ.set i (some (.ref p))) (G.set i (.own xs)) /\ Go H P H' (P.put i p) := by
 have g0 : Go H P H' (P.put i p) := (Go.put hp).trans (.same s)
 have gg := g0.tr
 have tt : Tr H' (P.fbd p) H' (P.put i p) := fun a o e _ q => ⟨e, fun j z => by
  have z' : (if j = i then some p else P.own j) = some a := z
  split at z'
  ·cases z'; exact q.2 (Or.inr rfl)
  ·exact q.1 j z', fun z => q.2 (Or.inl z)⟩
 have rr : Rls K H' (P.put i p) xs vs := Rls.go tt xs vs r
 refine ⟨⟨fun j s' q => ?_, ?_, ?_, ?_, ?_, ?_, s.tab K h.tab⟩, g0⟩
 ·by_cases e : j = i
  ·subst e
   rw [List.getElem?_set_self hi] at q
   cases q
   exact ⟨p, vs, Wx (by rw [h.len]; exact hi), if_pos rfl, hl, rr⟩
  ·rw [List.getElem?_set_ne (Ne.symm e)] at q
   have z := h.sl j s' q
   rw [Wy e]
   cases s' with
   | emp => trivial
   | val t' => obtain ⟨v', e1, r'⟩ := z; exact ⟨v', e1, Rl.go gg t' v' r'⟩
   | own xs' =>
    obtain ⟨p', vs', e1, e2, e3, r'⟩ := z
    exact ⟨p', vs', e1, (by show (if j = i then some p else P.own j) = _; rw [if_neg e]; exact e2), s.kp _ _ e3 Ue, Rls.go gg xs' vs' r'⟩
   | dct xs' =>
    obtain ⟨p', vs', e1, e2, e3, r'⟩ := z
    exact ⟨p', vs', e1, (by show (if j = i then some p else P.own j) = _; rw [if_neg e]; exact e2), s.kp _ _ e3 nt_dT, Rlk.go gg xs' vs' r'⟩
 ·intro a b c h1 h2
  have h1' : (if a = i then some p else P.own a) = some c := h1
  have h2' : (if b = i then some p else P.own b) = some c := h2
  split at h1'
  ·split at h2'
   ·rename_i z1 z2; rw [z1, z2]
   ·cases h1'; obtain ⟨ws, q, _⟩ := h.dom h2'; rw [hp] at q; cases q
  ·split at h2'
   ·cases h2'; obtain ⟨ws, q, _⟩ := h.dom h1'; rw [hp] at q; cases q
   ·exact h.inj a b c h1' h2'
 ·intro j a z
  have z' : (if j = i then some p else P.own j) = some a := z
  split at z'
  ·rename_i e; subst e; exact ⟨_, List.getElem?_set_self hi, trivial⟩
  ·rename_i ne
   obtain ⟨xs, q, m⟩ := h.only j a z'
   exact ⟨xs, by rw [List.getElem?_set_ne (Ne.symm ne)]; exact q, m⟩
 ·intro a z
  obtain ⟨o, q, m⟩ := h.fbd a z
  refine ⟨o, ?_, m⟩
  exact s.kp _ _ q m.nt
 ·intro j a z
  have z' : (if j = i then some p else P.own j) = some a := z
  split at z'
  ·cases z'; exact h.nofb hp
  ·exact h.nfb j a z'
 ·rw [List.length_set, List.length_set]; exact h.len
def ZS (env : Env) : List (Str × NameKind) -> List (Str × Addr) -> List (Str × Addr)
 | [], cs => cs
 | (n, k) :: r, cs => ZS env r (if (k == NameKind.free) = true then (n, (env.cells.lookup n).getD 0) :: cs else cs)
theorem za9 (env : Env) (f : Str × NameKind -> List (Str × Addr) -> Sem (ForInStep (List (Str × Addr))))
  (hf : ∀ n k cs, f (n, k) cs = if (k == NameKind.free) = true then (cellOf env n >>= fun a => pure (.yield ((n, a) :: cs))) else pure (.yield cs)) :
  ∀ (names : List (Str × NameKind)) (cs : List (Str × Addr)), (∀ y ∈ names, y.2 = .free -> ∃ c, env.cells.lookup y.1 = some c) -> (forIn names cs f : Sem (List (Str × Addr))) = pure (ZS env names cs)
 | [], cs, h => rfl
 | (n, k) :: r, cs, h => by
  rw [List.forIn_cons, hf]
  have ih := fun cs => za9 env f hf r cs fun y hy => h y (List.mem_cons_of_mem _ hy)
  by_cases hk : (k == NameKind.free) = true
  ·obtain ⟨c, e⟩ := h (n, k) List.mem_cons_self (by simpa using hk)
   have e2 : cellOf env n = pure c := by unfold cellOf; rw [e]
   rw [if_pos hk, e2, pure_bind, pure_bind]
   show forIn r _ f = _
   rw [ih]
   have ec : ZS env ((n, k) :: r) cs = ZS env r (if (k == NameKind.free) = true then (n, (env.cells.lookup n).getD 0) :: cs else cs) := rfl
   rw [ec, if_pos hk, e]
   rfl
  ·rw [if_neg hk, pure_bind]
   show forIn r _ f = _
   rw [ih]
   have ec : ZS env ((n, k) :: r) cs = ZS env r (if (k == NameKind.free) = true then (n, (env.cells.lookup n).getD 0) :: cs else cs) := rfl
   rw [ec, if_neg hk]
theorem VN {scope : Scope} {env : Env} (h : ∀ y ∈ scope.names, y.2 = .free -> ∃ c, env.cells.lookup y.1 = some c) : closureFor scope env = pure (ZS env scope.names []) := by
 unfold closureFor
 have := za9 env (fun x r => match x with
  | (name, kind) => if (kind == NameKind.free) = true then (cellOf env name >>= fun a => pure (.yield ((name, a) :: r))) else pure (.yield r)) (fun _ _ _ => rfl) scope.names [] h
 simp only [bind_pure]
 exact this
theorem W8 (env : Env) : ∀ (names : List (Str × NameKind)) (cs : List (Str × Addr)), (∀ y ∈ names, y.2 = .free -> ∃ c, env.cells.lookup y.1 = some c) -> (∀ x c, cs.lookup x = some c -> env.cells.lookup x = some c) ->
  ∀ x c, (ZS env names cs).lookup x = some c -> env.cells.lookup x = some c
 | [], cs, h, hc, x, c, e => hc x c e
 | (n, k) :: r, cs, h, hc, x, c, e => by
  unfold ZS at e
  refine W8 env r _ (fun y hy => h y (List.mem_cons_of_mem _ hy)) (fun y d ey => ?_) x c e
  by_cases hk : (k == NameKind.free) = true
  ·rw [if_pos hk] at ey
   obtain ⟨c', e'⟩ := h (n, k) List.mem_cons_self (by simpa using hk)
   rw [List.lookup_cons] at ey
   split at ey
   ·rename_i q
    have : y = n := by simpa using q
    subst this
    rw [e'] at ey ⊢
    exact ey
   ·exact hc y d ey
  ·rw [if_neg hk] at ey
   exact hc y d ey
theorem YJ {α : Type} {x : Str} {a : α} : ∀ {cs : List (Str × α)}, (x, a) ∈ cs -> ∃ b, cs.lookup x = some b
 | (y, b) :: r, h => by
  rw [List.lookup_cons]
  split
  ·exact ⟨b, rfl⟩
  ·rename_i q
   rcases List.mem_cons.mp h with e | e
   ·cases e; simp at q
   ·exact YJ e
theorem Wq (env : Env) : ∀ (names : List (Str × NameKind)) (cs : List (Str × Addr)) (x : Str), ((∃ c, (x, c) ∈ cs) \/ (x, NameKind.free) ∈ names) -> ∃ c, (x, c) ∈ ZS env names cs
 | [], cs, x, h => by
  rcases h with h | h
  ·exact h
  ·cases h
 | (n, k) :: r, cs, x, h => by
  unfold ZS
  refine Wq env r _ x ?_
  rcases h with ⟨c, h⟩ | h
  ·left
   split
   ·exact ⟨c, List.mem_cons_of_mem _ h⟩
   ·exact ⟨c, h⟩
  ·rcases List.mem_cons.mp h with e | e
   ·cases e
    left
    exact ⟨_, by rw [if_pos (by rfl)]; exact List.mem_cons_self⟩
   ·exact .inr e
theorem Z5 {α : Type} {x : Str} {a : α} : ∀ {cs : List (Str × α)}, cs.lookup x = some a -> (x, a) ∈ cs
 | (y, b) :: r, h => by
  rw [List.lookup_cons] at h
  split at h
  ·rename_i q
   have : x = y := by simpa using q
   cases h; subst this
   exact List.mem_cons_self
  ·exact List.mem_cons_of_mem _ (Z5 h)
theorem Ud {scope : Scope} {env : Env} {x : Str} (hcell : ∀ y ∈ scope.names, y.2 ≠ .cell) : (relabel scope env).names.lookup x = some .cell \/ (relabel scope env).names.lookup x = some .free -> (x, NameKind.free) ∈ scope.names := by
 intro h
 have : ∃ k, (x, k) ∈ (relabel scope env).names /\ (k = .cell \/ k = .free) := by
  rcases h with h | h
  ·exact ⟨_, Z5 h, .inl rfl⟩
  ·exact ⟨_, Z5 h, .inr rfl⟩
 obtain ⟨k, hm, hk⟩ := this
 unfold relabel at hm
 obtain ⟨⟨n, k0⟩, hm0, e⟩ := List.mem_map.mp hm
 simp only at e
 split at e
 ·rename_i q
  cases e
  simp only [Bool.and_eq_true, beq_iff_eq] at q
  rw [q.1.1] at hm0
  exact hm0
 ·cases e
  rcases hk with rfl | rfl
  ·exact absurd rfl (hcell _ hm0)
  ·exact hm0
def cxC (X : Cx) (scope : Scope) (N : List Str) (s₀ : Shared) (H₀ : Hp) (ex : List Addr) (pn : List (Addr × Obj) := []) : Cx :=
 { X with env := compEnvC scope (ZS X.env scope.names []) s₀.heap.objs.size X.env, N := N, s₀ := s₀, H₀ := H₀, outer := X.stack, ex := ex, fn := fun _ => false, pn := pn, xe := fun _ _ => False }
structure CompOk (X : Cx) (scope : Scope) (N : List Str) (nv : Nat) (cap : List Nat) : Prop where
 cell : ∀ y ∈ scope.names, y.2 ≠ .cell
 kind : scope.kind = .function
 names : ∀ y ∈ scope.names, y.2 = .local -> scope.names.lookup y.1 = some .local
 free : ∀ y ∈ scope.names, y.2 = .free -> X.env.kindOf y.1 = some .cell \/ X.env.kindOf y.1 = some .free
 len : N.length = nv + cap.length
 caps : ∀ (i j : Nat) (x : Str), cap[i]? = some j -> N[nv + i]? = some x -> X.N[j]? = some x /\ ((relabel scope X.env).names.lookup x = some .cell \/ (relabel scope X.env).names.lookup x = some .free) /\ (X.env.kindOf x = some .cell \/ X.env.kindOf x = some .free)
def sig (nv : Nat) (cap : List Nat) (σ : L2.St) : L2.St := List.replicate nv none ++ cap.map fun j => σ.getD j none
section
variable {X : Cx} {scope : Scope} {N : List Str} {nv : Nat} {cap : List Nat} {pins : List (Addr × Obj)} {σ : L2.St} {H : Hp} {s : Shared} {ex : List Addr}
theorem CompOk.has (C : CompOk X scope N nv cap) (ok : X.Ok) : ∀ y ∈ scope.names, y.2 = .free -> ∃ c, X.env.cells.lookup y.1 = some c := fun y hy e => ok.has y.1 (C.free y hy e)
theorem CompOk.start (C : CompOk X scope N nv cap) (I : Inv X pins σ H s) (hex : ∀ b ∈ ex, FpOk X pins H b /\ b < s.heap.objs.size) {h' : Heap} {t : Nat} {m : Str -> Option Value} (hn : h'.Ns s.heap.objs.size m) (hk : ∀ b o, s.heap.get? b = some o -> h'.get? b = some o) :
  Inv (cxC X scope N s H ex) [] (sig nv cap σ) H { s with heap := h', toks := t } := by
 have hh := C.has I.ok
 have sub := W8 X.env scope.names [] hh (fun x c e => by cases e)
 have hL : s.heap.objs.size <= (cxC X scope N s H ex).env.locals := Nat.le_refl _
 have stk : ∀ b ∈ frs X.stack, b < s.heap.objs.size := fun b hb => by
  obtain ⟨_, o, ho, _⟩ := I.stack.mem hb
  exact Heap.lt_size ho
 refine ⟨⟨I.ok.mod, C.kind, I.ok.glob, I.ok.blt, hL, fun x y c h1 h2 => I.ok.inj x y c (sub x c h1) (sub y c h2), fun x hx => ?_, fun x c h => ?_, I.ok.hd, I.ok.frames, .inl rfl, fun b hb => ?_, fun b o e => I.bs b o e, ?_, fun b o e hb => ?_, fun b hb => ?_, I.stack, I.stkFree⟩,
  rfl, I.bare, Un.kept hk, ⟨m, hn, fun i x v e1 e2 e3 => ?_⟩, fun x c e => ?_, I.hok.fresh (Nat.le_refl _), fun x c e => I.freeC x c (sub x c e), fun p hp => ?_, I.hok.kept hk, ?_⟩
 ·have hx' : (relabel scope X.env).names.lookup x = some .cell \/ (relabel scope X.env).names.lookup x = some .free := hx
  obtain ⟨c, hc⟩ := Wq X.env scope.names [] x (.inr (Ud C.cell hx'))
  exact YJ hc
 ·cases h
 ·obtain ⟨f, lt⟩ := hex b hb
  refine ⟨Nat.ne_of_lt lt, fun x c e => f.2.2.2.2.1 x c (sub x c e)⟩
 ·exact Nat.le_trans I.ok.bsz I.sz
 ·obtain ⟨f, lt⟩ := hex b hb
  rcases f.2.2.2.1 with z | z
  ·exact I.ok.noex b o e z
  ·exact absurd (Nat.lt_of_lt_of_le (Heap.lt_size e) (Nat.le_trans I.ok.bsz z)) (Nat.lt_irrefl _)
 ·obtain ⟨f, lt⟩ := hex b hb
  intro z
  rcases List.mem_cons.mp (I.stkSub b z) with e | e
  ·exact f.2.1 e
  ·exact f.2.2.1 e
 ·-- the names
  have hi : nv <= i := by
   rcases Nat.lt_or_ge i nv with z | z
   ·unfold sig at e2
    rw [List.getElem?_append_left (by simpa using z), List.getElem?_replicate] at e2
    split at e2 <;> cases e2
   ·exact z
  obtain ⟨k, rfl⟩ := Nat.exists_eq_add_of_le hi
  unfold sig at e2
  rw [List.getElem?_append_right (by simp), List.getElem?_map] at e2
  have ek : nv + k - (List.replicate nv (none : Option V)).length = k := by simp
  rw [ek] at e2
  cases ec : cap[k]? with
  | none => rw [ec] at e2; cases e2
  | some j =>
   rw [ec] at e2
   have e2' : σ.getD j none = some v := by simpa using e2
   obtain ⟨c1, c2, c3⟩ := C.caps k j x ec e1
   obtain ⟨m0, _, hl⟩ := I.loc
   have vis : Vis X.env.scope x := c3.elim (fun z => .inr (.inl z)) fun z => .inr (.inr z)
   obtain ⟨u, ru, lk⟩ := hl j x v c1 (getD_some e2') vis
   refine ⟨u, ru, .inr ⟨c2, ?_⟩⟩
   rcases lk with ⟨z, _⟩ | ⟨_, c, ec', o, ho, hd⟩
   ·rcases c3 with c3 | c3 <;> (rw [c3] at z; cases z)
   ·obtain ⟨c', hc'⟩ := Wq X.env scope.names [] x (.inr (Ud C.cell c2))
    obtain ⟨c'', hc''⟩ := YJ hc'
    have := sub x c'' hc''
    rw [ec'] at this
    cases this
    exact ⟨c, hc'', o, hk c o ho, hd⟩
 ·obtain ⟨v, o, ho, hd⟩ := I.cell x c (sub x c e)
  exact ⟨v, o, hk c o ho, hd⟩
 ·exact absurd (show p ∈ ([] : List (Addr × Obj)) from hp) (by simp)
 ·show (sig nv cap σ).length = N.length
  unfold sig
  rw [C.len]
  simp
theorem CompOk.stop {H' : Hp} {s' : Shared} {σ' : L2.St} {pl : List (Addr × Obj)} (I : Inv X pins σ H s) (hex : ∀ b ∈ ex, FpOk X pins H b) (J : Inv (cxC X scope N s H ex) pl σ' H' s') : Inv X pins σ H' s' :=
 I.call' J.os J.base J.hok J.bare fun b hb => by
  obtain ⟨f0, f1, f2, f3, f4, f5⟩ := hex b hb
  exact ⟨f3, f1, f4, f5⟩
theorem inv_pn {s₀ : Shared} {H₀ : Hp} {E : Value -> Shared -> Prop} (I : Inv (cxC X scope N s₀ H₀ ex) pins σ H s) : Inv ((cxC X scope N s₀ H₀ ex pins).wish E) [] σ H s :=
 ⟨⟨I.ok.mod, I.ok.kind, I.ok.glob, I.ok.blt, I.ok.above, I.ok.inj, I.ok.has, I.ok.cab, I.ok.hd, I.ok.frames, I.ok.stk, I.ok.exf, I.ok.bs, I.ok.bsz, I.ok.noex, I.ok.exfs, I.ok.funs, I.ok.frf⟩, I.os, I.bare, I.base, I.loc, I.cell, I.free, I.freeC,
  fun p hp => I.pin p (show p ∈ [] ++ pins by simpa using (show p ∈ pins ++ [] from hp)), I.hok, I.len⟩
theorem inv_np {s₀ : Shared} {H₀ : Hp} {pn : List (Addr × Obj)} {E : Value -> Shared -> Prop} (I : Inv ((cxC X scope N s₀ H₀ ex pn).wish E) pins σ H s) : Inv (cxC X scope N s₀ H₀ ex) (pn ++ pins) σ H s :=
 ⟨⟨I.ok.mod, I.ok.kind, I.ok.glob, I.ok.blt, I.ok.above, I.ok.inj, I.ok.has, I.ok.cab, I.ok.hd, I.ok.frames, I.ok.stk, I.ok.exf, I.ok.bs, I.ok.bsz, I.ok.noex, I.ok.exfs, I.ok.funs, I.ok.frf⟩, I.os, I.bare, I.base, I.loc, I.cell, I.free, I.freeC,
  fun p hp => I.pin p (show p ∈ pn ++ pins from by simpa using (show p ∈ [] ++ (pn ++ pins) from hp)), I.hok, I.len⟩
end
end Fx
namespace Fx
open PySem PySem.Spec PyProof.Rows L2
theorem zdK {prog : Program} {w : World} {A : Around} {R : Result -> Shared -> Prop} {s : Shared} {elt target iter : Expr} {ifs : List Expr} {scope : Scope} {pos : Pos} {it acc : Value} {env : Env} (I : Nat -> Shared -> Prop)
  (turn : ∀ n s, I n s -> wpAny (model prog w) A (pyNext it) (fun r s₁ => match r with
   | none => R (.ok .next) s₁
   | some v => wpAny (model prog w) A (letOwnedTupleGo target it v) (fun _ s₀ => wpAny (model prog w) A (assign target env v) (fun _ s₂ =>
     wpAny (model prog w) A (forIn ifs true fun c r => if r = true then do let ok <- isTrue c env (eval c env); pure (ForInStep.yield ok) else pure (ForInStep.yield r)) (fun ok s₃ =>
      if ok = true then wpAny (model prog w) A (eval elt env) (fun x s₄ =>
       wpAny (model prog w) A (call (.builtin "list.append") [acc, x]) (fun _ s₅ => ∃ m, m < n /\ I m s₅) (notedBy (model prog w) A env fun e s' => R (.error e) s') s₄) (notedBy (model prog w) A env fun e s' => R (.error e) s') s₃
      else ∃ m, m < n /\ I m s₃) (notedBy (model prog w) A env fun e s' => R (.error e) s') s₂) (notedBy (model prog w) A env fun e s' => R (.error e) s') s₀) (notedBy (model prog w) A env fun e s' => R (.error e) s') s₁) (notedBy (model prog w) A env fun e s' => R (.error e) s') s)
  (n : Nat) (h : I n s) :
  codeAny (model prog w) A (.compLoop (.ListComp elt [⟨target, iter, ifs, 0⟩] scope pos) 0 it acc env) R s := by
 refine codeAny_loop rfl I (fun n s hI => ?_) n h
 show wpAny _ A ((compTurn (.ListComp elt [⟨target, iter, ifs, 0⟩] scope pos) 0 it acc env).onRaise (fun x => do noteFrame x env; theTreesLotGoes x)) _ _ s
 refine wpAny_noted ?_
 rw [compTurn_list]
 refine wpAny_bind (wpAny_standAt (wpAny_bind (wpAny_mono (turn n s hI) (fun r s₁ h₁ => ?_) fun _ _ h' => h')))
 cases r with
 | none => exact wpAny_pure h₁
 | some v =>
  refine wpAny_bind (wpAny_mono h₁ (fun _ s₀ h₀ => ?_) fun _ _ h' => h')
  refine wpAny_bind (wpAny_mono h₀ (fun _ s₂ h₂ => wpAny_bind (wpAny_mono h₂ (fun ok s₃ h₃ => ?_) fun _ _ h' => h')) fun _ _ h' => h')
  cases ok with
  | false => exact wpAny_pure ⟨rfl, h₃⟩
  | true =>
   exact wpAny_bind (wpAny_bind (wpAny_mono h₃ (fun x s₄ h₄ => wpAny_bind (wpAny_mono h₄ (fun _ s₅ h₅ => wpAny_pure (wpAny_pure ⟨rfl, h₅⟩)) fun _ _ h' => h')) fun _ _ h' => h'))
def CT (X : Cx) (W : Str -> Hp -> Prop) (ifs : List Expr) (dc : DT) : Prop := (ifs = [] /\ dc = tT) \/ ∃ c, ifs = [c] /\ TV X W c dc
theorem Yb {X : Cx} {W : Str -> Hp -> Prop} : CT X W [] tT := .inl ⟨rfl, rfl⟩
theorem za8 {X : Cx} {W : Str -> Hp -> Prop} {c : Expr} {dc : DT} (h : TV X W c dc) : CT X W [c] dc := .inr ⟨c, rfl, h⟩
section
variable {X : Cx} {scope : Scope} {N : List Str} {nv : Nat} {cap : List Nat}
theorem ze1 {K : PySem.W.Frag} {H H' : Hp} {P P' : Pv} {σ : L2.St} {G : List Sl} (h : Hol K H P σ G) (tr : Tr H P H' P') (ho : ∀ i, P'.own i = none) (hf : ∀ a, P'.fb a -> ∃ o, H' a = some o /\ LD o) (htb : Ws K H') : Hol K H' P' (sig nv cap σ) (List.replicate nv .emp ++ capS cap G) where
 sl := fun i s e => by
  by_cases hi : i < nv
  ·rw [List.getElem?_append_left (by simpa using hi), List.getElem?_replicate, if_pos hi] at e
   cases e
   trivial
  ·rw [List.getElem?_append_right (by simpa using hi)] at e
   have el : i - (List.replicate nv Sl.emp).length = i - nv := by simp
   rw [el] at e
   unfold capS at e
   rw [List.getElem?_map] at e
   cases ec : cap[i - nv]? with
   | none => rw [ec] at e; cases e
   | some j =>
    rw [ec] at e
    have es : (sig nv cap σ).getD i none = σ.getD j none := by
     unfold sig
     rw [List.getD_eq_getElem?_getD, List.getElem?_append_right (by simpa using hi)]
     have el2 : i - (List.replicate nv (none : Option V)).length = i - nv := by simp
     rw [el2, List.getElem?_map, ec]
     rfl
    rw [es]
    simp only [Option.map_some, Option.some.injEq] at e
    cases eg : G[j]? with
    | none => rw [eg] at e; subst e; trivial
    | some x =>
     rw [eg] at e
     cases x with
     | emp => subst e; trivial
     | own xs => subst e; trivial
     | dct xs => subst e; trivial
     | val t =>
      subst e
      obtain ⟨v, ev, rv⟩ := h.sl j _ eg
      exact ⟨v, ev, Rl.go tr t v rv⟩
 inj := fun i j a z _ => by rw [ho i] at z; cases z
 only := fun i a z => by rw [ho i] at z; cases z
 fbd := hf
 nfb := fun i a z => by rw [ho i] at z; cases z
 len := by simp [sig]
 tab := htb
theorem zdn {K : PySem.W.Frag} {H : Hp} {P : Pv} {σ : L2.St} {G1 : List Sl} {C : List Sl} (hC : ∀ i, i < nv -> ∀ s, C[i]? = some s -> s = .emp) (hC2 : ∀ (i : Nat) (x : Sl), C[i]? = some x -> ¬ x.mine) (h : Hol K H P σ G1) (hl : G1.length = C.length) (he : ∀ i, nv <= i -> G1[i]? = C[i]?) :
  Hol K H P.bare σ C := by
 obtain ⟨h', g⟩ := h.frzA
 refine ⟨fun i s e => ?_, fun _ _ _ z => (by cases z), fun _ _ z => (by cases z), h'.fbd, fun _ _ z => (by cases z), by rw [h.len, hl], h'.tab⟩
 by_cases hi : i < nv
 ·rw [hC i hi s e]; trivial
 ·have e1 : G1[i]? = some s := by rw [he i (by omega)]; exact e
  cases s with
  | emp => trivial
  | own xs => exact (hC2 i _ e trivial).elim
  | dct xs => exact (hC2 i _ e trivial).elim
  | val t =>
   refine h'.sl i (.val t) ?_
   rw [Wz, e1]; rfl
abbrev cxT (xz : Cx -> Value -> Shared -> Prop) (X : Cx) (scope : Scope) (N : List Str) (s₀ : Shared) (H₀ : Hp) (ex : List Addr) (pn : List (Addr × Obj)) : Cx := (cxC X scope N s₀ H₀ ex pn).wish (xz (cxC X scope N s₀ H₀ ex pn))
theorem zdJ {xz : Cx -> Value -> Shared -> Prop} {W : Str -> Hp -> Prop} {tg elt iter : Expr} {ifs : List Expr} {pos : Pos} {st : PyData -> List Sl -> Res (List Sl)} {dc : DT} {de : DE} {pins : List (Addr × Obj)} {σ : L2.St} {H2 : Hp} {s3 s4 : Shared} {P : Pv} {G : List Sl} {J : It} {fp : List Addr} {itA D : Addr} {tn : Nat -> Heap -> Prop} {ts : List PyData} {r : Res (List PyData)} {R : Result -> Shared -> Prop} {m : Str -> Option Value}
  (C : CompOk X scope N nv cap) (hc : X.calm = true) (hk : zbj nv st)
  (hg : ∀ s₀ H₀ ex pn, GV (cxT xz X scope N s₀ H₀ ex pn) tg st) (ht : ∀ s₀ H₀ ex pn, (∀ b ∈ ex, ∃ o, (b, o) ∈ pn) -> CT (cxT xz X scope N s₀ H₀ ex pn) W ifs dc) (he : ∀ s₀ H₀ ex pn, (∀ b ∈ ex, ∃ o, (b, o) ∈ pn) -> EV (cxT xz X scope N s₀ H₀ ex pn) W elt de)
  (h2 : Hol X.K H2 P σ G) (hD : H2 D = none) (I3 : Inv X pins σ (upd H2 D (.lst [])) s3) (T : Turn X.prog X.w X.K tg J fp itA tn) (hf : ∀ b ∈ fp, FpOk X pins (upd H2 D (.lst [])) b /\ b < s3.heap.objs.size) (y : Yld X.K J ts H2 P) (hlen : ts.length <= 16777216)
  (hall : Y7 st dc de (List.replicate nv .emp ++ capS cap G) ts = r) (hr : r ≠ .stuck) (hW : ∀ c, r = .exc c -> ∀ H', Same H2 H' -> W c H')
  (hn : s4.heap.Ns s3.heap.objs.size m) (hkp : ∀ b o, s3.heap.get? b = some o -> s4.heap.get? b = some o) (e4 : ∃ h' t, s4 = { s3 with heap := h', toks := t }) (tn0 : tn 0 s4.heap)
  (fin : ∀ s' H' σ' vs all, r = .ok all -> Inv (cxC X scope N s3 (upd H2 D (.lst [])) fp) [] σ' H' s' -> H' D = some (.lst vs) -> Same H2 H' -> Rls X.K H' (P.fbd D) all vs -> R (.ok .next) s')
  (finx : ∀ pn e s', (∀ b ∈ fp, ∃ o, (b, o) ∈ pn) -> xz (cxC X scope N s3 (upd H2 D (.lst [])) fp pn) e s' -> notedBy (model X.prog X.w) X.A (compEnvC scope (ZS X.env scope.names []) s3.heap.objs.size X.env) (fun e s' => R (.error e) s') e s') :
  codeAny (model X.prog X.w) X.A (.compStart (.ListComp elt [⟨tg, iter, ifs, 0⟩] scope pos) 0 (.ref itA) (.ref D) (compEnvC scope (ZS X.env scope.names []) s3.heap.objs.size X.env)) R s4 := by
 obtain ⟨h4, t4, rfl⟩ := e4
 have J4 := C.start (t := t4) I3 hf hn hkp
 -- what no element may hold
 have trc : ∀ H', Same H2 H' -> (∃ vs, H' D = some (.lst vs)) -> Tr H2 P H' ⟨fun _ => none, fun a => ¬ Off P a \/ a = D⟩ := fun H' s _ a o e n q => ⟨s.kp a o e n, fun _ z => (by cases z), fun z => z.elim (fun z => z q) fun z => by rw [z, hD] at e; cases e⟩
 have offc : ∀ H', Same H2 H' -> (∃ vs, H' D = some (.lst vs)) -> ∀ p, H' p = none -> Off ⟨fun _ => none, fun a => ¬ Off P a \/ a = D⟩ p := fun H' s ⟨vs, hv⟩ p hp => ⟨fun _ z => (by cases z), fun z => z.elim (fun z => z (h2.off_new (s.free hp))) fun z => by rw [z, hv] at hp; cases hp⟩
 have fbc : ∀ H', Same H2 H' -> (∃ vs, H' D = some (.lst vs)) -> ∀ a, (¬ Off P a \/ a = D) -> ∃ o, H' a = some o /\ LD o := fun H' s ⟨vs, hv⟩ a z => z.elim (fun z => let ⟨o, q, m⟩ := h2.ld z; ⟨o, s.kp _ _ q m.nt, m⟩) fun z => by rw [z]; exact ⟨_, hv, .inl ⟨vs, rfl⟩⟩
 have hCe : ∀ i, i < nv -> ∀ x, (List.replicate nv Sl.emp ++ capS cap G)[i]? = some x -> x = .emp := fun i hi x e => by
  rw [List.getElem?_append_left (by simpa using hi), List.getElem?_replicate, if_pos hi] at e
  cases e
  rfl
 have hCo : ∀ (i : Nat) xs, (List.replicate nv Sl.emp ++ capS cap G)[i]? = some xs -> ¬ xs.mine := fun i xs e m => by
  by_cases hi : i < nv
  ·rw [hCe i hi _ e] at m; exact m
  ·rw [List.getElem?_append_right (by simpa using hi)] at e
   unfold capS at e
   rw [List.getElem?_map] at e
   cases ec : cap[i - (List.replicate nv Sl.emp).length]? with
   | none => rw [ec] at e; cases e
   | some j =>
    rw [ec] at e
    simp only [Option.map_some, Option.some.injEq] at e
    subst e
    revert m
    cases eg : G[j]? with
    | none => exact fun m => m
    | some x => cases x <;> exact fun m => m
 have fpo : ∀ H', (∀ b ∈ fp, H' b = none) -> ∀ b ∈ fp, FpOk (cxC X scope N s3 (upd H2 D (.lst [])) fp) [] H' b := fun H' hz b hb => by
  obtain ⟨f, lt⟩ := hf b hb
  refine ⟨hz b hb, Nat.ne_of_lt lt, fun z => ?_, .inl hb, fun x c e => f.2.2.2.2.1 x c (W8 X.env scope.names [] (C.has I3.ok) (fun x c e => by cases e) x c e), fun p hp => absurd (show p ∈ ([] : List (Addr × Obj)) from hp) (by simp)⟩
  rcases List.mem_cons.mp (I3.stkSub b z) with e | e
  ·exact f.2.1 e
  ·exact f.2.2.1 e
 have up0 : Same H2 (upd H2 D (.lst [])) := Zr hD
 -- the loop
 have loop : ∀ s5 : Shared, s5 = { s3 with heap := h4, toks := t4 } -> codeAny (model X.prog X.w) X.A (.compLoop (.ListComp elt [⟨tg, iter, ifs, 0⟩] scope pos) 0 (.ref itA) (.ref D) (compEnvC scope (ZS X.env scope.names []) s3.heap.objs.size X.env)) R s5 := by
  rintro s5 rfl
  refine zdK (fun n s => ∃ i σ' H' vs ys, n = ts.length - i /\ i <= ts.length /\ Inv (cxC X scope N s3 (upd H2 D (.lst [])) fp) [] σ' H' s /\ tn i s.heap /\ (∀ b ∈ fp, H' b = none) /\ Same H2 H' /\ H' D = some (.lst vs) /\
   Rls X.K H' ⟨fun _ => none, fun a => ¬ Off P a \/ a = D⟩ ys vs /\ Hol X.K H' ⟨fun _ => none, fun a => ¬ Off P a \/ a = D⟩ σ' (List.replicate nv .emp ++ capS cap G) /\ ((Y7 st dc de (List.replicate nv .emp ++ capS cap G) (ts.drop i)).bind fun zs => .ok (ys ++ zs)) = r /\ ys.length <= i) ?_ ts.length
   ⟨0, _, _, [], [], rfl, Nat.zero_le _, J4, tn0, fun b hb => (hf b hb).1.1, up0, Zp, ZM.mpr rfl, ze1 h2 (trc _ up0 ⟨_, Zp⟩) (fun _ => rfl) (fbc _ up0 ⟨_, Zp⟩) (up0.tab _ h2.tab), by rw [List.drop_zero, hall]; cases r <;> rfl, Nat.le_refl _⟩
  rintro n s ⟨i, σ', H', vs, ys, rfl, hi, Ji, tni, fpn, sm, hDv, rys, hol, ecl, hyl⟩
  obtain ⟨y1, y2⟩ := y H' ⟨fun _ => none, fun a => ¬ Off P a \/ a = D⟩ (trc H' sm ⟨vs, hDv⟩) (offc H' sm ⟨vs, hDv⟩) i
  by_cases hlt : i < ts.length
  ·have et : ts[i]? = some ts[i] := by simp [hlt]
   obtain ⟨go, yl⟩ := y1 _ et
   rw [List.drop_eq_getElem_cons hlt] at ecl
   unfold Y7 at ecl
   -- the turn's own data
   obtain ⟨G1, eG⟩ : ∃ G1, st ts[i] (List.replicate nv .emp ++ capS cap G) = .ok G1 := by
    rcases WK (st ts[i] (List.replicate nv .emp ++ capS cap G)) with ⟨G1, h⟩ | h
    ·exact ⟨G1, zcy h⟩
    ·rw [h] at ecl; exact absurd ecl.symm hr
   rw [eG, show noX (Res.ok G1 : Res (List Sl)) = .ok G1 from rfl, Res.bind_ok] at ecl
   obtain ⟨kl, ke⟩ := hk _ _ _ eG
   refine wpAny_mono (T.item (cxC X scope N s3 (upd H2 D (.lst [])) fp) rfl rfl rfl hc i [] s σ' H' (fun _ _ => False) Ji (fpo H' fpn) tni go) (fun r' s1 hr' => ?_) fun _ _ z => z.elim
   obtain ⟨u, rfl, hr'⟩ := hr'
   refine wpAny_mono hr' (fun _ s2 hr2 => ?_) fun _ _ z => z.elim
   obtain ⟨x, H5, J5, r5, y5, tn5, fr5⟩ := hr2
   obtain ⟨sm5, rl5⟩ := yl x H5 y5
   have J5' : Inv (cxT xz X scope N s3 (upd H2 D (.lst [])) fp (Xq fp s2.heap)) [] σ' H5 s2 := inv_pn (J5.pinned (fpo H5 fr5) (T.obj _ _ tn5))
   have pnn : ∀ b ∈ fp, ∃ o, (b, o) ∈ Xq fp s2.heap := fun b hb => by
    obtain ⟨o, e, _⟩ := T.obj _ _ tn5 b hb
    exact ⟨o, W5 hb e⟩
   have finx' := fun e s' => finx (Xq fp s2.heap) e s' pnn
   obtain ⟨g, pg, gp⟩ := hg s3 (upd H2 D (.lst [])) fp (Xq fp s2.heap)
   have hol5 := hol.same sm5
   refine wpAny_mono (pg _ s2 σ' H5 x u (fun σ6 H6 => H6 = H5 /\ ∃ P6, Go H5 ⟨fun _ => none, fun a => ¬ Off P a \/ a = D⟩ H5 P6 /\ Hol X.K H5 P6 σ6 G1) J5' r5 (gp ts[i] x σ' H5 _ _ _ hol5 rl5 ⟨G1, eG, fun σ6 P6 g6 h6 => ⟨rfl, P6, g6, h6⟩⟩)) (fun _ s6 h6 => ?_) finx'
   obtain ⟨σ6, H6, J6, rfl, P6, g6, hol6⟩ := h6
   -- on to the next turn
   have fr6 : ∀ {H8 : Hp} {s8 : Shared}, Inv (cxT xz X scope N s3 (upd H2 D (.lst [])) fp (Xq fp s2.heap)) [] σ6 H8 s8 -> ∀ b ∈ fp, H8 b = none := fun {H8 s8} J8 b hb => by
    obtain ⟨o, e⟩ := pnn b hb
    exact (J8.pin (b, o) (List.mem_append_left _ e)).2.1
   have next : ∀ {H8 : Hp} {s8 : Shared} {ys' : List PyData} {vs' : List V}, Inv (cxT xz X scope N s3 (upd H2 D (.lst [])) fp (Xq fp s2.heap)) [] σ6 H8 s8 -> Same H2 H8 -> H8 D = some (.lst vs') -> (∀ b, b ≠ D -> ∀ o, H6 b = some o -> Nt o -> H8 b = some o) ->
     Rls X.K H8 ⟨fun _ => none, fun a => ¬ Off P a \/ a = D⟩ ys' vs' -> ((Y7 st dc de (List.replicate nv .emp ++ capS cap G) (ts.drop (i + 1))).bind fun zs => .ok (ys' ++ zs)) = r -> ys'.length <= i + 1 ->
     ∃ m, m < ts.length - i /\ ∃ i σ' H' vs ys, m = ts.length - i /\ i <= ts.length /\ Inv (cxC X scope N s3 (upd H2 D (.lst [])) fp) [] σ' H' s8 /\ tn i s8.heap /\ (∀ b ∈ fp, H' b = none) /\ Same H2 H' /\ H' D = some (.lst vs) /\
      Rls X.K H' ⟨fun _ => none, fun a => ¬ Off P a \/ a = D⟩ ys vs /\ Hol X.K H' ⟨fun _ => none, fun a => ¬ Off P a \/ a = D⟩ σ' (List.replicate nv .emp ++ capS cap G) /\ ((Y7 st dc de (List.replicate nv .emp ++ capS cap G) (ts.drop i)).bind fun zs => .ok (ys ++ zs)) = r /\ ys.length <= i := by
    intro H8 s8 ys' vs' J8 sm8 hD8 kp8 rys8 ecl8 hyl8
    refine ⟨ts.length - (i + 1), by omega, i + 1, σ6, H8, vs', ys', rfl, hlt, Inv.unpinned (pins := []) (pl := Xq fp s2.heap) (by simpa using inv_np J8), ?_, fr6 J8, sm8, hD8, rys8, ?_, ecl8, hyl8⟩
    ·exact T.keep _ _ _ tn5 fun b hb o e => (J8.pin (b, o) (List.mem_append_left _ (W5 hb e))).1
    ·have hF : Hol X.K H6 P6.bare σ6 (List.replicate nv .emp ++ capS cap G) := zdn hCe hCo hol6 kl ke
     have ep : P6.bare = ⟨fun _ => none, fun a => ¬ Off P a \/ a = D⟩ := by
      unfold Pv.bare
      rw [g6.fbe]
     rw [ep] at hF
     have tr8 : Tr H6 ⟨fun _ => none, fun a => ¬ Off P a \/ a = D⟩ H8 ⟨fun _ => none, fun a => ¬ Off P a \/ a = D⟩ := fun a o e n q => ⟨kp8 a (fun z => q.2 (Or.inr z)) o e n, q⟩
     refine ⟨fun j x e => ?_, fun _ _ _ z => (by cases z), fun _ _ z => (by cases z), fbc H8 sm8 ⟨vs', hD8⟩, fun _ _ z => (by cases z), hF.len, sm8.tab _ h2.tab⟩
     have z := hF.sl j x e
     cases x with
     | emp => trivial
     | val t => obtain ⟨v, e1, r1⟩ := z; exact ⟨v, e1, Rl.go tr8 t v r1⟩
     | own xs => exact (hCo j _ e trivial).elim
     | dct xs => exact (hCo j _ e trivial).elim
   have sm6 : Same H2 H6 := sm.trans sm5
   -- behind the test
   have after : ∀ k s7 H7, Inv (cxT xz X scope N s3 (upd H2 D (.lst [])) fp (Xq fp s2.heap)) [] σ6 H7 s7 -> Same H6 H7 -> dc G1 = .ok k -> (if k = true then wpAny (model X.prog X.w) X.A (eval elt (compEnvC scope (ZS X.env scope.names []) s3.heap.objs.size X.env)) (fun x s₄ =>
      wpAny (model X.prog X.w) X.A (call (.builtin "list.append") [.ref D, x]) (fun _ s₅ => ∃ m, m < ts.length - i /\ ∃ i σ' H' vs ys, m = ts.length - i /\ i <= ts.length /\ Inv (cxC X scope N s3 (upd H2 D (.lst [])) fp) [] σ' H' s₅ /\ tn i s₅.heap /\ (∀ b ∈ fp, H' b = none) /\ Same H2 H' /\ H' D = some (.lst vs) /\
      Rls X.K H' ⟨fun _ => none, fun a => ¬ Off P a \/ a = D⟩ ys vs /\ Hol X.K H' ⟨fun _ => none, fun a => ¬ Off P a \/ a = D⟩ σ' (List.replicate nv .emp ++ capS cap G) /\ ((Y7 st dc de (List.replicate nv .emp ++ capS cap G) (ts.drop i)).bind fun zs => .ok (ys ++ zs)) = r /\ ys.length <= i) (notedBy (model X.prog X.w) X.A (compEnvC scope (ZS X.env scope.names []) s3.heap.objs.size X.env) fun e s' => R (.error e) s') s₄) (notedBy (model X.prog X.w) X.A (compEnvC scope (ZS X.env scope.names []) s3.heap.objs.size X.env) fun e s' => R (.error e) s') s7
     else ∃ m, m < ts.length - i /\ ∃ i σ' H' vs ys, m = ts.length - i /\ i <= ts.length /\ Inv (cxC X scope N s3 (upd H2 D (.lst [])) fp) [] σ' H' s7 /\ tn i s7.heap /\ (∀ b ∈ fp, H' b = none) /\ Same H2 H' /\ H' D = some (.lst vs) /\
      Rls X.K H' ⟨fun _ => none, fun a => ¬ Off P a \/ a = D⟩ ys vs /\ Hol X.K H' ⟨fun _ => none, fun a => ¬ Off P a \/ a = D⟩ σ' (List.replicate nv .emp ++ capS cap G) /\ ((Y7 st dc de (List.replicate nv .emp ++ capS cap G) (ts.drop i)).bind fun zs => .ok (ys ++ zs)) = r /\ ys.length <= i) := by
    intro k s7 H7 J7 sm7 eK
    rw [eK, Res.bind_ok] at ecl
    have sm27 : Same H2 H7 := sm6.trans sm7
    have hD7 : H7 D = some (.lst vs) := sm7.kp _ _ (sm5.kp _ _ hDv Ue) Ue
    have r7 : Rls X.K H7 ⟨fun _ => none, fun a => ¬ Off P a \/ a = D⟩ ys vs := Rls.go (.same (sm5.trans sm7)) ys vs rys
    cases k with
    | false =>
     rw [if_neg Bool.false_ne_true] at ecl ⊢
     exact next J7 sm27 hD7 (fun b _ o e n => sm7.kp b o e n) r7 ecl (by omega)
    | true =>
     rw [if_pos rfl] at ecl ⊢
     cases eY : de G1 with
     | stuck => rw [eY] at ecl; exact absurd ecl.symm hr
     | exc c =>
      rw [eY] at ecl
      refine wpAny_mono (he s3 (upd H2 D (.lst [])) fp (Xq fp s2.heap) pnn _ s7 σ6 H7 (fun _ _ => False) J7 ⟨G1, P6, hol6.same sm7, by rw [eY]; exact fun H8 s8 => hW c ecl.symm H8 (sm27.trans s8)⟩) (fun xv s8 h8 => ?_) finx'
      obtain ⟨_, _, _, _, z⟩ := h8
      exact z.elim
     | ok yv =>
      rw [eY, Res.bind_ok] at ecl
      refine wpAny_mono (he s3 (upd H2 D (.lst [])) fp (Xq fp s2.heap) pnn _ s7 σ6 H7 (fun v H8 => Same H7 H8 /\ Rl X.K H8 P6 yv v) J7 ⟨G1, P6, hol6.same sm7, by rw [eY]; exact fun v H8 s r => ⟨s, r⟩⟩) (fun xv s8 h8 => ?_) finx'
      obtain ⟨v8, H8, J8, r8, sm8, rl8⟩ := h8
      have hD8 : H8 D = some (.lst vs) := sm8.kp _ _ hD7 Ue
      have lv := rys.length
      have tr6 : Tr H8 P6 H8 ⟨fun _ => none, fun a => ¬ Off P a \/ a = D⟩ := fun a o e _ q => ⟨e, fun _ z => (by cases z), by rw [<- g6.fbe]; exact q.2⟩
      refine wpAny_mono (zaH (X := cxT xz X scope N s3 (upd H2 D (.lst [])) fp (Xq fp s2.heap)) _ s8 σ6 H8 (.ref D) [v8] (.ref D) [xv] (fun w H9 => H9 = upd H8 D (.lst (vs ++ [v8]))) J8 rfl (.cons r8 .nil) ⟨D, vs, v8, rfl, rfl, hD8, by rw [sizeLine_eq]; omega, rfl⟩) (fun _ s9 h9 => ?_) finx'
      obtain ⟨_, H9, J9, _, rfl⟩ := h9
      have trD : Tr H8 ⟨fun _ => none, fun a => ¬ Off P a \/ a = D⟩ (upd H8 D (.lst (vs ++ [v8]))) ⟨fun _ => none, fun a => ¬ Off P a \/ a = D⟩ := fun a o e _ q => ⟨by rw [Zn (fun z => q.2 (Or.inr z))]; exact e, q⟩
      have smD : Same H2 (upd H8 D (.lst (vs ++ [v8]))) := (sm27.trans sm8).updL hD hD8
      refine next J9 smD Zp (fun b hb o e n => by rw [Zn hb]; exact sm8.kp b o (sm7.kp b o e n) n) (Rls.append (Rls.go trD ys vs (Rls.go (.same sm8) ys vs r7)) (Zx.mpr ⟨v8, [], rfl, Rl.go trD yv v8 (Rl.go tr6 yv v8 rl8), ZM.mpr rfl⟩)) ?_ (by simp; omega)
      rw [<- ecl]
      cases Y7 st dc de (List.replicate nv .emp ++ capS cap G) (ts.drop (i + 1)) <;> simp
   rcases ht s3 (upd H2 D (.lst [])) fp (Xq fp s2.heap) pnn with ⟨rfl, rfl⟩ | ⟨cx, rfl, tvc⟩
   ·exact wpAny_tests_nil (after true s6 H6 J6 (Same.refl _) rfl)
   ·cases eK : dc G1 with
    | stuck => rw [eK] at ecl; exact absurd ecl.symm hr
    | exc c =>
     rw [eK] at ecl
     refine wpAny_tests_one (wpAny_mono (tvc _ s6 σ6 H6 (fun _ _ => False) J6 ⟨G1, P6, hol6, by rw [eK]; exact fun H7 s => hW c ecl.symm H7 (sm6.trans s)⟩) (fun b s7 h7 => ?_) finx')
     obtain ⟨_, _, z⟩ := h7
     exact z.elim
    | ok k =>
     refine wpAny_tests_one (wpAny_mono (tvc _ s6 σ6 H6 (fun b H7 => b = k /\ Same H6 H7) J6 ⟨G1, P6, hol6, by rw [eK]; exact fun H7 s => ⟨rfl, s⟩⟩) (fun b s7 h7 => ?_) finx')
     obtain ⟨H7, J7, rfl, sm7⟩ := h7
     exact after b s7 H7 J7 sm7 eK
  ·have ei : i = ts.length := by omega
   subst ei
   rw [List.drop_length] at ecl
   have ecl' : r = .ok ys := by rw [<- ecl]; simp [Y7]
   refine wpAny_mono (T.done (cxC X scope N s3 (upd H2 D (.lst [])) fp) rfl rfl rfl hc _ [] s σ' H' (fun _ _ => False) Ji (fpo H' fpn) tni (y2 (Nat.le_refl _))) (fun r' s1 hr' => ?_) fun _ _ z => z.elim
   obtain ⟨rfl, J1⟩ := hr'
   have trf : Tr H' ⟨fun _ => none, fun a => ¬ Off P a \/ a = D⟩ H' (P.fbd D) := fun a o e _ q => by
    have o1 : Off P a := Classical.byContradiction fun z => q.2 (Or.inl z)
    exact ⟨e, o1.1, fun z => z.elim o1.2 fun z => q.2 (Or.inr z)⟩
   exact fin s1 H' σ' vs ys ecl' J1 hDv sm (Rls.go trf ys vs rys)
 exact codeAny_compStart_list (loop _ rfl) (T.self _ 0 _ _ _ tn0 (loop _ rfl))
end
end Fx
namespace Fx
open PySem PySem.Spec PyProof.Rows L2
theorem zcU {a : Res (List PyData)} {f : List PyData -> Res (List PyData)} {K : PySem.W.Frag} {W : Str -> Hp -> Prop} {H : Hp} {P : Pv} {Q : VK} (q : zcb K W H P (a.bind f) Q) :
  (∀ c, a = .exc c -> ∀ H', Same H H' -> W c H') /\ a ≠ .stuck /\ ∀ t, a = .ok t -> zcb K W H P (f t) Q := by
 cases a with
 | ok t => exact ⟨fun c e => (by cases e), (by intro e; cases e), fun t' e => by cases e; exact q⟩
 | exc c => exact ⟨fun c' e => by cases e; exact q, (by intro e; cases e), fun t e => by cases e⟩
 | stuck => exact q.elim
theorem Ur {a : Res PyData} {f : PyData -> Res (List PyData)} {K : PySem.W.Frag} {W : Str -> Hp -> Prop} {H : Hp} {P : Pv} {Q : VK} (q : zcb K W H P (a.bind f) Q) :
  (∀ c, a = .exc c -> ∀ H', Same H H' -> W c H') /\ a ≠ .stuck /\ ∀ t, a = .ok t -> zcb K W H P (f t) Q := by
 cases a with
 | ok t => exact ⟨fun c e => (by cases e), (by intro e; cases e), fun t' e => by cases e; exact q⟩
 | exc c => exact ⟨fun c' e => by cases e; exact q, (by intro e; cases e), fun t e => by cases e⟩
 | stuck => exact q.elim
def zcc (X : Cx) (scope : Scope) (N : List Str) (xz : Cx -> Value -> Shared -> Prop) : Prop :=
 ∀ (pins : List (Addr × Obj)) (σ : L2.St) (H3 : Hp) (s3 : Shared) (fp : List Addr) (pn : List (Addr × Obj)) (e : Value) (s' : Shared), Inv X pins σ H3 s3 -> (∀ b ∈ fp, FpOk X pins H3 b /\ b < s3.heap.objs.size) -> (∀ b ∈ fp, ∃ o, (b, o) ∈ pn) ->
  xz (cxC X scope N s3 H3 fp pn) e s' -> notedBy (model X.prog X.w) X.A (compEnvC scope (ZS X.env scope.names []) s3.heap.objs.size X.env) (fun x s' => ∃ m, s'.heap.Ns s3.heap.objs.size m /\ ∀ h', Heap.SameBut s3.heap.objs.size s'.heap h' -> ∀ cenv : Env, cenv.locals = s3.heap.objs.size ->
   wpAny (model X.prog X.w) X.A (PySem.passOn "comprehension.variables-let-go" x cenv : Sem Value) (fun _ _ => False) X.xe { s' with heap := h' }) e s'
theorem ZR {X : Cx} {scope : Scope} {N : List Str} : zcc X scope N (fun _ _ _ => False) := fun _ _ _ _ _ _ _ _ _ _ _ h => h.elim
section
variable {X : Cx} {W : Str -> Hp -> Prop} {fl : Bool} {scope : Scope} {N : List Str} {nv : Nat} {cap : List Nat} {tg elt iter : Expr} {ifs : List Expr} {pos : Pos} {st : PyData -> List Sl -> Res (List Sl)} {it : DA} {dc : DT} {de : DE} {xz : Cx -> Value -> Shared -> Prop}
theorem zcQ {pins : List (Addr × Obj)} {σ : L2.St} {H : Hp} {s : Shared} {P : Pv} {G : List Sl} {use : Option (Value -> Sem Unit)} {Q : Value -> Shared -> Prop} {pos' : Pos}
  (C : CompOk X scope N nv cap) (hc : X.calm = true) (hk : zbj nv st) (hi : IV X W tg iter it)
  (hX : zcc X scope N xz) (hg : ∀ s₀ H₀ ex pn, GV (cxT xz X scope N s₀ H₀ ex pn) tg st) (ht : ∀ s₀ H₀ ex pn, (∀ b ∈ ex, ∃ o, (b, o) ∈ pn) -> CT (cxT xz X scope N s₀ H₀ ex pn) W ifs dc) (he : ∀ s₀ H₀ ex pn, (∀ b ∈ ex, ∃ o, (b, o) ∈ pn) -> EV (cxT xz X scope N s₀ H₀ ex pn) W elt de)
  (I : Inv X pins σ H s) (h : Hol X.K H P σ G)
  (hx : ∀ c, it G = .exc c -> ∀ H', Same H H' -> W c H') (hs0 : it G ≠ .stuck)
  (fin : ∀ ts, it G = .ok ts -> ts.length <= 16777216 /\ Y7 st dc de (List.replicate nv .emp ++ capS cap G) ts ≠ .stuck /\ (∀ c, Y7 st dc de (List.replicate nv .emp ++ capS cap G) ts = .exc c -> ∀ H', Same H H' -> W c H') /\ ∀ all, Y7 st dc de (List.replicate nv .emp ++ capS cap G) ts = .ok all ->
   ∀ D vs H' s' c, Inv X pins σ H' s' -> FpOk X pins H' c -> (∃ m, s'.heap.Ns c m) -> (X.env.locals ≠ c /\ ∀ x a, X.env.cells.lookup x = some a -> a ≠ c) -> Same H H' -> H D = none -> H' D = some (.lst vs) -> Rls X.K H' (P.fbd D) all vs ->
    compPost (model X.prog X.w) X.A X.xe use Q (.ref D) c (.ok .next) s')
  (hs : ∀ x, foldedSetIterable iter X.env x = pure x := by intro _; rfl) :
  wpAny (model X.prog X.w) X.A (comprehension (.ListComp elt [⟨tg, iter, ifs, 0⟩] scope pos) scope X.env pos' (newList []) false (eval iter X.env) use) Q X.xe s := by
 refine wpAny_comprehension_free rfl hs (VN (C.has I.ok)) C.kind C.names (wpAny_mono (hi pins s σ H (fun J H' => Same H H' /\ ∃ ts, it G = .ok ts /\ Yld X.K J ts H' P) I ⟨G, P, h, ?_⟩) (fun v s1 h1 => wpAny_mono h1 (fun itv s2 h2 => ?_) fun _ _ z => z) fun _ _ z => z)
 ·cases e : it G with
  | ok ts => exact fun J H' s y => ⟨s, ts, rfl, y⟩
  | exc c => exact hx c e
  | stuck => exact absurd e hs0
 obtain ⟨itA, fp, tn, J, H2, rfl, I2, T, tn0, f2, sm2, ts, ets, y⟩ := h2
 obtain ⟨hlen, hns, hex, fin⟩ := fin ts ets
 have hD : H2 s2.heap.objs.size = none := I2.hok.fresh (Nat.le_refl _)
 refine wpAny_newObj_type (wpAny_newFunctionEnv C.cell (by intro y hy; simp at hy) (fun h₁ hns₁ hsb₁ => ?_) C.kind)
 have I3 : Inv X pins σ (upd H2 s2.heap.objs.size (.lst [])) { s2 with heap := s2.heap.push { cls := .type "list", dict := none, data := .seq ([] : List Value).toArray } } :=
  I2.laid (t' := s2.toks) (fun b u e => Heap.get?_push_of_some _ e) (Nat.le_refl _) ⟨by show 0 <= sizeLine; exact Nat.zero_le _, [], 0, .nil, Heap.get?_push_size _ rfl⟩
 have sz : (s2.heap.push { cls := .type "list", dict := none, data := .seq ([] : List Value).toArray }).objs.size = s2.heap.objs.size + 1 := Heap.size_push _ _
 have hf3 : ∀ b ∈ fp, FpOk X pins (upd H2 s2.heap.objs.size (.lst [])) b /\ b < (s2.heap.push { cls := .type "list", dict := none, data := .seq ([] : List Value).toArray }).objs.size := fun b hb => by
  obtain ⟨o, ho, _⟩ := T.obj 0 _ tn0 b hb
  have lt := Heap.lt_size ho
  obtain ⟨a1, a2⟩ := f2 b hb
  exact ⟨⟨by rw [Zn (Nat.ne_of_lt lt)]; exact a1, a2⟩, by rw [sz]; exact Nat.lt_succ_of_lt lt⟩
 have kp : ∀ b o, (s2.heap.push { cls := .type "list", dict := none, data := .seq ([] : List Value).toArray }).get? b = some o -> h₁.get? b = some o := fun b o e =>
  hsb₁.extBut b o (Nat.ne_of_lt (Heap.lt_size e)) (Heap.get?_push_of_some _ e)
 have tn3 : tn 0 h₁ := T.keep 0 _ _ tn0 fun b _ o e => kp b o (Heap.get?_push_of_some _ e)
 refine zdJ (s3 := { s2 with heap := s2.heap.push { cls := .type "list", dict := none, data := .seq ([] : List Value).toArray } }) (D := s2.heap.objs.size) C hc hk hg ht he (h.same sm2) hD I3 T hf3 y hlen rfl hns (fun c ec H' sm => hex c ec H' (sm2.trans sm)) hns₁ kp ⟨h₁, _, rfl⟩ tn3 (fun s' H' σ' vs all hall J' hl sm r => ?_) fun pn e s' pnn hx => hX pins σ _ _ fp pn e s' I3 hf3 pnn hx
 have IX := CompOk.stop I3 (fun b hb => (hf3 b hb).1) J'
 have fo : FpOk X pins H' (s2.heap.push { cls := .type "list", dict := none, data := .seq ([] : List Value).toArray }).objs.size := I3.fpOk (Nat.le_refl _) J'.free
 obtain ⟨m, hm, _⟩ := J'.loc
 exact fin all hall _ vs H' s' _ IX fo ⟨m, hm⟩ ⟨Ne.symm fo.2.1, fun x a e => fo.2.2.2.2.1 x a e⟩ (sm2.trans sm) (sm2.free hD) hl r
theorem atC {pins : List (Addr × Obj)} {σ : L2.St} {H : Hp} {s : Shared} {c : Addr} {h' : Heap} (I : Inv X pins σ H s) (f : FpOk X pins H c) (hs : Heap.SameBut c s.heap h') : Inv X pins σ H { s with heap := h' } :=
 I.turned (t' := s.toks) (fun b o hb e => (hs.2 b hb).trans e) f.1 f.2.1 f.2.2.2.1 f.2.2.2.2.1 f.2.2.2.2.2
theorem YM (C : CompOk X scope N nv cap) (hc : X.calm = true) (hk : zbj nv st) (hi : IV X W tg iter it)
  (hX : zcc X scope N xz) (hg : ∀ s₀ H₀ ex pn, GV (cxT xz X scope N s₀ H₀ ex pn) tg st) (ht : ∀ s₀ H₀ ex pn, (∀ b ∈ ex, ∃ o, (b, o) ∈ pn) -> CT (cxT xz X scope N s₀ H₀ ex pn) W ifs dc) (he : ∀ s₀ H₀ ex pn, (∀ b ∈ ex, ∃ o, (b, o) ∈ pn) -> EV (cxT xz X scope N s₀ H₀ ex pn) W elt de)
  (hs : ∀ x, foldedSetIterable iter X.env x = pure x := by intro _; rfl) : OV X W (.ListComp elt [⟨tg, iter, ifs, 0⟩] scope pos) (YH nv cap st it dc de) := by
 intro pins s σ H Q I ⟨G, P, h, q⟩
 unfold YH at q
 obtain ⟨q1, q2, q3⟩ := zcU q
 rw [eval_ListComp]
 refine zcQ (use := none) C hc hk hi hX hg ht he I h q1 q2 (fun ts ets => ?_) hs
 have q4 := q3 ts ets
 split at q4
 ·rename_i hl
  cases e : Y7 st dc de (List.replicate nv .emp ++ capS cap G) ts with
  | stuck => rw [e] at q4; exact q4.elim
  | exc c => rw [e] at q4; exact ⟨hl, fun z => (by cases z), fun c' z => by cases z; exact q4, fun all z => by cases z⟩
  | ok all =>
   rw [e] at q4
   refine ⟨hl, fun z => (by cases z), fun c z => (by cases z), fun all' z D vs H' s' c IX fo hm hne sm hD hl r => ?_⟩
   cases z
   obtain ⟨m, hm⟩ := hm
   exact ⟨m, hm, fun h' hsb => ⟨.ref D, H', atC IX fo hsb, rfl, q4 D vs H' sm hD hl r⟩⟩
 ·exact q4.elim
theorem Yi {e : Expr} {d : DA} (h : OV X W e d) : EV X W e (dL d) :=
 ZA h fun σ H Q ⟨G, P, hh, q⟩ => by
  refine ⟨G, P, hh, ?_⟩
  unfold dL at q
  cases e : d G with
  | stuck => rw [e] at q; exact q.elim
  | exc c => rw [e] at q; exact q
  | ok xs => rw [e] at q; exact fun p vs H' s hp hl r => q _ H' s (rl_new hh s hp hl r)
theorem X6 {e : Expr} {d : DA} {i : Nat} {x : Str} {is : List Nat} {pos' : Pos} (hN : X.N.Nodup) (hi : X.N[i]? = some x) (hx : Loc X.env.scope x) (he : OV X W e d) (hs : swapsWith e (some (.Name x pos')) pos.line X.env = pure false := by rfl)
  (hf : X.fn x = true \/ X.env.scope.names.lookup x = some .local := by first | exact .inl rfl | exact .inr rfl | assumption) : SV X W fl (.Assign [.Name x pos'] e pos) (Vb i is d) :=
 YF (zek hN hi hx he hs hf) fun D σ H ⟨G, P, h, q⟩ => by
  unfold Vb at q
  obtain ⟨P1, h1, g⟩ := h.frz is
  obtain ⟨q1, q2, q3⟩ := zfB q
  refine ⟨frz is G, P1, h1, ?_⟩
  cases e : d (frz is G) with
  | stuck => exact absurd e q2
  | exc c => exact fun H' s => q1 c e H' P1 (g.trans (.same s))
  | ok xs =>
   have q4 := q3 xs e
   intro p vs H' s hp hl r
   split at q4
   ·rename_i hlt
    have hlt' : i < (frz is G).length := by rw [<- h1.len, h.len]; exact hlt
    obtain ⟨h2, g2⟩ := h1.own' hlt' s hp hl r
    exact q4 _ H' _ (g.trans g2) h2
   ·exact q4.elim
theorem zay {i : Nat} {x : Str} {pos' : Pos} {d : DS} (C : CompOk X scope N nv cap) (hc : X.calm = true) (hk : zbj nv st) (hi : IV X W tg iter it)
  (hX : zcc X scope N xz) (hg : ∀ s₀ H₀ ex pn, GV (cxT xz X scope N s₀ H₀ ex pn) tg st) (ht : ∀ s₀ H₀ ex pn, (∀ b ∈ ex, ∃ o, (b, o) ∈ pn) -> CT (cxT xz X scope N s₀ H₀ ex pn) W ifs dc) (he : ∀ s₀ H₀ ex pn, (∀ b ∈ ex, ∃ o, (b, o) ∈ pn) -> EV (cxT xz X scope N s₀ H₀ ex pn) W elt de)
  (hN : X.N.Nodup) (hix : X.N[i]? = some x) (hx : Loc X.env.scope x) {spos : Pos} (hsw : swapsWith (.ListComp elt [⟨tg, iter, ifs, 0⟩] scope pos) (some (.Name x pos')) spos.line X.env = pure true)
  (hs : ∀ x, foldedSetIterable iter X.env x = pure x) (hf : X.fn x = true \/ X.env.scope.names.lookup x = some .local)
  (hd : ∀ D σ H, tFS X.K W fl d D σ H -> ∃ G P, Hol X.K H P σ G /\ (∀ c, it G = .exc c -> ∀ H', Same H H' -> W c H') /\ it G ≠ .stuck /\ ∀ ts, it G = .ok ts -> ts.length <= 16777216 /\ Y7 st dc de (List.replicate nv .emp ++ capS cap G) ts ≠ .stuck /\ (∀ c, Y7 st dc de (List.replicate nv .emp ++ capS cap G) ts = .exc c -> ∀ H', Same H H' -> W c H') /\ ∀ all, Y7 st dc de (List.replicate nv .emp ++ capS cap G) ts = .ok all ->
   ∀ p vs H', Same H H' -> H p = none -> H' p = some (.lst vs) -> Rls X.K H' (P.fbd p) all vs -> D.nx (σ.set i (some (.ref p))) H') : SV X W fl (.Assign [.Name x pos'] (.ListComp elt [⟨tg, iter, ifs, 0⟩] scope pos) spos) d := by
 intro pins s σ H D I hq
 obtain ⟨G, P, h, q1, q2, q3⟩ := hd D σ H hq
 rw [exec_Assign_Name_used _ _ _ _ hsw]
 refine wpAny_bind (wpAny_standAt (wpAny_bind ?_))
 show wpAny _ X.A (do let _ <- comprehension (.ListComp elt [⟨tg, iter, ifs, 0⟩] scope pos) scope X.env _ (newList []) false (eval iter X.env) (some (assign (.Name x pos') X.env))) _ _ s
 refine wpAny_bind (wpAny_mono (zcQ (use := some (assign (.Name x pos') X.env)) (Q := fun _ s' => SP X pins D .next s') C hc hk hi hX hg ht he I h q1 q2 (fun ts ets => ?_) hs) (fun _ s' hq => wpAny_pure (wpAny_pure hq)) fun _ _ e => e)
 obtain ⟨hl, n1, n2, q4⟩ := q3 ts ets
 refine ⟨hl, n1, n2, fun all hall p vs H' s' c IX fo hm hne sm hp hl r => ?_⟩
 obtain ⟨m, hm⟩ := hm
 show wpAny _ X.A (assign (.Name x pos') X.env (.ref p)) _ _ _
 refine wpAny_assign_Name (zaw IX hN hix hx (v := .ref p) rfl (fun s'' I'' ch => ?_) hf)
 obtain ⟨a, hsb, ha⟩ := ch
 have hca : c ≠ a := by
  rcases ha with rfl | ha
  ·exact Ne.symm hne.1
  ·exact Ne.symm (hne.2 x a ha)
 refine ⟨m, hm.sameBut hsb hca, fun h' hs' => ⟨_, H', atC I'' fo hs', q4 all hall p vs H' sm hp hl r⟩⟩
theorem WG {i : Nat} {x : Str} {is : List Nat} {pos' spos : Pos} (C : CompOk X scope N nv cap) (hc : X.calm = true) (hk : zbj nv st) (hi : IV X W tg iter it)
  (hX : zcc X scope N xz) (hg : ∀ s₀ H₀ ex pn, GV (cxT xz X scope N s₀ H₀ ex pn) tg st) (ht : ∀ s₀ H₀ ex pn, (∀ b ∈ ex, ∃ o, (b, o) ∈ pn) -> CT (cxT xz X scope N s₀ H₀ ex pn) W ifs dc) (he : ∀ s₀ H₀ ex pn, (∀ b ∈ ex, ∃ o, (b, o) ∈ pn) -> EV (cxT xz X scope N s₀ H₀ ex pn) W elt de)
  (hN : X.N.Nodup) (hix : X.N[i]? = some x) (hx : Loc X.env.scope x) (hsw : swapsWith (.ListComp elt [⟨tg, iter, ifs, 0⟩] scope pos) (some (.Name x pos')) spos.line X.env = pure true := by rfl)
  (hs : ∀ x, foldedSetIterable iter X.env x = pure x := by intro _; rfl) (hf : X.fn x = true \/ X.env.scope.names.lookup x = some .local := by first | exact .inl rfl | exact .inr rfl | assumption) :
  SV X W fl (.Assign [.Name x pos'] (.ListComp elt [⟨tg, iter, ifs, 0⟩] scope pos) spos) (dSet i is (dL (YH nv cap st it dc de))) :=
 zay C hc hk hi hX hg ht he hN hix hx hsw hs hf fun D σ H ⟨G, P, h, q⟩ => by
  unfold dSet dL YH at q
  obtain ⟨P1, h1, g⟩ := h.frz is
  refine ⟨frz is G, P1, h1, ?_⟩
  cases e : it (frz is G) with
  | stuck => rw [e] at q; exact q.elim
  | exc c => rw [e] at q; exact ⟨fun c' ec H' s => by cases ec; exact q H' P1 (g.trans (.same s)), (by intro z; cases z), fun ts z => by cases z⟩
  | ok ts =>
   refine ⟨fun c' ec => (by cases ec), (by intro z; cases z), fun ts' z => ?_⟩
   cases z
   rw [e, Res.bind_ok] at q
   split at q
   ·rename_i hl
    refine ⟨hl, ?_⟩
    cases e2 : Y7 st dc de (List.replicate nv .emp ++ capS cap (frz is G)) ts with
    | stuck => rw [e2] at q; exact q.elim
    | exc c => rw [e2] at q; exact ⟨fun z => (by cases z), fun c' z H' s => by cases z; exact q H' P1 (g.trans (.same s)), fun all z => by cases z⟩
    | ok all =>
     rw [e2] at q
     refine ⟨fun z => (by cases z), fun c z => (by cases z), fun all' z p vs H' s hp hl r => ?_⟩
     cases z
     have h2 := (h1.same s).setVal i (rl_new h1 s hp hl r)
     exact q _ H' _ (g.trans ((Go.same s).trans .del)) h2
   ·exact q.elim
theorem zcj {i : Nat} {x : Str} {is : List Nat} {pos' spos : Pos} (C : CompOk X scope N nv cap) (hc : X.calm = true) (hk : zbj nv st) (hi : IV X W tg iter it)
  (hX : zcc X scope N xz) (hg : ∀ s₀ H₀ ex pn, GV (cxT xz X scope N s₀ H₀ ex pn) tg st) (ht : ∀ s₀ H₀ ex pn, (∀ b ∈ ex, ∃ o, (b, o) ∈ pn) -> CT (cxT xz X scope N s₀ H₀ ex pn) W ifs dc) (he : ∀ s₀ H₀ ex pn, (∀ b ∈ ex, ∃ o, (b, o) ∈ pn) -> EV (cxT xz X scope N s₀ H₀ ex pn) W elt de)
  (hN : X.N.Nodup) (hix : X.N[i]? = some x) (hx : Loc X.env.scope x) (hsw : swapsWith (.ListComp elt [⟨tg, iter, ifs, 0⟩] scope pos) (some (.Name x pos')) spos.line X.env = pure true := by rfl)
  (hs : ∀ x, foldedSetIterable iter X.env x = pure x := by intro _; rfl) (hf : X.fn x = true \/ X.env.scope.names.lookup x = some .local := by first | exact .inl rfl | exact .inr rfl | assumption) :
  SV X W fl (.Assign [.Name x pos'] (.ListComp elt [⟨tg, iter, ifs, 0⟩] scope pos) spos) (Vb i is (YH nv cap st it dc de)) :=
 zay C hc hk hi hX hg ht he hN hix hx hsw hs hf fun D σ H ⟨G, P, h, q⟩ => by
  unfold Vb YH at q
  obtain ⟨P1, h1, g⟩ := h.frz is
  refine ⟨frz is G, P1, h1, ?_⟩
  cases e : it (frz is G) with
  | stuck => rw [e] at q; exact q.elim
  | exc c => rw [e] at q; exact ⟨fun c' ec H' s => by cases ec; exact q H' P1 (g.trans (.same s)), (by intro z; cases z), fun ts z => by cases z⟩
  | ok ts =>
   refine ⟨fun c' ec => (by cases ec), (by intro z; cases z), fun ts' z => ?_⟩
   cases z
   rw [e, Res.bind_ok] at q
   split at q
   ·rename_i hl
    refine ⟨hl, ?_⟩
    cases e2 : Y7 st dc de (List.replicate nv .emp ++ capS cap (frz is G)) ts with
    | stuck => rw [e2] at q; exact q.elim
    | exc c => rw [e2] at q; exact ⟨fun z => (by cases z), fun c' z H' s => by cases z; exact q H' P1 (g.trans (.same s)), fun all z => by cases z⟩
    | ok all =>
     rw [e2, Res.bind_ok] at q
     refine ⟨fun z => (by cases z), fun c z => (by cases z), fun all' z p vs H' s hp hl r => ?_⟩
     cases z
     split at q
     ·rename_i hlt
      have hlt' : i < (frz is G).length := by rw [<- h1.len, h.len]; exact hlt
      obtain ⟨h2, g2⟩ := h1.own' hlt' s hp hl r
      exact q _ H' _ (g.trans g2) h2
     ·exact q.elim
   ·exact q.elim
end
end Fx
namespace Fx
open PySem PySem.Spec PyProof.Rows L2
open AutoSeq1 (wpAny_loadPart')
def SrI (h : Heap) (it l : Addr) (i : Nat) : Bool -> Prop
 | true => h.IsTupleIter it l i
 | false => h.IsListIter it l i
def SrS (h : Heap) (l : Addr) (xs : Array Value) : Bool -> Prop
 | true => h.IsTuple l xs
 | false => h.IsList l xs
theorem SrI.at {h h' : Heap} {it l : Addr} {i : Nat} {t : Bool} (x : SrI h it l i t) (k : ∀ o, h.get? it = some o -> h'.get? it = some o) : SrI h' it l i t := by
 cases t <;> (obtain ⟨o, e, r⟩ := x; exact ⟨o, k o e, r⟩)
theorem SrS.at {h h' : Heap} {l : Addr} {xs : Array Value} {t : Bool} (x : SrS h l xs t) (k : ∀ o, h.get? l = some o -> h'.get? l = some o) : SrS h' l xs t := by
 cases t <;> (obtain ⟨o, e, r⟩ := x; exact ⟨o, k o e, r⟩)
theorem SrI.obj {h : Heap} {it l : Addr} {i : Nat} {t : Bool} (x : SrI h it l i t) : ∃ o, h.get? it = some o /\ ∀ v, o.data ≠ .cell v := by
 cases t <;> (obtain ⟨o, e, c, d⟩ := x; exact ⟨o, e, fun v z => by rw [d] at z; cases z⟩)
theorem SrS.lt {h : Heap} {l : Addr} {xs : Array Value} {t : Bool} (x : SrS h l xs t) : l < h.objs.size := by
 cases t <;> (obtain ⟨o, e, _⟩ := x; exact Heap.lt_size e)
def QY (l : Addr) (t : Bool) : Obj := { cls := .type (if t then "tuple_iterator" else "list_iterator"), data := .fields #[.ref l, .int 0 0] }
theorem SrI.new {h : Heap} {l : Addr} {t : Bool} : SrI (h.push (QY l t)) h.objs.size l 0 t := by
 cases t <;> exact ⟨_, Heap.get?_push_size _ rfl, rfl, rfl⟩
section
variable {prog : Program} {w : World} {A : Around} {E : Value -> Shared -> Prop} {s : Shared}
theorem UV {l : Addr} {xs : Array Value} {t : Bool} {Q : Value -> Shared -> Prop} (x : SrS s.heap l xs t) (q : Q (.ref s.heap.objs.size) { s with heap := s.heap.push (QY l t) }) : wpAny (model prog w) A (pyIter (.ref l)) Q E s := by
 cases t
 ·exact wpAny_pyIter_list x q
 ·exact wpAny_pyIter_tuple x q
theorem JA {it l : Addr} {i : Nat} {xs : Array Value} {t : Bool} {x : Value} {Q : Value -> Shared -> Prop} (hi : SrI s.heap it l i t) (hs : SrS s.heap l xs t) (hx : xs[i]? = some x)
  (hQ : ∀ h', SrI h' it l (i + 1) t -> Heap.SameBut it s.heap h' -> Q x { s with heap := h' }) : wpAny (model prog w) A (Builtin.SmallTypes.nextOf (.ref it)) Q E s := by
 cases t
 ·exact wpAny_nextOf_list_item hi hs hx hQ
 ·have ty := Heap.IsTupleIter.typeIs hi
  obtain ⟨o, ho, hc, hd⟩ := hi
  obtain ⟨ol, hol, _, nl, hdl⟩ := hs
  unfold Builtin.SmallTypes.nextOf
  refine wpAny_bind (wpAny_callSpecial?_slot (name := Str.ofString "__next__") ty F.slot_tuple_iterator_next (wpAny_call_entry F.slot_tuple_iterator_next ty F.entry_tuple_iterator_next ?_ (F.args_tuple_iterator_next_1 _)))
  show wpAny _ _ (field (.ref it) 0 >>= _) _ _ s
  refine wpAny_bind (wpAny_field ho hd (x := .ref l) rfl ?_)
  show wpAny _ _ (if (Value.ref l == Value.none) = true then _ else _) _ _ s
  rw [if_neg (show ¬ ((Value.ref l == Value.none) = true) from Bool.false_ne_true)]
  show wpAny _ _ (field (.ref it) 1 >>= _) _ _ s
  refine wpAny_bind (wpAny_field ho hd (x := .int i 0) rfl ?_)
  show wpAny _ _ (seqItems? (.ref l) >>= _) _ _ s
  refine wpAny_bind (wpAny_seqItems hol hdl ?_)
  simp only [Int.toNat_natCast, hx]
  refine wpAny_bind (wpAny_setField ho hd (by simp) (wpAny_pure ⟨x, rfl, wpAny_pure (hQ _ ?_ (Heap.SameBut.update ..))⟩))
  exact ⟨_, Heap.get?_update_self _ ho (Obj.isFreed_of_fields (Obj.data_mapFields hd _)), (Obj.cls_mapFields ..).trans hc, by rw [Obj.data_mapFields hd]; simp [rawInt]⟩
theorem zcl {it l : Addr} {i : Nat} {xs : Array Value} {t : Bool} {Q : Value -> Shared -> Prop} (hh : A.handled = none) (hi : SrI s.heap it l i t) (hs : SrS s.heap l xs t) (hx : xs[i]? = none)
  (hE : ∀ h' e, Heap.ExtBut it s.heap h' -> (∃ o, h'.get? e = some o /\ o.cls = .type "StopIteration") -> E (.ref e) { s with heap := h' }) : wpAny (model prog w) A (Builtin.SmallTypes.nextOf (.ref it)) Q E s := by
 cases t
 ·exact wpAny_nextOf_list_end hh hi hs hx hE
 ·have ty := Heap.IsTupleIter.typeIs hi
  obtain ⟨o, ho, hc, hd⟩ := hi
  obtain ⟨ol, hol, _, nl, hdl⟩ := hs
  unfold Builtin.SmallTypes.nextOf
  refine wpAny_bind (wpAny_callSpecial?_slot (name := Str.ofString "__next__") ty F.slot_tuple_iterator_next (wpAny_call_entry F.slot_tuple_iterator_next ty F.entry_tuple_iterator_next ?_ (F.args_tuple_iterator_next_1 _)))
  show wpAny _ _ (field (.ref it) 0 >>= _) _ _ s
  refine wpAny_bind (wpAny_field ho hd (x := .ref l) rfl ?_)
  show wpAny _ _ (if (Value.ref l == Value.none) = true then _ else _) _ _ s
  rw [if_neg (show ¬ ((Value.ref l == Value.none) = true) from Bool.false_ne_true)]
  show wpAny _ _ (field (.ref it) 1 >>= _) _ _ s
  refine wpAny_bind (wpAny_field ho hd (x := .int i 0) rfl ?_)
  show wpAny _ _ (seqItems? (.ref l) >>= _) _ _ s
  refine wpAny_bind (wpAny_seqItems hol hdl ?_)
  simp only [Int.toNat_natCast, hx]
  refine wpAny_bind (wpAny_rule (wpAny_bind (wpAny_setField ho hd (by simp) ?_)))
  show wpAny _ _ (newExc (.type "StopIteration") [] >>= _) _ _ _
  refine wpAny_bind ?_
  simp only [newExc, newTuple]
  refine wpAny_bind (wpAny_newObj_type ?_ (by size_fits))
  refine wpAny_bind (m := firstArgMember _ _) (wpAny_of_eq (a := Value.none) (by first | rfl | (simp only [firstArgMember]; rfl)) ?_)
  refine wpAny_newObj_type ?_ (by size_fits)
  simp only [raiseNew]
  refine wpAny_bind (wpAny_handled ?_)
  first | rw [show A.in1.handled = none from hh] | rw [hh]
  refine wpAny_bind (wpAny_pure (wpAny_throw ?_))
  exact hE _ _ (((Heap.SameBut.update ..).extBut.push _).push _) ⟨_, Heap.get?_push_size _ rfl, rfl⟩
theorem zcm (hh : A.handled = none) (it l : Addr) (hne : l ≠ it) (xs : Array Value) (t : Bool) : Draws prog w A it [it, l] xs.size (fun i v => xs[i]? = some v) (fun i h => SrI h it l i t /\ SrS h l xs t) where
 live := fun _ _ st => let ⟨o, ho, _⟩ := st.1.obj; ⟨o, ho⟩
 frame := fun _ _ _ st hk => ⟨st.1.at fun o e => hk it (by simp) o e, st.2.at fun o e => hk l (by simp) o e⟩
 item := fun i s Q E hi st hQ => JA st.1 st.2 (x := xs[i]) (by simp [hi]) fun h' hit hs => hQ _ h' s.toks (by simp [hi]) ⟨hit, st.2.at fun o e => hs.extBut _ _ hne e⟩ hs
 done := fun s Q E st hE => zcl hh st.1 st.2 (by simp) hE
theorem zdg (l : Addr) (xs : Array Value) (t : Bool) :
  Meets (Builtin.«enumerate.__new__» ⟨[.type "enumerate", .ref l], []⟩) (fun _ R s => SrS s.heap l xs t /\
   R (.ok (.ret (.ref (s.heap.push (QY l t)).objs.size))) { s with heap := (s.heap.push (QY l t)).push { cls := .type "enumerate", data := .fields #[.none, .bool false, .ref s.heap.objs.size, rawInt 0, .none, .none] } }) :=
 .of_wp fun prog w A R s h => by
  obtain ⟨hp, g, d, tk, os⟩ := s
  obtain ⟨hl, h⟩ := h
  have hsub := sub_enumerate
  have hL : SrS (Shared.heap ⟨hp, g, d, tk, os⟩) l xs t := hl
  wp_walk using UV hL
  refine wpAny_stack_any fun st => wpAny_pure ?_
  split
  ·rename_i c _ _ _ _ _
   cases (c == Value.type "enumerate") <;> (wp_walk using UV hL; exact ⟨_, rfl, h⟩)
  ·wp_walk using UV hL
   exact ⟨_, rfl, h⟩
theorem zfy {l : Addr} {xs : Array Value} {t : Bool} {Q : Value -> Shared -> Prop} (hL : SrS s.heap l xs t)
  (h : ∀ h', IsEnum h' (s.heap.objs.size + 1) s.heap.objs.size 0 .none -> SrI h' s.heap.objs.size l 0 t -> (∀ b o, s.heap.get? b = some o -> h'.get? b = some o) -> Q (.ref (s.heap.objs.size + 1)) { s with heap := h' }) :
  wpAny (model prog w) A (call (.type "enumerate") [.ref l]) Q E s := by
 refine callType_new F.called_enumerate (by decide) (F.typeCall_enumerate_1 _) (F.newCall_enumerate_1 _) (fun obj => F.args_object_init_2 obj _) F.entry_enumerate_new (zdg l xs t) ⟨hL, ?_⟩
 have hz : (s.heap.push (QY l t)).objs.size = s.heap.objs.size + 1 := Heap.size_push ..
 show _ /\ _
 rw [hz]
 have he : IsEnum ((s.heap.push (QY l t)).push { cls := .type "enumerate", data := .fields #[.none, .bool false, .ref s.heap.objs.size, rawInt 0, .none, .none] }) (s.heap.objs.size + 1) s.heap.objs.size 0 .none := by
  have z := Heap.get?_push_size (s.heap.push (QY l t)) (o := { cls := .type "enumerate", data := .fields #[.none, .bool false, .ref s.heap.objs.size, rawInt 0, .none, .none] }) rfl
  rw [hz] at z
  exact z
 exact ⟨⟨_, he, rfl⟩, h _ he (SrI.new.at fun o e => Heap.get?_push_of_some _ e) fun b o x => Heap.get?_push_of_some _ (Heap.get?_push_of_some _ x)⟩
end
end Fx
namespace Fx
open PySem PySem.Spec PyProof.Rows L2
section
variable {X : Cx} {W : Str -> Hp -> Prop} {pins : List (Addr × Obj)} {σ : L2.St} {H : Hp} {s s' : Shared} {ch : List Addr}
theorem inv_ch (I : Inv X pins σ H s) (hch : ∀ b ∈ ch, FpOk X pins H b) (ho : s'.os = s.os) (hg : s'.gens = s.gens) (k : ∀ b o, b ∉ ch -> s.heap.get? b = some o -> s'.heap.get? b = some o) : Inv X pins σ H s' := by
 have nch : ∀ b u, H b = some u -> b ∉ ch := fun b u e z => by rw [(hch b z).1] at e; cases e
 refine I.call' (ch := ch) ho ⟨fun b o e _ _ hx => k b o hx e, fun b o e _ _ hx => ⟨o.slots, k b o hx e⟩, fun b o e n _ => n, fun b o e hx => ⟨o, k b o hx e⟩, fun _ _ e => e, fun _ _ _ e => e, fun b ps e => ⟨#[], by rw [e]; simp⟩⟩ (fun b u e => ?_) (by rw [hg]; exact I.bare) fun b hb => ?_
 ·refine (I.hok b u e).stay (fun c v hc q => k c v ?_ q) (fun _ q => q) fun _ _ q => q
  rcases hc with z | z
  ·rw [z]; exact nch b u e
  ·exact nch c _ z
 ·obtain ⟨f0, f1, f2, f3, f4, f5⟩ := hch b hb
  exact ⟨f3, f1, f4, f5⟩
theorem zeZ {xs : List V} {its : List Value} (I : Inv X pins σ H s) (hch : ∀ b ∈ ch, FpOk X pins H b) (ho : s'.os = s.os) (hg : s'.gens = s.gens) (k : ∀ b o, b ∉ ch -> s.heap.get? b = some o -> s'.heap.get? b = some o)
  (ht : s'.heap.get? s.heap.objs.size = some { cls := .type "tuple", data := .seq its.toArray }) (rv : Vals xs its) (hz : xs.length <= sizeLine) : Inv X pins σ (upd H s.heap.objs.size (.tup xs)) s' := by
 have hp : H s.heap.objs.size = none := I.hok.fresh (Nat.le_refl _)
 have nch : ∀ b u, H b = some u -> b ∉ ch := fun b u e z => by rw [(hch b z).1] at e; cases e
 have ne : ∀ b o, s.heap.get? b = some o -> b ≠ s.heap.objs.size := fun b o e => Nat.ne_of_lt (Heap.lt_size e)
 refine I.call' (ch := ch) ho ⟨fun b o e _ _ hx => k b o hx e, fun b o e _ _ hx => ⟨o.slots, k b o hx e⟩, fun b o e n _ => by rw [Zn (ne b o e)]; exact n, fun b o e hx => ⟨o, k b o hx e⟩, fun b ys e => by rw [Zn (Zu e hp)]; exact e,
  fun b o u e => by rw [Zn (Zu e hp)]; exact e, fun b ps e => ⟨#[], by rw [Zn (Zu e hp), e]; simp⟩⟩ (fun b u e => ?_) (by rw [hg]; exact I.bare) fun b hb => ?_
 ·by_cases hb : b = s.heap.objs.size
  ·subst hb
   rw [Zp] at e
   cases e
   exact ⟨hz, its, rv, ⟨_, ht, rfl, _, rfl⟩⟩
  ·rw [Zn hb] at e
   refine (I.hok b u e).stay (fun c v hc q => k c v ?_ q) (fun c q => by rw [Zn (Zu q hp)]; exact q) fun c ys q => by rw [Zn (Zu q hp)]; exact q
   rcases hc with z | z
   ·rw [z]; exact nch b u e
   ·exact nch c _ z
 ·obtain ⟨f0, f1, f2, f3, f4, f5⟩ := hch b hb
  exact ⟨f3, f1, f4, f5⟩
end
def Sq (K : PySem.W.Frag) (H : Hp) (a : Addr) (xs : List V) : Bool -> Prop
 | true => SqT K H a xs
 | false => SqL K H a xs
theorem Vt {X : Cx} {pins : List (Addr × Obj)} {σ : L2.St} {H : Hp} {s : Shared} {a : Addr} {xs : List V} {t : Bool} (I : Inv X pins σ H s) (h : Sq X.K H a xs t) : ∃ its : List Value, Vals xs its /\ SrS s.heap a its.toArray t /\ xs.length <= sizeLine := by
 cases t
 ·obtain ⟨its, r, p, z⟩ := I.list h; exact ⟨its, r, p.isList, z⟩
 ·obtain ⟨its, r, p, z⟩ := I.tuple h; exact ⟨its, r, p, z⟩
theorem zd2 {X : Cx} {pins : List (Addr × Obj)} {σ : L2.St} {H : Hp} {s : Shared} {a : Addr} {xs ys : List V} {t : Bool} (I : Inv X pins σ H s) (h : Sq X.K H a xs t) (h' : Sq X.K H a ys t) : xs = ys := by
 cases t
 ·exact I.list_inj h h'
 ·exact I.tuple_inj h h'
def Ite (K : PySem.W.Frag) (l : Addr) (t : Bool) : It :=
 ⟨fun i H => ∃ xs x, Sq K H l xs t /\ xs[i]? = some x, fun i H x H' => ∃ p v, x = .ref p /\ H p = none /\ H' = upd H p (.tup [.int i, v]) /\ ∀ xs, Sq K H l xs t -> xs[i]? = some v, fun i H => ∃ xs, Sq K H l xs t /\ xs.length <= i⟩
theorem zdX {P : Program} {w : World} {K : PySem.W.Frag} {elts : List Expr} {k : Nat} {pos : Pos} (l e it : Addr) (t : Bool) (hne : e ≠ it) (hle : l ≠ e) (hli : l ≠ it) :
  Turn P w K (.Tuple elts k pos) (Ite K l t) [e, it] e (fun i h => ∃ old, IsEnum h e it i old /\ SrI h it l i t) where
 mem := by simp
 obj := fun i h st b hb => by
  obtain ⟨old, he, hi⟩ := st
  rcases List.mem_cons.mp hb with z | z
  ·subst z; exact ⟨_, he, fun v z => by cases z⟩
  ·have : b = it := by simpa using z
   subst this; exact hi.obj
 keep := fun i h h' st kk => by
  obtain ⟨old, he, hi⟩ := st
  exact ⟨old, kk e (by simp) _ he, hi.at fun o q => kk it (by simp) o q⟩
 item := by
  intro X hP hw hK hc i pins s σ H E I hf st hg
  subst hP hw hK
  obtain ⟨xs, x, hq, hx⟩ := hg
  obtain ⟨its, rv, hs, hz⟩ := Vt I hq
  obtain ⟨u, hu, ru⟩ := rv.get hx
  obtain ⟨old, he, hi⟩ := st
  have hil : i < its.toArray.size := by
   have := (List.getElem?_eq_some_iff.mp hu).1
   simpa using this
  refine wpAny_pyNext_enum_itemD (zcm (A := X.A.in1) (I.ok.hd hc) it l hli its.toArray t) he ⟨hi, hs⟩ hil hne (by simp [hne, Ne.symm hle]) fun y h' tk hy heo hst ht hsz kk => ?_
  have ey : y = u := by
   have : its.toArray[i]? = some u := by simpa using hu
   rw [this] at hy; cases hy; rfl
  subst ey
  refine ⟨_, rfl, wpAny_letOwnedTupleGo_enum heo fun h'' he'' hsb => ?_⟩
  have nel : e < s.heap.objs.size := Heap.lt_size he
  have ke : ∀ b o, b ∉ [e, it] -> s.heap.get? b = some o -> h''.get? b = some o := fun b o hb q => by
   simp only [List.mem_cons, List.not_mem_nil, or_false, not_or] at hb
   exact hsb.extBut b o hb.1 (kk b o hb.1 hb.2 q)
  refine ⟨.ref s.heap.objs.size, upd H s.heap.objs.size (.tup [.int i, x]), zeZ (s' := { s with heap := h'', toks := tk + 1 }) (its := [.int i tk, y]) I hf rfl rfl ke (hsb.extBut _ _ (Nat.ne_of_gt nel) ht) (.cons ⟨tk, rfl⟩ (.cons ru .nil)) (by show 2 <= sizeLine; decide), rfl, ?_, ?_, fun b hb => ?_⟩
  ·exact ⟨_, x, rfl, I.hok.fresh (Nat.le_refl _), rfl, fun ys hy => by rw [zd2 I hy hq]; exact hx⟩
  ·exact ⟨y, he'', hst.1.at fun o q => hsb.extBut _ _ (Ne.symm hne) q⟩
  ·have z := (hf b hb).1
   obtain ⟨o, ho⟩ : ∃ o, s.heap.get? b = some o := by
    rcases List.mem_cons.mp hb with q | q
    ·subst q; exact ⟨_, he⟩
    ·have : b = it := by simpa using q
     subst this; obtain ⟨o, ho, _⟩ := hi.obj; exact ⟨o, ho⟩
   rw [Zn (Nat.ne_of_lt (Heap.lt_size ho))]; exact z
 done := by
  intro X hP hw hK hc i pins s σ H E I hf st hg
  subst hP hw hK
  obtain ⟨xs, hq, hx⟩ := hg
  obtain ⟨its, rv, hs, hz⟩ := Vt I hq
  obtain ⟨old, he, hi⟩ := st
  have hl := rv.length
  have D := zcm (prog := X.prog) (w := X.w) (A := X.A.in1) (I.ok.hd hc) it l hli its.toArray t
  -- the draws beyond the end: at the place i
  have D' : Draws X.prog X.w X.A.in1 it [it, l] i (fun j v => j < i /\ its.toArray[j]? = some v \/ True) (fun j h => SrI h it l j t /\ SrS h l its.toArray t /\ i <= j) := ⟨fun _ _ st => let ⟨o, ho, _⟩ := st.1.obj; ⟨o, ho⟩,
   fun _ _ _ st hk => ⟨st.1.at fun o e => hk it (by simp) o e, st.2.1.at fun o e => hk l (by simp) o e, st.2.2⟩,
   fun j s Q E hj st hQ => absurd st.2.2 (by omega), fun s Q E st hE => zcl (I.ok.hd hc) st.1 st.2.1 (by simp; omega) hE⟩
  exact wpAny_pyNext_enum_endD D' he ⟨hi, hs, Nat.le_refl _⟩ fun h' eb => ⟨rfl, inv_ch (ch := [e, it]) (s' := { s with heap := h' }) I hf rfl rfl fun b o hb q => eb b o (fun z => hb (by simp [z])) q⟩
 self := fun _ _ _ _ _ st h => by
  obtain ⟨old, he, hi⟩ := st
  exact wpAny_pyIter_enum he h
section
variable {X : Cx} {W : Str -> Hp -> Prop} {tg a b c e : Expr} {es elts : List Expr} {da db : DE} {pos : Pos}
def iEn (K : PySem.W.Frag) (ta : TA) : TI := fun σ H R => ta σ H fun vs H1 => ∃ a t, vs = [.ref a] /\ (∃ xs, Sq K H1 a xs t) /\ R (Ite K a t) H1
theorem pi_enum {l : Expr} {ta : TA} {p tp : Pos} {k : Nat} (hg : Gl X "enumerate") (hm : X.mg "enumerate" = none) (hl : PA X [l] ta) (hs : starEach [l] X.env = (false, eval l X.env) :: starEach [] X.env := by rfl) : PI X (.Tuple elts k tp) (.Call (.Name "enumerate" p) [l] [] pos) (iEn X.K ta) := by
 intro pins s σ H R I h
 refine Call_ (Uf I hg hm (show bootBuiltins "enumerate" = some (.type "enumerate") by decide +kernel) (PyProof.Rows.callWith_type1 (thn (hl pos pins s σ H _ I h) fun us s1 ⟨vs, H1, I1, r1, q1⟩ => ?_) hs rfl))
 obtain ⟨l, t, rfl, ⟨xs, hq⟩, q⟩ := q1
 obtain ⟨u, rfl, ru⟩ := UR r1
 cases ru
 obtain ⟨its, rv, hsr, hz⟩ := Vt I1 hq
 have lt := hsr.lt
 refine zfy hsr fun h' he hi kk => wpAny_pyIter_enum he ?_
 have I2 : Inv X pins σ H1 { s1 with heap := h' } := I1.kept (t' := s1.toks) kk
 refine ⟨_, [s1.heap.objs.size + 1, s1.heap.objs.size], _, Ite X.K l t, H1, rfl, I2, zdX l _ _ t (Nat.succ_ne_self _) (Nat.ne_of_lt (Nat.lt_succ_of_lt lt)) (Nat.ne_of_lt lt), ⟨_, he, hi⟩, fun b hb => ?_, q⟩
 have hb' : s1.heap.objs.size <= b := by
  rcases List.mem_cons.mp hb with z | z
  ·rw [z]; exact Nat.le_succ _
  ·have : b = s1.heap.objs.size := by simpa using z
   rw [this]; exact Nat.le_refl _
 exact I1.fpOk hb' (I1.hok.fresh hb')
theorem zaX : ∀ (xs : List PyData) (n i : Nat), (zah n xs)[i]? = (xs[i]?).map fun x => .tuple [.int ((n + i : Nat) : Int), x]
 | [], n, i => by simp [zah]
 | x :: r, n, 0 => by simp [zah]
 | x :: r, n, i + 1 => by
  simp only [zah, List.getElem?_cons_succ, zaX r (n + 1) i]
  have : n + 1 + i = n + (i + 1) := by omega
  rw [this]
theorem zaW : ∀ (xs : List PyData) (n : Nat), (zah n xs).length = xs.length
 | [], n => rfl
 | x :: r, n => by simp [zah, zaW r (n + 1)]
theorem zcf {H : Hp} {P : Pv} {l : Addr} {t : Bool} {xs : List PyData} {vs : List V} (sq : ∀ H' P', Tr H P H' P' -> Sq X.K H' l vs t) (r : Rls X.K H P xs vs) : Yld X.K (Ite X.K l t) (zah 0 xs) H P := by
 intro H' P' tr nf i
 have r' := Rls.go tr xs vs r
 have s' := sq H' P' tr
 refine ⟨fun tt e => ?_, fun hl => ⟨vs, s', by rw [zaW] at hl; rw [<- r.length]; exact hl⟩⟩
 rw [zaX] at e
 cases ex : xs[i]? with
 | none => rw [ex] at e; cases e
 | some x =>
  rw [ex] at e
  simp only [Option.map_some, Option.some.injEq] at e
  subst e
  obtain ⟨v, ev, rv⟩ := r'.getT ex
  refine ⟨⟨vs, v, s', ev⟩, fun y H'' yy => ?_⟩
  obtain ⟨p, v', rfl, hp, rfl, hv⟩ := yy
  have := hv vs s'
  rw [ev] at this
  cases this
  refine ⟨Zr hp, ZH.mpr ⟨p, _, rfl, .off Zp (nf p hp), Zx.mpr ⟨.int i, [v], rfl, ZL.mpr (by simp), Zx.mpr ⟨v, [], rfl, Rl.go (.same (Zr hp)) x v rv, ZM.mpr rfl⟩⟩⟩⟩
theorem iv_enum {p tp : Pos} {k : Nat} (hg : Gl X "enumerate") (hm : X.mg "enumerate" = none) (ha : EV X W a da) (hs : starEach [a] X.env = (false, eval a X.env) :: starEach [] X.env := by rfl) : IV X W (.Tuple elts k tp) (.Call (.Name "enumerate" p) [a] [] pos) (iEnum (iSeq da)) :=
 U2 (pi_enum hg hm (ZV ha YX hs) hs) fun σ H R ⟨G, P, h, q⟩ => by
  unfold iEnum iSeq at q
  cases e : da G with
  | stuck => rw [e] at q; exact q.elim
  | exc c => rw [e] at q; exact ⟨G, P, h, by rw [e]; exact q⟩
  | ok tx =>
   rw [e, Res.bind_ok] at q
   refine ⟨G, P, h, ?_⟩
   rw [e]
   intro x H1 s1 rx
   have h1 := h.same s1
   cases tx <;> try exact q.elim
   ·obtain ⟨l, vs, rfl, sl, rs⟩ := ZN.mp rx
    exact ⟨l, false, rfl, ⟨vs, sl.sq⟩, q _ H1 s1 (zcf (t := false) (fun H' P' tr => (sl.go tr).sq) rs)⟩
   ·obtain ⟨l, vs, rfl, sl, rs⟩ := ZH.mp rx
    exact ⟨l, true, rfl, ⟨vs, sl.sq⟩, q _ H1 s1 (zcf (t := true) (fun H' P' tr => (sl.go tr).sq) rs)⟩
end
end Fx
namespace Fx
open PySem PySem.Spec PyProof.Rows L2
section
variable {prog : Program} {w : World} {A : Around} {E : Value -> Shared -> Prop} {s : Shared}
theorem zip_item {z TI TO i1 i2 l1 l2 : Addr} {k1 k2 : Nat} {xs ys : Array Value} {x y a b : Value} {t1 t2 : Bool} {Q : Value -> Shared -> Prop} (D : ZipApart z TI TO i1 i2 l1 l2)
  (hz : IsZip s.heap z TI TO .none) (hTI : IsPair s.heap TI (.ref i1) (.ref i2)) (hTO : IsPair s.heap TO a b)
  (h1 : SrI s.heap i1 l1 k1 t1) (h2 : SrI s.heap i2 l2 k2 t2) (hl1 : SrS s.heap l1 xs t1) (hl2 : SrS s.heap l2 ys t2) (hx : xs[k1]? = some x) (hy : ys[k2]? = some y)
  (hQ : ∀ h', IsZip h' z TI TO (rawInt s.heap.objs.size) -> IsPair h' TO x y -> SrI h' i1 l1 (k1 + 1) t1 -> SrI h' i2 l2 (k2 + 1) t2 -> IsPair h' s.heap.objs.size x y ->
   (∀ c o, c ∉ [z, TO, i1, i2] -> s.heap.get? c = some o -> h'.get? c = some o) -> Q (.ref s.heap.objs.size) { s with heap := h' }) :
  wpAny (model prog w) A (Builtin.«zip.__next__» ⟨[.ref z], []⟩) (fun fin s' => ∃ v, fin = .done (.ret v) /\ Q v s') E s := by
 show wpAny _ _ (field (.ref z) 2 >>= _) _ _ _
 refine wpAny_bind (wpAny_field hz rfl (x := .bool false) rfl ?_)
 show wpAny _ _ (field (.ref z) 3 >>= _) _ _ _
 refine wpAny_bind (wpAny_field hz rfl (x := .ref TI) rfl ?_)
 refine wpAny_bind (wpAny_seqItems hTI rfl ?_)
 show wpAny _ _ (Builtin.SmallTypes.ownedTupleIsFree (.ref z) >>= _) _ _ _
 refine wpAny_bind ?_
 unfold Builtin.SmallTypes.ownedTupleIsFree
 refine wpAny_bind (wpAny_field hz rfl (x := .none) rfl (wpAny_pure ?_))
 simp only [if_true]
 refine wpAny_bind (wpAny_rule ?_)
 refine wpAny_bind (wpAny_field hz rfl (x := .ref TO) rfl ?_)
 refine wpAny_bind (wpAny_setField_rec hz (by simp) fun g1 z1 e1 => ?_)
 replace z1 : IsZip g1 z TI TO .ellipsis := z1
 refine wpAny_bind ?_
 simp only [List.zipIdx_cons, List.zipIdx_nil, List.forIn_cons, List.forIn_nil]
 -- the first draw
 refine wpAny_bind (wpAny_bind (wpAny_onRaise ?_))
 show wpAny _ _ (Builtin.SmallTypes.nextOf (.ref i1) >>= _) _ _ _
 refine wpAny_bind (JA (h1.at fun o e => e1.extBut _ _ D.i1z e) (hl1.at fun o e => e1.extBut _ _ D.l1z e) hx fun g2 d2 e2 => wpAny_pure ?_)
 have o2 : IsPair g2 TO a b := e2.extBut _ _ D.TOi1 (e1.extBut _ _ D.TOz hTO)
 refine wpAny_bind (wpAny_seqItems o2 rfl ?_)
 refine wpAny_bind (wpAny_updateSeq_pair o2 fun g3 o3 e3 => ?_)
 replace o3 : IsPair g3 TO x b := o3
 refine wpAny_bind (wpAny_letGo (wpAny_pure ?_))
 -- the second
 refine wpAny_bind (wpAny_bind (wpAny_onRaise ?_))
 show wpAny _ _ (Builtin.SmallTypes.nextOf (.ref i2) >>= _) _ _ _
 refine wpAny_bind (JA (h2.at fun o e => e3.extBut _ _ D.TOi2.symm (e2.extBut _ _ D.i12.symm (e1.extBut _ _ D.i2z e))) (hl2.at fun o e => e3.extBut _ _ D.l2TO (e2.extBut _ _ D.l2i1 (e1.extBut _ _ D.l2z e))) hy fun g4 d4 e4 => wpAny_pure ?_)
 have o4 : IsPair g4 TO x b := e4.extBut _ _ D.TOi2 o3
 refine wpAny_bind (wpAny_seqItems o4 rfl ?_)
 refine wpAny_bind (wpAny_updateSeq_pair o4 fun g5 o5 e5 => ?_)
 replace o5 : IsPair g5 TO x y := o5
 refine wpAny_bind (wpAny_letGo (wpAny_pure (wpAny_pure ?_)))
 -- the pair
 refine wpAny_bind (wpAny_seqItems o5 rfl ?_)
 refine wpAny_bind (wpAny_newTuple ?_)
 have sz : g5.objs.size = s.heap.objs.size := by rw [e5.1, e4.1, e3.1, e2.1, e1.1]
 have z5 : IsZip g5 z TI TO .ellipsis := e5.extBut _ _ D.TOz.symm (e4.extBut _ _ D.i2z.symm (e3.extBut _ _ D.TOz.symm (e2.extBut _ _ D.i1z.symm z1)))
 have k5 : ∀ c o, c ∉ [z, TO, i1, i2] -> s.heap.get? c = some o -> g5.get? c = some o := fun c o hc e => by
  simp only [List.mem_cons, List.not_mem_nil, or_false, not_or] at hc
  exact e5.extBut _ _ hc.2.1 (e4.extBut _ _ hc.2.2.2 (e3.extBut _ _ hc.2.1 (e2.extBut _ _ hc.2.2.1 (e1.extBut _ _ hc.1 e))))
 have i5 : SrI g5 i1 l1 (k1 + 1) t1 := d2.at fun o e => e5.extBut _ _ D.TOi1.symm (e4.extBut _ _ D.i12 (e3.extBut _ _ D.TOi1.symm e))
 have j5 : SrI g5 i2 l2 (k2 + 1) t2 := d4.at fun o e => e5.extBut _ _ D.TOi2.symm e
 have zlt : z < g5.objs.size := Heap.lt_size z5
 show wpAny _ _ (Builtin.SmallTypes.ownedTupleHandOut (.ref z) (.ref g5.objs.size) >>= _) _ _ _
 refine wpAny_bind ?_
 unfold Builtin.SmallTypes.ownedTupleHandOut
 have z6 : IsZip (g5.push { cls := .type "tuple", data := .seq #[x, y] }) z TI TO .ellipsis := Heap.get?_push_of_some _ z5
 refine wpAny_bind (wpAny_setField_rec z6 (by simp) fun g7 z7 e7 => ?_)
 replace z7 : IsZip g7 z TI TO (rawInt g5.objs.size) := z7
 refine wpAny_setField_rec z7 (by simp) fun g8 z8 e8 => ?_
 replace z8 : IsZip g8 z TI TO (rawInt g5.objs.size) := z8
 have up : ∀ c o, c ≠ z -> g5.get? c = some o -> g8.get? c = some o := fun c o c1 e => e8.extBut _ _ c1 (e7.extBut _ _ c1 (Heap.get?_push_of_some _ e))
 have t8 : IsPair g8 g5.objs.size x y := e8.extBut _ _ (Nat.ne_of_gt zlt) (e7.extBut _ _ (Nat.ne_of_gt zlt) (Heap.get?_push_size _ rfl))
 rw [sz] at z8 t8
 refine wpAny_pure ⟨_, rfl, ?_⟩
 show Q (.ref g5.objs.size) _
 rw [sz]
 exact hQ g8 z8 (up _ _ D.TOz o5) (i5.at fun o e => up _ o D.i1z e) (j5.at fun o e => up _ o D.i2z e) t8 fun c o hc e => up c o (fun q => hc (by simp [q])) (k5 c o hc e)
theorem zip_end {z TI TO i1 i2 l1 l2 : Addr} {k1 k2 : Nat} {xs ys : Array Value} {a b : Value} {t1 t2 : Bool} {Q : Fin -> Shared -> Prop} (hh : A.handled = none) (D : ZipApart z TI TO i1 i2 l1 l2)
  (hz : IsZip s.heap z TI TO .none) (hTI : IsPair s.heap TI (.ref i1) (.ref i2)) (hTO : IsPair s.heap TO a b)
  (h1 : SrI s.heap i1 l1 k1 t1) (h2 : SrI s.heap i2 l2 k2 t2) (hl1 : SrS s.heap l1 xs t1) (hl2 : SrS s.heap l2 ys t2) (hend : xs[k1]? = none \/ ys[k2]? = none)
  (hE : ∀ h' e, (∀ c o, c ∉ [z, TO, i1, i2] -> s.heap.get? c = some o -> h'.get? c = some o) -> (∃ o, h'.get? e = some o /\ o.cls = .type "StopIteration") -> E (.ref e) { s with heap := h' }) :
  wpAny (model prog w) A (Builtin.«zip.__next__» ⟨[.ref z], []⟩) Q E s := by
 show wpAny _ _ (field (.ref z) 2 >>= _) _ _ _
 refine wpAny_bind (wpAny_field hz rfl (x := .bool false) rfl ?_)
 show wpAny _ _ (field (.ref z) 3 >>= _) _ _ _
 refine wpAny_bind (wpAny_field hz rfl (x := .ref TI) rfl ?_)
 refine wpAny_bind (wpAny_seqItems hTI rfl ?_)
 show wpAny _ _ (Builtin.SmallTypes.ownedTupleIsFree (.ref z) >>= _) _ _ _
 refine wpAny_bind ?_
 unfold Builtin.SmallTypes.ownedTupleIsFree
 refine wpAny_bind (wpAny_field hz rfl (x := .none) rfl (wpAny_pure ?_))
 simp only [if_true]
 refine wpAny_bind (wpAny_rule ?_)
 refine wpAny_bind (wpAny_field hz rfl (x := .ref TO) rfl ?_)
 refine wpAny_bind (wpAny_setField_rec hz (by simp) fun g1 z1 e1 => ?_)
 replace z1 : IsZip g1 z TI TO .ellipsis := z1
 refine wpAny_bind ?_
 simp only [List.zipIdx_cons, List.zipIdx_nil, List.forIn_cons, List.forIn_nil]
 refine wpAny_bind (wpAny_bind (wpAny_onRaise ?_))
 show wpAny _ _ (Builtin.SmallTypes.nextOf (.ref i1) >>= _) _ _ _
 cases hx : xs[k1]? with
 | none =>
  refine wpAny_bind (zcl hh (h1.at fun o e => e1.extBut _ _ D.i1z e) (hl1.at fun o e => e1.extBut _ _ D.l1z e) hx fun g2 e e2 he => ?_)
  obtain ⟨oe, hoe, hce⟩ := he
  have z2 : IsZip g2 z TI TO .ellipsis := e2 _ _ D.i1z.symm z1
  have hez : e ≠ z := fun q => by subst q; rw [z2] at hoe; cases hoe; simp at hce
  refine wpAny_setField_rec z2 (by simp) fun g3 _ e3 => hE g3 e (fun c o hc q => ?_) ⟨oe, e3.extBut _ _ hez hoe, hce⟩
  simp only [List.mem_cons, List.not_mem_nil, or_false, not_or] at hc
  exact e3.extBut _ _ hc.1 (e2 _ _ hc.2.2.1 (e1.extBut _ _ hc.1 q))
 | some x =>
  have hy : ys[k2]? = none := by
   rcases hend with h | h
   ·rw [hx] at h; cases h
   ·exact h
  refine wpAny_bind (JA (h1.at fun o e => e1.extBut _ _ D.i1z e) (hl1.at fun o e => e1.extBut _ _ D.l1z e) hx fun g2 d2 e2 => wpAny_pure ?_)
  have o2 : IsPair g2 TO a b := e2.extBut _ _ D.TOi1 (e1.extBut _ _ D.TOz hTO)
  refine wpAny_bind (wpAny_seqItems o2 rfl ?_)
  refine wpAny_bind (wpAny_updateSeq_pair o2 fun g3 o3 e3 => ?_)
  refine wpAny_bind (wpAny_letGo (wpAny_pure ?_))
  refine wpAny_bind (wpAny_bind (wpAny_onRaise ?_))
  show wpAny _ _ (Builtin.SmallTypes.nextOf (.ref i2) >>= _) _ _ _
  refine wpAny_bind (zcl hh (h2.at fun o e => e3.extBut _ _ D.TOi2.symm (e2.extBut _ _ D.i12.symm (e1.extBut _ _ D.i2z e))) (hl2.at fun o e => e3.extBut _ _ D.l2TO (e2.extBut _ _ D.l2i1 (e1.extBut _ _ D.l2z e))) hy fun g4 e e4 he => ?_)
  obtain ⟨oe, hoe, hce⟩ := he
  have z4 : IsZip g4 z TI TO .ellipsis := e4 _ _ D.i2z.symm (e3.extBut _ _ D.TOz.symm (e2.extBut _ _ D.i1z.symm z1))
  have hez : e ≠ z := fun q => by subst q; rw [z4] at hoe; cases hoe; simp at hce
  refine wpAny_setField_rec z4 (by simp) fun g5 _ e5 => hE g5 e (fun c o hc q => ?_) ⟨oe, e5.extBut _ _ hez hoe, hce⟩
  simp only [List.mem_cons, List.not_mem_nil, or_false, not_or] at hc
  exact e5.extBut _ _ hc.1 (e4 _ _ hc.2.2.2 (e3.extBut _ _ hc.2.1 (e2.extBut _ _ hc.2.2.1 (e1.extBut _ _ hc.1 q))))
theorem zip_pn {z TI TO i1 i2 l1 l2 : Addr} {k1 k2 : Nat} {xs ys : Array Value} {x y a b : Value} {t1 t2 : Bool} {Q : Option Value -> Shared -> Prop} (D : ZipApart z TI TO i1 i2 l1 l2)
  (hz : IsZip s.heap z TI TO .none) (hTI : IsPair s.heap TI (.ref i1) (.ref i2)) (hTO : IsPair s.heap TO a b)
  (h1 : SrI s.heap i1 l1 k1 t1) (h2 : SrI s.heap i2 l2 k2 t2) (hl1 : SrS s.heap l1 xs t1) (hl2 : SrS s.heap l2 ys t2) (hx : xs[k1]? = some x) (hy : ys[k2]? = some y)
  (hQ : ∀ h', IsZip h' z TI TO (rawInt s.heap.objs.size) -> IsPair h' TO x y -> SrI h' i1 l1 (k1 + 1) t1 -> SrI h' i2 l2 (k2 + 1) t2 -> IsPair h' s.heap.objs.size x y ->
   (∀ c o, c ∉ [z, TO, i1, i2] -> s.heap.get? c = some o -> h'.get? c = some o) -> Q (some (.ref s.heap.objs.size)) { s with heap := h' }) :
  wpAny (model prog w) A (pyNext (.ref z)) Q E s := by
 have hT : s.TypeIs (.ref z) "zip" := ⟨_, hz, rfl⟩
 unfold pyNext
 exact wpAny_bind (wpAny_attempt (wpAny_callSpecial?_slot (name := Str.ofString "__next__") hT F.slot_zip_next
  (wpAny_call_entry F.slot_zip_next hT F.entry_zip_next (zip_item D hz hTI hTO h1 h2 hl1 hl2 hx hy fun h' a1 a2 a3 a4 a5 a6 => wpAny_pure (hQ h' a1 a2 a3 a4 a5 a6)) (F.args_zip_next_1 _))))
theorem zip_pe {z TI TO i1 i2 l1 l2 : Addr} {k1 k2 : Nat} {xs ys : Array Value} {a b : Value} {t1 t2 : Bool} {Q : Option Value -> Shared -> Prop} (hh : A.handled = none) (D : ZipApart z TI TO i1 i2 l1 l2)
  (hz : IsZip s.heap z TI TO .none) (hTI : IsPair s.heap TI (.ref i1) (.ref i2)) (hTO : IsPair s.heap TO a b)
  (h1 : SrI s.heap i1 l1 k1 t1) (h2 : SrI s.heap i2 l2 k2 t2) (hl1 : SrS s.heap l1 xs t1) (hl2 : SrS s.heap l2 ys t2) (hend : xs[k1]? = none \/ ys[k2]? = none)
  (hQ : ∀ h', (∀ c o, c ∉ [z, TO, i1, i2] -> s.heap.get? c = some o -> h'.get? c = some o) -> Q none { s with heap := h' }) : wpAny (model prog w) A (pyNext (.ref z)) Q E s := by
 have hT : s.TypeIs (.ref z) "zip" := ⟨_, hz, rfl⟩
 unfold pyNext
 refine wpAny_bind (wpAny_attempt (wpAny_callSpecial?_slot (name := Str.ofString "__next__") hT F.slot_zip_next
  (wpAny_call_entry F.slot_zip_next hT F.entry_zip_next (zip_end hh D hz hTI hTO h1 h2 hl1 hl2 hend fun h' e hk he => ?_) (F.args_zip_next_1 _))))
 obtain ⟨o, ho, hc⟩ := he
 exact wpAny_bind (wpAny_isInstance (T := "StopIteration") (b := true) ⟨o, ho, hc⟩ isSubtype_stop (wpAny_pure (hQ _ hk)))
abbrev zH1 (h : Heap) (l1 : Addr) (t1 : Bool) : Heap := h.push (QY l1 t1)
abbrev zH2 (h : Heap) (l1 l2 : Addr) (t1 t2 : Bool) : Heap := (zH1 h l1 t1).push (QY l2 t2)
abbrev zH3 (h : Heap) (l1 l2 : Addr) (t1 t2 : Bool) : Heap := (zH2 h l1 l2 t1 t2).push { cls := .type "tuple", data := .seq #[.ref h.objs.size, .ref (zH1 h l1 t1).objs.size] }
abbrev zH4 (h : Heap) (l1 l2 : Addr) (t1 t2 : Bool) : Heap := (zH3 h l1 l2 t1 t2).push { cls := .type "tuple", data := .seq #[.none, .none] }
abbrev zH5 (h : Heap) (l1 l2 : Addr) (t1 t2 : Bool) : Heap := (zH4 h l1 l2 t1 t2).push { cls := .type "zip", data := .fields #[.none, .bool false, .bool false, .ref (zH2 h l1 l2 t1 t2).objs.size, .ref (zH3 h l1 l2 t1 t2).objs.size] }
theorem zeL (l1 l2 : Addr) (xs ys : Array Value) (t1 t2 : Bool) :
  Meets (Builtin.«zip.__new__» ⟨[.type "zip", .ref l1, .ref l2], []⟩) (fun _ R s => SrS s.heap l1 xs t1 /\ SrS s.heap l2 ys t2 /\ R (.ok (.ret (.ref (zH4 s.heap l1 l2 t1 t2).objs.size))) { s with heap := zH5 s.heap l1 l2 t1 t2 }) :=
 .of_wp fun prog w A R s h => by
  obtain ⟨hp, g, d, tk, os⟩ := s
  obtain ⟨hl1, hl2, h⟩ := h
  have hsub := sub_zip
  have L1 : SrS (Shared.heap ⟨hp, g, d, tk, os⟩) l1 xs t1 := hl1
  have L2 : SrS (Shared.heap ⟨hp.push (QY l1 t1), g, d, tk, os⟩) l2 ys t2 := hl2.at fun o e => Heap.get?_push_of_some _ e
  wp_walk using UV L1, UV L2
  exact ⟨_, rfl, h⟩
theorem call_zip {l1 l2 : Addr} {xs ys : Array Value} {t1 t2 : Bool} {Q : Value -> Shared -> Prop} (hl1 : SrS s.heap l1 xs t1) (hl2 : SrS s.heap l2 ys t2)
  (h : ∀ h', IsZip h' (s.heap.objs.size + 4) (s.heap.objs.size + 2) (s.heap.objs.size + 3) .none -> IsPair h' (s.heap.objs.size + 2) (.ref s.heap.objs.size) (.ref (s.heap.objs.size + 1)) ->
   IsPair h' (s.heap.objs.size + 3) .none .none -> SrI h' s.heap.objs.size l1 0 t1 -> SrI h' (s.heap.objs.size + 1) l2 0 t2 ->
   (∀ c o, s.heap.get? c = some o -> h'.get? c = some o) -> Q (.ref (s.heap.objs.size + 4)) { s with heap := h' }) :
  wpAny (model prog w) A (call (.type "zip") [.ref l1, .ref l2]) Q E s := by
 refine callType_new F.called_zip (by decide) (F.typeCall_zip_2 _ _) (F.newCall_zip_2 _ _) (fun obj => F.args_object_init_3 obj _ _) F.entry_zip_new (zeL l1 l2 xs ys t1 t2) ⟨hl1, hl2, ?_⟩
 have z1 : (zH1 s.heap l1 t1).objs.size = s.heap.objs.size + 1 := Heap.size_push ..
 have z2 : (zH2 s.heap l1 l2 t1 t2).objs.size = s.heap.objs.size + 2 := by rw [Heap.size_push, z1]
 have z3 : (zH3 s.heap l1 l2 t1 t2).objs.size = s.heap.objs.size + 3 := by rw [Heap.size_push, z2]
 have z4 : (zH4 s.heap l1 l2 t1 t2).objs.size = s.heap.objs.size + 4 := by rw [Heap.size_push, z3]
 have g5 : (zH5 s.heap l1 l2 t1 t2).get? (zH4 s.heap l1 l2 t1 t2).objs.size = some _ := Heap.get?_push_size _ rfl
 have g4 : (zH5 s.heap l1 l2 t1 t2).get? (zH3 s.heap l1 l2 t1 t2).objs.size = some _ := Heap.get?_push_of_some _ (Heap.get?_push_size _ rfl)
 have g3 : (zH5 s.heap l1 l2 t1 t2).get? (zH2 s.heap l1 l2 t1 t2).objs.size = some _ := Heap.get?_push_of_some _ (Heap.get?_push_of_some _ (Heap.get?_push_size _ rfl))
 have g2 : SrI (zH5 s.heap l1 l2 t1 t2) (zH1 s.heap l1 t1).objs.size l2 0 t2 := SrI.new.at fun o e => Heap.get?_push_of_some _ (Heap.get?_push_of_some _ (Heap.get?_push_of_some _ e))
 have g1 : SrI (zH5 s.heap l1 l2 t1 t2) s.heap.objs.size l1 0 t1 := SrI.new.at fun o e => Heap.get?_push_of_some _ (Heap.get?_push_of_some _ (Heap.get?_push_of_some _ (Heap.get?_push_of_some _ e)))
 show _ /\ _
 rw [z2, z3, z4] at g5
 rw [z1, z2] at g3
 rw [z3] at g4
 rw [z1] at g2
 rw [z4]
 exact ⟨⟨_, g5, rfl⟩, h _ g5 g3 g4 g1 g2 fun c o x => Heap.get?_push_of_some _ (Heap.get?_push_of_some _ (Heap.get?_push_of_some _ (Heap.get?_push_of_some _ (Heap.get?_push_of_some _ x))))⟩
end
def Itz (K : PySem.W.Frag) (l1 l2 : Addr) (t1 t2 : Bool) : It :=
 ⟨fun i H => ∃ xs ys x y, Sq K H l1 xs t1 /\ Sq K H l2 ys t2 /\ xs[i]? = some x /\ ys[i]? = some y,
   fun i H x H' => ∃ p v w, x = .ref p /\ H p = none /\ H' = upd H p (.tup [v, w]) /\ (∀ xs, Sq K H l1 xs t1 -> xs[i]? = some v) /\ ∀ ys, Sq K H l2 ys t2 -> ys[i]? = some w,
   fun i H => ∃ xs ys, Sq K H l1 xs t1 /\ Sq K H l2 ys t2 /\ (xs.length <= i \/ ys.length <= i)⟩
theorem turn_zip {P : Program} {w : World} {K : PySem.W.Frag} {elts : List Expr} {k : Nat} {pos : Pos} (z TI TO i1 i2 l1 l2 : Addr) (t1 t2 : Bool) (D : ZipApart z TI TO i1 i2 l1 l2) :
  Turn P w K (.Tuple elts k pos) (Itz K l1 l2 t1 t2) [z, TI, TO, i1, i2] z (fun i h => IsZip h z TI TO .none /\ IsPair h TI (.ref i1) (.ref i2) /\ (∃ a b, IsPair h TO a b) /\ SrI h i1 l1 i t1 /\ SrI h i2 l2 i t2) where
 mem := by simp
 obj := fun i h st b hb => by
  obtain ⟨hz, hTI, ⟨a, c, hTO⟩, h1, h2⟩ := st
  simp only [List.mem_cons, List.not_mem_nil, or_false] at hb
  rcases hb with rfl | rfl | rfl | rfl | rfl
  ·exact ⟨_, hz, fun v q => by cases q⟩
  ·exact ⟨_, hTI, fun v q => by cases q⟩
  ·exact ⟨_, hTO, fun v q => by cases q⟩
  ·exact h1.obj
  ·exact h2.obj
 keep := fun i h h' st kk => by
  obtain ⟨hz, hTI, ⟨a, c, hTO⟩, h1, h2⟩ := st
  exact ⟨kk z (by simp) _ hz, kk TI (by simp) _ hTI, ⟨a, c, kk TO (by simp) _ hTO⟩, h1.at fun o e => kk i1 (by simp) o e, h2.at fun o e => kk i2 (by simp) o e⟩
 item := by
  intro X hP hw hK hc i pins s σ H E I hf st hg
  subst hP hw hK
  obtain ⟨xs, ys, x, y, hq1, hq2, hx, hy⟩ := hg
  obtain ⟨a1, r1, s1, _⟩ := Vt I hq1
  obtain ⟨a2, r2, s2, _⟩ := Vt I hq2
  obtain ⟨u1, hu1, ru1⟩ := r1.get hx
  obtain ⟨u2, hu2, ru2⟩ := r2.get hy
  obtain ⟨hz, hTI, ⟨a, c, hTO⟩, h1, h2⟩ := st
  have fresh : ∀ b o, s.heap.get? b = some o -> b ≠ s.heap.objs.size := fun b o e => Nat.ne_of_lt (Heap.lt_size e)
  refine zip_pn D hz hTI hTO h1 h2 s1 s2 (x := u1) (y := u2) (by simpa using hu1) (by simpa using hu2) fun h' z' o' i1' i2' p' kk => ?_
  refine ⟨_, rfl, wpAny_letOwnedTupleGo_zip z' fun h'' z'' hsb => ?_⟩
  have ke : ∀ b o, b ∉ [z, TI, TO, i1, i2] -> s.heap.get? b = some o -> h''.get? b = some o := fun b o hb e => by
   simp only [List.mem_cons, List.not_mem_nil, or_false, not_or] at hb
   exact hsb.extBut _ _ hb.1 (kk b o (by simp [hb.1, hb.2.2.1, hb.2.2.2.1, hb.2.2.2.2]) e)
  refine ⟨.ref s.heap.objs.size, upd H s.heap.objs.size (.tup [x, y]), zeZ (s' := { s with heap := h'' }) (its := [u1, u2]) I hf rfl rfl ke (hsb.extBut _ _ (Ne.symm (fresh z _ hz)) p') (.cons ru1 (.cons ru2 .nil)) (by show 2 <= sizeLine; decide), rfl, ?_, ?_, fun b hb => ?_⟩
  ·exact ⟨_, x, y, rfl, I.hok.fresh (Nat.le_refl _), rfl, fun zs hz => by rw [zd2 I hz hq1]; exact hx, fun zs hz => by rw [zd2 I hz hq2]; exact hy⟩
  ·exact ⟨z'', hsb.extBut _ _ D.TIz (kk TI _ (by simp [D.TIz, D.TITO, D.TIi1, D.TIi2]) hTI), ⟨_, _, hsb.extBut _ _ D.TOz o'⟩, i1'.at fun o e => hsb.extBut _ _ D.i1z e, i2'.at fun o e => hsb.extBut _ _ D.i2z e⟩
  ·have q := (hf b hb).1
   obtain ⟨o, ho⟩ : ∃ o, s.heap.get? b = some o := by
    simp only [List.mem_cons, List.not_mem_nil, or_false] at hb
    rcases hb with rfl | rfl | rfl | rfl | rfl
    ·exact ⟨_, hz⟩
    ·exact ⟨_, hTI⟩
    ·exact ⟨_, hTO⟩
    ·obtain ⟨o, ho, _⟩ := h1.obj; exact ⟨o, ho⟩
    ·obtain ⟨o, ho, _⟩ := h2.obj; exact ⟨o, ho⟩
   rw [Zn (fresh b o ho)]; exact q
 done := by
  intro X hP hw hK hc i pins s σ H E I hf st hg
  subst hP hw hK
  obtain ⟨xs, ys, hq1, hq2, hx⟩ := hg
  obtain ⟨a1, r1, s1, _⟩ := Vt I hq1
  obtain ⟨a2, r2, s2, _⟩ := Vt I hq2
  obtain ⟨hz, hTI, ⟨a, c, hTO⟩, h1, h2⟩ := st
  have n1 := r1.length
  have n2 := r2.length
  have he : a1.toArray[i]? = none \/ a2.toArray[i]? = none := by
   rcases hx with q | q
   ·exact .inl (by simp; omega)
   ·exact .inr (by simp; omega)
  exact zip_pe (I.ok.hd hc) D hz hTI hTO h1 h2 s1 s2 he fun h' kk => ⟨rfl, inv_ch (ch := [z, TI, TO, i1, i2]) (s' := { s with heap := h' }) I hf rfl rfl fun b o hb e => kk b o (fun q => hb (by simp at q ⊢; rcases q with q | q | q | q <;> simp [q])) e⟩
 self := fun _ _ _ _ _ st h => wpAny_pyIter_zip st.1 h
section
variable {X : Cx} {W : Str -> Hp -> Prop} {tg a b c e : Expr} {es elts : List Expr} {da db : DE} {pos : Pos}
def iZp (K : PySem.W.Frag) (ta : TA) : TI := fun σ H R => ta σ H fun vs H1 => ∃ a b t1 t2, vs = [.ref a, .ref b] /\ (∃ xs, Sq K H1 a xs t1) /\ (∃ ys, Sq K H1 b ys t2) /\ R (Itz K a b t1 t2) H1
theorem pi_zip {l1 l2 : Expr} {ta : TA} {p tp : Pos} {k : Nat} (hg : Gl X "zip") (hm : X.mg "zip" = none) (hl : PA X [l1, l2] ta) (hs : starEach [l1, l2] X.env = (false, eval l1 X.env) :: starEach [l2] X.env := by rfl)
  (hpl : (backTo pos (starEach [l2] X.env)).any (·.1) = false := by rfl) : PI X (.Tuple elts k tp) (.Call (.Name "zip" p) [l1, l2] [] pos) (iZp X.K ta) := by
 intro pins s σ H R I h
 refine Call_ (Uf I hg hm (show bootBuiltins "zip" = some (.type "zip") by decide +kernel) (PyProof.Rows.callWith_type1 (thn (hl pos pins s σ H _ I h) fun us s1 ⟨vs, H1, I1, r1, q1⟩ => ?_) hs hpl))
 obtain ⟨l1, l2, t1, t2, rfl, ⟨xs, hq1⟩, ⟨ys, hq2⟩, q⟩ := q1
 obtain ⟨u1, u2, rfl, ru1, ru2⟩ := vals2 r1
 cases ru1
 cases ru2
 obtain ⟨a1, rv1, s1', _⟩ := Vt I1 hq1
 obtain ⟨a2, rv2, s2', _⟩ := Vt I1 hq2
 have lt1 := s1'.lt
 have lt2 := s2'.lt
 refine call_zip s1' s2' fun h' hz hTI hTO h1 h2 kk => wpAny_pyIter_zip hz ?_
 have I2 : Inv X pins σ H1 { s1 with heap := h' } := I1.kept (t' := s1.toks) kk
 have ap : ZipApart (s1.heap.objs.size + 4) (s1.heap.objs.size + 2) (s1.heap.objs.size + 3) s1.heap.objs.size (s1.heap.objs.size + 1) l1 l2 := by
  constructor <;> (intro e; simp only [Addr] at *; omega)
 refine ⟨_, [s1.heap.objs.size + 4, s1.heap.objs.size + 2, s1.heap.objs.size + 3, s1.heap.objs.size, s1.heap.objs.size + 1], _, Itz X.K l1 l2 t1 t2, H1, rfl, I2, turn_zip _ _ _ _ _ l1 l2 t1 t2 ap, ⟨hz, hTI, ⟨_, _, hTO⟩, h1, h2⟩, fun b hb => ?_, q⟩
 have hb' : s1.heap.objs.size <= b := by
  simp only [List.mem_cons, List.not_mem_nil, or_false] at hb
  rcases hb with rfl | rfl | rfl | rfl | rfl
  ·exact Nat.le_add_right _ _
  ·exact Nat.le_add_right _ _
  ·exact Nat.le_add_right _ _
  ·exact Nat.le_refl _
  ·exact Nat.le_add_right _ _
 exact I1.fpOk hb' (I1.hok.fresh hb')
theorem zce : ∀ (xs ys : List PyData) (i : Nat) (t : PyData), (zipT xs ys)[i]? = some t -> ∃ x y, xs[i]? = some x /\ ys[i]? = some y /\ t = .tuple [x, y]
 | [], ys, i, t, h => by simp [zipT] at h
 | x :: xs, [], i, t, h => by simp [zipT] at h
 | x :: xs, y :: ys, 0, t, h => by simp [zipT] at h; exact ⟨x, y, rfl, rfl, h.symm⟩
 | x :: xs, y :: ys, i + 1, t, h => by
  simp only [zipT, List.getElem?_cons_succ] at h
  obtain ⟨a, b, h1, h2, h3⟩ := zce xs ys i t h
  exact ⟨a, b, by simpa using h1, by simpa using h2, h3⟩
theorem zcd : ∀ (xs ys : List PyData) (i : Nat), (zipT xs ys).length <= i -> xs.length <= i \/ ys.length <= i
 | [], ys, i, h => .inl (Nat.zero_le _)
 | x :: xs, [], i, h => .inr (Nat.zero_le _)
 | x :: xs, y :: ys, 0, h => by simp [zipT] at h
 | x :: xs, y :: ys, i + 1, h => by
  simp only [zipT, List.length_cons] at h
  rcases zcd xs ys i (by omega) with q | q
  ·exact .inl (by simp; omega)
  ·exact .inr (by simp; omega)
theorem yld_zip {H : Hp} {P : Pv} {l1 l2 : Addr} {t1 t2 : Bool} {xs ys : List PyData} {vs ws : List V} (q1 : ∀ H' P', Tr H P H' P' -> Sq X.K H' l1 vs t1) (q2 : ∀ H' P', Tr H P H' P' -> Sq X.K H' l2 ws t2) (r1 : Rls X.K H P xs vs) (r2 : Rls X.K H P ys ws) :
  Yld X.K (Itz X.K l1 l2 t1 t2) (zipT xs ys) H P := by
 intro H' P' tr nf i
 have a1 := Rls.go tr xs vs r1
 have a2 := Rls.go tr ys ws r2
 refine ⟨fun tt e => ?_, fun hl => ⟨vs, ws, q1 H' P' tr, q2 H' P' tr, by rw [<- r1.length, <- r2.length]; exact zcd xs ys i hl⟩⟩
 obtain ⟨x, y, e1, e2, rfl⟩ := zce xs ys i tt e
 obtain ⟨v, ev, rv⟩ := a1.getT e1
 obtain ⟨w, ew, rw'⟩ := a2.getT e2
 refine ⟨⟨vs, ws, v, w, q1 H' P' tr, q2 H' P' tr, ev, ew⟩, fun z H'' yy => ?_⟩
 obtain ⟨p, v', w', rfl, hp, rfl, hv, hw⟩ := yy
 have z1 := hv vs (q1 H' P' tr)
 have z2 := hw ws (q2 H' P' tr)
 rw [ev] at z1
 rw [ew] at z2
 cases z1
 cases z2
 exact ⟨Zr hp, ZH.mpr ⟨p, _, rfl, .off Zp (nf p hp), Zx.mpr ⟨v, [w], rfl, Rl.go (.same (Zr hp)) x v rv, Zx.mpr ⟨w, [], rfl, Rl.go (.same (Zr hp)) y w rw', ZM.mpr rfl⟩⟩⟩⟩
theorem seq_of {K : PySem.W.Frag} {H : Hp} {P : Pv} {t : PyData} {v : V} {xs : List PyData} (r : Rl K H P t v) (e : t = .list xs \/ t = .tuple xs) : ∃ l vs b, v = .ref l /\ (∀ H' P', Tr H P H' P' -> Sq K H' l vs b) /\ Rls K H P xs vs := by
 rcases e with rfl | rfl
 ·obtain ⟨l, vs, rfl, sl, rs⟩ := ZN.mp r
  exact ⟨l, vs, false, rfl, fun H' P' tr => (sl.go tr).sq, rs⟩
 ·obtain ⟨l, vs, rfl, sl, rs⟩ := ZH.mp r
  exact ⟨l, vs, true, rfl, fun H' P' tr => (sl.go tr).sq, rs⟩
theorem Jo {p tp : Pos} {k : Nat} (hg : Gl X "zip") (hm : X.mg "zip" = none) (ha : EV X W a da) (hb : EV X W b db) (hs : starEach [a, b] X.env = (false, eval a X.env) :: starEach [b] X.env := by rfl) (hs2 : starEach [b] X.env = (false, eval b X.env) :: starEach [] X.env := by rfl)
  (hpl : (backTo pos (starEach [b] X.env)).any (·.1) = false := by rfl) : IV X W (.Tuple elts k tp) (.Call (.Name "zip" p) [a, b] [] pos) (iZip (iSeq da) (iSeq db)) :=
 U2 (pi_zip hg hm (ZV ha (ZV hb YX hs2) hs) hs hpl) fun σ H R ⟨G, P, h, q⟩ => by
  unfold iZip iSeq at q
  refine ⟨G, P, h, ?_⟩
  cases ea : da G with
  | stuck => rw [ea] at q; exact q.elim
  | exc c => rw [ea] at q; exact q
  | ok tx =>
   intro x H1 s1 rx
   refine ⟨G, P, h.same s1, ?_⟩
   cases eb : db G with
   | stuck =>
    rw [ea, eb, Res.bind_ok] at q
    cases tx <;> exact q.elim
   | exc c =>
    rw [ea, eb, Res.bind_ok] at q
    cases tx <;> first | exact q.elim | exact fun H' s => q H' (s1.trans s)
   | ok ty =>
    intro y H2 s2 ry
    have q' := q
    rw [ea, eb, Res.bind_ok] at q'
    have fin : ∀ xs ys, (tx = .list xs \/ tx = .tuple xs) -> (ty = .list ys \/ ty = .tuple ys) -> PostI X.K W H P (.ok (zipT xs ys)) R -> ∃ a b t1 t2, [x, y] = [V.ref a, V.ref b] /\ (∃ xs, Sq X.K H2 a xs t1) /\ (∃ ys, Sq X.K H2 b ys t2) /\ R (Itz X.K a b t1 t2) H2 := fun xs ys e1 e2 q' => by
     obtain ⟨l1, v1, b1, rfl, f1, g1⟩ := seq_of (Rl.go (.same s2) tx x rx) e1
     obtain ⟨l2, v2, b2, rfl, f2, g2⟩ := seq_of ry e2
     exact ⟨l1, l2, b1, b2, rfl, ⟨v1, f1 H2 P (.refl _ _)⟩, ⟨v2, f2 H2 P (.refl _ _)⟩, q' _ H2 (s1.trans s2) (yld_zip f1 f2 g1 g2)⟩
    cases tx <;> cases ty <;> first | exact q'.elim | exact fin _ _ (.inl rfl) (.inl rfl) q' | exact fin _ _ (.inl rfl) (.inr rfl) q' | exact fin _ _ (.inr rfl) (.inl rfl) q' | exact fin _ _ (.inr rfl) (.inr rfl) q'
end
end Fx
namespace Fx
open PySem PySem.Spec PyProof.Rows L2
def cf (k : Option NameKind) : Bool := k == some .cell || k == some .free
theorem zdL {k : Option NameKind} (h : cf k = true) : k = some .cell \/ k = some .free := by
 unfold cf at h
 rw [Bool.or_eq_true] at h
 rcases h with h | h
 ·exact .inl (by simpa using h)
 ·exact .inr (by simpa using h)
def capChk (scope : Scope) (env : Env) (N0 N : List Str) (nv : Nat) (cap : List Nat) : Bool :=
 (List.range cap.length).all fun i => match (cap[i]? : Option Nat), (N[nv + i]? : Option Str) with
  | some j, some x => N0[j]? == some x && cf ((relabel scope env).names.lookup x) && cf (env.kindOf x)
  | _, _ => true
def zfu (scope : Scope) (env : Env) (N0 N : List Str) (nv : Nat) (cap : List Nat) : Bool :=
 (scope.names.all fun y => y.2 != .cell) && (scope.kind == .function) && (scope.names.all fun y => y.2 != .local || scope.names.lookup y.1 == some .local)
  && (scope.names.all fun y => y.2 != .free || cf (env.kindOf y.1)) && (N.length == nv + cap.length) && capChk scope env N0 N nv cap
theorem Yk {X : Cx} {scope : Scope} {N : List Str} {nv : Nat} {cap : List Nat} (h : zfu scope X.env X.N N nv cap = true) : CompOk X scope N nv cap := by
 unfold zfu at h
 simp only [Bool.and_eq_true, List.all_eq_true] at h
 obtain ⟨⟨⟨⟨⟨h1, h2⟩, h3⟩, h4⟩, h5⟩, h6⟩ := h
 refine ⟨fun y hy => by simpa using h1 y hy, by simpa using h2, fun y hy e => ?_, fun y hy e => ?_, by simpa using h5, fun i j x hc hx => ?_⟩
 ·have := h3 y hy
  rw [e] at this
  simpa using this
 ·have := h4 y hy
  rw [e] at this
  exact zdL (by simpa using this)
 ·unfold capChk at h6
  rw [List.all_eq_true] at h6
  have hi : i < cap.length := (List.getElem?_eq_some_iff.mp hc).1
  have := h6 i (List.mem_range.mpr hi)
  rw [hc, hx] at this
  simp only [Bool.and_eq_true] at this
  exact ⟨by simpa using this.1.1, zdL this.1.2, zdL this.2⟩
section
variable {X : Cx} {W : Str -> Hp -> Prop} {fl : Bool} {a b c e : Expr} {es : List Expr} {da db : DE} {pos : Pos}
theorem Vg {K : PySem.W.Frag} {H1 : Hp} {P : Pv} {p : Addr} {ts : List PyData} {vs : List V} {o : HO} (hp : H1 p = none) (rs : Rls K H1 P ts vs) : Rls K (upd H1 p o) (P.fbd p) ts vs :=
 Rls.go (.same (Zr hp)) ts vs (Rls.go (Tr.tofbd hp) ts vs rs)
theorem U3 {d : DA} (h : AV X W es d) : OV X W (.List es pos) (oLst d) :=
 ZA (pe_lst h) fun σ H Q ⟨G, P, h, q⟩ => by
  unfold oLst at q
  obtain ⟨q1, q2, q3⟩ := zcU q
  refine Wu h q1 q2 fun ts vs H1 es' s1 h1 rs => ?_
  have q4 := q3 ts es'
  split at q4
  ·rename_i hl
   exact ⟨zaa hl rs, fun p hp => q4 p vs _ (s1.trans (Zr hp)) (s1.free hp) Zp (Vg hp rs)⟩
  ·exact q4.elim
theorem zev {p : Pos} (hg : Gl X "list") (hm : X.mg "list" = none) (ha : EV X W a da) (hs : starEach [a] X.env = (false, eval a X.env) :: starEach [] X.env := by rfl) : OV X W (.Call (.Name "list" p) [a] [] pos) (oList da) :=
 ZA (Wn zbb hg hm (show bootBuiltins "list" = some (.type "list") by decide +kernel) (ZV ha YX hs) (he := hs)) fun σ H Q ⟨G, P, h, q⟩ => by
  unfold oList at q
  obtain ⟨q1, q2, q3⟩ := Ur q
  refine Zy h q1 q2 fun tx x H1 ex s1 h1 rx => ?_
  have q4 := q3 tx ex
  cases tx <;> try exact q4.elim
  ·obtain ⟨l, vs, rfl, sl, rs⟩ := ZN.mp rx
   exact ⟨l, vs, rfl, .inl sl.sq, fun p hp => q4 p vs _ (s1.trans (Zr hp)) (s1.free hp) Zp (Vg hp rs)⟩
  ·obtain ⟨l, vs, rfl, sl, rs⟩ := ZH.mp rx
   exact ⟨l, vs, rfl, .inr sl.sq, fun p hp => q4 p vs _ (s1.trans (Zr hp)) (s1.free hp) Zp (Vg hp rs)⟩
theorem ov_cat (ha : EV X W a da) (hb : EV X W b db) : OV X W (.BinOp a .Add b pos) (oCat da db) :=
 ZA (pe_op zey ha hb) fun σ H Q ⟨G, P, h, q⟩ => by
  unfold oCat at q
  obtain ⟨q1, q2, q3⟩ := Ur q
  refine Zy h q1 q2 fun tx x H1 ex s1 h1 rx => ?_
  obtain ⟨q4, q5, q6⟩ := Ur (q3 tx ex)
  refine Zy h1 (fun c e H' s => q4 c e H' (s1.trans s)) q5 fun ty y H2 ey s2 h2 ry => ?_
  have q7 := q6 ty ey
  cases tx <;> cases ty <;> try exact q7.elim
  rename_i xs ys
  obtain ⟨l, us, rfl, sl, rs⟩ := ZN.mp (Rl.go (.same s2) _ x rx)
  obtain ⟨m, ws, rfl, sm, rm⟩ := ZN.mp ry
  simp only at q7
  split at q7
  ·rename_i hz
   have e1 := rs.length
   have e2 := rm.length
   exact ⟨l, m, us, ws, rfl, rfl, sl.sq, sm.sq, by rw [sizeLine_eq]; omega, fun p hp => q7 p _ _ ((s1.trans s2).trans (Zr hp)) ((s1.trans s2).free hp) Zp ((Vg hp rs).append (Vg hp rm))⟩
  ·exact q7.elim
theorem VD {p : Pos} (hg : Gl X "tuple") (hm : X.mg "tuple" = none) (ha : EV X W a da) (hs : starEach [a] X.env = (false, eval a X.env) :: starEach [] X.env := by rfl) : EV X W (.Call (.Name "tuple" p) [a] [] pos) (d1 Jr da) :=
 ZA (Wn zar hg hm (show bootBuiltins "tuple" = some (.type "tuple") by decide +kernel) (ZV ha YX hs) (he := hs)) fun σ H Q h => zci (fun H P σ G x tx Q h rx q => by
  cases tx <;> try exact q.elim
  ·obtain ⟨l, vs, rfl, sl, rs⟩ := ZN.mp rx
   exact ⟨l, vs, rfl, .inl ⟨sl.sq, fun p hp => q _ _ (Zr hp) (ZH.mpr ⟨p, vs, rfl, .off Zp (h.off_new hp), Rls.go (.same (Zr hp)) _ vs rs⟩)⟩⟩
  ·obtain ⟨l, vs, rfl, sl, rs⟩ := ZH.mp rx
   exact ⟨l, vs, rfl, .inr ⟨sl.sq, q _ H (Same.refl H) rx⟩⟩) h
theorem zaD {K : PySem.W.Frag} {H : Hp} {P : Pv} : ∀ {bs : List Bool} {vs : List V}, Rls K H P (bs.map .bool) vs -> vs = bs.map V.bl
 | [], vs, h => ZM.mp h
 | b :: bs, vs, h => by
  obtain ⟨v, r, rfl, a, q⟩ := Zx.mp h
  rw [Yp.mp a, zaD q]
  rfl
theorem call_all (hc : X.calm = true) : UH X (.builtin "all") (fun xs H Q => ∃ (p : Addr) (bs : List Bool), xs = [.ref p] /\ SqL X.K H p (bs.map V.bl) /\ Q (.bl (bs.all id)) H) := by
 intro pins s σ H xs us Q I r h
 obtain ⟨l, bs, rfl, hq, q⟩ := h
 obtain ⟨u, rfl, ru⟩ := UR r
 cases ru
 obtain ⟨its, rv, pl, hz⟩ := I.list hq
 have hl : s.heap.IsList l its.toArray := pl.isList
 have hlt : l < s.heap.objs.size := by obtain ⟨_, e, _⟩ := hl; exact Heap.lt_size e
 have hb : ∀ (i : Nat) (v : Value), its[i]? = some v -> ∃ b, bs[i]? = some b /\ v = .bool b := fun i v e => by
  have hi : i < its.length := (List.getElem?_eq_some_iff.mp e).1
  have hl2 := rv.length
  rw [List.length_map] at hl2
  have hi2 : i < bs.length := by omega
  obtain ⟨u, hu, ru⟩ := rv.get (i := i) (x := V.bl bs[i]) (by simp [hi2])
  rw [e] at hu; cases hu
  cases ru
  exact ⟨bs[i], by simp [hi2], rfl⟩
 refine call_all_walk (wpAny_pyIter_list hl ?_)
 refine ⟨s.heap.objs.size, [s.heap.objs.size, l], [s.heap.objs.size], its.toArray.size, _, _, fun i => (bs[i]?).getD true, rfl, Walks.list (A := X.A.in1) (I.ok.hd hc) _ l (Nat.ne_of_lt hlt) its.toArray,
  ⟨⟨_, Heap.get?_push_size _ rfl, rfl, rfl⟩, hl.push _⟩, fun i v s' Q' E' hP hQ => ?_, fun h' tk hk => ?_⟩
 ·obtain ⟨b, e, rfl⟩ := hb i v (by simpa using hP)
  simp only [e, Option.getD_some] at hQ
  exact wpAny_truthy_bool hQ
 ·have e : ((List.range its.toArray.size).all fun i => (bs[i]?).getD true) = bs.all id := by
   have hl2 := rv.length
   rw [List.length_map] at hl2
   rw [List.size_toArray, <- hl2, Bool.eq_iff_iff, List.all_eq_true, List.all_eq_true]
   constructor
   ·intro h b hb
    obtain ⟨i, hi, e⟩ := List.getElem_of_mem hb
    have := h i (List.mem_range.mpr hi)
    simp only [List.getElem?_eq_getElem hi, Option.getD_some, e] at this
    exact this
   ·intro h i hi
    have hi' := List.mem_range.mp hi
    simp only [List.getElem?_eq_getElem hi', Option.getD_some]
    exact h _ (List.getElem_mem hi')
  rw [e]
  have kk : ∀ b x, s.heap.get? b = some x -> h'.get? b = some x := fun b x e => hk b x (fun hm => by rw [List.mem_singleton.mp hm] at e; exact Nat.lt_irrefl _ (Heap.lt_size e)) (Heap.get?_push_of_some _ e)
  exact ⟨.bl _, H, I.kept (t' := tk) kk, rfl, q⟩
theorem ev_all {p : Pos} (hg : Gl X "all") (hm : X.mg "all" = none) (ha : EV X W a da) (hc : X.calm = true := by rfl) (hs : starEach [a] X.env = (false, eval a X.env) :: starEach [] X.env := by rfl) : EV X W (.Call (.Name "all" p) [a] [] pos) (d1 fAll da) :=
 ZA (W4 (call_all hc) hg hm (show bootBuiltins "all" = some (.builtin "all") by decide +kernel) (ZV ha YX hs) (he := hs)) fun σ H Q h => zci (fun H P σ G x tx Q h rx q => by
  cases tx <;> try exact q.elim
  rename_i xs
  obtain ⟨l, vs, rfl, sl, rs⟩ := ZN.mp rx
  simp only [fAll] at q
  cases e : allT xs with
  | stuck => rw [e] at q; exact q.elim
  | exc c => exact absurd e (zcW xs c)
  | ok k =>
   rw [e, Res.bind_ok] at q
   obtain ⟨bs, rfl, rfl⟩ := zfD e
   have := zaD rs
   subst this
   exact ⟨l, bs, rfl, sl.sq, ZE q⟩) h
theorem zab {G : List Sl} {i : Nat} (h : zaO G i = true) : ∃ xs, G[i]? = some (.own xs) := by
 unfold zaO at h
 split at h
 ·rename_i xs e; exact ⟨xs, e⟩
 ·cases h
theorem zck {i : Nat} {x : Str} {is : List Nat} {p1 p2 p3 : Pos} (hi : X.N[i]? = some x) (he : EV X W e da) (hv : Vis X.env.scope x := by first | exact Or.inl rfl | exact Or.inr (Or.inl rfl) | exact Or.inr (Or.inr rfl)) (hd : (x == ("__debug__" : Str)) = false := by decide)
  (hcd : (x == ("__classdict__" : Str)) = false := by decide) (hsw : swapsWith (.Call (.Attribute (.Name x p1) "append" p2) [e] [] p3) none pos.line X.env = pure false := by rfl)
  (hbase : attributeBase (.Name x p1) "append" X.env (eval (.Name x p1) X.env) = eval (.Name x p1) X.env := by rfl)
  (hfew : ((backTo p3 (starEach [e] X.env)).all (fun x => !x.1) && (backToKw p3 (keywordEach [] X.env)).all (fun x => x.1.isSome)
   && decide (([e] : List Expr).length + ([] : List Keyword).length + (if ([] : List Keyword).isEmpty then 0 else 1) < 30)) = true := by rfl)
  (hline : (p2.endLine == p3.line) = true := by rfl) (hs : starEach [e] X.env = (false, eval e X.env) :: starEach [] X.env := by rfl) :
  SV X W fl (.Expr (.Call (.Attribute (.Name x p1) "append" p2) [e] [] p3) pos) (dApp i is da) :=
 YF (zbw (pe_bm PySem.F.plainAttrs_list PySem.F.slot_list_append PySem.F.type_list_append zaH (Vc hi hv hd hcd) (ZV he YX hs) hbase hfew hline hs rfl) hsw) fun D σ H ⟨G, P, h, q⟩ => by
  unfold dApp at q
  obtain ⟨P1, h1, g⟩ := h.frz is
  split at q
  ·rename_i ho
   obtain ⟨xs0, e0⟩ := zab ho
   obtain ⟨q1, q2, q3⟩ := Uq q
   obtain ⟨p, vs, ev, ep, eh, rs⟩ := h.sl i _ e0
   refine ⟨.ref p, getD_some ev, .inl ⟨rfl, vs, SqL.of eh⟩, ?_⟩
   refine Zy h1 (fun c e H' s => q1 c e H' P1 (g.trans (.same s))) q2 fun t v H1 et s1 h2 r => ?_
   obtain ⟨P2, h3, r3, g3⟩ := after h h1 g s1 r
   have q4 := q3 t et
   unfold zbh at q4
   split at q4
   ·rename_i xs1 e1
    split at q4
    ·rename_i hz
     obtain ⟨p', vs', ev', ep', eh', rs'⟩ := h3.sl i _ e1
     rw [ev] at ev'
     cases ev'
     have hl := rs'.length
     obtain ⟨h4, g4⟩ := h3.upOwn e1 ep' (rs'.append (Zx.mpr ⟨v, [], rfl, r3, ZM.mpr rfl⟩))
     exact ⟨p, vs', v, rfl, rfl, eh', by rw [sizeLine_eq]; omega, q4 σ _ P2 (g3.trans g4) h4⟩
    ·exact q4.elim
   ·exact q4.elim
  ·exact q.elim
theorem Vs {i : Nat} {x : Str} {is : List Nat} {dk : DE} {k : Expr} {p1 p2 : Pos} (hi : X.N[i]? = some x) (hk : EV X W k dk) (he : EV X W e da) (hv : Vis X.env.scope x := by first | exact Or.inl rfl | exact Or.inr (Or.inl rfl) | exact Or.inr (Or.inr rfl)) (hd : (x == ("__debug__" : Str)) = false := by decide)
  (hcd : (x == ("__classdict__" : Str)) = false := by decide)
  (ha : ∀ v, assign (.Subscript (.Name x p1) k p2) X.env v = (do
   let ov <- holding [v] (eval (.Name x p1) X.env)
   let iv <- holding [v, ov] (eval k X.env)
   standAt p2
   holding [v, ov, iv] (setItem ov iv v)
   release [v, ov, iv] []) := by intro _; rfl)
  (hs : swapsWithSole [.Subscript (.Name x p1) k p2] e pos.line X.env = pure false := by rfl) (hw : swappedStores [.Subscript (.Name x p1) k p2] e X.env = pure none := by rfl)
  (h1 : (assignEach [.Subscript (.Name x p1) k p2] X.env).map (·.2) = [assign (.Subscript (.Name x p1) k p2) X.env] := by rfl) :
  SV X W fl (.Assign [.Subscript (.Name x p1) k p2] e pos) (Up i is dk da) :=
 YF (ps_asg he (pg_sub (Vc hi hv hd hcd) hk set_list ha) hs hw h1) fun D σ H ⟨G, P, h, q⟩ => by
  unfold Up at q
  obtain ⟨P1, h1, g⟩ := h.frz is
  obtain ⟨q1, q2, q3⟩ := Uq q
  refine Zy h1 (fun c e H' s => q1 c e H' P1 (g.trans (.same s))) q2 fun t v H1 et s1 h2 r => ?_
  obtain ⟨P2, h3, r3, g3⟩ := after h h1 g s1 r
  have q4 := q3 t et
  generalize (if Xi t = true then G else frz is G) = G' at h3 q4
  split at q4
  ·rename_i ho
   obtain ⟨xs0, e0⟩ := zab ho
   obtain ⟨p, vs, ev, ep, eh, rs⟩ := h3.sl i _ e0
   refine ⟨.ref p, getD_some ev, ?_⟩
   obtain ⟨q5, q6, q7⟩ := Uq q4
   refine Zy h2 (fun c e H' s => q5 c e H' P1 ((g.trans (.same s1)).trans (.same s))) q6 fun kt kv H2 ek s2 h4 rk => ?_
   have q8 := q7 kt ek
   unfold zd3 at q8
   rw [e0] at q8
   cases kt <;> try exact q8.elim
   rename_i j
   simp only at q8
   cases em : ixP xs0.length j with
   | none => rw [em] at q8; exact q8.elim
   | some m =>
    rw [em] at q8
    have h5 := h3.same s2
    have hl := rs.length
    obtain ⟨p', vs', ev', ep', eh', rs'⟩ := h5.sl i _ e0
    rw [ev] at ev'
    cases ev'
    have hl' := rs'.length
    obtain ⟨h6, g6⟩ := h5.upOwn e0 ep' (rs'.set m (Rl.go (.same s2) t v r3))
    refine ⟨p, vs', j, m, rfl, ZL.mp rk, eh', by rw [<- hl', <- ixP_eq]; exact em, q8 σ _ P2 ((g3.trans (.same s2)).trans g6) h6⟩
  ·exact q4.elim
end
end Fx
namespace Fx
open PySem PySem.Spec PyProof.Rows L2
theorem ex_of_ok {P : Program} {w : World} {H : Hp} {h : Heap} {a : Addr} {o : HO} (x : Y6 P w H h a o) : ∃ ob, h.get? a = some ob := by
 cases o with
 | lst xs => obtain ⟨_, _, _, _, e⟩ := x; exact ⟨_, e⟩
 | tup xs => obtain ⟨_, _, _, o, e, _⟩ := x; exact ⟨_, e⟩
 | dK kvs => obtain ⟨_, _, _, _, o, _, _, e, _⟩ := x; exact ⟨_, e⟩
 | dT kvs => obtain ⟨_, _, _, _, o, _, _, e, _⟩ := x; exact ⟨_, e⟩
 | set S n => obtain ⟨o, _, _, _, e, _⟩ := x; exact ⟨_, e⟩
 | ins C dx fs => obtain ⟨_, _, _, e, _⟩ := x; exact ⟨_, e⟩
 | own y => obtain ⟨_, e⟩ := x; exact ⟨_, e⟩
 | xd fs => obtain ⟨_, ⟨_, _, _, e, _⟩, _⟩ := x; exact ⟨_, e⟩
 | rng lo hi => obtain ⟨_, _, _, e⟩ := x; exact ⟨_, e⟩
 | frz ob u => obtain ⟨e, _⟩ := x; exact ⟨_, e⟩
 | tbl ps => exact ⟨_, show h.get? a = some _ from x⟩
 | met f y => exact ⟨_, show h.get? a = some _ from x⟩
 | ext φ => obtain ⟨_, ⟨_, e⟩, _⟩ := x; exact ⟨_, e⟩
structure Alien (X : Cx) (pins : List (Addr × Obj)) (H : Hp) (b : Addr) : Prop where
 young : X.s₀.heap.get? b = none
 loc : b ≠ X.env.locals
 cell : ∀ x c, X.env.cells.lookup x = some c -> c ≠ b
 pin : ∀ p ∈ X.pn ++ pins, p.1 ≠ b
 trk : H b = none
 frm : b ∉ frs X.stack
def ExO (h : Heap) (a : Addr) (cv : Value) : Option (Addr × Value) -> Prop
 | none => ∃ oe vs a0, h.get? a = some oe /\ oe.cls = cv /\ oe.data = .fields vs /\ vs[0]? = some a0 /\ vs[1]? = some .none
 | some (T, f) => ∃ oe vs a0 oT ts, h.get? a = some oe /\ oe.cls = cv /\ oe.data = .fields vs /\ vs[0]? = some a0 /\ vs[1]? = some (.ref T) /\ T ≠ a /\ h.get? T = some oT /\ oT.data = .fields ts /\ ts[3]? = some f
structure Exc (X : Cx) (pins : List (Addr × Obj)) (σ : L2.St) (H : Hp) (a : Addr) (cv : Value) (n : Option (Addr × Value)) (s : Shared) : Prop where
 inv : Inv X pins σ H s
 al : Alien X pins H a
 ob : ExO s.heap a cv n
 nt : ∀ T f, n = some (T, f) -> Alien X pins H T
section
variable {X : Cx} {pins : List (Addr × Obj)} {σ : L2.St} {H H' : Hp} {s : Shared} {h' : Heap} {a T : Addr} {cv fl : Value} {n : Option (Addr × Value)}
theorem Inv.stepA {t' : Nat} {ch : List Addr} (I : Inv X pins σ H s)
  (hch : ∀ b ∈ ch, X.s₀.heap.get? b = none /\ b ≠ X.env.locals /\ (∀ x c, X.env.cells.lookup x = some c -> c ≠ b) /\ ∀ p ∈ X.pn ++ pins, p.1 ≠ b)
  (keep : ∀ b o, b ≠ X.env.locals -> b ∉ X.fs -> b ∉ ch -> s.heap.get? b = some o -> H b = none -> h'.get? b = some o)
  (slot : ∀ b o, b ≠ X.env.locals -> b ∈ X.fs -> b ∉ ch -> s.heap.get? b = some o -> H b = none -> ∃ sl, h'.get? b = some { o with slots := sl })
  (there : ∀ b o, b ∉ ch -> s.heap.get? b = some o -> ∃ o', h'.get? b = some o')
  (ns : ∀ m, s.heap.Ns X.env.locals m -> h'.Ns X.env.locals m) (hok : HOk X.prog X.w H h') :
  Inv X pins σ H { s with heap := h', toks := t' } := by
 have neL : ∀ b o, X.s₀.heap.get? b = some o -> b ≠ X.env.locals := fun b o e => Nat.ne_of_lt (Nat.lt_of_lt_of_le (Heap.lt_size e) I.ok.above)
 have neC : ∀ b o, X.s₀.heap.get? b = some o -> b ∉ X.ex -> b ∉ ch := fun b o e hx hb => by
  have z := (hch b hb).1
  rw [e] at z; cases z
 have cellK : ∀ x c, X.env.cells.lookup x = some c -> ∀ v, s.heap.IsCell c v -> h'.IsCell c v := fun x c e v ⟨o, ho, hd⟩ => by
  have nch : c ∉ ch := fun z => (hch c z).2.2.1 x c e rfl
  by_cases hc : c ∈ X.fs
  ·obtain ⟨sl, q⟩ := slot c o (I.cne x c e) hc nch ho (I.freeC x c e)
   exact ⟨_, q, hd⟩
  ·exact ⟨o, keep c o (I.cne x c e) hc nch ho (I.freeC x c e), hd⟩
 refine ⟨I.ok, I.os, I.bare, ⟨fun b o e n hb hx => ?_, fun b o e n hb hx => ?_, fun b o e n hx => I.base.free b o e n hx, fun b o e hx => ?_, fun b xs e => I.base.tups b xs e, fun b o xs e => I.base.frzs b o xs e, fun b ps e => I.base.tbls b ps e⟩, ?_, fun x c e => ?_, I.free, fun x c e => I.freeC x c e, fun p hp => ?_, hok, I.len⟩
 ·exact keep b o (neL b o e) hb (neC b o e hx) (I.base.keep b o e n hb hx) (I.base.free b o e n hx)
 ·obtain ⟨sl, e1⟩ := I.base.slot b o e n hb hx
  obtain ⟨sl', e2⟩ := slot b _ (neL b o e) hb (neC b o e hx) e1 (I.base.free b o e n hx)
  exact ⟨sl', e2⟩
 ·obtain ⟨o', e1⟩ := I.base.there b o e hx
  exact there b o' (neC b o e hx) e1
 ·obtain ⟨m, hn, hl⟩ := I.loc
  refine ⟨m, ns m hn, fun i x v e1 e2 e3 => ?_⟩
  obtain ⟨u, r, l⟩ := hl i x v e1 e2 e3
  refine ⟨u, r, ?_⟩
  rcases l with l | ⟨k, c, e, z⟩
  ·exact .inl l
  ·exact .inr ⟨k, c, e, cellK x c e _ z⟩
 ·obtain ⟨v, z⟩ := I.cell x c e
  exact ⟨v, cellK x c e v z⟩
 ·obtain ⟨e, n, ne, nf, d⟩ := I.pin p hp
  have nch : p.1 ∉ ch := fun z => (hch p.1 z).2.2.2 p hp rfl
  exact ⟨keep p.1 p.2 ne nf nch e n, n, ne, nf, d⟩
def zas (X : Cx) : Prop := ∀ b ∈ X.ex, ∃ o, (b, o) ∈ X.pn
theorem WR (hp : zas X) (I : Inv X pins σ H s) (e : s.heap.get? a = none) : Alien X pins H a := by
 refine ⟨?_, fun z => ?_, fun x c ec z => ?_, fun p hp z => ?_, ?_, fun z => ?_⟩
 ·by_cases hx : a ∈ X.ex
  ·obtain ⟨o, ho⟩ := hp a hx
   have := (I.pin (a, o) (List.mem_append_left _ ho)).1
   rw [e] at this; cases this
  ·cases q : X.s₀.heap.get? a with
   | none => rfl
   | some o => obtain ⟨o', e'⟩ := I.base.there a o q hx; rw [e] at e'; cases e'
 ·obtain ⟨m, ⟨o, _, _, ho, _⟩, _⟩ := I.loc
  rw [<- z, e] at ho; cases ho
 ·obtain ⟨v, o, ho, _⟩ := I.cell x c ec
  rw [z, e] at ho; cases ho
 ·obtain ⟨q, _⟩ := I.pin p hp
  rw [z, e] at q; cases q
 ·cases q : H a with
  | none => rfl
  | some o => 
   obtain ⟨o', e'⟩ : ∃ o', s.heap.get? a = some o' := ex_of_ok (I.hok a o q)
   rw [e] at e'; cases e'
 ·obtain ⟨_, o, ho, _⟩ := I.stack.mem z
  rw [e] at ho; cases ho
def hid (X : Cx) (a : Addr) : Option (Addr × Value) -> List Addr
 | none => a :: frs X.stack
 | some (T, _) => a :: T :: frs X.stack
theorem hid_frs (X : Cx) (a : Addr) (n : Option (Addr × Value)) : ∀ b ∈ frs X.stack, b ∈ hid X a n := by
 intro b hb
 cases n with
 | none => exact List.mem_cons_of_mem _ hb
 | some p => obtain ⟨T, f⟩ := p; exact List.mem_cons_of_mem _ (List.mem_cons_of_mem _ hb)
theorem zaQ {X : Cx} {a b : Addr} {n : Option (Addr × Value)} (h : b ∈ hid X a n) : b = a \/ (∃ T f, n = some (T, f) /\ b = T) \/ b ∈ frs X.stack := by
 cases n with
 | none =>
  rcases List.mem_cons.mp h with h | h
  ·exact .inl h
  ·exact .inr (.inr h)
 | some p =>
  obtain ⟨T, f⟩ := p
  rcases List.mem_cons.mp h with h | h
  ·exact .inl h
  ·rcases List.mem_cons.mp h with h | h
   ·exact .inr (.inl ⟨T, f, rfl, h⟩)
   ·exact .inr (.inr h)
theorem Exc.moved {t' : Nat} (E : Exc X pins σ H a cv n s) (k1 : (PySem.W.hideAll s.heap (hid X a n)).StaysIn h') (k2 : s.heap.UpToSlots h') : Inv X pins σ H { s with heap := h', toks := t' } := by
 have I := E.inv
 have al : ∀ b, b ∈ hid X a n -> b ∉ frs X.stack -> Alien X pins H b := fun b hb hf => by
  rcases zaQ hb with z | ⟨T, f, z1, z2⟩ | z
  ·rw [z]; exact E.al
  ·rw [z2]; exact E.nt T f z1
  ·exact absurd z hf
 have up : ∀ b, b ∈ frs X.stack -> ∀ o, s.heap.get? b = some o -> ∃ sl, h'.get? b = some { o with slots := sl } := fun b hb o ho => by
  obtain ⟨_, o', ho', hd⟩ := I.stack.mem hb
  rw [ho] at ho'; cases ho'
  exact k2 b o ho hd
 have fsub : ∀ b ∈ X.fs, b ∈ frs X.stack := fun b hb => by
  rcases I.ok.stk with z | ⟨z, _⟩
  ·rw [z]; exact hb
  ·rw [z]
   unfold frs at *
   simp only [List.filterMap_cons]
   split
   ·exact hb
   ·exact List.mem_cons_of_mem _ hb
 have stay : ∀ b o, b ∉ hid X a n -> s.heap.get? b = some o -> h'.get? b = some o := fun b o hb e => k1 b o (PySem.W.hideAll_get _ e hb)
 have trk : ∀ b, H b ≠ none -> b ∉ hid X a n := fun b hb hm => by
  by_cases hf : b ∈ frs X.stack
  ·exact hb (I.stkFree b hf)
  ·exact hb (al b hm hf).trk
 refine Inv.stepA (t' := t') (ch := (hid X a n).filter fun b => decide (b ∉ frs X.stack)) I (fun b hb => ?_) (fun b o hL hf hc e hn => ?_) (fun b o hL hf hc e hn => up b (fsub b hf) o e) (fun b o hc e => ?_) (fun m hm => k2.ns hm) fun b o e => ?_
 ·have hb' := List.mem_filter.mp hb
  have A := al b hb'.1 (of_decide_eq_true hb'.2)
  exact ⟨A.young, A.loc, A.cell, A.pin⟩
 ·by_cases hm : b ∈ hid X a n
  ·by_cases hs : b ∈ frs X.stack
   ·rcases List.mem_cons.mp (I.stkSub b hs) with z | z
    ·exact absurd z hL
    ·exact absurd z hf
   ·exact absurd (List.mem_filter.mpr ⟨hm, decide_eq_true hs⟩) hc
  ·exact stay b o hm e
 ·by_cases hs : b ∈ frs X.stack
  ·obtain ⟨sl, q⟩ := up b hs o e; exact ⟨_, q⟩
  ·by_cases hm : b ∈ hid X a n
   ·exact absurd (List.mem_filter.mpr ⟨hm, decide_eq_true hs⟩) hc
   ·exact ⟨o, stay b o hm e⟩
 ·refine (I.hok b o e).stay (fun c v hc q => stay c v ?_ q) (fun _ q => q) fun _ _ q => q
  rcases hc with z | z
  ·rw [z]; exact trk b (by rw [e]; simp)
  ·exact trk c (by rw [z]; simp)
theorem Exc.noted {t' : Nat} {a0 : Value} (hp : zas X) (E : Exc X pins σ H a cv n s) (k1 : (PySem.W.hideAll s.heap (hid X a n)).StaysIn h') (k2 : s.heap.UpToSlots h') (ht : h'.TracedAtW (PySem.W.hideAll s.heap (hid X a n)) a cv a0 fl) :
  ∃ T', Exc X pins σ H a cv (some (T', fl)) { s with heap := h', toks := t' } := by
 obtain ⟨oe, vs, T', oT, ts, he, ⟨hc, h0⟩, hd, h1, hn, hne, hT, hdT, h3⟩ := ht
 have I := E.inv
 refine ⟨T', E.moved k1 k2, E.al, ⟨oe, vs, a0, oT, ts, he, hc, hd, h0, h1, hne, hT, hdT, h3⟩, fun T f q => ?_⟩
 cases q
 cases q : s.heap.get? T' with
 | none => exact WR hp I q
 | some o =>
  have hm : T' ∈ hid X a n := Classical.byContradiction fun z => by
   rw [PySem.W.hideAll_get _ q z] at hn; cases hn
  rcases zaQ hm with z | ⟨T, f, z1, z2⟩ | z
  ·exact absurd z hne
  ·rw [z2]; exact E.nt T f z1
  ·obtain ⟨_, o', ho', hd'⟩ := I.stack.mem z
   obtain ⟨sl, hs⟩ := k2 T' o' ho' hd'
   rw [hT] at hs
   cases hs
   exact absurd hdT (hd' ts)
theorem fun_hid {as : List Addr} {base h : Heap} : ∀ {l : List Env}, h.FunFrames base l -> (∀ b ∈ frs l, b ∈ as) -> h.FunFrames (PySem.W.hideAll h as) l := fun {l} hf hs =>
 PySem.W.funFrames_hide hf fun env he b hb => hs b (List.mem_filterMap.mpr ⟨env, he, hb⟩)
theorem zdo {h : Heap} {as : List Addr} : (PySem.W.hideAll h as).StaysIn h := fun b o e => PySem.W.of_hideAll as e
theorem zdf {v : Value} {e1 e2 : Env} (h : e1.frame = e2.frame) : noteFrame v e1 = noteFrame v e2 := by
 unfold noteFrame PySem.frameOf
 rw [h]
structure InFrame (X : Cx) (L : Addr) : Prop where
 pin : zas X
 ex : ∃ e0 rest, X.stack = e0 :: rest /\ e0.frame = some L
 env : X.env.frame = some L
theorem Exc.setT {f v : Value} {Q : Unit -> Shared -> Prop} {Ee : Value -> Shared -> Prop} (E : Exc X pins σ H a cv (some (T, f)) s) (q : ∀ s', Exc X pins σ H a cv (some (T, v)) s' -> Q () s') : wpAny (model X.prog X.w) X.A (setField (.ref T) 3 v) Q Ee s := by
 obtain ⟨oe, vs, a0, oT, ts, he, hc, hd, h0, h1, hne, hT, hdT, h3⟩ := E.ob
 have hz : 3 < ts.size := (Array.getElem?_eq_some_iff.mp h3).1
 refine wpAny_setField hT hdT hz (q _ ?_)
 have other : ∀ b, b ≠ T -> (s.heap.update T (Obj.mapFields (·.setIfInBounds 3 v))).get? b = s.heap.get? b := fun b hb => Heap.get?_update_other _ _ (Ne.symm hb)
 have self := Heap.get?_update_self (Obj.mapFields (·.setIfInBounds 3 v)) hT (Obj.isFreed_of_fields (Obj.data_mapFields hdT _))
 have A := E.nt T f rfl
 refine ⟨E.moved (t' := s.toks) (fun b o e => ?_) (fun b o e hn => ?_), E.al, ⟨oe, vs, a0, _, _, (other a (Ne.symm hne)).trans he, hc, hd, h0, h1, hne, self, Obj.data_mapFields hdT _, by simp [hz]⟩, fun T' f' z => by cases z; exact A⟩
 ·have hb : b ≠ T := fun z => by
   have hh : (PySem.W.hideAll s.heap (hid X a (some (T, f)))).get? T = none := PySem.W.hideAll_none (hid X a (some (T, f))) (List.mem_cons_of_mem _ List.mem_cons_self)
   rw [z, hh] at e; cases e
  exact (other b hb).trans (PySem.W.of_hideAll _ e)
 ·have hb : b ≠ T := fun z => by rw [z, hT] at e; cases e; exact hn ts hdT
  exact ⟨o.slots, (other b hb).trans e⟩
theorem ExO.first {h : Heap} {a : Addr} {cv : Value} {n : Option (Addr × Value)} (x : ExO h a cv n) : ∃ oe vs a0 b1, h.get? a = some oe /\ oe.cls = cv /\ oe.data = .fields vs /\ vs[0]? = some a0 /\ vs[1]? = some b1 := by
 cases n with
 | none => obtain ⟨oe, vs, a0, h1, h2, h3, h4, h5⟩ := x; exact ⟨oe, vs, a0, _, h1, h2, h3, h4, h5⟩
 | some p => obtain ⟨T, f⟩ := p; obtain ⟨oe, vs, a0, _, _, h1, h2, h3, h4, h5, _⟩ := x; exact ⟨oe, vs, a0, _, h1, h2, h3, h4, h5⟩
theorem Exc.entry (hp : zas X) {L : Addr} {e0 : Env} {rest : List Env} {head : Value} {hadNext : Bool} {Q : Unit -> Shared -> Prop} {Ee : Value -> Shared -> Prop} (hst : X.stack = e0 :: rest) (hf : e0.frame = some L) (E : Exc X pins σ H a cv n s)
  (q : ∀ T' s', Exc X pins σ H a cv (some (T', rawInt L)) s' -> Q () s') :
  wpAny (model X.prog X.w) X.A (do let fr <- PySem.frameOf e0; let pl <- entryPlaceOf L hadNext; let b <- EntryCells.newEntry head fr .none (rawInt L) .none pl; setField (.ref a) 1 b) Q Ee s := by
 have hfr : X.A.frames = some (e0 :: rest) := by rw [<- hst]; exact E.inv.ok.frames
 have fun0 : s.heap.FunFrames (PySem.W.hideAll s.heap (hid X a n)) (e0 :: rest) := by rw [<- hst]; exact fun_hid E.inv.stack (hid_frs X a n)
 have hen : (PySem.W.hideAll s.heap (hid X a n)).get? a = none := PySem.W.hideAll_none _ (by cases n with | none => exact List.mem_cons_self | some p => exact List.mem_cons_self)
 obtain ⟨oe, vs, a0, b1, he, hc, hd, h0, h1⟩ := E.ob.first
 refine wpAny_entryW hfr fun0 hf he zdo hen hd (Array.getElem?_eq_some_iff.mp h1).1 h0 fun h' x => ?_
 rw [hc] at x
 obtain ⟨k1, k2, k3, k4⟩ := x
 obtain ⟨T', x⟩ := E.noted (t' := s.toks) hp k1 k4 k3
 exact q T' _ x
theorem Exc.note {L : Addr} {Q : Unit -> Shared -> Prop} {Ee : Value -> Shared -> Prop} (F : InFrame X L) (E : Exc X pins σ H a cv n s)
  (q : ∀ T' s', Exc X pins σ H a cv (some (T', rawInt L)) s' -> Q () s') : wpAny (model X.prog X.w) X.A (noteFrame (.ref a) X.env) Q Ee s := by
 obtain ⟨e0, rest, hst, hf⟩ := F.ex
 rw [zdf (e1 := X.env) (e2 := e0) (by rw [F.env, hf])]
 unfold noteFrame
 simp only [hf]
 cases n with
 | none =>
  obtain ⟨oe, vs, a0, he, hc, hd, h0, h1⟩ := E.ob
  refine wpAny_bind (wpAny_field he hd h1 ?_)
  rw [if_neg (by decide)]
  exact E.entry F.pin hst hf q
 | some p =>
  obtain ⟨T, f⟩ := p
  obtain ⟨oe, vs, a0, oT, ts, he, hc, hd, h0, h1, hne, hT, hdT, h3⟩ := id E.ob
  refine wpAny_bind (wpAny_field he hd h1 ?_)
  rw [if_pos (show (Value.ref T != Value.none) = true from by simp)]
  refine wpAny_bind (wpAny_field hT hdT h3 ?_)
  by_cases hfl : (f == rawInt L) = true
  ·rw [if_pos hfl]
   refine wpAny_pure (q T s ?_)
   have : f = rawInt L := by simpa using hfl
   rw [<- this]
   exact E
  ·rw [if_neg hfl]
   exact wpAny_bind (E.setT fun s1 E1 => E1.entry F.pin hst hf q)
theorem Exc.flight {f : Value} {fr : Option Addr} {Q : Unit -> Shared -> Prop} {Ee : Value -> Shared -> Prop} (E : Exc X pins σ H a cv (some (T, f)) s)
  (q : ∀ s', Exc X pins σ H a cv (some (T, fr.elim .none fun f => rawInt f)) s' -> Q () s') : wpAny (model X.prog X.w) X.A (setFlight (.ref a) fr) Q Ee s := by
 obtain ⟨oe, vs, a0, oT, ts, he, hc, hd, h0, h1, hne, hT, hdT, h3⟩ := id E.ob
 unfold setFlight
 refine wpAny_bind (wpAny_field he hd h1 ?_)
 rw [if_pos (show (Value.ref T != Value.none) = true from by simp)]
 exact E.setT q
theorem Exc.leave {L : Addr} {Q : Unit -> Shared -> Prop} {Ee : Value -> Shared -> Prop} (F : InFrame X L) (E : Exc X pins σ H a cv n s)
  (q : ∀ T' s', Exc X pins σ H a cv (some (T', .none)) s' -> Q () s') : wpAny (model X.prog X.w) X.A (leaving X.env (.ref a)) Q Ee s := by
 unfold leaving
 exact wpAny_bind (E.note F fun T' s1 E1 => E1.flight (fr := none) fun s2 E2 => q T' s2 E2)
theorem Exc.pass {α : Type} {w : String} {f : Value} {env : Env} {Q : α -> Shared -> Prop} {Ee : Value -> Shared -> Prop} (E : Exc X pins σ H a cv (some (T, f)) s)
  (q : ∀ fl s', Exc X pins σ H a cv (some (T, fl)) s' -> Ee (.ref a) s') : wpAny (model X.prog X.w) X.A (PySem.passOn w (.ref a) env : Sem α) Q Ee s := by
 obtain ⟨oe, vs, a0, oT, ts, he, hc, hd, h0, h1, hne, hT, hdT, h3⟩ := id E.ob
 unfold PySem.passOn
 refine wpAny_bind (wpAny_field he hd h1 ?_)
 rw [if_neg (show ¬ ((Value.ref T == Value.none) = true) from Bool.false_ne_true)]
 exact wpAny_bind (E.flight fun s1 E1 => wpAny_throw (q _ _ E1))
end
end Fx
namespace Fx
open PySem PySem.Spec PyProof.Rows L2
def XE (X : Cx) (cl : Str -> Value) (W : Str -> Hp -> Prop) : Value -> Shared -> Prop := fun e s => ∃ a c pins σ H n, e = .ref a /\ Exc X pins σ H a (cl c) n s /\ W c H
abbrev Cx.xw (X : Cx) (cl : Str -> Value) (W : Str -> Hp -> Prop) : Cx := X.wish (XE X cl W)
def CX1 (P : Program) (w : World) : CXT := fun outer H s E e s' => ∃ a cv T H', e = .ref a /\ s'.os = s.os /\ AllBare s'.gens /\ Un (frs outer) [] H H' s.heap s'.heap /\ HOk P w H' s'.heap /\ H' a = none /\ H' T = none /\
 s.heap.get? a = none /\ s.heap.get? T = none /\ ExO s'.heap a cv (some (T, .none)) /\ E cv none H'
section
variable {X : Cx} {cl : Str -> Value} {W : Str -> Hp -> Prop} {pins : List (Addr × Obj)} {σ : L2.St} {H H' : Hp} {s s' : Shared} {a : Addr}
theorem Alien.to (A : Alien X pins H a) (e : H' a = none) : Alien X pins H' a := ⟨A.young, A.loc, A.cell, A.pin, e, A.frm⟩
theorem Ql (hp : zas X) {E : XK} {e : Value} (I : Inv X pins σ H s) (h : CX1 X.prog X.w X.stack H s E e s') : ∃ a cv T H', e = .ref a /\ Exc X pins σ H' a cv (some (T, .none)) s' /\ E cv none H' := by
 obtain ⟨a, cv, T, H', rfl, os, bare, un, hok, ha, hT, na, nT, ob, hE⟩ := h
 obtain ⟨hh, g, d, t, os'⟩ := s'
 obtain rfl : os' = s.os := os
 refine ⟨a, cv, T, H', rfl, ⟨I.call (h' := hh) (g' := g) (d' := d) (t' := t) (ch := []) un hok bare (fun b z => absurd z (by simp)), (WR hp I na).to ha, ob, fun T' f z => ?_⟩, hE⟩
 cases z
 exact (WR hp I nT).to hT
theorem pass_xw (hp : zas X) : Us (CX1 X.prog X.w) (Cx.xw X cl W) (EX (some cl) W) := fun pins σ H s e s' I h => by
 obtain ⟨a, cv, T, H', rfl, x, c, f, e1, rfl, hw⟩ := Ql hp I.unwish h
 cases e1
 exact ⟨a, c, pins, σ, H', _, rfl, x, hw⟩
theorem Jk {L : Addr} (F : InFrame X L) : PassesOwn (model X.prog X.w) X.A X.env (XE X cl W) := fun e s h => by
 obtain ⟨a, c, pins, σ, H, n, rfl, x, hw⟩ := h
 refine x.note F fun T s1 x1 => ?_
 obtain ⟨oe, vs, a0, oT, ts, he, hc, hd, h0, h1, _⟩ := id x1.ob
 show wpAny _ _ _ _ _ _
 refine wpAny_bind (wpAny_field he hd h1 ?_)
 rw [if_neg (show ¬ ((Value.ref T == Value.none) = true) from Bool.false_ne_true)]
 refine x1.flight (fr := X.env.frame) fun s2 x2 => ?_
 rw [F.env] at x2
 exact ⟨a, c, pins, σ, H, _, rfl, x2, hw⟩
end
structure Clx (P : Program) (w : World) (K : PySem.W.Frag) (mg : Str -> Option Value) (base : Heap) (cl : Str -> Value) (k : Nat) (x : Str) (np : Nat) (f : DF) : Prop where
 ex : ∃ (fa : Addr) (fd : FuncData) (ps : List Str), FnOk P w K mg base (CX1 P w) k fa fd ps (spF K (some cl) np f) /\ mg x = some (.ref fa) /\ PySem.W.keepIn K (.ref fa) = true /\ ZC K fd ps []
theorem Clx.cal {X : Cx} {cl : Str -> Value} {W : Str -> Hp -> Prop} {k np : Nat} {x : Str} {f : DF} (hp : zas X) (C : Clx X.prog X.w X.K X.mg X.base cl k x np f) : Cal (Cx.xw X cl W) W (some cl) k x np f := by
 obtain ⟨fa, fd, ps, F, hm, hk, hb⟩ := C.ex
 exact ⟨⟨CX1 X.prog X.w, fa, fd, ps, F, hm, hk, hb, pass_xw hp⟩, fun z => by cases z⟩
theorem Clx.mono {P : Program} {w : World} {K : PySem.W.Frag} {mg : Str -> Option Value} {base : Heap} {cl : Str -> Value} {j k np : Nat} {x : Str} {f : DF} (C : Clx P w K mg base cl j x np f) (h : j <= k) : Clx P w K mg base cl k x np f := by
 obtain ⟨fa, fd, ps, F, r⟩ := C.ex
 exact ⟨⟨fa, fd, ps, F.mono h, r⟩⟩
theorem pss_xe {X : Cx} {E' : Value -> Shared -> Prop} {st : List Stmt} {t : TS} (h : PSs (X.wish E') st t) (hx : ∀ e s, E' e s -> X.xe e s) : PSs X st t := fun pins s σ H D I hw =>
 wpAny_mono (h pins s σ H D (I.wish _) hw) (fun _ _ q => q.unwish) hx
section
variable {P : Program} {w : World} {K : PySem.W.Frag} {mg : Str -> Option Value} {base : Heap}
theorem Zw {CX : CXT} {N : List Str} {qual : Str} {scope : Scope} {f : Addr} {cdv : Value} {A : Around} {outer : List Env} {s : Shared} {H : Hp} {E : XK} : InFrame (cxOf CX P w K mg base N qual scope f cdv A outer s H E) s.heap.objs.size :=
 ⟨fun b z => absurd (show b ∈ ([] : List Addr) from z) (by simp), ⟨_, _, rfl, rfl⟩, rfl⟩
theorem fn_okX {cl : Str -> Value} {x qual : Str} {st : Stmt} {f : Addr} {fd : FuncData} {N ps : List Str} {k np : Nat} {d : DS} (F : Fun K x qual st f fd) (S : FnScope N ps (Zd st)) (hnp : ps.length = np)
  (hb : ∀ (cdv : Value) (A : Around) (outer : List Env) (s : Shared) (H : Hp) (E : XK) (W : Str -> Hp -> Prop), Room k (A.deeper (envOfC qual (Zd st) s.heap.objs.size f cdv)) ->
   SVs (Cx.xw (cxOf (CX1 P w) P w K mg base N qual (Zd st) f cdv A outer s H E) cl W) W false (Zj st) d) : FnOk P w K mg base (CX1 P w) (k + 1) f fd ps (spF K (some cl) np (runF N.length np d)) := by
 obtain ⟨oc, od, kV, doc, pm, an, cdv, ct, osl, rfl, lk, hcd⟩ := F.ex
 refine fn_of lk hcd S (fun vs H Q E h => by rw [hnp]; exact h.1) fun A outer s H vs Q E hr h => ⟨_, pss_xe (hb cdv A outer s H E (fun c H' => E (cl c) none H') hr) (fun e s1 hx => ?_), ?_⟩
 ·obtain ⟨a, c, pins, σ, H', n, rfl, x, hw⟩ := hx
  refine x.leave Zw fun T s2 x2 => ?_
  refine ⟨a, cl c, T, H', rfl, x2.inv.os, x2.inv.bare, x2.inv.base, x2.inv.hok, x2.al.trk, (x2.nt T _ rfl).trk, x2.al.young, (x2.nt T _ rfl).young, x2.ob, hw⟩
 ·obtain ⟨hl, ts, P', rs, ho, hf, q⟩ := h
  have hlt : ts.length = np := by rw [rs.length]; exact hl
  refine ⟨_, P', VB rs ho hf, ?_⟩
  unfold runF at q
  rw [if_pos hlt] at q
  have en : N.length - np = N.length - ts.length := by rw [hlt]
  rw [en] at q
  have sm : ∀ H' P2, Go H P' H' P2 -> Same H H' := fun H' P2 g => g.all ho
  have bk : ∀ H' P2, Go H P' H' P2 -> Tr H' P2 H' P' := fun H' P2 g b o e _ z => ⟨e, fun i => by rw [ho i]; exact fun z => (by cases z), by rw [<- g.fbe]; exact z.2⟩
  cases e : d (ts.map .val ++ List.replicate (N.length - ts.length) .emp) with
  | stuck => rw [e] at q; exact q.elim
  | exc c => rw [e] at q; exact fun H' P2 g => q none H' (sm H' P2 g)
  | ok o =>
   rw [e, Res.bind_ok] at q
   cases o with
   | nx G => exact fun σ' H' P2 g h' => q .non H' (sm H' P2 g) (Y0.mpr rfl)
   | rt t => exact fun v H' P2 g r _ => q v H' (sm H' P2 g) (Rl.go (bk H' P2 g) t v r)
   | bk G => exact q.elim
   | ct G => exact q.elim
theorem Wp {cl : Str -> Value} {x : Str} {st : Stmt} {fa : Addr} {fd : FuncData} {N ps : List Str} {k n np : Nat} {d : DS} (F : Fun K x x st fa fd) (hm : mg x = some (.ref fa)) (b : ZC K fd ps []) (S : FnScope N ps (Zd st)) (hnp : ps.length = np) (hN : N.length = n)
  (hb : ∀ (cdv : Value) (A : Around) (outer : List Env) (s : Shared) (H : Hp) (E : XK) (W : Str -> Hp -> Prop), Room k (A.deeper (envOfC x (Zd st) s.heap.objs.size fa cdv)) ->
   SVs (Cx.xw (cxOf (CX1 P w) P w K mg base N x (Zd st) fa cdv A outer s H E) cl W) W false (Zj st) d) : Clx P w K mg base cl (k + 1) x np (runF n np d) := by
 subst hN
 exact ⟨⟨fa, fd, ps, fn_okX F S hnp hb, hm, F.kp, b⟩⟩
end
structure XCls (K : PySem.W.Frag) (mg : Str -> Option Value) (x : Str) (C : Addr) : Prop where
 bd : mg x = some (.ref C)
 ex : PySem.W.excIn K C [.type "ValueError", .type "Exception", .type "BaseException", .type "object"] "ValueError.__new__" = true
theorem XCls.obj {K : PySem.W.Frag} {mg : Str -> Option Value} {x : Str} {C : Addr} {h : Heap} (c : XCls K mg x C) (k : K.In h) : OwnCls x C [.type "ValueError", .type "Exception", .type "BaseException", .type "object"] "ValueError.__new__" mg h := by
 refine ⟨c.bd, ?_⟩
 have q := c.ex
 unfold PySem.W.excIn at q
 split at q
 ·rename_i d0 cdat slts look
  split at q
  ·rename_i C1 tl a0 a1 a2 a3 nid a5 em es
   simp only [Bool.and_eq_true, beq_iff_eq, Bool.not_eq_true'] at q
   obtain ⟨⟨⟨⟨⟨q1, q2⟩, q3⟩, q4⟩, q5⟩, q6⟩ := q
   obtain ⟨c1, c2, c3, c4, c5, c6, c7, c8, c9, c10, c11⟩ := cdat
   dsimp only at em q3 q5 q6
   subst em q3 q1 q2
   obtain ⟨lst⟩ := slts
   dsimp only at es
   subst es
   exact ⟨tl, c4, c1, c5, c2, c6, c7, c8, c9, c10, d0, a0, a1, a2, a3, a5, _, k _ _ look, .of_isNs (PySem.W.isNs_of_in k q5), PySem.W.nsMap_none_of_in k q5 q6, PySem.W.tail_of_in k q4⟩
  ·cases q
 ·cases q
section
variable {X : Cx} {cl : Str -> Value} {W : Str -> Hp -> Prop} {e : Expr} {es : List Expr} {d : DA} {pos : Pos}
theorem YK {x : Str} {C : Addr} {np cpos : Pos} (hp : zas X) (c : XCls X.K X.mg x C) (hcl : cl x = .ref C) (ha : AV (Cx.xw X cl W) W (e :: es) d) (hg : Gl X x) (hc : X.calm = true := by rfl) (hdb : (x == ("__debug__" : Str)) = false := by decide)
  (he : starEach (e :: es) X.env = (false, eval e X.env) :: starEach es X.env := by rfl) (hpl : (backTo cpos (starEach es X.env)).any (·.1) = false := by rfl)
  (hln : ∀ G ts, d G = .ok ts -> ts.length <= 4 := by intro G ts h; have := Jn G ts h; omega) :
  SV (Cx.xw X cl W) W fl (.Raise (some (.Call (.Name x np) (e :: es) [] cpos)) none pos) (X4 x d) := by
 intro pins s σ H D I ⟨G, P, h, q⟩
 unfold X4 at q
 obtain ⟨h', g⟩ := h.frzA
 obtain ⟨q1, q2, q3⟩ := zfB q
 obtain ⟨tl, N, nm, qn, bs, hd, sn, sb, ab, co, dd, k0, k1, k2, k3, k5, mN, hC, hN, hni, tail⟩ := (c.obj I.mod.kin).obj
 refine wpAny_Raise_call_subT (C := C) (nm := nm) (q := qn) (N := N) (bs := bs) (bm := tl) (hdct := hd) (sn := sn) (sub := sb) (ab := ab) (col := co) (dd := dd) (k0 := k0) (k1 := k1) (k2 := k2) (k3 := k3) (k5 := k5)
  PySem.F.excBase_ValueError (mN := mN) (tail.hasType PySem.F.excBase_ValueError.hasBase) (I.ok.hd hc) (by rw [show starEach (e :: es) (Cx.xw X cl W).env = _ from he]; show (false || (backTo cpos (starEach es X.env)).any (·.1)) = false; rw [hpl]; rfl) hni (Vi I hg c.bd ⟨rfl, ?_⟩ hdb)
 have hA := ha cpos pins s σ H (fun vs H2 => vs.length <= 4 /\ W x H2) I ⟨frzA G, P.bare, h', ?_⟩
 ·rw [show starEach (e :: es) (Cx.xw X cl W).env = _ from he] at hA ⊢
  refine Calls.evalArgs_plain (wpAny_mono hA (fun us s2 ⟨vs, H2, I2, r2, hl, hw⟩ => ?_) fun _ _ z => z)
  have hl2 := r2.length
  refine ⟨rfl, by show us.length <= sizeLine; rw [sizeLine_eq]; omega, I2.bk _ _ hC, hN.keeps I2.bk, tail.keeps I2.bk, fun h2 a mk => ?_⟩
  obtain ⟨t, ho, _, _⟩ := mk.there
  refine ⟨a, x, pins, σ, H2, none, rfl, ⟨I2.unwish.kept (t' := s2.toks) mk.keeps, WR hp I2.unwish mk.new, ⟨_, _, .ref t, ho, hcl.symm, rfl, rfl, rfl⟩, fun T f z => by cases z⟩, hw⟩
 ·cases ed : d (frzA G) with
  | stuck => exact absurd ed q2
  | exc c' => exact fun H2 sm => q1 c' ed H2 P.bare (g.trans (.same sm))
  | ok ts => exact fun vs H2 sm rs => ⟨by rw [<- rs.length]; exact hln _ _ ed, q3 ts ed H2 P.bare (g.trans (.same sm))⟩
end
end Fx
namespace Fx
open PySem PySem.Spec PyProof.Rows L2
section
variable {X : Cx} {cl : Str -> Value} {W : Str -> Hp -> Prop} {L : Addr} {scope : Scope} {N : List Str}
theorem frame_c {s₀ : Shared} {H₀ : Hp} {ex : List Addr} {pn : List (Addr × Obj)} (F : InFrame X L) (hp : ∀ b ∈ ex, ∃ o, (b, o) ∈ pn) : InFrame (cxC X scope N s₀ H₀ ex pn) L := ⟨hp, F.ex, F.env⟩
theorem InFrame.wish {E : Value -> Shared -> Prop} (F : InFrame X L) : InFrame (X.wish E) L := ⟨F.pin, F.ex, F.env⟩
theorem UP (F : InFrame X L) : zcc (Cx.xw X cl W) scope N (fun Y => XE Y cl W) := by
 intro pins σ H3 s3 fp pn e s' I3 hf pnn hx
 obtain ⟨a, c, pins', σ', H', n, rfl, x, hw⟩ := hx
 refine Exc.note (X := cxC (Cx.xw X cl W) scope N s3 H3 fp pn) (L := L) (frame_c (InFrame.wish F) pnn) x fun T s1 x1 => ?_
 obtain ⟨m, hm, _⟩ := x1.inv.loc
 refine ⟨m, hm, fun h' hsb cenv hc => ?_⟩
 have J : Inv (cxC (Cx.xw X cl W) scope N s3 H3 fp) (pn ++ pins') σ' H' s1 := inv_np (x1.inv.wish fun _ _ => False)
 have I0 : Inv X pins σ H' s1 := (CompOk.stop I3 (fun b hb => (hf b hb).1) J).unwish
 have al : ∀ b, Alien (cxC (Cx.xw X cl W) scope N s3 H3 fp pn) pins' H' b -> Alien X pins H' b := fun b A => (WR F.pin I3.unwish A.young).to A.trk
 have fo : FpOk X pins H' s3.heap.objs.size := I3.unwish.fpOk (Nat.le_refl _) x1.inv.free
 have ne : ∀ b, Alien (cxC (Cx.xw X cl W) scope N s3 H3 fp pn) pins' H' b -> h'.get? b = s1.heap.get? b := fun b A => hsb.2 b A.loc
 have aT := x1.nt T _ rfl
 have x2 : Exc X pins σ H' a (cl c) (some (T, rawInt L)) { s1 with heap := h' } := by
  refine ⟨atC I0 fo hsb, al a x1.al, ?_, fun T' f z => by cases z; exact al T aT⟩
  obtain ⟨oe, vs, a0, oT, ts, he, hc, hd, h0, h1, hne, hT, hdT, h3⟩ := x1.ob
  exact ⟨oe, vs, a0, oT, ts, (ne a x1.al).trans he, hc, hd, h0, h1, hne, (ne T aT).trans hT, hdT, h3⟩
 exact x2.pass fun fl s2 x3 => ⟨a, c, pins, σ, H', _, rfl, x3, hw⟩
end
end Fx
namespace Fx
open PySem PySem.Spec PyProof.Rows L2
def cxH (X : Cx) (a : Addr) : Cx := { X with A := X.A.mark (some (.ref a)), calm := false, xe := fun _ _ => False }
section
variable {X : Cx} {pins : List (Addr × Obj)} {σ : L2.St} {H H' : Hp} {s s' : Shared} {a : Addr} {cv : Value} {n : Option (Addr × Value)} {cl : Str -> Value} {W : Str -> Hp -> Prop} {L : Addr}
theorem inv_h (I : Inv X pins σ H s) : Inv (cxH X a) pins σ H s :=
 ⟨⟨I.ok.mod, I.ok.kind, I.ok.glob, I.ok.blt, I.ok.above, I.ok.inj, I.ok.has, I.ok.cab, fun z => (by cases z), I.ok.frames, I.ok.stk, I.ok.exf, I.ok.bs, I.ok.bsz, I.ok.noex, I.ok.exfs, I.ok.funs, I.ok.frf⟩, I.os, I.bare, I.base, I.loc, I.cell, I.free, I.freeC, I.pin, I.hok, I.len⟩
theorem Jq (ok : X.Ok) (I : Inv (cxH X a) pins σ H s) : Inv X pins σ H s := ⟨ok, I.os, I.bare, I.base, I.loc, I.cell, I.free, I.freeC, I.pin, I.hok, I.len⟩
theorem exc_h (x : Exc X pins σ H a cv n s) : Exc (cxH X a) pins σ H a cv n s := ⟨inv_h x.inv, ⟨x.al.young, x.al.loc, x.al.cell, x.al.pin, x.al.trk, x.al.frm⟩, x.ob, fun T f z => let A := x.nt T f z; ⟨A.young, A.loc, A.cell, A.pin, A.trk, A.frm⟩⟩
theorem sp_oh {D : Ends} {f : Flow} (ok : X.Ok) (h : SP (cxH X a) pins D f s') : SP X pins D f s' := by
 cases f with
 | next => obtain ⟨σ', H', I, q⟩ := h; exact ⟨σ', H', Jq ok I, q⟩
 | brk => obtain ⟨σ', H', I, q⟩ := h; exact ⟨σ', H', Jq ok I, q⟩
 | cont => obtain ⟨σ', H', I, q⟩ := h; exact ⟨σ', H', Jq ok I, q⟩
 | ret u => obtain ⟨v, σ', H', I, r, q⟩ := h; exact ⟨v, σ', H', Jq ok I, r, q⟩
theorem zaT {K : PySem.W.Frag} {M : Model} {A : Around} {E : Value -> Shared -> Prop} {mg : Str -> Option Value} {x : Str} {C C' : Addr} {ob : Obj} {Q : Bool -> Shared -> Prop} (k : K.In s.heap) (c : XCls K mg x C') (ho : s.heap.get? a = some ob) (hc : ob.cls = .ref C)
  (hsub : PySem.W.subIn K (.ref C) (.ref C') = some true) (q : Q true s) : wpAny M A (excMatches (.ref a) (.ref C')) Q E s := by
 obtain ⟨tl, N, nm, qn, bs, hd, sn, sb, ab, co, dd, k0, k1, k2, k3, k5, mN, hC, hN, hni, tail⟩ := (c.obj k).obj
 have hB : (Value.ref C' :: tl).contains (.type "BaseException") = true := by rw [List.contains_cons, tail.hasType PySem.F.excBase_ValueError.hasBase, Bool.or_true]
 have nt := tc_notTuple
 obtain ⟨hp, g, d, tk, os⟩ := s
 unfold excMatches
 repeat (first | (with_reducible refine wpAny_loadPart_at ho ?_; rw [hc]) | with_reducible refine wpAny_loadPart_at hC ?_ | (with_reducible refine wpAny_isSubtype_exc hC ?_; rw [hB]) | (refine (PySem.W.looks_subIn k hsub).at ?_) | wp_step)
 exact q
theorem isi_exc {x : Addr} {A : Around} {Ee : Value -> Shared -> Prop} {Q : Value -> Shared -> Prop} (I : Inv X pins σ H s) (h : H x = some (XO X.K x)) (q : Q (.bool true) s) : wpAny (model X.prog X.w) A (call (.builtin "isinstance") [.ref x, .type "ValueError"]) Q Ee s := by
 obtain ⟨⟨ob, C, ho, hc, hs⟩, _, _⟩ := I.hok x _ h
 have lt : PySem.W.Looks (model X.prog X.w) s.heap (typeOf (.ref x)) (.ref C) := hc ▸ (PySem.W.Looks.ld ho).andThen .now
 have li : PySem.W.Looks (model X.prog X.w) s.heap (isInstance (.ref x) (.type "ValueError")) true := lt.andThen (PySem.W.looks_subIn I.kIn hs)
 refine call_isinstance_of ?_ (by intro e; cases e)
 unfold Builtin.«isinstance.nested»
 refine wpAny_bind (lt.at ?_)
 rw [if_neg (show ¬ ((Value.ref C == Value.type "ValueError") = true) from Bool.false_ne_true)]
 refine wpAny_bind (wpAny_of_eq (a := Value.type "type") (PySem.W.kitMeta_of (by decide +kernel)) ?_)
 rw [if_pos (by decide)]
 k_delta "plainIsInstance"
 refine wpAny_bind (wpAny_bind (wpAny_of_eq (a := true) rfl ?_))
 simp only [Bool.not_true, Bool.false_eq_true, if_false]
 refine wpAny_bind (li.at ?_)
 simp only [if_true]
 exact wpAny_pure (wpAny_pure q)
theorem call_isx : UH X (.builtin "isinstance") (fun xs H Q => ∃ x, xs = [.ref x, .ty "ValueError"] /\ H x = some (XO X.K x) /\ Q (.bl true) H) := by
 intro pins s σ H xs us Q I r h
 obtain ⟨x, rfl, hx, q⟩ := h
 obtain ⟨u, w', rfl, ru, rw'⟩ := vals2 r
 cases ru
 cases rw'
 exact isi_exc I hx ⟨.bl true, H, I, rfl, q⟩
theorem ev_isx {ex : Expr} {da : DE} {p p2 pos : Pos} (hg : Gl X "isinstance") (hm : X.mg "isinstance" = none) (hg2 : Gl X "ValueError") (hm2 : X.mg "ValueError" = none) (ha : EV X W ex da)
  (hs : starEach [ex, .Name "ValueError" p2] X.env = (false, eval ex X.env) :: starEach [.Name "ValueError" p2] X.env := by rfl) (hs2 : starEach [.Name "ValueError" p2] X.env = (false, eval (.Name "ValueError" p2) X.env) :: starEach [] X.env := by rfl)
  (hpl : (backTo pos (starEach [.Name "ValueError" p2] X.env)).any (·.1) = false := by rfl) :
  EV X W (.Call (.Name "isinstance" p) [ex, .Name "ValueError" p2] [] pos) (d1 fIsX da) :=
 ZA (W4 call_isx hg hm (show bootBuiltins "isinstance" = some (.builtin "isinstance") by decide +kernel) (ZV ha (ZV (zer (v := .ty "ValueError") hg2 hm2 (show bootBuiltins "ValueError" = some (.type "ValueError") by decide +kernel) rfl) YX hs2) hs) (he := hs) (hpl := hpl)) fun σ H Q ⟨G, P, h, q⟩ => by
  unfold d1 at q
  obtain ⟨q1, q2, q3⟩ := Wr q
  refine Zy h q1 q2 fun tx x H1 ex s1 h1 rx => ?_
  have q4 := Yu.up (q3 tx ex) s1
  cases tx <;> try exact q4.elim
  rename_i ys
  cases ys with
  | cons y ys => exact q4.elim
  | nil =>
   obtain ⟨y, rfl, hy, _⟩ := rl_exc.mp rx
   exact ⟨y, rfl, hy, ZE q4⟩
theorem zcS {ex : Expr} {es : List Expr} {k np : Nat} {x : Str} {f : DF} {d : DA} {p pos : Pos} (C : Clx X.prog X.w X.K X.mg X.base cl k x np f) (hr : Room k X.A) (hp : zas X) (hg : Gl X x) (ha : AV X.nox (fun _ _ => False) (ex :: es) d)
  (hL : ∀ G ts, d G = .ok ts -> ts.length = np) (hdb : (x == ("__debug__" : Str)) = false) (he : starEach (ex :: es) X.env = (false, eval ex X.env) :: starEach es X.env) (hpl : (backTo pos (starEach es X.env)).any (·.1) = false)
  {G : List Sl} {P : Pv} (I : Inv X pins σ H s) (h : Hol X.K H P σ G) {Q : Value -> Shared -> Prop} {Ee : Value -> Shared -> Prop} {ts : List PyData} (hd : d G = .ok ts) (hns : f ts ≠ .stuck)
  (ok : ∀ t, f ts = .ok t -> ∀ v u H' s', Inv X pins σ H' s' -> Same H H' -> Rl X.K H' P t v -> RelV v u -> Q u s')
  (xc : ∀ c, f ts = .exc c -> ∀ a T H' s', Exc X pins σ H' a (cl c) (some (T, .none)) s' -> Same H H' -> Ee (.ref a) s') :
  wpAny (model X.prog X.w) X.A (eval (.Call (.Name x p) (ex :: es) [] pos) X.env) Q Ee s := by
 obtain ⟨fa, fd, ps, F, hm, hk, hb⟩ := C.ex
 refine wpAny_Call_Name_kw (Vi I hg hm ?_ hdb)
 refine PySem.W.callWith_K (h₀ := X.base) I.ok.mod.kin hk (wpAny_mono (ha pos pins s σ H (fun vs H1 => Same H H1 /\ Rls X.K H1 P ts vs) (I.wish _) ⟨G, P, h, by rw [hd]; exact fun vs H' s r => ⟨s, r⟩⟩) (fun us s1 hA => ?_) fun _ _ z => False.elim z) he hpl
 obtain ⟨vs, H1, I1, r, sm, rs⟩ := hA
 have J := I1.unwish
 refine ⟨J.kIn, ?_⟩
 have h1 := h.same sm
 have el : vs ++ [] = vs := List.append_nil vs
 have eu : us ++ [] = us := List.append_nil us
 have gg : Tr H1 P H1 ⟨fun _ => none, fun a => ¬ Off P a⟩ := fun a o e1 _ o1 => ⟨e1, fun _ z => (by cases z), fun z => z o1⟩
 have back : ∀ H2, Tr H2 ⟨fun _ => none, fun a => ¬ Off P a⟩ H2 P := fun H2 a o e1 _ o1 => ⟨e1, Classical.byContradiction fun z => o1.2 z⟩
 have sp : spF X.K (some cl) np f (vs ++ []) H1 (fun v H' => ∃ t, f ts = .ok t /\ Same H1 H' /\ Rl X.K H' P t v) (fun cv _ H' => ∃ c, f ts = .exc c /\ cv = cl c /\ Same H1 H') := by
  rw [el]
  refine ⟨by rw [<- rs.length]; exact hL G ts hd, ts, ⟨fun _ => none, fun a => ¬ Off P a⟩, Rls.go gg ts vs rs, fun _ => rfl, ⟨fun a z => h1.ld z, h1.tab⟩, ?_⟩
  cases e : f ts with
  | ok t => exact fun v H' s r => ⟨t, rfl, s, Rl.go (back H') t v r⟩
  | exc c => exact fun dx H' s => ⟨c, rfl, rfl, s⟩
  | stuck => exact hns e
 have hl : (us ++ []).length = ps.length := by rw [eu, <- r.length, <- el]; exact F.len _ _ _ _ sp
 refine wpAny_call (codeAny_mono (F.run X.A X.stack s1 H1 ⟨us, []⟩ (us ++ []) (vs ++ []) _ _ hr J.env0 (hb s1 us J.kIn hl) (by rw [el, eu]; exact r) sp) fun r' s' hq => ?_)
 cases r' with
 | error e =>
  have hq' : CX1 X.prog X.w X.stack H1 s1 (fun cv _ H' => ∃ c, f ts = .exc c /\ cv = cl c /\ Same H1 H') e s' := hq
  obtain ⟨a, cv, T, H', rfl, x, c, ec, rfl, s2⟩ := Ql hp J hq'
  exact xc c ec a T H' s' x (sm.trans s2)
 | ok fl =>
  cases fl with
  | ret u =>
   obtain ⟨v, H', I', rv, t, et, s2, rl⟩ := J.after hq
   exact ok t et v u H' s' I' (sm.trans s2) rl rv
  | next => exact False.elim hq
  | brk => exact False.elim hq
  | cont => exact False.elim hq
def QL (X : Cx) (cl : Str -> Value) (sub : Str -> Bool) (C' : Addr) : Prop := ∀ c, sub c = true -> ∃ C, cl c = .ref C /\ PySem.W.subIn X.K (.ref C) (.ref C') = some true
section
variable {Cn : Str} {C' : Addr} {sub : Str -> Bool} {dh : DS} {b₀ : Stmt} {suite : List Stmt} {np hpos : Pos} {ex : Expr} {es : List Expr} {k nps : Nat} {x : Str} {f : DF} {d : DA} {p cpos epos pos : Pos}
end
theorem zeX {o : HO} (I : Inv X pins σ H s) (A : Alien X pins H a) (ho : Y6 X.prog X.w (upd H a o) s.heap a o) : Inv X pins σ (upd H a o) s := by
 refine ⟨I.ok, I.os, I.bare, ⟨I.base.keep, I.base.slot, fun b u e n hx => ?_, I.base.there, fun b xs e => ?_, fun b u xs e => ?_, fun b ps e => ?_⟩, I.loc, I.cell, ?_, fun x c e => ?_, fun p hp => ?_, fun b u e => ?_, I.len⟩
 ·rw [Zn (fun z => by rw [z, A.young] at e; cases e)]
  exact I.base.free b u e n hx
 ·have q := I.base.tups b xs e
  rw [Zn (Zu q A.trk)]
  exact q
 ·have q := I.base.frzs b u xs e
  rw [Zn (Zu q A.trk)]
  exact q
 ·obtain ⟨m, q⟩ := I.base.tbls b ps e
  exact ⟨m, by rw [Zn (Zu q A.trk)]; exact q⟩
 ·rw [Zn (Ne.symm A.loc)]; exact I.free
 ·rw [Zn (A.cell x c e)]; exact I.freeC x c e
 ·obtain ⟨e, q, r⟩ := I.pin p hp
  exact ⟨e, by rw [Zn (A.pin p hp)]; exact q, r⟩
 ·by_cases hb : b = a
  ·subst hb
   rw [Zp] at e
   cases e
   exact ho
  ·rw [Zn hb] at e
   exact (I.hok b u e).stay (fun _ _ _ q => q) (fun c q => by rw [Zn (Zu q A.trk)]; exact q) fun c ys q => by rw [Zn (Zu q A.trk)]; exact q
theorem zdU {M : Model} {A : Around} {Ee : Value -> Shared -> Prop} {i : Nat} {x : Str} {v : V} {Q : Unit -> Shared -> Prop} (I : Inv X pins σ H s) (hN : X.N.Nodup) (hi : X.N[i]? = some x) (hv : σ[i]? = some (some v)) (hx : X.env.kindOf x = some .local)
  (h : ∀ s', Inv X pins (σ.set i none) H s' -> Q () s') : wpAny M A (unbindName X.env x) Q Ee s := by
 obtain ⟨m, hn, hl⟩ := id I.loc
 have hcls : (X.env.scope.kind == .class || (X.env.scope.kind == .module && X.env.locals != X.env.globals)) = false := by rw [I.ok.kind]; rfl
 obtain ⟨u, _, lk⟩ := hl i x v hi hv (.inl hx)
 have hm : m x = some u := by
  rcases lk with ⟨_, e⟩ | ⟨k, _⟩
  ·exact e
  ·rw [hx] at k; rcases k with k | k <;> cases k
 have hiσ : i < σ.length := by rw [I.len]; exact (List.getElem?_eq_some_iff.mp hi).1
 obtain ⟨oL, _, _, hoL, _⟩ := id hn
 have low : ∀ b o, X.s₀.heap.get? b = some o -> b ≠ X.env.locals := fun b o e => Nat.ne_of_lt (Nat.lt_of_lt_of_le (Heap.lt_size e) I.ok.above)
 refine wpAny_unbindName_local hx hn hm hcls fun h' w hn' hs => h _ ⟨I.ok, I.os, I.bare, ⟨fun b o e n hb hx => (hs.2 b (low b o e)).trans (I.base.keep b o e n hb hx), fun b o e n hb hx => ?_, I.base.free, fun b o e hx => ?_, I.base.tups, I.base.frzs, I.base.tbls⟩,
  ⟨_, hn', fun j y v' e1 e2 e3 => ?_⟩, fun y c e => ?_, I.free, I.freeC, fun p hp => ?_, fun b ob e => ?_, by simpa using I.len⟩
 ·obtain ⟨sl, e1⟩ := I.base.slot b o e n hb hx
  exact ⟨sl, (hs.2 b (low b o e)).trans e1⟩
 ·obtain ⟨o', e1⟩ := I.base.there b o e hx
  exact ⟨o', (hs.2 b (low b o e)).trans e1⟩
 ·by_cases hj : j = i
  ·subst hj
   rw [List.getElem?_set_self hiσ] at e2
   cases e2
  ·rw [List.getElem?_set_ne (Ne.symm hj)] at e2
   obtain ⟨u', r', q⟩ := hl j y v' e1 e2 e3
   refine ⟨u', r', ?_⟩
   rcases q with ⟨k, e⟩ | ⟨k, c, e, z⟩
   ·refine .inl ⟨k, ?_⟩
    have : y ≠ x := fun e => hj (JX hN e1 (e ▸ hi))
    simp [this, e]
   ·exact .inr ⟨k, c, e, z.sameBut hs (I.cne y c e)⟩
 ·obtain ⟨w', z⟩ := I.cell y c e
  exact ⟨w', z.sameBut hs (I.cne y c e)⟩
 ·obtain ⟨e, n, ne, nf, d⟩ := I.pin p hp
  exact ⟨(hs.2 p.1 ne).trans e, n, ne, nf, d⟩
 ·refine (I.hok b ob e).stay (fun c w' hc q => (hs.2 c ?_).trans q) (fun _ q => q) fun _ _ q => q
  rintro rfl
  rcases hc with z | z
  ·rw [<- z, I.free] at e; cases e
  ·rw [I.free] at z; cases z
theorem Hol.forget {K : PySem.W.Frag} {H : Hp} {P : Pv} {σ : L2.St} {G : List Sl} (h : Hol K H P σ G) (i : Nat) (x : Option V) : ∃ P', Hol K H P' (σ.set i x) (G.set i .emp) /\ Go H P H P' := by
 refine ⟨P.del i, ⟨fun j s q => ?_, fun a b c h1 h2 => ?_, fun j a z => ?_, h.fbd, fun j a z => ?_, by rw [List.length_set, List.length_set]; exact h.len, h.tab⟩, .del⟩
 ·by_cases e : j = i
  ·subst e
   have hl : j < G.length := by simpa using (List.getElem?_eq_some_iff.mp q).1
   rw [List.getElem?_set_self hl] at q
   cases q
   trivial
  ·rw [List.getElem?_set_ne (Ne.symm e)] at q
   have z := h.sl j s q
   rw [Wy e]
   cases s with
   | emp => trivial
   | val t' => obtain ⟨v', e1, r'⟩ := z; exact ⟨v', e1, Rl.go .del t' v' r'⟩
   | own xs => obtain ⟨p, vs, e1, e2, e3, r'⟩ := z; exact ⟨p, vs, e1, (by show (if j = i then none else P.own j) = _; rw [if_neg e]; exact e2), e3, Rls.go .del xs vs r'⟩
   | dct xs => obtain ⟨p, vs, e1, e2, e3, r'⟩ := z; exact ⟨p, vs, e1, (by show (if j = i then none else P.own j) = _; rw [if_neg e]; exact e2), e3, Rlk.go .del xs vs r'⟩
 ·have h1' : (if a = i then none else P.own a) = some c := h1
  have h2' : (if b = i then none else P.own b) = some c := h2
  split at h1'
  ·cases h1'
  ·split at h2'
   ·cases h2'
   ·exact h.inj a b c h1' h2'
 ·have z' : (if j = i then none else P.own j) = some a := z
  split at z'
  ·cases z'
  ·rename_i ne
   obtain ⟨xs, q, m⟩ := h.only j a z'
   exact ⟨xs, by rw [List.getElem?_set_ne (Ne.symm ne)]; exact q, m⟩
 ·have z' : (if j = i then none else P.own j) = some a := z
  split at z'
  ·cases z'
  ·exact h.nfb j a z'
def endsA (K : PySem.W.Frag) (H : Hp) (P : Pv) (i : Nat) (D : Ends) : Ends where
 nx := fun σ' H' => ∃ G' P', Go H P H' P' /\ Hol K H' P' σ' G' /\ ∀ σ2 P2, Go H P H' P2 -> Hol K H' P2 σ2 (G'.set i .emp) -> D.nx σ2 H'
 rt := D.rt
theorem zdT {i : Nat} {n : Str} {hpos : Pos} {Q : Unit -> Shared -> Prop} (I : Inv X pins σ H s) (hN : X.N.Nodup) (hi : X.N[i]? = some n) (hn : X.env.kindOf n = some .local) (q : ∀ s', Inv X pins ((σ.set i (some .non)).set i none) H s' -> Q () s') :
  wpAny (model X.prog X.w) X.A (do bindName X.env n .none; unbindBehindTheSuite X.env n hpos) Q X.xe s := by
 refine wpAny_bind (wpAny_bindName (UK I hN hi (.inl hn) (v := .non) rfl (fun s1 I1 => ?_) (.inr hn)))
 unfold unbindBehindTheSuite
 refine wpAny_onRaise (zdU I1 hN hi (v := .non) ?_ hn fun s2 I2 => q s2 I2)
 exact List.getElem?_set_self (by rw [I.len]; exact (List.getElem?_eq_some_iff.mp hi).1)
theorem handledA {Cn n : Str} {i : Nat} {C' : Addr} {sub : Str -> Bool} {c : Str} {dh : DS} {b₀ : Stmt} {suite : List Stmt} {np hpos : Pos} {D : Ends} {G : List Sl} {P : Pv} (F : InFrame X L) (hcn : XCls X.K X.mg Cn C') (hgn : Gl X Cn) (hdb : (Cn == ("__debug__" : Str)) = false) (hsub : QL X cl sub C') (hs : sub c = true)
  (hve : ∀ C, cl c = .ref C -> PySem.W.subIn X.K (.ref C) (.type "ValueError") = some true) (hN : X.N.Nodup) (hi : X.N[i]? = some n) (hn : X.env.kindOf n = some .local)
  (hh : SVs (cxH X a) (fun _ _ => False) fl (b₀ :: suite) dh) {T : Addr} (x : Exc X pins σ H a (cl c) (some (T, .none)) s) (h : Hol X.K H P σ G)
  (q : Xm X.K (fun _ _ => False) fl H P ((noX (dh (G.set i (.val (.dict []))))).bind fun o => match o with
   | .nx G' => .ok (.nx (G'.set i .emp))
   | .rt t => .ok (.rt t)
   | _ => .stuck) D) :
  wpAny (model X.prog X.w) X.A (noteFrame (.ref a) X.env) (fun _ s₂ => wpAny (model X.prog X.w) X.A (setFlight (.ref a) none) (fun _ s₃ => wpAny (model X.prog X.w) X.A (handleBy (.ref a) X.env [.ExceptHandler (some (.Name Cn np)) (some n) (b₀ :: suite) hpos]) (SP X pins D) X.xe s₃) X.xe s₂) X.xe s := by
 refine x.note F fun T1 s1 x1 => x1.flight (fr := none) fun s2 x2 => ?_
 obtain ⟨C, ec, hC⟩ := hsub c hs
 obtain ⟨oe, vs, a0, b1, ho, hc, _⟩ := x2.ob.first
 refine wpAny_handleBy_cons (codeAny_handlers_test (Vi (X := cxH X a) (inv_h x2.inv) hgn hcn.bd ?_ hdb)) (by intro z; cases z)
 refine zaT x2.inv.kIn hcn ho (hc.trans ec) hC ?_
 refine codeAny_handlers_suite_as (Exc.flight (X := cxH X a) (fr := none) (exc_h x2) fun s3 x3 => ?_)
 obtain ⟨oe3, vs3, a03, b13, ho3, hc3, _⟩ := x3.ob.first
 have hx0 : H a = none := x3.al.trk
 have I4 : Inv (cxH X a) pins σ (upd H a (XO X.K a)) s3 := by
  refine zeX x3.inv x3.al ⟨⟨oe3, C, ho3, hc3.trans ec, hve C ec⟩, ⟨oe3, ho3⟩, ?_⟩
  rintro h1 h2 ⟨ob, C1, e1, e2, e3⟩ k
  exact ⟨ob, C1, k ob e1, e2, e3⟩
 refine UK (X := cxH X a) I4 hN hi (.inl hn) (v := .ref a) rfl (fun s4 I5 => ?_) (.inr hn)
 have h4 : Hol X.K (upd H a (XO X.K a)) (P.del i) (σ.set i (some (.ref a))) (G.set i (.val (.dict []))) := (h.same (Zr hx0)).setVal i (rl_exc.mpr ⟨a, rfl, Zp, h.off_new hx0⟩)
 have g4 : Go H P (upd H a (XO X.K a)) (P.del i) := (Go.same (Zr hx0)).trans .del
 refine wpAny_mono (hh pins s4 _ _ (endsA X.K H P i D) I5 ⟨_, _, h4, ?_⟩) (fun f s5 h5 => ?_) fun _ _ z => False.elim z
 ·cases ed : dh (G.set i (.val (.dict []))) with
  | stuck => rw [ed] at q; exact q.elim
  | exc c => rw [ed] at q; exact q.elim
  | ok o =>
   rw [ed] at q
   cases o with
   | nx G' => exact fun σ' H' P' g' h' => ⟨G', P', g4.trans g', h', fun σ2 P2 g2 h2 => q σ2 H' P2 g2 h2⟩
   | rt t => exact fun v H' P' g' r n => q v H' P' (g4.trans g') r fun z => (n z).back g4
   | bk G' => exact q.elim
   | ct G' => exact q.elim
 ·have ok := x2.inv.ok
  cases f with
  | next =>
   obtain ⟨σ', H', I6, G', P', g', h', q'⟩ := h5
   refine zdT (Jq ok I6) hN hi hn fun s6 I7 => ⟨_, H', I7, ?_⟩
   obtain ⟨P2, h2, g2⟩ := h'.forget i (some .non)
   obtain ⟨P3, h3, g3⟩ := h2.forget i none
   have e3 : (G'.set i Sl.emp).set i Sl.emp = G'.set i Sl.emp := List.set_set ..
   rw [e3] at h3
   exact q' _ P3 (g'.trans (g2.trans g3)) h3
  | ret u =>
   obtain ⟨v, σ', H', I6, rv, q'⟩ := h5
   exact zdT (Jq ok I6) hN hi hn fun s6 I7 => ⟨v, _, H', I7, rv, q'⟩
  | brk => obtain ⟨_, _, _, z⟩ := h5; exact False.elim z
  | cont => obtain ⟨_, _, _, z⟩ := h5; exact False.elim z
section
variable {Cn n : Str} {i : Nat} {C' : Addr} {sub : Str -> Bool} {dh : DS} {b₀ : Stmt} {suite : List Stmt} {np hpos : Pos} {ex : Expr} {es : List Expr} {k nps : Nat} {x : Str} {f : DF} {d : DA} {p cpos epos pos : Pos}
theorem ss_tryA (F : InFrame X L) (C : Clx X.prog X.w X.K X.mg X.base cl k x nps f) (hr : Room k X.A) (hg : Gl X x) (ha : AV X.nox (fun _ _ => False) (ex :: es) d) (hcn : XCls X.K X.mg Cn C') (hgn : Gl X Cn) (hsub : QL X cl sub C')
  (hve : ∀ c, sub c = true -> ∀ C, cl c = .ref C -> PySem.W.subIn X.K (.ref C) (.type "ValueError") = some true) (hN : X.N.Nodup) (hi : X.N[i]? = some n) (hn : X.env.kindOf n = some .local)
  (hh : ∀ a, SVs (cxH X a) (fun _ _ => False) fl (b₀ :: suite) dh) (hL : ∀ G ts, d G = .ok ts -> ts.length = nps := by first | exact Jn | exact zaK | exact zaJ | exact zcA) (hdb : (x == ("__debug__" : Str)) = false := by decide) (hdn : (Cn == ("__debug__" : Str)) = false := by decide)
  (he : starEach (ex :: es) X.env = (false, eval ex X.env) :: starEach es X.env := by rfl) (hpl : (backTo cpos (starEach es X.env)).any (·.1) = false := by rfl) (hsw : swapsWith (.Call (.Name x p) (ex :: es) [] cpos) none epos.line X.env = pure false := by rfl) :
  SV X W fl (.Try [.Expr (.Call (.Name x p) (ex :: es) [] cpos) epos] [.ExceptHandler (some (.Name Cn np)) (some n) (b₀ :: suite) hpos] [] [] pos) (dTryA i (QI (Jv f d)) sub dh) := by
 intro pins s σ H D I ⟨G, P, h, q⟩
 obtain ⟨h', g⟩ := h.frzA
 unfold dTryA QI Jv at q
 cases ed : noX (d (frzA G)) with
 | exc c => rcases WK (d (frzA G)) with ⟨t, z⟩ | z <;> (rw [ed] at z; cases z)
 | stuck => rw [ed] at q; exact q.elim
 | ok ts =>
  rw [ed, Res.bind_ok] at q
  have hd : d (frzA G) = .ok ts := zcy ed
  refine wpAny_Try_except (wpAny_execs_cons (wpAny_Expr_any (zcS C hr F.pin hg ha hL hdb he hpl I h' hd (fun z => ?_) (fun t et v u H' s' I' sm rl rv => ?_) fun c ec a T H' s' xx sm => ?_) I.quiet hsw))
  ·rw [z] at q; exact q.elim
  ·rw [et] at q
   refine wpAny_execs_nil ?_
   exact wpAny_execs_nil ⟨σ, H', I', q σ H' P (.same sm) (h.same sm)⟩
  ·rw [ec] at q
   simp only [Res.bind_exc] at q
   split at q
   ·rename_i hs
    refine handledA F hcn hgn hdn hsub hs (hve c hs) hN hi hn (hh a) xx (h.same sm) ?_
    have q' := Xm.up q (.same sm)
    revert q'
    cases dh (G.set i (.val (.dict []))) with
    | ok o => cases o <;> exact fun z => z
    | exc c' => exact fun z => z.elim
    | stuck => exact fun z => z.elim
   ·exact q.elim
end
end
end Fx
namespace Fx
open PySem PySem.Spec PyProof.Rows L2
section
variable {X : Cx} {W : Str -> Hp -> Prop} {a b c e : Expr} {es : List Expr} {da db : DE} {pos : Pos}
theorem JJ (n d : Nat) (o : Option Int) : sIxT n d o = HT.sIx n d o := by cases o <;> rfl
theorem zft {K : PySem.W.Frag} {H : Hp} {P : Pv} {xs : List PyData} {vs : List V} (lo hi : Option Int) (r : Rls K H P xs vs) : Rls K H P (cutT xs lo hi) (cutV vs lo hi) := by
 unfold cutT cutV
 rw [JJ, JJ, r.length]
 exact (r.drop _).take _
def PV (X : Cx) (W : Str -> Hp -> Prop) (e : Option Expr) (d : DP) : Prop := PO X e fun σ H Q => ∃ G P, Hol X.K H P σ G /\ match d G with
 | .ok o => ∀ H', Same H H' -> Q o H'
 | .exc c => ∀ H', Same H H' -> W c H'
 | .stuck => False
theorem U0 : PV X W none pNo := fun pins s σ H Q I ⟨G, P, h, q⟩ => po_none pins s σ H Q I (q H (Same.refl H))
theorem U1 (he : EV X W e da) : PV X W (some e) (pAt da) := fun pins s σ H Q I ⟨G, P, h, q⟩ => po_some he pins s σ H Q I (by
 unfold pAt at q
 refine ⟨G, P, h, ?_⟩
 cases ed : da G with
 | stuck => rw [ed] at q; exact q.elim
 | exc c => rw [ed] at q; exact q
 | ok t =>
  rw [ed, Res.bind_ok] at q
  cases t <;> try exact q.elim
  exact fun v H' s r => ⟨_, ZL.mp r, q H' s⟩)
theorem U4 {lo hi : Option Expr} {dl dh : DP} {p2 : Pos} (ha : EV X W a da) (hl : PV X W lo dl) (hh : PV X W hi dh) : OV X W (.Subscript a (.Slice lo hi none p2) pos) (oCut da dl dh) :=
 ZA (zcw sl_list ha hl hh) fun σ H Q ⟨G, P, h, q⟩ => by
  unfold oCut at q
  obtain ⟨q1, q2, q3⟩ := Ur q
  refine Zy h q1 q2 fun tx x H1 ex s1 h1 rx => ⟨G, P, h1, ?_⟩
  have q4 := q3 tx ex
  cases el : dl G with
  | stuck => rw [el] at q4; exact q4.elim
  | exc c => rw [el] at q4; exact fun H' s => q4 H' (s1.trans s)
  | ok l =>
   rw [el, Res.bind_ok] at q4
   refine fun H2 s2 => ⟨G, P, h1.same s2, ?_⟩
   cases eh : dh G with
   | stuck => rw [eh] at q4; exact q4.elim
   | exc c => rw [eh] at q4; exact fun H' s => q4 H' ((s1.trans s2).trans s)
   | ok u =>
    rw [eh, Res.bind_ok] at q4
    intro H3 s3
    cases tx <;> try exact q4.elim
    obtain ⟨p, vs, rfl, sl, rs⟩ := ZN.mp (Rl.go (.same (s2.trans s3)) _ x rx)
    exact ⟨p, vs, rfl, sl.sq, fun p hp => q4 p _ _ (((s1.trans s2).trans s3).trans (Zr hp)) (((s1.trans s2).trans s3).free hp) Zp (Vg hp (zft l u rs))⟩
end
theorem Clx.calN {X : Cx} {cl : Str -> Value} {k np : Nat} {x : Str} {f : DF} (C : Clx X.prog X.w X.K X.mg X.base cl k x np f) : Cal X (fun _ _ => False) (some cl) k x np f := by
 obtain ⟨fa, fd, ps, F, hm, hk, hb⟩ := C.ex
 refine ⟨⟨CX1 X.prog X.w, fa, fd, ps, F, hm, hk, hb, fun pins σ H s e s' I h => ?_⟩, fun z => by cases z⟩
 obtain ⟨_, _, _, _, _, _, _, _, _, _, _, _, _, _, c, g, _, _, z⟩ := h
 exact z.elim
theorem W9 {X : Cx} {cl : Str -> Value} {C' : Addr} : QL X cl (subs []) C' := fun c h => by simp at h
theorem YO {X : Cx} {cl : Str -> Value} {C' C : Addr} {x : Str} {l : List Str} (e : cl x = .ref C) (h : PySem.W.subIn X.K (.ref C) (.ref C') = some true) (r : QL X cl (subs l) C') : QL X cl (subs (x :: l)) C' := fun c hc => by
 simp only [subs, List.contains_cons, Bool.or_eq_true] at hc
 rcases hc with z | z
 ·have : c = x := by simpa using z
  subst this
  exact ⟨C, e, h⟩
 ·exact r c z
theorem ve_nil {X : Cx} {cl : Str -> Value} : ∀ c, subs [] c = true -> ∀ C, cl c = .ref C -> PySem.W.subIn X.K (.ref C) (.type "ValueError") = some true := fun c h => by simp at h
theorem Jx {X : Cx} {cl : Str -> Value} {C : Addr} {x : Str} {l : List Str} (e : cl x = .ref C) (h : PySem.W.subIn X.K (.ref C) (.type "ValueError") = some true) (r : ∀ c, subs l c = true -> ∀ C, cl c = .ref C -> PySem.W.subIn X.K (.ref C) (.type "ValueError") = some true) :
  ∀ c, subs (x :: l) c = true -> ∀ C, cl c = .ref C -> PySem.W.subIn X.K (.ref C) (.type "ValueError") = some true := fun c hc C' ec => by
 simp only [subs, List.contains_cons, Bool.or_eq_true] at hc
 rcases hc with z | z
 ·have : c = x := by simpa using z
  subst this
  rw [e] at ec
  cases ec
  exact h
 ·exact r c z C' ec
end Fx
namespace Fx
open PySem
@[simp] def dRetO (i : Nat) : DS := fun G => match G[i]? with
 | some (.own xs) => .ok (.rt (.list xs))
 | _ => .stuck
@[simp] def asL : PyData -> Res (List PyData)
 | .list xs => .ok xs
 | _ => .stuck
@[simp] def oCall (f : DF) (a : DA) : DA := fun G => (a G).bind fun ts => (f ts).bind asL
def dUnp (st : PyData -> List Sl -> Res (List Sl)) (is : List Nat) (e : DE) : DS := fun G => (e (frz is G)).bind fun t => (st t (if Xi t then G else frz is G)).bind fun G' => .ok (.nx G')
@[simp] theorem dUnp_cons (st : PyData -> List Sl -> Res (List Sl)) (i : Nat) (is : List Nat) (e : DE) (G : List Sl) : dUnp st (i :: is) e G = (e (frz (i :: is) G)).bind fun t => (st t (if Xi t then G else frz (i :: is) G)).bind fun G' => .ok (.nx G') := rfl
@[simp] def set2 (i j : Nat) (G : List Sl) : List PyData -> Res Out
 | [x, y] => .ok (.nx ((G.set i (.val x)).set j (.val y)))
 | _ => .stuck
def dPar (i j : Nat) (is : List Nat) (d : DA) : DS := fun G => (d (frz is G)).bind fun ts => set2 i j (if Wv ts then G else frz is G) ts
@[simp] theorem dPar_cons (i j k : Nat) (is : List Nat) (d : DA) (G : List Sl) : dPar i j (k :: is) d G = (d (frz (k :: is) G)).bind fun ts => set2 i j (if Wv ts then G else frz (k :: is) G) ts := rfl
@[simp] def fMax : PyData -> PyData -> Res PyData
 | .int i, .int j => .ok (.int (if j > i then j else i))
 | _, _ => .stuck
end Fx
namespace Fx
open PySem
def lkp (f : Str) : List (PyData × PyData) -> Option PyData
 | [] => none
 | (.str n, t) :: r => if n = f then some t else lkp f r
 | _ => none
def fFld (f : Str) : PyData -> Res PyData
 | .dict kvs => ofO (lkp f kvs)
 | _ => .stuck
def zipK : List Str -> List PyData -> List (PyData × PyData)
 | n :: ns, t :: ts => (.str n, t) :: zipK ns ts
 | _, _ => []
@[simp] def dMk (ns : List Str) (d : DA) : DE := fun G => (d G).bind fun xs => if xs.length = ns.length /\ ns ≠ [] then .ok (.dict (zipK ns xs)) else .stuck
@[simp] def oRep (a : DA) (b : DE) : DA := fun G => (a G).bind fun xs => (b G).bind fun y => match y with
 | .int k => if Uu k = true /\ xs.length * k.toNat <= 16777216 then .ok (List.replicate k.toNat xs).flatten else .stuck
 | _ => .stuck
@[simp] def zde (a : DA) : DA := fun G => (a G).bind fun xs => if xs.length <= 16777216 then .ok xs else .stuck
def minL (key : PyData -> Res PyData) : PyData -> Int -> List PyData -> Res PyData
 | b, _, [] => .ok b
 | b, m, x :: r => (key x).bind fun y => match y with
  | .int k => if k < m then minL key x k r else minL key b m r
  | _ => .stuck
def minT (key : PyData -> Res PyData) : List PyData -> Res PyData
 | [] => .ok .none
 | x :: r => (key x).bind fun y => match y with
  | .int k => minL key x k r
  | _ => .stuck
@[simp] def dMinK (cap : List Nat) (da : DE) (de : DE) : DE := fun G => (da G).bind fun x => match x with
 | .list xs => minT (fun t => noX (de (.val t :: capS cap G))) xs
 | _ => .stuck
end Fx
namespace Fx
open PySem
@[simp] def zdH (a : DE) (lo hi : DP) : DE := fun G => (a G).bind fun x => (lo G).bind fun l => (hi G).bind fun h => match x with
 | .tuple xs => if sIxT xs.length 0 l = 0 /\ sIxT xs.length xs.length h = xs.length then .stuck else .ok (.tuple (cutT xs l h))
 | _ => .stuck
@[simp] def fAddU : PyData -> PyData -> Res PyData
 | .tuple xs, .tuple ys => if xs.length + ys.length <= 16777216 then .ok (.tuple (xs ++ ys)) else .stuck
 | _, _ => .stuck
end Fx
namespace Fx
open PySem
end Fx
namespace Fx
open PySem PySem.Spec PyProof.Rows L2
def PostN (K : PySem.W.Frag) (H : Hp) (P : Pv) (t : PyData) (Q : VK) : Prop := match t with
 | .list xs => ∀ p us H', Same H H' -> H p = none -> H' p = some (.lst us) -> Rls K H' (P.fbd p) xs us -> Q (.ref p) H'
 | t => ∀ v H', Same H H' -> Rl K H' P t v -> Q v H'
def spN (K : PySem.W.Frag) (cl : Option (Str -> Value)) (np : Nat) (f : DF) : Sp := fun vs H Q E => vs.length = np /\ ∃ ts P, Rls K H P ts vs /\ (∀ i, P.own i = none) /\ ((∀ a, P.fb a -> ∃ o, H a = some o /\ LD o) /\ Ws K H) /\
 match f ts with
 | .ok t => PostN K H P t Q
 | .exc c => spX E H c cl
 | .stuck => False
theorem spN_of {K : PySem.W.Frag} {cl : Option (Str -> Value)} {np : Nat} {f : DF} (vs : List V) (H : Hp) (Q : VK) (E : XK) (h : spF K cl np f vs H Q E) : spN K cl np f vs H Q E := by
 obtain ⟨hl, ts, P, rs, ho, hf, q⟩ := h
 refine ⟨hl, ts, P, rs, ho, hf, ?_⟩
 cases e : f ts with
 | stuck => rw [e] at q; exact q
 | exc c => rw [e] at q; exact q
 | ok t =>
  rw [e] at q
  cases t <;> try exact q
  rename_i xs
  exact fun p us H' s hp hl' r => q _ H' s (ZN.mpr ⟨p, us, rfl, .off hl' ⟨fun i z => (by rw [ho i] at z; cases z), fun z => by obtain ⟨o, q', _⟩ := hf.1 p z; rw [hp] at q'; cases q'⟩, Rls.go .fbd xs us r⟩)
theorem fn_new {P : Program} {w : World} {K : PySem.W.Frag} {mg : Str -> Option Value} {base : Heap} {x qual : Str} {st : Stmt} {f : Addr} {fd : FuncData} {N ps : List Str} {k np : Nat} {d : DS} (F : Fun K x qual st f fd) (S : FnScope N ps (Zd st)) (hnp : ps.length = np)
  (hb : ∀ (cdv : Value) (A : Around) (outer : List Env) (s : Shared) (H : Hp) (E : XK), Room k (A.deeper (envOfC qual (Zd st) s.heap.objs.size f cdv)) ->
   SVs (cxOf CX0 P w K mg base N qual (Zd st) f cdv A outer s H E).nox (fun _ _ => False) true (Zj st) d) : FnOk P w K mg base CX0 (k + 1) f fd ps (spN K none np (runQ N.length np d)) := by
 refine F.ok S (fun vs H Q E h => by rw [hnp]; exact h.1) fun cdv A outer s H vs Q E hr h => ⟨_, hb cdv A outer s H E hr, ?_⟩
 obtain ⟨hl, ts, P', rs, ho, hf, q⟩ := h
 have hlt : ts.length = np := by rw [rs.length]; exact hl
 refine ⟨_, P', VB rs ho hf, ?_⟩
 unfold runQ runF at q
 rw [if_pos hlt] at q
 have en : N.length - np = N.length - ts.length := by rw [hlt]
 rw [en] at q
 have sm : ∀ H' P2, Go H P' H' P2 -> Same H H' := fun H' P2 g => g.all ho
 cases e : d (ts.map .val ++ List.replicate (N.length - ts.length) .emp) with
 | stuck => rw [e] at q; exact q.elim
 | exc c => rw [e] at q; exact q.elim
 | ok o =>
  rw [e, Res.bind_ok] at q
  cases o with
  | nx G => exact fun σ' H' P2 g h' => q .non H' (sm H' P2 g) (Y0.mpr rfl)
  | rt t =>
   intro v H' P2 g r n
   obtain ⟨p, us, xs, rfl, rfl, e3, rr, fr⟩ := n rfl
   refine q p us H' (sm H' P2 g) ?_ e3 (Rls.go (P := P2.fbd p) (P' := P'.fbd p) (fun b o e _ z => ⟨e, fun i w => (by have w' : P'.own i = some b := w; rw [ho i] at w'; cases w'), fun w => z.2 (Or.elim w (fun w => Or.inl (by rw [g.fbe]; exact w)) Or.inr)⟩) xs us rr)
   cases eh : H p with
   | none => rfl
   | some o =>
    by_cases nt : Nt o
    ·obtain ⟨i, w⟩ := fr o eh nt; rw [ho i] at w; cases w
    ·obtain ⟨ps', rfl⟩ := not_nt nt
     obtain ⟨qs, w⟩ := g.tbk _ _ eh
     rw [e3] at w; cases w
  | bk G => exact q.elim
  | ct G => exact q.elim
structure Cln (P : Program) (w : World) (K : PySem.W.Frag) (mg : Str -> Option Value) (base : Heap) (k : Nat) (x : Str) (np : Nat) (f : DF) : Prop where
 ex : ∃ (fa : Addr) (fd : FuncData) (ps : List Str), FnOk P w K mg base CX0 k fa fd ps (spN K none np f) /\ mg x = some (.ref fa) /\ PySem.W.keepIn K (.ref fa) = true /\ ZC K fd ps []
 nox : ∀ ts c, f ts ≠ .exc c
structure Caln (X : Cx) (W : Str -> Hp -> Prop) (cl : Option (Str -> Value)) (k : Nat) (x : Str) (np : Nat) (f : DF) : Prop where
 ex : ∃ (CX : CXT) (fa : Addr) (fd : FuncData) (ps : List Str), FnOk X.prog X.w X.K X.mg X.base CX k fa fd ps (spN X.K cl np f) /\ X.mg x = some (.ref fa) /\ PySem.W.keepIn X.K (.ref fa) = true /\ ZC X.K fd ps [] /\ Us CX X (EX cl W)
 nox : cl = none -> ∀ ts c, f ts ≠ .exc c
section
variable {P : Program} {w : World} {K : PySem.W.Frag} {mg : Str -> Option Value} {base : Heap}
theorem Cln.cle {k np : Nat} {x : Str} {f : DF} (C : Cln P w K mg base k x np f) : Cle P w K mg base k x np f := by
 obtain ⟨fa, fd, ps, F, r⟩ := C.ex
 exact ⟨⟨fa, fd, ps, F.imp spN_of, r⟩, C.nox⟩
theorem Cln.mono {j k np : Nat} {x : Str} {f : DF} (C : Cln P w K mg base j x np f) (h : j <= k) : Cln P w K mg base k x np f := by
 obtain ⟨fa, fd, ps, F, r⟩ := C.ex
 exact ⟨⟨fa, fd, ps, F.mono h, r⟩, C.nox⟩
theorem Cln.cal {X : Cx} {W : Str -> Hp -> Prop} {k np : Nat} {x : Str} {f : DF} (C : Cln X.prog X.w X.K X.mg X.base k x np f) : Caln X W none k x np f := by
 obtain ⟨fa, fd, ps, F, hm, hk, hb⟩ := C.ex
 exact ⟨⟨CX0, fa, fd, ps, F, hm, hk, hb, fun _ _ _ _ _ _ _ h => h.elim⟩, fun _ => C.nox⟩
theorem cln_of {x : Str} {st : Stmt} {fa : Addr} {fd : FuncData} {N ps : List Str} {k n np : Nat} {d : DS} (F : Fun K x x st fa fd) (hm : mg x = some (.ref fa)) (b : ZC K fd ps []) (S : FnScope N ps (Zd st)) (hnp : ps.length = np) (hN : N.length = n)
  (hb : ∀ (cdv : Value) (A : Around) (outer : List Env) (s : Shared) (H : Hp) (E : XK), Room k (A.deeper (envOfC x (Zd st) s.heap.objs.size fa cdv)) ->
   SVs (cxOf CX0 P w K mg base N x (Zd st) fa cdv A outer s H E).nox (fun _ _ => False) true (Zj st) d) : Cln P w K mg base (k + 1) x np (runQ n np d) := by
 subst hN
 exact ⟨⟨fa, fd, ps, fn_new F S hnp hb, hm, F.kp, b⟩, fun ts c => JK _ _ _ ts c⟩
end
section
variable {X : Cx} {W : Str -> Hp -> Prop} {fl : Bool} {a b c e : Expr} {es : List Expr} {da db : DE} {pos : Pos}
theorem zew {cl : Option (Str -> Value)} {k np : Nat} {x : Str} {f : DF} {d : DA} {p : Pos} (C : Caln X W cl k x np f) (hr : Room k X.A) (hg : Gl X x) (ha : AV X W (e :: es) d) (hL : ∀ G ts, d G = .ok ts -> ts.length = np := by first | exact Jn | exact zaK | exact zaJ | exact zcA) (hdb : (x == ("__debug__" : Str)) = false := by decide)
  (he : starEach (e :: es) X.env = (false, eval e X.env) :: starEach es X.env := by rfl) (hpl : (backTo pos (starEach es X.env)).any (·.1) = false := by rfl) : OV X W (.Call (.Name x p) (e :: es) [] pos) (oCall f d) := by
 obtain ⟨CX, fa, fd, ps, F, hm, hk, hb, hx⟩ := C.ex
 refine ZA (zeq (x := x) (p := p) F hr hg hm hk hb .nil hx ha (hdb := hdb) (he := he) (hpl := hpl)) fun σ H Q ⟨G, P, h, q⟩ => ?_
 unfold oCall at q
 obtain ⟨q1, q2, q3⟩ := zcU q
 refine Wu h q1 q2 fun ts vs H1 es' s1 h1 rs => ?_
 have q4 := q3 ts es'
 have el : (vs ++ []) = vs := List.append_nil vs
 rw [el]
 have gg : Tr H1 P H1 ⟨fun _ => none, fun a => ¬ Off P a⟩ := fun a o e1 _ o1 => ⟨e1, fun _ z => (by cases z), fun z => z o1⟩
 refine ⟨by rw [<- rs.length]; exact hL G ts es', ts, ⟨fun _ => none, fun a => ¬ Off P a⟩, Rls.go gg ts vs rs, fun _ => rfl, ⟨fun a z => h1.ld z, h1.tab⟩, ?_⟩
 ·cases e : f ts with
  | ok t =>
   rw [e, Res.bind_ok] at q4
   cases t <;> try exact q4.elim
   rename_i xs
   intro p us H' s hp hl r
   refine q4 p us H' (s1.trans s) (s1.free hp) hl (Rls.go (fun b o eb _ z => ⟨eb, ?_⟩) xs us r)
   have o1 : Off P b := Classical.byContradiction fun w => z.2 (.inl w)
   exact ⟨o1.1, fun w => w.elim o1.2 fun w => z.2 (.inr w)⟩
  | exc c =>
   rw [e] at q4
   cases ec : cl with
   | none => exact absurd e (C.nox ec ts c)
   | some g => exact fun dx H' s => ⟨c, g, rfl, rfl, q4 H' (s1.trans s)⟩
  | stuck => rw [e] at q4; exact q4
theorem zd1 (i : Nat) {x : Str} {p : Pos} (hN : X.N[i]? = some x := by rfl) (hv : Vis X.env.scope x := by first | exact Or.inl rfl | exact Or.inr (Or.inl rfl) | exact Or.inr (Or.inr rfl)) (hd : (x == ("__debug__" : Str)) = false := by decide)
  (hcd : (x == ("__classdict__" : Str)) = false := by decide) : SV X W fl (.Return (some (.Name x p)) pos) (dRetO i) :=
 YF (zel (Vc hN hv hd hcd)) fun D σ H ⟨G, P, h, q⟩ => by
  unfold dRetO at q
  obtain ⟨h', g⟩ := h.frzA
  cases e : G[i]? with
  | none => rw [e] at q; exact q.elim
  | some s =>
   rw [e] at q
   cases s with
   | emp => exact q.elim
   | val t => exact q.elim
   | dct xs => exact q.elim
   | own xs =>
    obtain ⟨p', vs, e1, e2, e3, r⟩ := h.sl i _ e
    have z : (frzA G)[i]? = some (.val (.list xs)) := by rw [Wz, e]; rfl
    obtain ⟨v, e4, r2⟩ := h'.sl i _ z
    rw [e1] at e4
    cases e4
    exact ⟨.ref p', getD_some e1, q _ H P.bare g r2 fun _ => ⟨p', vs, xs, rfl, rfl, e3, Rls.go (P := P) (P' := P.bare.fbd p') (fun a o ea _ o1 => ⟨ea, fun j w => (by cases w), fun w => Or.elim w o1.2 fun w => o1.1 i (by rw [e2, w])⟩) xs vs r, fun o _ _ => ⟨i, e2⟩⟩⟩
end
end Fx
namespace Fx
open PySem PySem.Spec PyProof.Rows L2
section
variable {X : Cx} {W : Str -> Hp -> Prop} {fl : Bool} {tg a b c e : Expr} {es : List Expr} {da db dc : DE} {pos : Pos}
theorem tCB2_of {r : List V -> Hp -> VK -> Prop} {f : PyData -> PyData -> Res PyData} (hf : ∀ (H : Hp) (P : Pv) (σ : L2.St) (G : List Sl) (x y : V) (tx ty : PyData) (Q : VK), Hol X.K H P σ G -> Rl X.K H P tx x -> Rl X.K H P ty y -> Yu X.K W H P (f tx ty) Q -> r [x, y] H Q) {σ : L2.St} {H : Hp} {Q : VK} (h : tF X.K W (d2 f da db) σ H Q) :
  tCB r (zd0 (tF X.K W da) (zd0 (tF X.K W db) tNil)) σ H Q := by
 obtain ⟨G, P, h, q⟩ := h
 unfold d2 at q
 obtain ⟨q1, q2, q3⟩ := Wr q
 refine Zy h q1 q2 fun tx x H1 ex s1 h1 rx => ?_
 obtain ⟨q4, q5, q6⟩ := Wr (q3 tx ex)
 refine Zy h1 (fun c e H' s => q4 c e H' (s1.trans s)) q5 fun ty y H2 ey s2 h2 ry => ?_
 exact hf H2 P σ G x y tx ty Q h2 (Rl.go (.same s2) tx x rx) ry ((q6 ty ey).up (s1.trans s2))
theorem ev_max {p : Pos} (hg : Gl X "max") (hm : X.mg "max" = none) (ha : EV X W a da) (hb : EV X W b db) (hc : X.calm = true := by rfl) (hs : starEach [a, b] X.env = (false, eval a X.env) :: starEach [b] X.env := by rfl) (hs2 : starEach [b] X.env = (false, eval b X.env) :: starEach [] X.env := by rfl)
  (hpl : (backTo pos (starEach [b] X.env)).any (·.1) = false := by rfl) : EV X W (.Call (.Name "max" p) [a, b] [] pos) (d2 fMax da db) :=
 ZA (W4 (zfx hc) hg hm (show bootBuiltins "max" = some (.builtin "max") by decide +kernel) (ZV ha (ZV hb YX hs2) hs) (he := hs) (hpl := hpl)) fun σ H Q h => tCB2_of (fun H P σ G x y tx ty Q h rx ry q => by
  cases tx <;> cases ty <;> try exact q.elim
  exact ⟨_, _, by rw [ZL.mp rx, ZL.mp ry], Xg q⟩) h
end
end Fx
namespace Fx
open PySem PySem.Spec PyProof.Rows L2
section
variable {K : PySem.W.Frag} {H H' : Hp} {P P' : Pv}
theorem zee {C : Addr} {f : Str} {t : PyData} : ∀ {kvs : List (PyData × PyData)} {fs : List (Str × V)}, Rlp K H P C kvs fs -> lkp f kvs = some t -> ∃ v, fs.lookup f = some v /\ X5 K C f /\ Rl K H P t v
 | [], fs, _, e => by simp [lkp] at e
 | (k, u) :: r, fs, h, e => by
  obtain ⟨n, v, r', rfl, rfl, na, rv, rr⟩ := zcq.mp h
  simp only [lkp] at e
  split at e
  ·rename_i z
   cases e
   subst z
   exact ⟨v, by rw [List.lookup_cons, beq_self_eq_true], na, rv⟩
  ·rename_i z
   obtain ⟨v', e1, e2, e3⟩ := zee rr e
   refine ⟨v', ?_, e2, e3⟩
   rw [List.lookup_cons, show (f == n) = false from beq_eq_false_iff_ne.mpr fun q => z q.symm]
   exact e1
theorem zec {C : Addr} : ∀ {ns : List Str} {ts : List PyData} {vs : List V}, (∀ n ∈ ns, X5 K C n) -> Rls K H P ts vs -> Rlp K H P C (zipK ns ts) (ns.zip vs)
 | [], ts, vs, _, _ => by simp only [zipK, List.zip_nil_left]; exact zed.mpr rfl
 | n :: ns, [], vs, _, r => by rw [ZM.mp r]; simp only [zipK, List.zip_nil_right]; exact zed.mpr rfl
 | n :: ns, t :: ts, vs, h, r => by
  obtain ⟨v, r', rfl, a, b⟩ := Zx.mp r
  simp only [zipK, List.zip_cons_cons]
  exact zcq.mpr ⟨n, v, _, rfl, rfl, h n (by simp), a, zec (fun m hm => h m (by simp [hm])) b⟩
end
def spI (C : Addr) (ns : List Str) : Sp := fun vs H Q _ => ∃ x dx us, vs = .ref x :: us /\ us.length = ns.length /\ H x = some (.ins C dx []) /\ Q .non (upd H x (.ins C dx (ns.zip us)))
theorem spI_len {C : Addr} {ns : List Str} {vs : List V} {H : Hp} {Q : VK} {E : XK} (h : spI C ns vs H Q E) : vs.length = ns.length + 1 := by
 obtain ⟨x, dx, us, rfl, hl, _⟩ := h
 simp [hl]
theorem spI3 {C : Addr} {n1 n2 n3 : Str} {vs : List V} {H : Hp} {Q : VK} {E : XK} (h : spI C [n1, n2, n3] vs H Q E) : ∃ x dx u1 u2 u3, vs = [.ref x, u1, u2, u3] /\ H x = some (.ins C dx []) /\ Q .non (upd H x (.ins C dx [(n1, u1), (n2, u2), (n3, u3)])) := by
 obtain ⟨x, dx, us, rfl, hl, hx, q⟩ := h
 match us, hl with
 | [u1, u2, u3], _ => exact ⟨x, dx, u1, u2, u3, rfl, hx, q⟩
theorem putF3 {n1 n2 n3 : Str} {u1 u2 u3 : V} (h12 : ¬ n1 = n2) (h13 : ¬ n1 = n3) (h23 : ¬ n2 = n3) : putF n3 u3 (putF n2 u2 (putF n1 u1 [])) = [(n1, u1), (n2, u2), (n3, u3)] := by
 show putF n3 u3 (putF n2 u2 [(n1, u1)]) = _
 show putF n3 u3 (if n1 = n2 then _ else (n1, u1) :: [(n2, u2)]) = _
 rw [if_neg h12]
 show (if n1 = n3 then _ else (n1, u1) :: (if n2 = n3 then _ else (n2, u2) :: [(n3, u3)])) = _
 rw [if_neg h13, if_neg h23]
structure Mko (P : Program) (w : World) (K : PySem.W.Frag) (mg : Str -> Option Value) (base : Heap) (k : Nat) (x : Str) (ns : List Str) : Prop where
 ex : ∃ (C f : Addr) (fd : FuncData) (ps : List Str), L2.Mk K C f /\ FnOk P w K mg base CX0 k f fd ps (spI C ns) /\ mg x = some (.ref C) /\ ZC K fd ps [] /\ Cls K C /\ ∀ n ∈ ns, X5 K C n
theorem Mko.mono {P : Program} {w : World} {K : PySem.W.Frag} {mg : Str -> Option Value} {base : Heap} {j k : Nat} {x : Str} {ns : List Str} (M : Mko P w K mg base j x ns) (h : j <= k) : Mko P w K mg base k x ns := by
 obtain ⟨C, f, fd, ps, m, F, r⟩ := M.ex
 exact ⟨C, f, fd, ps, m, F.mono h, r⟩
section
variable {X : Cx} {W : Str -> Hp -> Prop} {fl : Bool} {a b c e : Expr} {es : List Expr} {da db : DE} {pos : Pos}
theorem ZU {f : Str} (ha : EV X W a da) (hb : attributeBase a f X.env (eval a X.env) = eval a X.env := by rfl) : EV X W (.Attribute a f pos) (d1 (fFld f) da) :=
 ZA (pe_fld ha hb) fun σ H Q ⟨G, P, h, q⟩ => by
  unfold d1 at q
  obtain ⟨q1, q2, q3⟩ := Wr q
  refine Zy h q1 q2 fun tx x H1 ex s1 h1 rx => ?_
  have q4 := Yu.up (q3 tx ex) s1
  cases tx <;> try exact q4.elim
  rename_i kvs
  cases kvs with
  | nil => exact q4.elim
  | cons y ys =>
   obtain ⟨k, w⟩ := y
   cases k <;> try exact (show False from q4).elim
   rename_i sk
   obtain ⟨a, C, dx, fs, rfl, ha, off, cl, r⟩ := rl_obj.mp rx
   simp only [fFld] at q4
   cases el : lkp f ((.str sk, w) :: ys) with
   | none => rw [el] at q4; exact q4.elim
   | some t =>
    rw [el] at q4
    obtain ⟨v, hv, na, rv⟩ := zee r el
    exact ⟨a, C, dx, fs, v, rfl, ha, cl, na, hv, q4 v H1 (Same.refl _) rv⟩
theorem zfa {k : Nat} {x : Str} {ns : List Str} {d : DA} {p : Pos} (M : Mko X.prog X.w X.K X.mg X.base k x ns) (hr : Room (k + 1) X.A) (hg : Gl X x) (ha : AV X W (e :: es) d) (hdb : (x == ("__debug__" : Str)) = false := by decide)
  (he : starEach (e :: es) X.env = (false, eval e X.env) :: starEach es X.env := by rfl) (hpl : (backTo pos (starEach es X.env)).any (·.1) = false := by rfl) : EV X W (.Call (.Name x p) (e :: es) [] pos) (dMk ns d) := by
 obtain ⟨C, f, fd, ps, m, F, hm, hb, cl, na⟩ := M.ex
 refine ZA (pe_make (x := x) (p := p) (E := E0) m F hr hg hm hb .nil pass0 ha (hdb := hdb) (he := he) (hpl := hpl)) fun σ H Q ⟨G, P, h, q⟩ => ?_
 unfold dMk at q
 obtain ⟨q1, q2, q3⟩ := zcV q
 refine Wu h q1 q2 fun ts vs H1 es' s1 h1 rs => ?_
 have q4 := Yu.up (q3 ts es') s1
 split at q4
 ·rename_i hl
  intro x dx hx hdx hne
  have sm : Same H1 (upd (upd (upd H1 dx (.own x)) x (.ins C dx [])) x (.ins C dx (ns.zip vs))) := .of fun b o e => by
   rw [Zn (Zu e hx), Zn (Zu e hx), Zn (Zu e hdx)]; exact e
  refine ⟨x, dx, vs ++ [], rfl, by rw [List.append_nil, <- rs.length]; exact hl.1, Zp, rfl, ?_⟩
  rw [List.append_nil]
  refine q4 _ _ sm ?_
  obtain ⟨hl, hn⟩ := hl
  have rz := zec (K := X.K) (C := C) (ns := ns) na (Rls.go (.same sm) ts vs rs)
  cases ns with
  | nil => exact absurd rfl hn
  | cons n ns =>
   cases ts with
   | nil => simp at hl
   | cons t ts => exact rl_obj.mpr ⟨x, C, dx, _, rfl, Zp, h1.off_new hx, cl, rz⟩
 ·exact q4.elim
theorem zcH {K : PySem.W.Frag} {H : Hp} {P : Pv} {ts : List PyData} {vs : List V} (r : Rls K H P ts vs) : ∀ n : Nat, Rls K H P (List.replicate n ts).flatten (List.replicate n vs).flatten
 | 0 => ZM.mpr rfl
 | n + 1 => by
  rw [List.replicate_succ, List.flatten_cons, List.replicate_succ, List.flatten_cons]
  exact r.append (zcH r n)
theorem zeu {dl : DA} (ha : OV X W a dl) (hb : EV X W b db) : OV X W (.BinOp a .Mult b pos) (oRep dl db) :=
 ZA (pe_op op_rep ha hb) fun σ H Q ⟨G, P, h, q⟩ => by
  unfold oRep at q
  obtain ⟨q1, q2, q3⟩ := zcU q
  refine ⟨G, P, h, ?_⟩
  cases el : dl G with
  | stuck => exact absurd el q2
  | exc c => exact fun H' s => q1 c el H' s
  | ok xs =>
   intro p vs H1 s1 hp hl rl
   obtain ⟨q4, q5, q6⟩ := Ur (q3 xs el)
   refine Zy (h.same s1) (fun c e H' s => q4 c e H' (s1.trans s)) q5 fun ty y H2 ey s2 h2 ry => ?_
   have q7 := q6 ty ey
   cases ty <;> try exact q7.elim
   rename_i k
   simp only at q7
   split at q7
   ·rename_i hz
    have hb1 := W2 hz.1
    have el2 := rl.length
    refine ⟨p, k, vs, rfl, ZL.mp ry, s2.kp _ _ hl Ue, by omega, by omega, by rw [sizeLine_eq, <- el2]; exact hz.2, fun p2 hp2 => ?_⟩
    refine q7 p2 _ _ ((s1.trans s2).trans (Zr hp2)) ((s1.trans s2).free hp2) Zp ?_
    exact Vg hp2 (zcH (Rls.go (P := P.fbd p) (P' := P) .fbd _ _ (Rls.go (.same s2) _ _ rl)) k.toNat)
   ·exact q7.elim
theorem zdR : ∀ {xs : List V} {us : List Value}, xs.length = us.length -> (∀ (i : Nat) x u, xs[i]? = some x -> us[i]? = some u -> RelV x u) -> Vals xs us
 | [], [], _, _ => .nil
 | [], u :: us, h, _ => by simp at h
 | x :: xs, [], h, _ => by simp at h
 | x :: xs, u :: us, h, r => .cons (r 0 x u rfl rfl) (zdR (by simpa using h) fun i y v e1 e2 => r (i + 1) y v (by simpa using e1) (by simpa using e2))
theorem VO (hc : X.calm = true) : UH X (.type "list") (fun xs H Q => ∃ r lo hi, xs = [.ref r] /\ H r = some (.rng lo hi) /\ -(2 ^ 62) <= lo /\ lo < 2 ^ 62 /\ -(2 ^ 62) <= hi /\ hi < 2 ^ 62 /\ (hi - lo).toNat <= 16777216 /\
  ∀ l, H l = none -> Q (.ref l) (upd H l (.lst ((List.range (hi - lo).toNat).map fun (i : Nat) => V.int (lo + (i : Int)))))) := by
 intro pins s σ H xs us Q I r h
 obtain ⟨p, lo, hi, rfl, hp, h1, h2, h3, h4, hz, q⟩ := h
 obtain ⟨u, rfl, rx⟩ := UR r
 cases rx
 obtain ⟨t, u, v, e⟩ := (show ∃ t u v, s.heap.get? p = some { cls := .type "range", data := .fields #[.int lo t, .int hi u, .int 1 v] } from I.hok p _ hp)
 refine call_list_range (n := (hi - lo).toNat) (I.ok.hd hc) (show IsRange s.heap p lo hi 1 t u v from e) (small_one h1 h2 h3 h4) (by rw [rangeSize_one]; split <;> omega) hz fun h' tk acc c' kp ea it => ?_
 have rv : Vals ((List.range (hi - lo).toNat).map fun (i : Nat) => V.int (lo + (i : Int))) acc.toList := by
  refine zdR (by rw [List.length_map, List.length_range, Array.length_toList, it.1]) fun i x u e1 e2 => ?_
  rw [List.getElem?_map] at e1
  cases ei : (List.range (hi - lo).toNat)[i]? with
  | none => rw [ei] at e1; cases e1
  | some j =>
   rw [ei] at e1
   obtain ⟨hj, ej⟩ := List.getElem?_eq_some_iff.mp ei
   rw [List.getElem_range] at ej
   subst ej
   cases e1
   obtain ⟨t, rfl⟩ := it.2 i u (by simpa using e2)
   exact ⟨t, by rw [Int.mul_one]⟩
 refine ⟨.ref s.heap.objs.size, _, I.laid (t' := tk) kp (Nat.le_refl _) (show Y6 X.prog X.w _ h' _ (.lst _) from ⟨by rw [List.length_map, List.length_range, sizeLine_eq]; exact hz, acc.toList, c', rv, by simpa using ea⟩), rfl, q _ (I.hok.fresh (Nat.le_refl _))⟩
theorem zcT : UH X (.type "range") (fun xs H Q => (∃ j, xs = [.int j] /\ ∀ r, H r = none -> Q (.ref r) (upd H r (.rng 0 j))) \/ (∃ i j, xs = [.int i, .int j] /\ ∀ r, H r = none -> Q (.ref r) (upd H r (.rng i j)))) := by
 intro pins s σ H xs us Q I r h
 rcases h with ⟨j, rfl, q⟩ | ⟨i, j, rfl, q⟩
 ·obtain ⟨u, rfl, t, rfl⟩ := UR r
  refine call_range_1 ⟨.ref s.heap.objs.size, _, I.laid (fun b o e => Heap.get?_push_of_some _ e) (Nat.le_refl _) (show Y6 X.prog X.w _ _ _ (.rng 0 j) from ⟨_, _, _, Heap.get?_push_size _ rfl⟩), rfl, q _ (I.hok.fresh (Nat.le_refl _))⟩
 ·cases r with
  | cons r1 rr =>
   cases rr with
   | cons r2 rr =>
    cases rr
    obtain ⟨t, rfl⟩ := r1
    obtain ⟨t', rfl⟩ := r2
    refine call_range_2 ⟨.ref s.heap.objs.size, _, I.laid (fun b o e => Heap.get?_push_of_some _ e) (Nat.le_refl _) (show Y6 X.prog X.w _ _ _ (.rng i j) from ⟨_, _, _, Heap.get?_push_size _ rfl⟩), rfl, q _ (I.hok.fresh (Nat.le_refl _))⟩
theorem zcn {K : PySem.W.Frag} {H : Hp} {P : Pv} (lo : Int) (n : Nat) : Rls K H P (rngT lo n) ((List.range n).map fun (i : Nat) => V.int (lo + (i : Int))) := by
 unfold rngT
 have : ∀ l : List Nat, Rls K H P (l.map fun (k : Nat) => .int (lo + (k : Int))) (l.map fun (i : Nat) => V.int (lo + (i : Int))) := by
  intro l
  induction l with
  | nil => exact ZM.mpr rfl
  | cons x l ih => exact Zx.mpr ⟨_, _, rfl, ZL.mpr rfl, ih⟩
 exact this _
theorem ov_rng1 {p p2 pos2 : Pos} (hg : Gl X "list") (hm : X.mg "list" = none) (hg2 : Gl X "range") (hm2 : X.mg "range" = none) (ha : EV X W a da) (hc : X.calm = true := by rfl) (hs : starEach [a] X.env = (false, eval a X.env) :: starEach [] X.env := by rfl)
  (hs2 : starEach [.Call (.Name "range" p2) [a] [] pos2] X.env = (false, eval (.Call (.Name "range" p2) [a] [] pos2) X.env) :: starEach [] X.env := by rfl) : OV X W (.Call (.Name "list" p) [.Call (.Name "range" p2) [a] [] pos2] [] pos) (zde (iRng da)) :=
 ZA (Wn (VO hc) hg hm (show bootBuiltins "list" = some (.type "list") by decide +kernel) (ZV (Wn zcT hg2 hm2 boot_range (ZV ha YX hs) (he := hs)) YX hs2) (he := hs2)) fun σ H Q ⟨G, P, h, q⟩ => by
  unfold zde iRng at q
  obtain ⟨q1, q2, q3⟩ := Ur (show zcb X.K W H P ((da G).bind fun x => ((match x with
   | .int j => if Uu j = true then .ok (rngT 0 j.toNat) else .stuck
   | _ => .stuck : Res (List PyData)).bind fun xs => if xs.length <= 16777216 then .ok xs else .stuck)) Q by
    cases e : da G <;> rw [e] at q <;> exact q)
  refine Zy h q1 q2 fun tx x H1 ex s1 h1 rx => ?_
  have q4 := q3 tx ex
  cases tx <;> try exact q4.elim
  rename_i j
  simp only at q4
  split at q4
  ·rename_i hj
   rw [Res.bind_ok] at q4
   split at q4
   ·rename_i hz
    have hb := W2 hj
    have hl : (rngT 0 j.toNat).length = j.toNat := by simp [rngT]
    refine .inl ⟨j, by rw [ZL.mp rx], fun r hr => ⟨r, 0, j, rfl, Zp, by omega, by omega, by omega, by omega, by rw [Int.sub_zero, <- hl]; exact hz, fun l hl' => ?_⟩⟩
    have s2 : Same H (upd H1 r (.rng 0 j)) := s1.trans (Zr hr)
    rw [Int.sub_zero]
    exact q4 l _ _ (s2.trans (Zr hl')) (s2.free hl') Zp (zcn 0 j.toNat)
   ·exact q4.elim
  ·exact q4.elim
theorem ov_rng2 {p p2 pos2 : Pos} (hg : Gl X "list") (hm : X.mg "list" = none) (hg2 : Gl X "range") (hm2 : X.mg "range" = none) (ha : EV X W a da) (hb : EV X W b db) (hc : X.calm = true := by rfl) (hs : starEach [a, b] X.env = (false, eval a X.env) :: starEach [b] X.env := by rfl)
  (hs3 : starEach [b] X.env = (false, eval b X.env) :: starEach [] X.env := by rfl) (hpl : (backTo pos2 (starEach [b] X.env)).any (·.1) = false := by rfl)
  (hs2 : starEach [.Call (.Name "range" p2) [a, b] [] pos2] X.env = (false, eval (.Call (.Name "range" p2) [a, b] [] pos2) X.env) :: starEach [] X.env := by rfl) : OV X W (.Call (.Name "list" p) [.Call (.Name "range" p2) [a, b] [] pos2] [] pos) (zde (iRng2 da db)) :=
 ZA (Wn (VO hc) hg hm (show bootBuiltins "list" = some (.type "list") by decide +kernel) (ZV (Wn zcT hg2 hm2 boot_range (ZV ha (ZV hb YX hs3) hs) (he := hs) (hpl := hpl)) YX hs2) (he := hs2)) fun σ H Q ⟨G, P, h, q⟩ => by
  unfold zde iRng2 at q
  obtain ⟨q1, q2, q3⟩ := Ur (show zcb X.K W H P ((da G).bind fun x => (db G).bind fun y => ((match x, y with
   | .int i, .int j => if Uu i = true /\ Uu j = true then .ok (rngT i (j - i).toNat) else .stuck
   | _, _ => .stuck : Res (List PyData)).bind fun xs => if xs.length <= 16777216 then .ok xs else .stuck)) Q by
    cases e : da G <;> rw [e] at q <;> cases e2 : db G <;> rw [e2] at q <;> exact q)
  refine Zy h q1 q2 fun tx x H1 ex s1 h1 rx => ?_
  obtain ⟨q4, q5, q6⟩ := Ur (q3 tx ex)
  refine Zy h1 (fun c e H' s => q4 c e H' (s1.trans s)) q5 fun ty y H2 ey s2 h2 ry => ?_
  have q7 := q6 ty ey
  cases tx <;> cases ty <;> try exact q7.elim
  rename_i i j
  simp only at q7
  split at q7
  ·rename_i hj
   rw [Res.bind_ok] at q7
   split at q7
   ·rename_i hz
    have hb1 := W2 hj.1
    have hb2 := W2 hj.2
    have hl : (rngT i (j - i).toNat).length = (j - i).toNat := by simp [rngT]
    refine .inr ⟨i, j, by rw [ZL.mp rx, ZL.mp ry], fun r hr => ⟨r, i, j, rfl, Zp, by omega, by omega, by omega, by omega, by rw [<- hl]; exact hz, fun l hl' => ?_⟩⟩
    have s3 : Same H (upd H2 r (.rng i j)) := (s1.trans s2).trans (Zr hr)
    exact q7 l _ _ (s3.trans (Zr hl')) (s3.free hl') Zp (zcn i (j - i).toNat)
   ·exact q7.elim
  ·exact q7.elim
theorem isN_b (t : PyData) : ∃ k, fIsN t = .ok (.bool k) := by cases t <;> exact ⟨_, rfl⟩
theorem notN_b (t : PyData) : ∃ k, zaS t = .ok (.bool k) := by cases t <;> exact ⟨_, rfl⟩
theorem tv_of1 {f : PyData -> Res PyData} (hf : ∀ t, ∃ k, f t = .ok (.bool k)) {σ : L2.St} {H : Hp} {Q : Bool -> Hp -> Prop} (h : tFT X.K W (tV (d1 f da)) σ H Q) : tF X.K W (d1 f da) σ H fun x H1 => ∃ c, x = .bl c /\ Q c H1 := by
 obtain ⟨G, P, h, q⟩ := h
 refine ⟨G, P, h, ?_⟩
 unfold tV at q
 cases e : d1 f da G with
 | stuck => rw [e] at q; exact q
 | exc c => rw [e] at q; exact q
 | ok t =>
  rw [e] at q
  have hb : ∃ k, t = .bool k := by
   unfold d1 at e
   cases e1 : da G with
   | stuck => rw [e1] at e; cases e
   | exc c => rw [e1] at e; cases e
   | ok tx =>
    rw [e1, Res.bind_ok] at e
    obtain ⟨k, e3⟩ := hf tx
    rw [e3] at e
    cases e
    exact ⟨k, rfl⟩
  obtain ⟨k, rfl⟩ := hb
  exact fun v H' s r => ⟨k, Yp.mp r, q H' s⟩
theorem zcg {j pos'} (ha : EV X W a da) : TV X W (.Compare a [.Is] [.Constant .none j pos'] pos) (tV (d1 fIsN da)) := by
 intro pins s σ H Q I h
 refine zei (t := tF X.K W (d1 fIsN da)) (fun pins s σ H Q I h => ?_) (by first | exact UM _ (by decide) (by decide) | rfl) pins s σ H Q I (tv_of1 isN_b h)
 exact pc_isN ha pins s σ H Q I (by
  obtain ⟨G, P, h, q⟩ := h
  unfold d1 at q
  obtain ⟨q1, q2, q3⟩ := Wr q
  refine Zy h q1 q2 fun tx x H1 ex s1 h1 rx => ?_
  have q4 := Yu.up (q3 tx ex) s1
  cases tx with
  | none => rw [Y0.mp rx]; exact ZE q4
  | bool b => rw [Yp.mp rx]; exact ZE q4
  | int b => rw [ZL.mp rx]; exact ZE q4
  | str b => rw [Uc.mp rx]; exact ZE q4
  | list b => obtain ⟨l, us, rfl, _⟩ := ZN.mp rx; exact ZE q4
  | tuple b => obtain ⟨l, us, rfl, _⟩ := ZH.mp rx; exact ZE q4
  | dict b => rcases VW.mp rx with ⟨_, l, rfl, _⟩ | ⟨_, l, _, _, _, rfl, _⟩ | ⟨l, _, _, rfl, _⟩ <;> exact ZE q4)
theorem UU {j pos'} (ha : EV X W a da) : TV X W (.Compare a [.IsNot] [.Constant .none j pos'] pos) (tV (d1 zaS da)) := by
 intro pins s σ H Q I h
 refine zei (t := tF X.K W (d1 zaS da)) (fun pins s σ H Q I h => ?_) (by first | exact UM _ (by decide) (by decide) | rfl) pins s σ H Q I (tv_of1 notN_b h)
 exact pc_notN ha pins s σ H Q I (by
  obtain ⟨G, P, h, q⟩ := h
  unfold d1 at q
  obtain ⟨q1, q2, q3⟩ := Wr q
  refine Zy h q1 q2 fun tx x H1 ex s1 h1 rx => ?_
  have q4 := Yu.up (q3 tx ex) s1
  cases tx with
  | none => rw [Y0.mp rx]; exact ZE q4
  | bool b => rw [Yp.mp rx]; exact ZE q4
  | int b => rw [ZL.mp rx]; exact ZE q4
  | str b => rw [Uc.mp rx]; exact ZE q4
  | list b => obtain ⟨l, us, rfl, _⟩ := ZN.mp rx; exact ZE q4
  | tuple b => obtain ⟨l, us, rfl, _⟩ := ZH.mp rx; exact ZE q4
  | dict b => rcases VW.mp rx with ⟨_, l, rfl, _⟩ | ⟨_, l, _, _, _, rfl, _⟩ | ⟨l, _, _, rfl, _⟩ <;> exact ZE q4)
end
end Fx
namespace Fx
open PySem PySem.Spec PyProof.Rows L2
abbrev zcB (qual : Str) (scope : Scope) (L f : Addr) (cd : Value) (cl : List (Str × Addr)) : Env :=
 { scope := scope, locals := L, globals := mainGlobals, cells := cl, qual := qual ++ ".<locals>.", func := some f, code := cd, frame := some L, builtins := builtinsNs }
def cxL (X : Cx) (qual : Str) (scope : Scope) (N : List Str) (s₀ : Shared) (H₀ : Hp) (f : Addr) (cd : Value) : Cx :=
 { X with env := zcB qual scope s₀.heap.objs.size f cd (ZS X.env scope.names []), A := X.A.deeper (zcB qual scope s₀.heap.objs.size f cd (ZS X.env scope.names [])), N := N, s₀ := s₀, H₀ := H₀, outer := X.stack, stack := zcB qual scope s₀.heap.objs.size f cd (ZS X.env scope.names []) :: X.stack, ex := [], fn := fun _ => false, pn := [], xe := fun _ _ => False }
structure LamOk (X : Cx) (scope : Scope) (N : List Str) (y : Str) (cap : List Nat) : Prop where
 cell : ∀ z ∈ scope.names, z.2 ≠ .cell
 kind : scope.kind = .function
 co : scope.isCoroutine = false
 gen : scope.isGenerator = false
 par : scope.names.lookup y = some .local
 free : ∀ z ∈ scope.names, z.2 = .free -> X.env.kindOf z.1 = some .cell \/ X.env.kindOf z.1 = some .free
 head : N[0]? = some y
 len : N.length = 1 + cap.length
 caps : ∀ (i j : Nat) (x : Str), cap[i]? = some j -> N[1 + i]? = some x -> X.N[j]? = some x /\ (scope.names.lookup x = some .cell \/ scope.names.lookup x = some .free) /\ (X.env.kindOf x = some .cell \/ X.env.kindOf x = some .free)
def lamS (cap : List Nat) (σ : L2.St) (v : V) : L2.St := some v :: cap.map fun j => σ.getD j none
section
variable {X : Cx} {qual : Str} {scope : Scope} {N : List Str} {y : Str} {cap : List Nat} {pins : List (Addr × Obj)} {σ : L2.St} {H : Hp} {s : Shared} {f : Addr} {cd : Value}
theorem LamOk.has (C : LamOk X scope N y cap) (ok : X.Ok) : ∀ z ∈ scope.names, z.2 = .free -> ∃ c, X.env.cells.lookup z.1 = some c := fun z hz e => ok.has z.1 (C.free z hz e)
theorem zeQ (C : LamOk X scope N y cap) (I : Inv X pins σ H s) {h' : Heap} {t : Nat} {v : V} {u : Value} (rv : RelV v u) (hn : h'.Ns s.heap.objs.size (fun x => [(y, u)].reverse.lookup x)) (hk : ∀ b o, s.heap.get? b = some o -> h'.get? b = some o) :
  Inv (cxL X qual scope N s H f cd) [] (lamS cap σ v) H { s with heap := h', toks := t } := by
 have hh := C.has I.ok
 have sub := W8 X.env scope.names [] hh (fun x c e => by cases e)
 refine ⟨⟨I.ok.mod, C.kind, rfl, rfl, Nat.le_refl _, fun x z c h1 h2 => I.ok.inj x z c (sub x c h1) (sub z c h2), fun x hx => ?_, fun x c h => ?_, I.ok.hd, Around.frames_deeper I.ok.frames, .inr ⟨rfl, rfl⟩, fun b hb => ?_, fun b o e => I.bs b o e, Nat.le_trans I.ok.bsz I.sz, fun b o e hb => ?_, fun b hb => ?_, I.stack, I.stkFree⟩,
  rfl, I.bare, Un.kept hk, ⟨_, hn, fun i x w e1 e2 e3 => ?_⟩, fun x c e => ?_, I.hok.fresh (Nat.le_refl _), fun x c e => I.freeC x c (sub x c e), fun p hp => ?_, I.hok.kept hk, ?_⟩
 ·have hx' : scope.names.lookup x = some .cell \/ scope.names.lookup x = some .free := hx
  rcases hx' with hx' | hx'
  ·exact absurd rfl (C.cell _ (Z5 hx'))
  ·obtain ⟨c, hc⟩ := Wq X.env scope.names [] x (.inr (Z5 hx'))
   exact YJ hc
 ·cases h
 ·exact absurd (show b ∈ ([] : List Addr) from hb) (by simp)
 ·exact absurd (show b ∈ ([] : List Addr) from hb) (by simp)
 ·exact absurd (show b ∈ ([] : List Addr) from hb) (by simp)
 ·-- the names
  cases i with
  | zero =>
   have e2' : some (some v) = some (some w) := e2
   cases e2'
   have e1' : N[0]? = some x := e1
   rw [C.head] at e1'
   cases e1'
   refine ⟨u, rv, .inl ⟨C.par, ?_⟩⟩
   show List.lookup y [(y, u)] = some u
   rw [List.lookup_cons, beq_self_eq_true]
  | succ k =>
   have e2' : (cap.map fun j => σ.getD j none)[k]? = some (some w) := by simpa [lamS] using e2
   rw [List.getElem?_map] at e2'
   cases ec : cap[k]? with
   | none => rw [ec] at e2'; cases e2'
   | some j =>
    rw [ec] at e2'
    have e3' : σ.getD j none = some w := by simpa using e2'
    obtain ⟨c1, c2, c3⟩ := C.caps k j x ec (by rw [Nat.add_comm]; exact e1)
    obtain ⟨m0, _, hl⟩ := I.loc
    have vis : Vis X.env.scope x := c3.elim (fun z => .inr (.inl z)) fun z => .inr (.inr z)
    obtain ⟨u', ru, lk⟩ := hl j x w c1 (getD_some e3') vis
    refine ⟨u', ru, .inr ⟨c2, ?_⟩⟩
    rcases lk with ⟨z, _⟩ | ⟨_, c, ec', o, ho, hd⟩
    ·rcases c3 with c3 | c3 <;> (rw [c3] at z; cases z)
    ·have fm : (x, NameKind.free) ∈ scope.names := by
      rcases c2 with q | q
      ·exact absurd rfl (C.cell _ (Z5 q))
      ·exact Z5 q
     obtain ⟨c', hc'⟩ := Wq X.env scope.names [] x (.inr fm)
     obtain ⟨c'', hc''⟩ := YJ hc'
     have := sub x c'' hc''
     rw [ec'] at this
     cases this
     exact ⟨c, hc'', o, hk c o ho, hd⟩
 ·obtain ⟨v, o, ho, hd⟩ := I.cell x c (sub x c e)
  exact ⟨v, o, hk c o ho, hd⟩
 ·exact absurd (show p ∈ ([] : List (Addr × Obj)) from hp) (by simp)
 ·show (lamS cap σ v).length = N.length
  rw [C.len]
  simp [lamS, Nat.add_comm]
def LO (f : Addr) (fd : FuncData) : HO := .ext fun h => h.get? f = some { cls := .type "function", data := .func fd }
theorem lam_call {k : Nat} {params : Arguments} {body : Expr} {pm ctv : Value} {c' : Addr} {v : V} {u : Value} {t : TE} {Q : VK} (C : LamOk X scope N y cap) (hr : Room (k + 1) X.A) (I : Inv X pins σ H s) (rv : RelV v u)
  (hf : H f = some (LO f (PySem.W.kla_fn "<lambda>" qual params body scope (ZS X.env scope.names []) pm (.ref c') ctv))) (hc : H c' = some (CO c' qual)) (hb : bindArgs (PySem.W.kla_fn "<lambda>" qual params body scope (ZS X.env scope.names []) pm (.ref c') ctv) ⟨[u], []⟩ = pure [(y, u)])
  (he : PE (cxL X qual scope N s H f (.ref c')) body t) (hq : t (lamS cap σ v) H Q) : wpAny (model X.prog X.w) X.A (call (.ref f) [u]) (EP X pins σ Q) (fun _ _ => False) s := by
 obtain ⟨ho, _, _⟩ := (show (s.heap.get? f = some _ /\ _ /\ _) from I.hok f _ hf)
 obtain ⟨⟨oc, vs, tq, h1, h2, h3⟩, _, _⟩ := (show ((∃ oc vs t, s.heap.get? c' = some oc /\ oc.data = .fields vs /\ vs[1]? = some (.str qual t)) /\ _ /\ _) from I.hok c' _ hc)
 refine wpAny_call (PySem.W.kla_callFunE hr.depth ho rfl C.co C.gen rfl ⟨c', oc, vs, tq, rfl, h1, h2, h3⟩ ?_)
 rw [hb]
 refine wpAny_pure (wpAny_newFunctionEnv C.cell (fun z hz => ?_) (fun h₁ hns hsb => ?_) C.kind)
 ·have : z = (y, u) := by simpa using hz
  subst this
  exact C.par
 have hk₁ : ∀ b o, s.heap.get? b = some o -> h₁.get? b = some o := fun b o e => hsb.extBut b o (Nat.ne_of_lt (Heap.lt_size e)) (Heap.get?_push_of_some _ e)
 refine ⟨I.nolimit.keeps hk₁, ?_⟩
 show codeAny _ _ (.expr body (zcB qual scope s.heap.objs.size f (.ref c') (ZS X.env scope.names []))) _ _
 have J : Inv (cxL X qual scope N s H f (.ref c')) [] (lamS cap σ v) H { s with heap := h₁, toks := s.toks + [(y, u)].length } := zeQ C I rv hns hk₁
 refine PySem.W.kla_codeExpr (wpAny_mono (he [] _ _ _ Q J hq) (fun r s' h => ?_) fun _ _ z => z.elim)
 obtain ⟨v', H', J', rv', q⟩ := h
 exact I.after ⟨v', H', J'.os, J'.bare, J'.base, J'.hok, rv', q⟩
def zat (mg : Str -> Option Value) (base : Heap) : Prop := ∃ bm ob, mg "__builtins__" = some (.ref bm) /\ bm ≠ builtinsNs /\ bm ≠ mainGlobals /\ base.get? bm = some ob /\ ob.cls = .type "module" /\ ob.dict = some builtinsNs /\ ob.data = .plain
structure LamAt (X : Cx) (x : Str) (c T : Addr) : Prop where
 tab : PySem.W.tabIn X.K x = some (c, T)
 nm : x ∈ X2
 code : X.env.code = .ref c
 qual : X.env.qual ++ "<lambda>" = lamQ x
 hd : ∀ h : Heap, X.K.In h -> PySem.W.CodeHd h c T
 blt : zat X.mg X.base
theorem zdM {pos : Pos} {a b : Int} {c : Value} : ∀ (l : List Value), TriplesOk l -> ∀ cv, codeAmong pos (l ++ [rawInt a, rawInt b, c]) = some cv -> codeAmong pos l = some cv \/ cv = c := by
 intro l
 fun_induction TriplesOk l with
 | case1 =>
  intro _ cv h
  simp only [List.nil_append, codeAmong, rawInt] at h
  split at h
  ·cases h; exact .inr rfl
  ·cases h
 | case2 x1 x2 x3 x4 x5 rest ih =>
  intro h cv e
  simp only [List.cons_append, codeAmong] at e ⊢
  split at e
  ·rename_i q
   rw [if_pos q]; exact .inl e
  ·rename_i q
   rw [if_neg q]; exact ih h cv e
 | case3 => intro h; exact h.elim
theorem zeR {x x' : Str} (h : x ∈ X2) (h' : x' ∈ X2) : x = x' := by
 unfold X2 at h h'
 rw [List.mem_singleton.mp h, List.mem_singleton.mp h']
def tLam (X : Cx) (x : Str) (params : Arguments) (body : Expr) (scope : Scope) : TE := fun σ H Q => Ws X.K H /\ ∀ f c' ctv H', Same H H' -> H f = none ->
 H' f = some (LO f (PySem.W.kla_fn "<lambda>" (lamQ x) params body scope (ZS X.env scope.names []) ((X.mg "__name__").getD .none) (.ref c') ctv)) -> H' c' = some (CO c' (lamQ x)) -> Q (.ref f) H'
theorem pe_lam {x : Str} {c T : Addr} {params : Arguments} {body : Expr} {lpos : Pos} (L : LamAt X x c T) (C : LamOk X scope N y cap) (hdef : defaultsOf params X.env = ([], [])) : PE X (.Lambda params body scope lpos) (tLam X x params body scope) := by
 intro pins s σ H Q I h
 obtain ⟨tb, q⟩ := h
 obtain ⟨ps, hT, tr, good⟩ := tb x c T L.nm L.tab
 have hP : s.heap.get? T = some (PySem.W.tabObj ps) := I.hok T _ hT
 have hgs : s.heap.Ns mainGlobals X.mg := I.ok.mod.glob.keeps I.bk
 have hgP : mainGlobals ≠ T := fun e => by
  obtain ⟨o, es, ep, e1, hd, _⟩ := hgs
  rw [e, hP] at e1; cases e1; cases hd
 have hbA : s.heap.BuiltinsAt X.mg T := by
  obtain ⟨bm, ob, b1, b2, b3, b4, b5, b6, b7⟩ := L.blt
  have e := I.bk _ _ b4
  exact ⟨bm, ob, b1, b2, b3, fun z => (by rw [z, hP] at e; cases e; cases b5), e, b5, b6, b7⟩
 have hcl := VN (scope := scope) (env := X.env) (C.has I.ok)
 refine PySem.W.kla_eval hdef ?_
 rw [L.qual]
 cases ha : codeAmong lpos ps.toList with
 | none =>
  refine PySem.W.kla_makeFunction (mg := X.mg) hcl I.ok.glob hgs L.code (L.hd _ I.kIn) hP tr ha hgP hbA fun c' ctv h' tk hx hge hlt hrec htb => ?_
  have hcn : H c' = none := I.hok.fresh hge
  have hsz : s.heap.objs.size <= h'.objs.size := Nat.le_trans hge (Nat.le_of_lt hlt)
  have hfn : H h'.objs.size = none := I.hok.fresh hsz
  have hfc : h'.objs.size ≠ c' := Nat.ne_of_gt hlt
  have hTc : T ≠ c' := Zu hT hcn
  have hTf : T ≠ h'.objs.size := Zu hT hfn
  obtain ⟨c₂, oc, vs, t, e2, hoc, hdd, hvv⟩ := hrec
  cases e2
  generalize hmore : (#[rawInt ↑lpos.line, rawInt ↑lpos.col, Value.ref c'] : Array Value) = more at htb
  generalize hob : PySem.W.kla_obj "<lambda>" (lamQ x) params body scope (ZS X.env scope.names []) ((X.mg "__name__").getD .none) c' ctv = ob
  have kp : ∀ b o, b ≠ T -> s.heap.get? b = some o -> (h'.push ob).get? b = some o := fun b o hb e => Heap.get?_push_of_some _ (hx b o hb e)
  have u1 : ∀ b o, H b = some o -> b ≠ T -> upd (upd (upd H T (.tbl (ps ++ more))) c' (CO c' (lamQ x))) h'.objs.size (LO h'.objs.size (PySem.W.kla_fn "<lambda>" (lamQ x) params body scope (ZS X.env scope.names []) ((X.mg "__name__").getD .none) (.ref c') ctv)) b = some o := fun b o e hb => by
   rw [Zn (Zu e hfn), Zn (Zu e hcn), Zn hb]; exact e
  have uT : upd (upd (upd H T (.tbl (ps ++ more))) c' (CO c' (lamQ x))) h'.objs.size (LO h'.objs.size (PySem.W.kla_fn "<lambda>" (lamQ x) params body scope (ZS X.env scope.names []) ((X.mg "__name__").getD .none) (.ref c') ctv)) T = some (.tbl (ps ++ more)) := by
   rw [Zn hTf, Zn hTc, Zp]
  have uC : upd (upd (upd H T (.tbl (ps ++ more))) c' (CO c' (lamQ x))) h'.objs.size (LO h'.objs.size (PySem.W.kla_fn "<lambda>" (lamQ x) params body scope (ZS X.env scope.names []) ((X.mg "__name__").getD .none) (.ref c') ctv)) c' = some (CO c' (lamQ x)) := by
   rw [Zn (Ne.symm hfc), Zp]
  have sm : Same H (upd (upd (upd H T (.tbl (ps ++ more))) c' (CO c' (lamQ x))) h'.objs.size (LO h'.objs.size (PySem.W.kla_fn "<lambda>" (lamQ x) params body scope (ZS X.env scope.names []) ((X.mg "__name__").getD .none) (.ref c') ctv))) := by
   refine ⟨fun b o e n => u1 b o e fun z => ?_, fun {b} w => ?_, fun K' tb' x' c0 T0 hx' ht' => ?_, fun b qs e => ?_⟩
   ·rw [z, hT] at e; cases e; exact n _ rfl
   ·cases e : H b with
    | none => rfl
    | some o =>
     by_cases z : b = T
     ·rw [z, uT] at w; cases w
     ·rw [u1 b o e z] at w; cases w
   ·obtain ⟨ps0, h0, tr0, g0⟩ := tb' x' c0 T0 hx' ht'
    have lift : ∀ c1, H c1 = some (CO c1 (lamQ x')) -> upd (upd (upd H T (.tbl (ps ++ more))) c' (CO c' (lamQ x))) h'.objs.size (LO h'.objs.size (PySem.W.kla_fn "<lambda>" (lamQ x) params body scope (ZS X.env scope.names []) ((X.mg "__name__").getD .none) (.ref c') ctv)) c1 = some (CO c1 (lamQ x')) := fun c1 e => u1 c1 _ e fun z => by rw [z, hT] at e; cases e
    by_cases z : T0 = T
    ·subst z
     rw [hT] at h0
     cases h0
     refine ⟨ps ++ more, uT, by rw [<- hmore, Array.toList_append]; exact TriplesOk_snoc _ _ _ _ tr0, fun pos cv hc => ?_⟩
     rw [<- hmore, Array.toList_append] at hc
     rcases zdM _ tr0 cv hc with w | w
     ·obtain ⟨c1, e1, e2⟩ := g0 pos cv w
      exact ⟨c1, e1, lift c1 e2⟩
     ·exact ⟨c', w, by rw [zeR hx' L.nm]; exact uC⟩
    ·refine ⟨ps0, u1 _ _ h0 z, tr0, fun pos cv hc => ?_⟩
     obtain ⟨c1, e1, e2⟩ := g0 pos cv hc
     exact ⟨c1, e1, lift c1 e2⟩
   ·by_cases z : b = T
    ·subst z; exact ⟨_, uT⟩
    ·exact ⟨qs, u1 b _ e z⟩
  refine ⟨.ref h'.objs.size, _, I.un (t' := tk) (H' := upd (upd (upd H T (.tbl (ps ++ more))) c' (CO c' (lamQ x))) h'.objs.size (LO h'.objs.size (PySem.W.kla_fn "<lambda>" (lamQ x) params body scope (ZS X.env scope.names []) ((X.mg "__name__").getD .none) (.ref c') ctv))) ⟨fun b o e n _ _ => kp b o (fun z => by rw [z, hT] at n; cases n) e, fun b o e n _ _ => ⟨o.slots, kp b o (fun z => by rw [z, hT] at n; cases n) e⟩, fun b o e n _ => ?_, fun b o e _ => ?_, fun b xs e => u1 b _ e (fun z => by rw [z, hT] at e; cases e), fun b o u e => u1 b _ e (fun z => by rw [z, hT] at e; cases e), fun b qs e => ?_⟩ (fun b o e => ?_), rfl, q h'.objs.size c' ctv _ sm hfn Zp uC⟩
  ·have lt := Heap.lt_size e
   rw [Zn (Nat.ne_of_lt (Nat.lt_of_lt_of_le lt hsz)), Zn (Nat.ne_of_lt (Nat.lt_of_lt_of_le lt hge)), Zn (fun z => by rw [z, hT] at n; cases n)]
   exact n
  ·by_cases z : b = T
   ·subst z; exact ⟨_, Heap.get?_push_of_some _ htb⟩
   ·exact ⟨o, kp b o z e⟩
  ·by_cases z : b = T
   ·subst z
    rw [hT] at e; cases e
    exact ⟨more, uT⟩
   ·exact ⟨#[], by rw [u1 b _ e z]; simp⟩
  ·by_cases z1 : b = h'.objs.size
   ·subst z1
    rw [Zp] at e
    cases e
    subst hob
    exact ⟨Heap.get?_push_size _ rfl, ⟨_, Heap.get?_push_size _ rfl⟩, fun h1 h2 w k => k _ w⟩
   ·rw [Zn z1] at e
    by_cases z2 : b = c'
    ·subst z2
     rw [Zp] at e
     cases e
     refine ⟨⟨oc, vs, t, Heap.get?_push_of_some _ hoc, hdd, hvv⟩, ⟨_, Heap.get?_push_of_some _ hoc⟩, fun h1 h2 ⟨oc', vs', t', w1, w2, w3⟩ k => ⟨oc', vs', t', k _ w1, w2, w3⟩⟩
    ·rw [Zn z2] at e
     by_cases z3 : b = T
     ·subst z3
      rw [Zp] at e
      cases e
      exact Heap.get?_push_of_some _ htb
     ·rw [Zn z3] at e
      refine (I.hok b o e).stay (fun b' u hb' w => kp b' u (fun z => ?_) w) (fun b' w => u1 b' _ w fun z => by rw [z, hT] at w; cases w) fun b' xs w => u1 b' _ w fun z => by rw [z, hT] at w; cases w
      rcases hb' with w1 | w1
      ·exact z3 (w1.symm.trans z)
      ·rw [z, hT] at w1; cases w1
 | some cv =>
  obtain ⟨c', rfl, hc'⟩ := good lpos cv ha
  refine PySem.W.kla_makeFunctionHit (mg := X.mg) hcl I.ok.glob hgs L.code (L.hd _ I.kIn) hP tr ha hbA fun ctv h' tk hk hsz => ?_
  have hfn : H h'.objs.size = none := I.hok.fresh hsz
  refine ⟨.ref h'.objs.size, _, I.laid (t' := tk) (a := h'.objs.size) (o := LO h'.objs.size (PySem.W.kla_fn "<lambda>" (lamQ x) params body scope (ZS X.env scope.names []) ((X.mg "__name__").getD .none) (.ref c') ctv)) (fun b o e => Heap.get?_push_of_some _ (hk b o e)) hsz ⟨Heap.get?_push_size _ rfl, ⟨_, Heap.get?_push_size _ rfl⟩, fun h1 h2 w k => k _ w⟩, rfl, q _ c' ctv _ (Zr hfn) hfn Zp ?_⟩
  rw [Zn (Zu hc' hfn)]
  exact hc'
end
end Fx
namespace Fx
open PySem PySem.Spec PyProof.Rows L2
abbrev Cx.i1 (X : Cx) : Cx := { X with A := X.A.in1, xe := fun _ _ => False }
section
variable {X : Cx} {pins : List (Addr × Obj)} {σ : L2.St} {H : Hp} {s : Shared}
theorem Inv.toi1 (I : Inv X pins σ H s) : Inv (Cx.i1 X) pins σ H s :=
 ⟨⟨I.ok.mod, I.ok.kind, I.ok.glob, I.ok.blt, I.ok.above, I.ok.inj, I.ok.has, I.ok.cab, I.ok.hd, I.ok.frames, I.ok.stk, I.ok.exf, I.ok.bs, I.ok.bsz, I.ok.noex, I.ok.exfs, I.ok.funs, I.ok.frf⟩, I.os, I.bare, I.base, I.loc, I.cell, I.free, I.freeC, I.pin, I.hok, I.len⟩
theorem Inv.ofi1 (hX : X.Ok) (I : Inv (Cx.i1 X) pins σ H s) : Inv X pins σ H s :=
 ⟨hX, I.os, I.bare, I.base, I.loc, I.cell, I.free, I.freeC, I.pin, I.hok, I.len⟩
def Mine (X : Cx) (pins : List (Addr × Obj)) (b : Addr) : Prop := b ≠ X.env.locals /\ b ∉ X.fs /\ (b ∈ X.ex \/ X.s₀.heap.objs.size <= b) /\ (∀ x c, X.env.cells.lookup x = some c -> c ≠ b) /\ ∀ p ∈ X.pn ++ pins, p.1 ≠ b
theorem Mine.of {b : Addr} (f : FpOk X pins H b) : Mine X pins b := ⟨f.2.1, f.2.2.1, f.2.2.2.1, f.2.2.2.2.1, f.2.2.2.2.2⟩
theorem Inv.turn1 {t' : Nat} {it : Addr} {h' : Heap} (I : Inv X pins σ H s) (m : Mine X pins it) (hn : H it = none) (k : ∀ b o, b ≠ it -> s.heap.get? b = some o -> h'.get? b = some o) : Inv X pins σ H { s with heap := h', toks := t' } :=
 I.turned k hn m.1 m.2.2.1 m.2.2.2.1 m.2.2.2.2
theorem Inv.pin2 {a b : Addr} {oa ob : Obj} (I : Inv X pins σ H s) (ma : Mine X pins a) (mb : Mine X pins b) (ha : H a = none) (hb : H b = none) (ea : s.heap.get? a = some oa) (eb : s.heap.get? b = some ob) (da : ∀ v, oa.data ≠ .cell v) (db : ∀ v, ob.data ≠ .cell v) : Inv X (pins ++ [(a, oa), (b, ob)]) σ H s :=
 I.pins_of fun p hp => by
  rcases List.mem_append.mp hp with hp | hp
  ·exact I.pin p (List.mem_append_right _ hp)
  ·rcases List.mem_cons.mp hp with rfl | hp
   ·exact ⟨ea, ha, ma.1, ma.2.1, da⟩
   ·rw [List.mem_singleton.mp hp]
    exact ⟨eb, hb, mb.1, mb.2.1, db⟩
theorem W3 {h : Heap} {a : Addr} {its : Array Value} (p : PlainL h a its) : h.IsList a its := p.isList
theorem min_args (a v d : Value) : argsOk "min" ⟨[a], [(Str.ofString "key", v), (Str.ofString "default", d)]⟩ := by unfold argsOk; kernel_rfl
variable {xs : List V} {kf : Nat -> Int} {H0 : Hp} {l I S q : Addr} {R : Result -> Shared -> Prop}
theorem min_loop (hh : X.A.handled = none) (hlI : l ≠ I) (hSI : S ≠ I) (mS : Mine X pins S) (mI : Mine X pins I) (hl : ∀ H', Same H0 H' -> SqL X.K H' l xs)
  (turn : ∀ (i : Nat) v u pins' s H', xs[i]? = some v -> RelV v u -> Inv X pins' σ H' s -> Same H0 H' -> wpAny (model X.prog X.w) X.A.in1 (call (.ref q) [u]) (fun r s' => ∃ t H'', r = .int (kf i) t /\ Inv X pins' σ H'' s' /\ Same H0 H'') (fun _ _ => False) s)
  (fin : ∀ (i : Nat) v u s' H', xs[i]? = some v -> RelV v u -> (∀ j, j < xs.length -> kf i <= kf j /\ (j < i -> kf i < kf j)) -> Inv X pins σ H' s' -> Same H0 H' -> R (.ok (.ret u)) s') :
  ∀ (r j i : Nat) (s : Shared) (H : Hp) (vb : Value) (v0 : V) (tb : Tok) (c : Nat) (oI : Obj), xs.length - (j + 1) = r -> j + 1 <= xs.length -> Inv X (pins ++ [(S, seqObj "list" #[vb, .int (kf i) tb] c), (I, oI)]) σ H s -> Same H0 H -> s.heap.IsListIter I l (j + 1) -> xs[i]? = some v0 -> RelV v0 vb -> i <= j ->
   (∀ j', j' <= j -> kf i <= kf j' /\ (j' < i -> kf i < kf j')) ->
   codeAny (model X.prog X.w) X.A (.builtin "min.loop" ⟨[.ref I, .ref q, .ref S], [(Str.ofString "default", .none)]⟩) R s := by
 have hname : (toString "min" ++ toString ".loop" : String) = "min.loop" := by decide
 intro r
 induction r with
 | zero =>
  intro j i s H vb v0 tb c oI hr hj J sm hit hvb hrb hij hbest
  have hin : j + 1 = xs.length := by omega
  obtain ⟨eS, nS, _⟩ := J.pin (S, seqObj "list" #[vb, .int (kf i) tb] c) (List.mem_append_right _ (List.mem_append_right _ (.head _)))
  obtain ⟨eI, nI, _⟩ := J.pin (I, oI) (List.mem_append_right _ (List.mem_append_right _ (.tail _ (.head _))))
  obtain ⟨its, rv, pl, hz⟩ := J.list (hl H sm)
  have hlen := rv.length
  have W := Walks.list (prog := X.prog) (w := X.w) (A := X.A.in1) hh I l hlI its.toArray
  have hsz : its.toArray.size = its.length := List.size_toArray ..
  have J0 : Inv X pins σ H s := J.unpinned
  refine codeAny_builtin PySem.F.entry_min_loop ?_
  rw [Around.under_plainId PySem.F.plain_min_loop _]
  show wpAny _ X.A.in1 (seqItems? (.ref S) >>= _) _ _ _
  refine wpAny_bind (wpAny_seqItems eS rfl ?_)
  show wpAny _ X.A.in1 (tryCatch (pyNext (.ref I)) _ >>= _) _ _ _
  refine wpAny_bind (wpAny_tryCatch (W.done _ _ _ ⟨by rw [hsz, <- hlen, <- hin]; exact hit, W3 pl⟩ fun h' tk' hk' => ?_))
  have J1 : Inv X pins σ H { s with heap := h', toks := tk' } := Fx.Inv.turn1 J0 mI nI fun b o hb e => hk' b o (by simpa using hb) e
  have hS' := hk' S _ (by simpa using hSI) eS
  have s1 := Heap.SameBut.update h' S (Obj.mapSeq fun _ => (#[] : Array Value))
  show wpAny _ X.A.in1 (updateSeq S (fun _ => #[]) >>= _) _ _ _
  refine wpAny_bind ?_
  refine wpAny_updateSeq hS' rfl (wpAny_bind (wpAny_letGo (wpAny_pure ?_)))
  exact fin i v0 vb _ H hvb hrb (fun j' hj' => hbest j' (by omega)) (Fx.Inv.turn1 J1 mS nS fun b o hb e => (s1.2 b hb).trans e) sm
 | succ r ih =>
  intro j i s H vb v0 tb c oI hr hj J sm hit hvb hrb hij hbest
  have hlt : j + 1 < xs.length := by omega
  obtain ⟨eS, nS, _⟩ := J.pin (S, seqObj "list" #[vb, .int (kf i) tb] c) (List.mem_append_right _ (List.mem_append_right _ (.head _)))
  obtain ⟨eI, nI, _⟩ := J.pin (I, oI) (List.mem_append_right _ (List.mem_append_right _ (.tail _ (.head _))))
  obtain ⟨its, rv, pl, hz⟩ := J.list (hl H sm)
  have hlen := rv.length
  have W := Walks.list (prog := X.prog) (w := X.w) (A := X.A.in1) hh I l hlI its.toArray
  have hsz : its.toArray.size = its.length := List.size_toArray ..
  have J0 : Inv X pins σ H s := J.unpinned
  refine codeAny_builtin PySem.F.entry_min_loop ?_
  rw [Around.under_plainId PySem.F.plain_min_loop _]
  show wpAny _ X.A.in1 (seqItems? (.ref S) >>= _) _ _ _
  refine wpAny_bind (wpAny_seqItems eS rfl ?_)
  show wpAny _ X.A.in1 (tryCatch (pyNext (.ref I)) _ >>= _) _ _ _
  refine wpAny_bind (wpAny_tryCatch (W.item (j + 1) _ _ _ (by rw [hsz, <- hlen]; exact hlt) ⟨hit, W3 pl⟩ fun u h' tk' hP hst' hk' => ?_))
  have hu : its[j + 1]? = some u := by simpa using hP
  obtain ⟨oI', hoI', hoc, hod⟩ := id hst'.1
  have J1 : Inv X pins σ H { s with heap := h', toks := tk' } := Fx.Inv.turn1 J0 mI nI fun b o hb e => hk' b o (by simpa using hb) e
  have hS' := hk' S _ (by simpa using hSI) eS
  have J2 : Inv X (pins ++ [(S, seqObj "list" #[vb, .int (kf i) tb] c), (I, oI')]) σ H { s with heap := h', toks := tk' } := Fx.Inv.pin2 J1 mS mI nS nI hS' hoI' (fun v z => by cases z) (fun v z => by rw [hod] at z; cases z)
  obtain ⟨v1, hv1⟩ : ∃ v1, xs[j + 1]? = some v1 := ⟨_, List.getElem?_eq_getElem hlt⟩
  obtain ⟨u', hu', ru⟩ := rv.get hv1
  rw [hu] at hu'
  cases hu'
  show wpAny _ X.A.in1 (tryCatch (holding [u] (call (.ref q) [u])) _ >>= _) _ _ _
  refine wpAny_bind (wpAny_tryCatch (wpAny_holding (wpAny_mono (turn (j + 1) v1 u _ _ H hv1 ru J2 sm) (fun x s'' he => ?_) fun _ _ hF => hF.elim)))
  obtain ⟨t2, H2, rfl, J3, sm2⟩ := he
  obtain ⟨eS2, nS2, _⟩ := J3.pin (S, seqObj "list" #[vb, .int (kf i) tb] c) (List.mem_append_right _ (List.mem_append_right _ (.head _)))
  obtain ⟨eI2, nI2, _⟩ := J3.pin (I, oI') (List.mem_append_right _ (List.mem_append_right _ (.tail _ (.head _))))
  have hit2 : s''.heap.IsListIter I l (j + 1 + 1) := ⟨oI', eI2, hoc, hod⟩
  show wpAny _ X.A.in1 (tryCatch (holding [u, .int (kf (j + 1)) t2] (richCompare .Lt (.int (kf (j + 1)) t2) (.int (kf i) tb) >>= _)) _ >>= _) _ _ _
  refine wpAny_bind (wpAny_tryCatch (wpAny_holding (wpAny_bind (CmpOf.ints_lt (prog := X.prog) (w := X.w) (A := X.A.in1) (P := fun i v => ∃ t, v = .int (kf i) t) kf (fun i v h => h) (j + 1) i _ _ _ _ _ ⟨t2, rfl⟩ ⟨tb, rfl⟩ ?_))))
  refine wpAny_bind (wpAny_holding (wpAny_truthy_bool ?_))
  refine wpAny_bind (wpAny_letGo (wpAny_pure ?_))
  by_cases hb' : kf (j + 1) < kf i
  ·have s1 := Heap.SameBut.update s''.heap S (Obj.mapSeq fun _ => #[u, .int (kf (j + 1)) t2])
   obtain ⟨c2, hc2⟩ : ∃ c2, (s''.heap.update S (Obj.mapSeq fun _ => #[u, .int (kf (j + 1)) t2])).get? S = some (seqObj "list" #[u, .int (kf (j + 1)) t2] c2) := ⟨_, get?_update_seq eS2 fun _ => #[u, .int (kf (j + 1)) t2]⟩
   simp only [hb', decide_true, if_true]
   refine wpAny_bind ?_
   refine wpAny_updateSeq eS2 rfl (wpAny_bind (wpAny_letGo ?_))
   rw [hname]
   have J4 : Inv X pins σ H2 { s'' with heap := s''.heap.update S (Obj.mapSeq fun _ => #[u, .int (kf (j + 1)) t2]) } := Fx.Inv.turn1 (t' := s''.toks) J3.unpinned mS nS2 fun b o hb e => (s1.2 b hb).trans e
   refine wpAny_pure ⟨plainId_quiet PySem.F.plain_min_loop _, ih (j + 1) (j + 1) _ H2 u v1 t2 c2 oI' (by omega) hlt (Fx.Inv.pin2 J4 mS mI nS2 nI2 hc2 ((s1.2 I hSI.symm).trans eI2) (fun v z => by cases z) (fun v z => by rw [hod] at z; cases z)) sm2 ⟨oI', (s1.2 I hSI.symm).trans eI2, hoc, hod⟩ hv1 ru (Nat.le_refl _) fun j' hj' => ?_⟩
   by_cases e : j' = j + 1
   ·subst e
    exact ⟨by omega, fun _ => by omega⟩
   ·have hb1 := hbest j' (by omega)
    have hb2 := hb1.1
    exact ⟨by omega, fun _ => by omega⟩
  ·simp only [hb', decide_false, Bool.false_eq_true, if_false]
   refine wpAny_bind (wpAny_letGo ?_)
   rw [hname]
   refine wpAny_pure ⟨plainId_quiet PySem.F.plain_min_loop _, ih (j + 1) i _ H2 vb v0 tb c oI' (by omega) hlt J3 sm2 hit2 hvb hrb (by omega) fun j' hj' => ?_⟩
   by_cases e : j' = j + 1
   ·subst e
    exact ⟨by omega, fun _ => by omega⟩
   ·exact hbest j' (by omega)
theorem zfw {Q : Value -> Shared -> Prop} {E : Value -> Shared -> Prop} (hh : X.A.handled = none) (J : Inv X pins σ H s) (hl : ∀ H', Same H H' -> SqL X.K H' l xs)
  (turn : ∀ (i : Nat) v u pins' s H', xs[i]? = some v -> RelV v u -> Inv X pins' σ H' s -> Same H H' -> wpAny (model X.prog X.w) X.A.in1 (call (.ref q) [u]) (fun r s' => ∃ t H'', r = .int (kf i) t /\ Inv X pins' σ H'' s' /\ Same H H'') (fun _ _ => False) s)
  (fin0 : xs = [] -> ∀ s' H', Inv X pins σ H' s' -> Same H H' -> Q .none s')
  (fin : ∀ (i : Nat) v u s' H', xs[i]? = some v -> RelV v u -> (∀ j, j < xs.length -> kf i <= kf j /\ (j < i -> kf i < kf j)) -> Inv X pins σ H' s' -> Same H H' -> Q u s') :
  wpAny (model X.prog X.w) X.A (call (.builtin "min") [.ref l] [(Str.ofString "key", .ref q), (Str.ofString "default", .none)]) Q E s := by
 have hname : (toString "min" ++ toString ".loop" : String) = "min.loop" := by decide
 obtain ⟨its, rv, pl, hz⟩ := J.list (hl H (Same.refl H))
 have hls := W3 pl
 have hlen := rv.length
 obtain ⟨ol, hol, _⟩ := id hls
 have hll : l < s.heap.objs.size := Heap.lt_size hol
 refine kmk_tree PySem.F.kind_min PySem.F.plain_min PySem.F.entry_min (min_args _ _ _) ?_
 show wpAny _ X.A.in1 (Builtin.Builtins.bindParams "min" ["key", "default"] 0 ⟨[], [(Str.ofString "key", .ref q), (Str.ofString "default", .none)]⟩ >>= _) _ _ s
 refine wpAny_bind (wpAny_of_eq (show Builtin.Builtins.bindParams "min" ["key", "default"] 0 ⟨[], [(Str.ofString "key", .ref q), (Str.ofString "default", .none)]⟩ = pure [some (.ref q), some .none] from rfl) ?_)
 refine wpAny_bind (wpAny_pure ?_)
 refine wpAny_bind (wpAny_pyIter_list hls ?_)
 refine wpAny_bind (wpAny_newList ?_ (Nat.zero_le _))
 rw [hname]
 have hS : (s.heap.push { cls := .type "list_iterator", data := .fields #[.ref l, .int 0 0] }).objs.size = s.heap.objs.size + 1 := size_push' ..
 have hlI : l ≠ s.heap.objs.size := Nat.ne_of_lt hll
 have hSI : (s.heap.push { cls := .type "list_iterator", data := .fields #[.ref l, .int 0 0] }).objs.size ≠ s.heap.objs.size := by rw [hS]; exact Nat.ne_of_gt (Nat.lt_succ_self _)
 have nI : H s.heap.objs.size = none := J.hok.fresh (Nat.le_refl _)
 have nS : H (s.heap.push { cls := .type "list_iterator", data := .fields #[.ref l, .int 0 0] }).objs.size = none := J.hok.fresh (by rw [hS]; exact Nat.le_succ _)
 have mI : Mine X pins s.heap.objs.size := .of (J.fpOk (Nat.le_refl _) nI)
 have mS : Mine X pins (s.heap.push { cls := .type "list_iterator", data := .fields #[.ref l, .int 0 0] }).objs.size := .of (J.fpOk (by rw [hS]; exact Nat.le_succ _) nS)
 refine wpAny_pure ⟨plainId_quiet PySem.F.plain_min_loop _, ?_⟩
 have kpH : ∀ b o, s.heap.get? b = some o -> ((s.heap.push { cls := .type "list_iterator", data := .fields #[.ref l, .int 0 0] }).push (seqObj "list" #[] 0)).get? b = some o := fun b o e => Heap.get?_push_of_some _ (Heap.get?_push_of_some _ e)
 have gI : ((s.heap.push { cls := .type "list_iterator", data := .fields #[.ref l, .int 0 0] }).push (seqObj "list" #[] 0)).get? s.heap.objs.size = some { cls := .type "list_iterator", data := .fields #[.ref l, .int 0 0] } :=
  Heap.get?_push_of_some _ (Heap.get?_push_size _ rfl)
 have gS : ((s.heap.push { cls := .type "list_iterator", data := .fields #[.ref l, .int 0 0] }).push (seqObj "list" #[] 0)).get? (s.heap.push { cls := .type "list_iterator", data := .fields #[.ref l, .int 0 0] }).objs.size = some (seqObj "list" #[] 0) := Heap.get?_push_size _ rfl
 have W := Walks.list (prog := X.prog) (w := X.w) (A := X.A.in1) hh s.heap.objs.size l hlI its.toArray
 have hsz : its.toArray.size = its.length := List.size_toArray ..
 have JH : Inv X pins σ H { s with heap := (s.heap.push { cls := .type "list_iterator", data := .fields #[.ref l, .int 0 0] }).push (seqObj "list" #[] 0) } := J.kept (t' := s.toks) kpH
 obtain ⟨o1, ho1, ho2⟩ := hls
 have hlsH : ((s.heap.push { cls := .type "list_iterator", data := .fields #[.ref l, .int 0 0] }).push (seqObj "list" #[] 0)).IsList l its.toArray := ⟨o1, kpH _ _ ho1, ho2⟩
 refine codeAny_builtin PySem.F.entry_min_loop ?_
 rw [Around.under_plainId PySem.F.plain_min_loop _]
 show wpAny _ X.A.in1 (seqItems? (.ref _) >>= _) _ _ _
 refine wpAny_bind (wpAny_seqItems gS rfl ?_)
 show wpAny _ X.A.in1 (tryCatch (pyNext (.ref s.heap.objs.size)) _ >>= _) _ _ _
 by_cases hne : 0 < xs.length
 ·refine wpAny_bind (wpAny_tryCatch (W.item 0 _ _ _ (by rw [hsz, <- hlen]; exact hne) ⟨⟨_, gI, rfl, rfl⟩, hlsH⟩ fun u h' tk' hP hst' hk' => ?_))
  have hu : its[0]? = some u := by simpa using hP
  obtain ⟨oI', hoI', hoc, hod⟩ := id hst'.1
  have J1 : Inv X pins σ H { s with heap := h', toks := tk' } := Fx.Inv.turn1 (s := { s with heap := (s.heap.push { cls := .type "list_iterator", data := .fields #[.ref l, .int 0 0] }).push (seqObj "list" #[] 0) }) JH mI nI fun b o hb e => hk' b o (by simpa using hb) e
  have hS' := hk' _ _ (by simpa using hSI) gS
  have J2 := Fx.Inv.pin2 J1 mS mI nS nI hS' hoI' (fun v z => by cases z) (fun v z => by rw [hod] at z; cases z)
  obtain ⟨v1, hv1⟩ : ∃ v1, xs[0]? = some v1 := ⟨_, List.getElem?_eq_getElem hne⟩
  obtain ⟨u', hu', ru⟩ := rv.get hv1
  rw [hu] at hu'
  cases hu'
  show wpAny _ X.A.in1 (tryCatch (holding [u] (call (.ref q) [u])) _ >>= _) _ _ _
  refine wpAny_bind (wpAny_tryCatch (wpAny_holding (wpAny_mono (turn 0 v1 u _ _ H hv1 ru J2 (Same.refl H)) (fun x s'' he => ?_) fun _ _ hF => hF.elim)))
  obtain ⟨t2, H2, rfl, J3, sm2⟩ := he
  obtain ⟨eS2, nS2, _⟩ := J3.pin ((s.heap.push { cls := .type "list_iterator", data := .fields #[.ref l, .int 0 0] }).objs.size, seqObj "list" #[] 0) (List.mem_append_right _ (List.mem_append_right _ (.head _)))
  obtain ⟨eI2, nI2, _⟩ := J3.pin (s.heap.objs.size, oI') (List.mem_append_right _ (List.mem_append_right _ (.tail _ (.head _))))
  have s1 := Heap.SameBut.update s''.heap (s.heap.push { cls := .type "list_iterator", data := .fields #[.ref l, .int 0 0] }).objs.size (Obj.mapSeq fun _ => #[u, .int (kf 0) t2])
  obtain ⟨c2, hc2⟩ : ∃ c2, (s''.heap.update (s.heap.push { cls := .type "list_iterator", data := .fields #[.ref l, .int 0 0] }).objs.size (Obj.mapSeq fun _ => #[u, .int (kf 0) t2])).get? (s.heap.push { cls := .type "list_iterator", data := .fields #[.ref l, .int 0 0] }).objs.size = some (seqObj "list" #[u, .int (kf 0) t2] c2) := ⟨_, get?_update_seq eS2 fun _ => #[u, .int (kf 0) t2]⟩
  show wpAny _ X.A.in1 (updateSeq (s.heap.push { cls := .type "list_iterator", data := .fields #[.ref l, .int 0 0] }).objs.size (fun _ => #[u, .int (kf 0) t2]) >>= _) _ _ _
  refine wpAny_bind ?_
  refine wpAny_updateSeq eS2 rfl ?_
  rw [hname]
  have J4 := Fx.Inv.turn1 (t' := s''.toks) (h' := s''.heap.update (s.heap.push { cls := .type "list_iterator", data := .fields #[.ref l, .int 0 0] }).objs.size (Obj.mapSeq fun _ => #[u, .int (kf 0) t2])) J3.unpinned mS nS2 fun b o hb e => (s1.2 b hb).trans e
  refine wpAny_pure ⟨plainId_quiet PySem.F.plain_min_loop _, min_loop hh hlI hSI mS mI hl turn (fun i v u s' H' a b c d e => fin i v u s' H' a b c d e) _ 0 0 _ H2 u v1 t2 c2 oI' rfl hne (Fx.Inv.pin2 J4 mS mI nS2 nI2 hc2 ((s1.2 _ hSI.symm).trans eI2) (fun v z => by cases z) (fun v z => by rw [hod] at z; cases z)) sm2 ⟨oI', (s1.2 _ hSI.symm).trans eI2, hoc, hod⟩ hv1 ru (Nat.le_refl _) fun j' hj' => ?_⟩
  have e : j' = 0 := by omega
  subst e
  exact ⟨by omega, fun h => absurd h (Nat.lt_irrefl _)⟩
 ·have h0 : xs = [] := List.length_eq_zero_iff.mp (by omega)
  refine wpAny_bind (wpAny_tryCatch (W.done _ _ _ ⟨by rw [hsz, <- hlen, h0]; exact ⟨_, gI, rfl, rfl⟩, hlsH⟩ fun h' tk' hk' => ?_))
  have J1 : Inv X pins σ H { s with heap := h', toks := tk' } := Fx.Inv.turn1 (s := { s with heap := (s.heap.push { cls := .type "list_iterator", data := .fields #[.ref l, .int 0 0] }).push (seqObj "list" #[] 0) }) JH mI nI fun b o hb e => hk' b o (by simpa using hb) e
  exact wpAny_bind (wpAny_rule (wpAny_pure (fin0 h0 _ H J1 (Same.refl H))))
end
end Fx
namespace Fx
open PySem PySem.Spec PyProof.Rows L2
def kOf (key : PyData -> Res PyData) (ts : List PyData) (i : Nat) : Int := match ts[i]? with
 | some t => (match key t with
  | .ok (.int k) => k
  | _ => 0)
 | none => 0
theorem zbJ {key : PyData -> Res PyData} (nx : ∀ t c, key t ≠ .exc c) {all : List PyData} {r : PyData} : ∀ (ts : List PyData) (b : PyData) (m : Int) (i j : Nat), all.drop (j + 1) = ts -> minL key b m ts = .ok r -> all[i]? = some b -> key b = .ok (.int m) -> i <= j ->
  (∀ j', j' <= j -> kOf key all i <= kOf key all j' /\ (j' < i -> kOf key all i < kOf key all j')) -> (∀ j' : Nat, j' <= j -> ∀ t, all[j']? = some t -> ∃ k, key t = .ok (.int k)) ->
  (∀ (j' : Nat) t, all[j']? = some t -> ∃ k, key t = .ok (.int k)) /\ ∃ i' : Nat, all[i']? = some r /\ ∀ j', j' < all.length -> kOf key all i' <= kOf key all j' /\ (j' < i' -> kOf key all i' < kOf key all j')
 | [], b, m, i, j, hd, h, hb, hk, hij, best, ks => by
  have hl : all.length <= j + 1 := by
   have := congrArg List.length hd
   rw [List.length_drop] at this
   simp at this
   omega
  cases h
  exact ⟨fun j' t e => ks j' (by have := (List.getElem?_eq_some_iff.mp e).1; omega) t e, i, hb, fun j' hj' => best j' (by omega)⟩
 | x :: ts, b, m, i, j, hd, h, hb, hk, hij, best, ks => by
  have hx : all[j + 1]? = some x := by
   have := congrArg (fun l => l[0]?) hd
   simpa [List.getElem?_drop] using this
  have hd' : all.drop (j + 1 + 1) = ts := by
   have := congrArg (List.drop 1) hd
   rw [List.drop_drop] at this
   simpa using this
  have km : kOf key all i = m := by unfold kOf; rw [hb]; simp only [hk]
  unfold minL at h
  cases ek : key x with
  | stuck => rw [ek] at h; cases h
  | exc c => exact absurd ek (nx x c)
  | ok y =>
   rw [ek, Res.bind_ok] at h
   cases y <;> try (simp at h; done)
   rename_i k
   simp only at h
   have kx : kOf key all (j + 1) = k := by unfold kOf; rw [hx]; simp only [ek]
   have ks' : ∀ j', j' <= j + 1 -> ∀ t, all[j']? = some t -> ∃ k, key t = .ok (.int k) := fun j' hj' t e => by
    by_cases z : j' = j + 1
    ·subst z; rw [hx] at e; cases e; exact ⟨k, ek⟩
    ·exact ks j' (by omega) t e
   split at h
   ·refine zbJ nx ts x k (j + 1) (j + 1) hd' h hx ek (Nat.le_refl _) (fun j' hj' => ?_) ks'
    by_cases z : j' = j + 1
    ·subst z; exact ⟨Int.le_refl _, fun w => by omega⟩
    ·have := best j' (by omega)
     rw [kx]
     rw [km] at this
     exact ⟨by omega, fun _ => by omega⟩
   ·refine zbJ nx ts b m i (j + 1) hd' h hb hk (by omega) (fun j' hj' => ?_) ks'
    by_cases z : j' = j + 1
    ·subst z; rw [kx, km]; exact ⟨by omega, fun w => by omega⟩
    ·exact best j' (by omega)
theorem minT_ok {key : PyData -> Res PyData} (nx : ∀ t c, key t ≠ .exc c) {ts : List PyData} {r : PyData} (h : minT key ts = .ok r) : (ts = [] /\ r = .none) \/ (ts ≠ [] /\ (∀ (j' : Nat) t, ts[j']? = some t -> ∃ k, key t = .ok (.int k)) /\ ∃ i' : Nat, ts[i']? = some r /\ ∀ j', j' < ts.length -> kOf key ts i' <= kOf key ts j' /\ (j' < i' -> kOf key ts i' < kOf key ts j')) := by
 cases ts with
 | nil => cases h; exact .inl ⟨rfl, rfl⟩
 | cons x ts =>
  simp only [minT] at h
  cases ek : key x with
  | stuck => rw [ek] at h; cases h
  | exc c => exact absurd ek (nx x c)
  | ok y =>
   rw [ek, Res.bind_ok] at h
   cases y <;> try (simp at h; done)
   rename_i k
   simp only at h
   refine .inr ⟨by simp, zbJ nx (all := x :: ts) ts x k 0 0 rfl h rfl ek (Nat.le_refl _) (fun j' hj' => ?_) fun j' hj' t e => ?_⟩
   ·have z : j' = 0 := by omega
    subst z
    exact ⟨Int.le_refl _, fun w => by omega⟩
   ·have z : j' = 0 := by omega
    subst z
    cases e
    exact ⟨k, ek⟩
theorem JZ {key : PyData -> Res PyData} (nx : ∀ t c, key t ≠ .exc c) : ∀ (ts : List PyData) b m c, minL key b m ts ≠ .exc c
 | [], b, m, c => by simp [minL]
 | x :: ts, b, m, c => by
  unfold minL
  cases ek : key x with
  | stuck => simp
  | exc c' => exact absurd ek (nx x c')
  | ok y =>
   rw [Res.bind_ok]
   cases y <;> try simp
   split
   ·exact JZ nx ts _ _ c
   ·exact JZ nx ts _ _ c
theorem minT_nox {key : PyData -> Res PyData} (nx : ∀ t c, key t ≠ .exc c) (ts : List PyData) (c : Str) : minT key ts ≠ .exc c := by
 cases ts with
 | nil => simp [minT]
 | cons x ts =>
  simp only [minT]
  cases ek : key x with
  | stuck => simp
  | exc c' => exact absurd ek (nx x c')
  | ok y =>
   rw [Res.bind_ok]
   cases y <;> try simp
   exact JZ nx ts _ _ c
theorem hol_lam {K : PySem.W.Frag} {H H' : Hp} {P P' : Pv} {σ : L2.St} {G : List Sl} {cap : List Nat} {t : PyData} {v : V} (h : Hol K H P σ G) (tr : Tr H P H' P') (ho : ∀ i, P'.own i = none) (hf : ∀ a, P'.fb a -> ∃ o, H' a = some o /\ LD o) (htb : Ws K H') (rv : Rl K H' P' t v) :
  Hol K H' P' (lamS cap σ v) (.val t :: capS cap G) := by
 have z := ze1 (nv := 0) (cap := cap) h tr ho hf htb
 refine ⟨fun i s e => ?_, fun i j a z _ => (by rw [ho i] at z; cases z), fun i a z => (by rw [ho i] at z; cases z), hf, fun i a z => (by rw [ho i] at z; cases z), ?_, htb⟩
 ·cases i with
  | zero =>
   cases e
   exact ⟨v, rfl, rv⟩
  | succ i =>
   have w := z.sl i s (by simpa using e)
   have es : (lamS cap σ v).getD (i + 1) none = (sig 0 cap σ).getD i none := by simp [lamS, sig]
   have w' : SlOk K H' P' i ((lamS cap σ v).getD (i + 1) none) s := by rw [es]; exact w
   cases s with
   | emp => trivial
   | val t' => exact w'
   | own xs =>
    obtain ⟨p, vs, _, e2, _⟩ := w'
    rw [ho i] at e2; cases e2
   | dct xs =>
    obtain ⟨p, vs, _, e2, _⟩ := w'
    rw [ho i] at e2; cases e2
 ·have := z.len
  simp [lamS, sig] at this ⊢
  try omega
section
variable {X : Cx} {W : Str -> Hp -> Prop} {fl : Bool} {a b c e : Expr} {es : List Expr} {da db : DE} {pos : Pos}
theorem ev_minK {k : Nat} {x y : Str} {c T : Addr} {params : Arguments} {body : Expr} {scope : Scope} {N : List Str} {cap : List Nat} {de : DE} {p lpos kp1 kp2 cp : Pos} {jj : Nat} (L : LamAt X x c T) (C : LamOk X scope N y cap) (hr : Room (k + 2) X.A) (hg : Gl X "min") (hm : X.mg "min" = none) (ha : EV X W a da)
  (he : ∀ s₀ H₀ f cd, EV (cxL (Cx.i1 X) (lamQ x) scope N s₀ H₀ f cd) (fun _ _ => False) body de) (hdef : defaultsOf params X.env = ([], []) := by rfl)
  (hb : ∀ cl pm c' ctv u, bindArgs (PySem.W.kla_fn "<lambda>" (lamQ x) params body scope cl pm (.ref c') ctv) ⟨[u], []⟩ = pure [(y, u)] := by intros; rfl)
  (hs : starEach [a] X.env = (false, eval a X.env) :: starEach [] X.env := by rfl) :
  EV X W (.Call (.Name "min" p) [a] [⟨some "key", .Lambda params body scope lpos, kp1⟩, ⟨some "default", .Constant .none jj cp, kp2⟩] pos) (dMinK cap da de) := by
 intro pins s σ H Q I ⟨G, P, h, q⟩
 unfold dMinK at q
 obtain ⟨q1, q2, q3⟩ := Wr q
 refine wpAny_Call_Name_kw (Uf I hg hm (show bootBuiltins "min" = some (.builtin "min") by decide +kernel) ?_)
 refine callWith_kw (thn (ZV ha YX hs pos pins s σ H (fun vs H1 => ∃ tx v, vs = [v] /\ da G = .ok tx /\ Same H H1 /\ Hol X.K H1 P σ G /\ Rl X.K H1 P tx v) I (Zy h q1 q2 fun tx v H1 ex s1 h1 rx => ⟨tx, v, rfl, ex, s1, h1, rx⟩)) fun us s1 ⟨vs, H1, I1, r1, tx, v, ev, ex, sm1, h1, rx⟩ => ?_) (by rw [hs]; rfl) (by rw [hs]; rfl)
 subst ev
 obtain ⟨u1, rfl, ru⟩ := UR r1
 refine thn ((zbx (pe_lam L C hdef) (zbx pe_non pk_nil)) pos pins s1 σ H1 (fun zs H2 => ∃ f c' ctv, zs = [.ref f, .non] /\ Same H1 H2 /\ H2 f = some (LO f (PySem.W.kla_fn "<lambda>" (lamQ x) params body scope (ZS X.env scope.names []) ((X.mg "__name__").getD .none) (.ref c') ctv)) /\ H2 c' = some (CO c' (lamQ x))) I1 ⟨h1.tab, fun f c' ctv H2 sm2 _ e1 e2 => ⟨f, c', ctv, rfl, sm2, e1, e2⟩⟩) fun ws s2 ⟨zs, H2, I2, r2, f, c', ctv, ez, sm2, hf, hc⟩ => ?_
 subst ez
 have hws : ws = [.ref f, .none] := by
  cases r2 with
  | cons ra rb =>
   cases rb with
   | cons rc rd =>
    cases rd
    cases ra
    cases rc
    rfl
 subst hws
 show wpAny _ _ (call (.builtin "min") [u1] [(Str.ofString "key", .ref f), (Str.ofString "default", .none)]) _ _ _
 have q4 := q3 tx ex
 cases tx <;> try exact q4.elim
 rename_i ts
 obtain ⟨l, vs, rfl, sl, rs⟩ := ZN.mp rx
 cases ru
 simp only at q4
 have nx : ∀ t c, noX (de (.val t :: capS cap G)) ≠ .exc c := fun t c z => by
  rcases WK (de (.val t :: capS cap G)) with ⟨w, e⟩ | e <;> (rw [e] at z; cases z)
 have hlen := rs.length
 cases em : minT (fun t => noX (de (.val t :: capS cap G))) ts with
 | stuck => rw [em] at q4; exact q4.elim
 | exc c => exact absurd em (minT_nox nx ts c)
 | ok r =>
  rw [em] at q4
  have mt := minT_ok nx em
  refine zfw (X := X) (xs := vs) (kf := kOf (fun t => noX (de (.val t :: capS cap G))) ts) hr.hd I2 (fun H' sm => ((sl.go (.same sm2)).go (.same sm)).sq) (fun i v u pins' s' H' hv rvu J sm => ?_) (fun h0 s' H' J sm => ?_) (fun i v u s' H' hv rvu best J sm => ?_)
  ·-- one call of the lambda
   obtain ⟨t, ht, rt⟩ := rs.get hv
   obtain ⟨kv, ek⟩ : ∃ kv, noX (de (.val t :: capS cap G)) = .ok (.int kv) := by
    rcases mt with ⟨e0, _⟩ | ⟨_, ks, _⟩
    ·rw [e0] at ht; simp at ht
    ·exact ks i t ht
   have ed := zcy ek
   have kk : kOf (fun t => noX (de (.val t :: capS cap G))) ts i = kv := by unfold kOf; rw [ht]; simp only [ek]
   have smA : Same H1 H' := sm2.trans sm
   have gg : Tr H1 P H' ⟨fun _ => none, fun a => ¬ Off P a⟩ := fun a o e1 n o1 => ⟨smA.kp a o e1 n, fun _ z => (by cases z), fun z => z o1⟩
   refine wpAny_mono (lam_call (X := Cx.i1 X) (k := k) (t := tF X.K (fun _ _ => False) de) (Q := fun v' H'' => v' = .int kv /\ Same H' H'') ⟨C.cell, C.kind, C.co, C.gen, C.par, C.free, C.head, C.len, C.caps⟩ hr.in1 (Fx.Inv.toi1 J) rvu (sm.kp _ _ hf zeJ) (sm.kp _ _ hc zeJ) (hb _ _ _ _ _) (he s' H' f (.ref c')) ⟨.val t :: capS cap G, ⟨fun _ => none, fun a => ¬ Off P a⟩, hol_lam h1 gg (fun _ => rfl) (fun a z => let ⟨o, q, m⟩ := h1.ld z; ⟨o, smA.kp _ _ q m.nt, m⟩) (smA.tab _ h1.tab) (Rl.go gg t v rt), ?_⟩) (fun rr s'' hh => ?_) fun _ _ z => z
   ·rw [ed]
    exact fun v' H'' sm' r' => ⟨ZL.mp r', sm'⟩
   ·obtain ⟨v', H'', J', rv', e1, sm'⟩ := hh
    subst e1
    obtain ⟨t', rfl⟩ := rv'
    exact ⟨t', H'', by rw [kk], Fx.Inv.ofi1 J.ok J', sm.trans sm'⟩
  ·-- nothing in the list
   rcases mt with ⟨_, rfl⟩ | ⟨hne, _, _⟩
   ·exact ⟨.non, H', J, rfl, q4 _ H' ((sm1.trans sm2).trans sm) (Y0.mpr rfl)⟩
   ·exact absurd (List.length_eq_zero_iff.mp (by rw [hlen, h0]; rfl)) hne
  ·rcases mt with ⟨e0, _⟩ | ⟨_, _, i', hi', best'⟩
   ·rw [e0] at hlen
    have := (List.getElem?_eq_some_iff.mp hv).1
    simp at hlen
    omega
   ·have hi1 := (List.getElem?_eq_some_iff.mp hv).1
    have hi2 := (List.getElem?_eq_some_iff.mp hi').1
    have e : i = i' := by
     have b1 := best i' (by omega)
     have b2 := best' i (by omega)
     rcases Nat.lt_trichotomy i i' with z | z | z
     ·have := b2.2 z; have := b1.1; omega
     ·exact z
     ·have := b1.2 z; have := b2.1; omega
    subst e
    obtain ⟨t, ht, rt⟩ := rs.get hv
    rw [hi'] at ht
    cases ht
    exact ⟨v, H', J, rvu, q4 v H' ((sm1.trans sm2).trans sm) (Rl.go (.same (sm2.trans sm)) _ v rt)⟩
end
end Fx
namespace Fx
open PySem PySem.Spec PyProof.Rows L2
def lamCap (scope : Scope) (env : Env) (N0 N : List Str) (cap : List Nat) : Bool :=
 (List.range cap.length).all fun i => match (cap[i]? : Option Nat), (N[1 + i]? : Option Str) with
  | some j, some x => N0[j]? == some x && cf (scope.names.lookup x) && cf (env.kindOf x)
  | _, _ => true
def lamChk (scope : Scope) (env : Env) (N0 N : List Str) (y : Str) (cap : List Nat) : Bool :=
 (scope.names.all fun z => z.2 != .cell) && (scope.kind == .function) && (scope.isCoroutine == false) && (scope.isGenerator == false) && (scope.names.lookup y == some .local)
  && (scope.names.all fun z => z.2 != .free || cf (env.kindOf z.1)) && (N[0]? == some y) && (N.length == 1 + cap.length) && lamCap scope env N0 N cap
theorem lamok {X : Cx} {scope : Scope} {N : List Str} {y : Str} {cap : List Nat} (h : lamChk scope X.env X.N N y cap = true) : LamOk X scope N y cap := by
 unfold lamChk at h
 simp only [Bool.and_eq_true, List.all_eq_true] at h
 obtain ⟨⟨⟨⟨⟨⟨⟨⟨h1, h2⟩, h3⟩, h4⟩, h5⟩, h6⟩, h7⟩, h8⟩, h9⟩ := h
 refine ⟨fun y hy => by simpa using h1 y hy, by simpa using h2, by simpa using h3, by simpa using h4, by simpa using h5, fun y hy e => ?_, by simpa using h7, by simpa using h8, fun i j x hc hx => ?_⟩
 ·have := h6 y hy
  rw [e] at this
  exact zdL (by simpa using this)
 ·unfold lamCap at h9
  rw [List.all_eq_true] at h9
  have hi : i < cap.length := (List.getElem?_eq_some_iff.mp hc).1
  have := h9 i (List.mem_range.mpr hi)
  rw [hc, hx] at this
  simp only [Bool.and_eq_true] at this
  exact ⟨by simpa using this.1.1, zdL this.1.2, zdL this.2⟩
structure LamHyp (K : PySem.W.Frag) (mg : Str -> Option Value) (base : Heap) (x : Str) (c T : Addr) : Prop where
 tab : PySem.W.tabIn K x = some (c, T)
 hd : ∀ h : Heap, K.In h -> PySem.W.CodeHd h c T
 blt : zat mg base
theorem zc0 {K : PySem.W.Frag} {x : Str} {c T : Addr} (t : PySem.W.tabIn K x = some (c, T)) : ∃ o, K.lookup c = some o := by
 unfold PySem.W.tabIn at t
 split at t
 ·split at t
  ·split at t
   ·split at t
    ·rename_i hco
     split at t
     ·cases t; exact ⟨_, hco⟩
     ·cases t
    ·cases t
   ·cases t
  ·cases t
 ·cases t
theorem tab_mk {K : PySem.W.Frag} {x : Str} {f c T : Addr} {oc occ : Value} {od odc : Option Addr} {fd : FuncData} {sl slc : Array (Option Value)} {vs : Array Value} (a : PySem.W.nsIn K mainGlobals x = some (some (.ref f))) (l : K.lookup f = some ⟨oc, od, .func fd, sl⟩) (hc : fd.code = .ref c) (lc : K.lookup c = some ⟨occ, odc, .fields vs, slc⟩) (v : vs[11]? = some (.ref T)) : PySem.W.tabIn K x = some (c, T) := by
 unfold PySem.W.tabIn
 rw [a]
 simp only [l, hc, lc, v]
theorem Jw {K : PySem.W.Frag} {x : Str} {c T : Addr} {b : Heap} (t : PySem.W.tabIn K x = some (c, T)) (hb : K.In b) (h : PySem.W.CodeHd b c T) : ∀ h' : Heap, K.In h' -> PySem.W.CodeHd h' c T := fun h' hk => by
 obtain ⟨o0, e0⟩ := zc0 t
 obtain ⟨o, vs, file, tf, flags, tg, inF, text, tt, e, r⟩ := h
 have := hb _ _ e0
 rw [e] at this
 cases this
 exact ⟨_, vs, file, tf, flags, tg, inF, text, tt, hk _ _ e0, r⟩
theorem lam_at {X : Cx} {x : Str} {c T : Addr} (L : LamHyp X.K X.mg X.base x c T) (nm : x ∈ X2) (hc : X.env.code = .ref c := by rfl) (hq : X.env.qual ++ "<lambda>" = lamQ x := by rfl) : LamAt X x c T := ⟨L.tab, nm, hc, hq, L.hd, L.blt⟩
theorem cle_ofC {P : Program} {w : World} {K : PySem.W.Frag} {mg : Str -> Option Value} {base : Heap} {x : Str} {st : Stmt} {fa c : Addr} {fd : FuncData} {N ps : List Str} {k n np : Nat} {d : DS} (F : Fun K x x st fa fd) (hcode : fd.code = .ref c) (hm : mg x = some (.ref fa)) (b : ZC K fd ps []) (S : FnScope N ps (Zd st)) (hnp : ps.length = np) (hN : N.length = n)
  (hb : ∀ (A : Around) (outer : List Env) (s : Shared) (H : Hp) (E : XK), Room k (A.deeper (envOfC x (Zd st) s.heap.objs.size fa (.ref c))) ->
   SVs (cxOf CX0 P w K mg base N x (Zd st) fa (.ref c) A outer s H E).nox (fun _ _ => False) false (Zj st) d) : Cle P w K mg base (k + 1) x np (runQ n np d) := by
 subst hN
 refine ⟨⟨fa, fd, ps, ?_, hm, F.kp, b⟩, fun ts c => JK _ _ _ ts c⟩
 obtain ⟨oc, od, kV, doc, pm, an, cdv, ct, osl, rfl, lk, hcd⟩ := F.ex
 have hcode' : cdv = .ref c := hcode
 subst hcode'
 have F' : Fun K x x st fa (PySem.W.fnOf x x (Zk st) (Zj st) (Zd st) .none kV doc pm an (.ref c) ct) := F
 refine fn_of lk hcd S (fun vs H Q E h => by rw [hnp]; exact h.1) fun A outer s H vs Q E hr h => ⟨_, (hb A outer s H E hr).nox, ?_⟩
 obtain ⟨hl, ts, P', rs, ho, hf, q⟩ := h
 have hlt : ts.length = np := by rw [rs.length]; exact hl
 refine ⟨_, P', VB rs ho hf, ?_⟩
 unfold runQ runF at q
 rw [if_pos hlt] at q
 have en : N.length - np = N.length - ts.length := by rw [hlt]
 rw [en] at q
 have sm : ∀ H' P2, Go H P' H' P2 -> Same H H' := fun H' P2 g => g.all ho
 have bk : ∀ H' P2, Go H P' H' P2 -> Tr H' P2 H' P' := fun H' P2 g b o e _ z => ⟨e, fun i => by rw [ho i]; exact fun z => (by cases z), by rw [<- g.fbe]; exact z.2⟩
 cases e : d (ts.map .val ++ List.replicate (N.length - ts.length) .emp) with
 | stuck => rw [e] at q; exact q.elim
 | exc c => rw [e] at q; exact q.elim
 | ok o =>
  rw [e, Res.bind_ok] at q
  cases o with
  | nx G => exact fun σ' H' P2 g h' => q .non H' (sm H' P2 g) (Y0.mpr rfl)
  | rt t => exact fun v H' P2 g r _ => q v H' (sm H' P2 g) (Rl.go (bk H' P2 g) t v r)
  | bk G => exact q.elim
  | ct G => exact q.elim
theorem zeP {P : Program} {w : World} {K : PySem.W.Frag} {mg mb : Str -> Option Value} {k : Nat} {fa a c T : Addr} {fd : FuncData} {x x0 : Str} {f : DF} {s₁ : Shared} {vs : List Value} {ns : List Int}
  (KX : K.In s₁.heap) (hns : s₁.heap.Ns mainGlobals mg) (hb : s₁.heap.Ns builtinsNs mb) (hbb : ∀ x : Str, x ≠ "__name__" -> mb x = bootBuiltins x) (hlim : s₁.heap.NoLimit) (hg : s₁.gens = #[])
  (bmain : zat mg s₁.heap) (htb : PySem.W.tabIn K x0 = some (c, T)) (hx0 : x0 ∈ X2) (hno : PySem.W.noTabs K = true) (hC : PySem.W.CodeHd s₁.heap c T) (hT : s₁.heap.get? T = some (PySem.W.tabObj #[]))
  (ha : s₁.heap.get? a = some { cls := .type "list", data := .seq vs.toArray }) (hi : IntsAre vs ns) (hl : ns.length <= sizeLine) (hr : Room k callerA)
  (F : ∀ base : Heap, K.In base -> base.Ns mainGlobals mg -> zat mg base -> PySem.W.CodeHd base c T -> FnOk P w K mg base CX0 k fa fd [x] (spF K none 1 f)) (hbind : ∀ (s : Shared) (u : Value), BindsTo s fd ⟨[u], []⟩ [(x, u)])
  (hok : f [.list (ns.map .int)] = .ok (.bool true)) :
  codeAny (model P w) callerA (.call (.ref fa) ⟨[.ref a], []⟩) (fun r s' => r = .ok (.ret (.bool true)) /\ OldK s₁.heap s'.heap /\ s'.os = s₁.os /\ AllBare s'.gens) s₁ := by
 have rv := zau hi
 have lenV := hi.length
 have haT : a ≠ T := fun e => by rw [e, hT] at ha; cases ha
 have hKT : ∀ b o, K.lookup b = some o -> b ≠ T := fun b o e z => by
  have h2 := List.all_eq_true.mp hno (b, o) (PySem.W.mem_of_lookupK e)
  have h3 := KX _ _ e
  rw [z, hT] at h3
  cases h3
  exact absurd (show false = true from h2) Bool.false_ne_true
 -- from an abstract heap in which nothing but the table and the script may be tracked
 have core : ∀ H : Hp, H T = some (.tbl #[]) -> SqL K H a (ns.map V.int) -> HOk P w H s₁.heap -> (∀ b, H b ≠ none -> b = a \/ b = T) -> (∀ o, H a = some o -> K.lookup a = none /\ ∃ ob xs, o = .frz ob (.lst xs)) ->
   codeAny (model P w) callerA (.call (.ref fa) ⟨[.ref a], []⟩) (fun r s' => r = .ok (.ret (.bool true)) /\ OldK s₁.heap s'.heap /\ s'.os = s₁.os /\ AllBare s'.gens) s₁ := by
  intro H hHT hS hok' hA hK
  have base_of : ∀ {b : Addr} {o : Obj}, s₁.heap.get? b = some o -> H b = none -> (hidT s₁.heap H).get? b = some o := fun e n => hidT_get e n
  have noD : ∀ {b : Addr} {o : Obj}, s₁.heap.get? b = some o -> b ≠ T -> (∀ xs n, o.data ≠ .seq xs n) -> H b = none := fun {b o} e nt d => by
   cases q : H b with
   | none => rfl
   | some u =>
    rcases hA b (by rw [q]; simp) with e' | e'
    ·subst e'
     rw [ha] at e; cases e
     exact absurd rfl (d _ _)
    ·exact absurd e' nt
  have nsK : ∀ {b : Addr} {m : Str -> Option Value}, s₁.heap.Ns b m -> (hidT s₁.heap H).Ns b m := fun {b m} ⟨o, es, ep, e, d, r⟩ => ⟨o, es, ep, base_of e (noD e (fun z => by rw [z, hT] at e; cases e; cases d) fun xs n z => by rw [d] at z; cases z), d, r⟩
  have hKb : K.In (hidT s₁.heap H) := fun b o e => base_of (KX b o e) (by
   cases q : H b with
   | none => rfl
   | some u =>
    rcases hA b (by rw [q]; simp) with e' | e'
    ·subst e'
     rw [(hK u q).1] at e; cases e
    ·exact absurd e' (hKT b o e))
  have hBb : zat mg (hidT s₁.heap H) := by
   obtain ⟨bm, ob, b1, b2, b3, b4, b5, b6, b7⟩ := bmain
   exact ⟨bm, ob, b1, b2, b3, base_of b4 (noD b4 (fun z => by rw [z, hT] at b4; cases b4; cases b5) fun xs n z => by rw [b7] at z; cases z), b5, b6, b7⟩
  have hCb : PySem.W.CodeHd (hidT s₁.heap H) c T := Jw htb KX hC _ hKb
  have hM : Mod K mg (hidT s₁.heap H) := ⟨hKb, nsK hns, ⟨mb, nsK hb, hbb⟩, let ⟨mc, h1, h2⟩ := hlim; ⟨mc, nsK h1, h2⟩⟩
  have e0 : Env0 P w K mg (hidT s₁.heap H) callerA [] s₁ H := ⟨rfl, hM, fun b o e => of_hidT e, Nat.le_of_eq (ze2 _ _), trivial, fun b hb => absurd (show b ∈ ([] : List Addr) from hb) (by simp), hok', .of_eq hg⟩
  have tk : Ws K H := fun x1 c1 T1 h1 h2 => by
   have e1 : x1 = x0 := zeR h1 hx0
   subst e1
   rw [htb] at h2
   cases h2
   exact ⟨#[], hHT, trivial, fun pos cv z => by simp [codeAmong] at z⟩
  refine codeAny_mono ((F _ hKb (nsK hns) hBb hCb).run callerA [] s₁ H ⟨[.ref a], []⟩ [.ref a] [.ref a] _ (fun _ _ _ => False) hr e0 (hbind s₁ (.ref a)) (.cons rfl .nil) (law_sp hok tk hS)) fun r s' h => ?_
  cases r with
  | error e => exact False.elim h
  | ok fl =>
   cases fl with
   | next => exact False.elim h
   | brk => exact False.elim h
   | cont => exact False.elim h
   | ret u =>
    obtain ⟨v, H', os, bare, un, hok2, r', q⟩ := h
    have q' : v = .bl true := q
    subst q'
    obtain rfl : u = Value.bool true := r'
    have keep : ∀ b o, b ≠ T -> s₁.heap.get? b = some o -> s'.heap.get? b = some o := fun b o nb e => by
     cases q : H b with
     | none => exact un.keep b o e q (by intro z; exact absurd (show b ∈ ([] : List Addr) from z) (by simp)) (by simp)
     | some u =>
      rcases hA b (by rw [q]; simp) with e' | e'
      ·subst e'
       obtain ⟨_, ob, xs, rfl⟩ := hK u q
       have z2 := un.frzs b ob _ q
       obtain ⟨e1, _⟩ := hok' b _ q
       obtain ⟨e2, _⟩ := hok2 b _ z2
       rw [e] at e1; cases e1
       exact e2
      ·exact absurd e' nb
    obtain ⟨more, hT'⟩ := un.tbls T _ hHT
    have hTo : s'.heap.get? T = some (PySem.W.tabObj (#[] ++ more)) := hok2 T _ hT'
    refine ⟨rfl, ⟨fun b o e => ?_, fun b o e => ?_⟩, os, bare⟩
    ·by_cases nb : b = T
     ·subst nb
      rw [hT] at e
      cases e
      exact .inr (.inl ⟨(hC.tab hT).isCodeTable, rfl, #[], more, rfl, hTo⟩)
     ·exact .inl (keep b o nb e)
    ·by_cases nb : b = T
     ·subst nb; exact ⟨_, hTo⟩
     ·exact ⟨o, keep b o nb e⟩
 cases hk : K.lookup a with
 | some o =>
  have e := KX a o hk
  rw [ha] at e
  cases e
  refine core (fun b => if b = T then some (.tbl #[]) else none) (if_pos rfl) (.inr ⟨_, vs.toArray, _, hk, rfl, rfl, rfl, by rw [List.size_toArray, lenV]; exact hl, by simpa using rv⟩) (fun b u z => ?_) (fun b z => ?_) fun o z => ?_
  ·by_cases hb : b = T
   ·have z' := (if_pos hb).symm.trans z
    cases z'
    subst hb
    exact hT
   ·have z' := (if_neg hb).symm.trans z
    cases z'
  ·by_cases hb : b = T
   ·exact .inr hb
   ·exact absurd (if_neg hb) z
  ·have z' := (if_neg haT).symm.trans z
   cases z'
 | none =>
  refine core (fun b => if b = T then some (.tbl #[]) else if b = a then some (.frz { cls := .type "list", data := .seq vs.toArray } (.lst (ns.map V.int))) else none) (if_pos rfl) (.inl (.inr ⟨{ cls := .type "list", data := .seq vs.toArray }, (if_neg haT).trans (if_pos rfl)⟩)) (fun b u z => ?_) (fun b z => ?_) fun o z => ?_
  ·by_cases hb : b = T
   ·have z' := (if_pos hb).symm.trans z
    cases z'
    subst hb
    exact hT
   ·have z1 := (if_neg hb).symm.trans z
    by_cases hb2 : b = a
    ·have z' := (if_pos hb2).symm.trans z1
     cases z'
     subst hb2
     exact ⟨ha, by rw [List.length_map]; exact hl, vs, _, rv, ha⟩
    ·have z' := (if_neg hb2).symm.trans z1
     cases z'
  ·by_cases hb : b = T
   ·exact .inr hb
   ·by_cases hb2 : b = a
    ·exact .inl hb2
    ·exact absurd ((if_neg hb).trans (if_neg hb2)) z
  ·have z' := ((if_neg haT).trans (if_pos rfl)).symm.trans z
   cases z'
   exact ⟨hk, _, _, rfl⟩
theorem walk_T {l : PySem.W.OpenLaw} {n k : Nat} {q : Program} {loose : List Str} {XP : (Str -> Option Value) -> Heap -> Prop} {YP : World -> Heap -> Prop} {d d0 : DefRec} {K : Params -> PySem.W.Frag} {x x0 : Str} {f : DF}
  (hn : l.most = some n) (hn2 : n <= sizeLine) (hdf : d.params.defaults = []) (hr : Room k callerA) (hx0 : x0 ∈ X2) (hrec : (recsOf q).find? (fun e => e.name == x0) = some d0)
  (hY : ∀ (w : World) (h : Heap), YP w h -> (K w.params).In h)
  (F : ∀ (w : World) (mg : Str -> Option Value) (fa : Addr) (h : Heap), (K w.params).In h -> h.Ns mainGlobals mg -> mg d.name = some (.ref fa) ->
   ∃ (fd : FuncData) (c T : Addr), PySem.W.tabIn (K w.params) x0 = some (c, T) /\ PySem.W.noTabs (K w.params) = true /\ (∀ (s : Shared) (u : Value), BindsTo s fd ⟨[u], []⟩ [(x, u)]) /\
    ∀ base : Heap, (K w.params).In base -> base.Ns mainGlobals mg -> zat mg base -> PySem.W.CodeHd base c T -> FnOk l.prog w (K w.params) mg base CX0 k fa fd [x] (spF (K w.params) none 1 f))
  (hok : ∀ ns : List Int, ns.length <= n -> f [.list (ns.map .int)] = .ok (.bool true)) :
  PySem.W.WalkO q loose XP YP l.row.toRowW d [] (fun f vs => PySem.call f vs) := by
 refine Att.attach_call hn hdf fun w s₀ s₁ mg mb fa o pm cd doc a vs ns G Y ho hd hcd hmg hobj hints hlen hg => ?_
 have KX := hY w _ Y
 obtain ⟨fd, c, T, htb, hno, hb, hF⟩ := F w mg fa _ KX G.T.g hmg
 obtain ⟨hC, hT⟩ := PySem.W.tab_of G.T KX hrec htb
 have hB : zat mg s₁.heap := by
  obtain ⟨bm, ob, b1, b2, b3, b4, b5, b6⟩ := G.T.bmain
  refine ⟨bm, ob, b1, b2, fun z => ?_, b3, b4, b5, b6⟩
  obtain ⟨o, es, ep, e, hdd, _⟩ := G.T.g
  rw [z, e] at b3; cases b3; rw [hdd] at b6; cases b6
 exact zeP KX G.T.g G.T.b G.T.builtins G.T.nolimit hg hB htb hx0 hno hC hT hobj hints (Nat.le_trans hlen hn2) hr hF hb (hok ns hlen)
end Fx
namespace Fx
open PySem PySem.Spec PyProof.Rows L2
section
variable {X : Cx} {W : Str -> Hp -> Prop} {a b e : Expr} {da db : DE} {pos : Pos}
theorem zag {lo hi : Option Expr} {dl dh : DP} {p2 : Pos} (ha : EV X W a da) (hl : PV X W lo dl) (hh : PV X W hi dh) : EV X W (.Subscript a (.Slice lo hi none p2) pos) (zdH da dl dh) :=
 ZA (zcw sl_tup ha hl hh) fun σ H Q ⟨G, P, h, q⟩ => by
  unfold zdH at q
  obtain ⟨q1, q2, q3⟩ := Wr q
  refine Zy h q1 q2 fun tx x H1 ex s1 h1 rx => ⟨G, P, h1, ?_⟩
  have q4 := q3 tx ex
  cases el : dl G with
  | stuck => rw [el] at q4; exact q4.elim
  | exc c => rw [el] at q4; exact fun H' s => q4 H' (s1.trans s)
  | ok l =>
   rw [el, Res.bind_ok] at q4
   refine fun H2 s2 => ⟨G, P, h1.same s2, ?_⟩
   cases eh : dh G with
   | stuck => rw [eh] at q4; exact q4.elim
   | exc c => rw [eh] at q4; exact fun H' s => q4 H' ((s1.trans s2).trans s)
   | ok u =>
    rw [eh, Res.bind_ok] at q4
    intro H3 s3
    cases tx <;> try exact q4.elim
    rename_i xs
    simp only at q4
    split at q4
    ·exact q4.elim
    ·rename_i hw
     obtain ⟨p, vs, rfl, sl, rs⟩ := ZH.mp (Rl.go (.same (s2.trans s3)) _ x rx)
     have h3 := h1.same (s2.trans s3)
     refine ⟨p, vs, rfl, sl.sq, ?_, fun p hp => q4 _ _ (((s1.trans s2).trans s3).trans (Zr hp)) (ZH.mpr ⟨p, _, rfl, .off Zp (h3.off_new hp), Rls.go (.same (Zr hp)) _ _ (zft l u rs)⟩)⟩
     rw [<- rs.length, <- JJ, <- JJ]
     exact hw
def rCatU (K : PySem.W.Frag) : R2 := fun x y H Q => ∃ a b xs ys, x = .ref a /\ y = .ref b /\ SqT K H a xs /\ SqT K H b ys /\ xs.length + ys.length <= sizeLine /\
 (xs = [] -> Q (.ref b) H) /\ (ys = [] -> Q (.ref a) H) /\ (∀ p, H p = none -> Q (.ref p) (upd H p (.tup (xs ++ ys))))
theorem cat_tup0 {prog : Program} {w : World} {A : Around} {E : Value -> Shared -> Prop} {s : Shared} {t b : Addr} {ws : List Value} {Q : Value -> Shared -> Prop} (ht : IsTup s.heap t #[]) (hb : IsTup s.heap b ws.toArray)
  (h1 : Q (.ref b) s) : wpAny (model prog w) A (binaryOp .Add (.ref t) (.ref b)) Q E s := by
 obtain ⟨⟨cls, dd, data, sl⟩, ho, hc, n, hd⟩ := id ht
 obtain ⟨⟨cls2, dd2, data2, sl2⟩, ho2, hc2, n2, hd2⟩ := id hb
 simp only at hc hd hc2 hd2
 subst hc hd hc2 hd2
 exact concat_meets ⟨_, ho, rfl⟩ ⟨_, ho2, rfl⟩ noFill_tuple_add seq_tuple_add PySem.F.slot_tuple_add PySem.F.entry_tuple_add (PySem.F.args_tuple_add_2 _ _)
   (tuple_addW0 t b #[] ws.toArray n n2 dd dd2 sl sl2 rfl) ⟨ho, ho2, h1⟩
theorem op_catU : OpR X (binaryOp .Add) (rCatU X.K) := by
 intro pins s σ H x y v u Q I rx ry h
 obtain ⟨a, b, xs, ys, rfl, rfl, ha, hb, hz, q0, q1, q2⟩ := h
 by_cases hx : xs = []
 ·subst hx
  cases rx
  cases ry
  obtain ⟨its, r1, p1, _⟩ := I.tuple ha
  obtain ⟨its2, r2, p2, _⟩ := I.tuple hb
  cases r1
  exact cat_tup0 p1 p2 ⟨.ref b, H, I, rfl, q0 rfl⟩
 ·exact op_catT pins s σ H _ _ _ _ Q I rx ry ⟨a, b, xs, ys, rfl, rfl, ha, hb, hx, hz, q1, fun _ => q2⟩
theorem zez : OpR X (binaryOp .Add) (rCatU X.K) /\ Fop X W (rCatU X.K) fAddU :=
 ⟨op_catU, fun H P σ G x y tx ty Q h rx ry q => by
  cases tx <;> cases ty <;> try exact q.elim
  rename_i xs ys
  obtain ⟨l, us, rfl, s1, r1⟩ := ZH.mp rx
  obtain ⟨m, ws, rfl, s2, r2⟩ := ZH.mp ry
  simp only [fAddU] at q
  split at q
  ·rename_i hz
   have e1 := r1.length
   have e2 := r2.length
   refine ⟨l, m, us, ws, rfl, rfl, s1.sq, s2.sq, by rw [sizeLine_eq]; omega, fun z => ?_, fun z => ?_, fun p hp => q _ _ (Zr hp) (ZH.mpr ⟨p, us ++ ws, rfl, .off Zp (h.off_new hp), ?_⟩)⟩
   ·subst z
    have : xs = [] := List.eq_nil_of_length_eq_zero e1
    subst this
    exact q _ _ (Same.refl H) ry
   ·subst z
    have : ys = [] := List.eq_nil_of_length_eq_zero e2
    subst this
    rw [List.append_nil] at q
    exact q _ _ (Same.refl H) rx
   ·exact (Rls.go (.same (Zr hp)) xs us r1).append (Rls.go (.same (Zr hp)) ys ws r2)
  ·exact q.elim⟩
end
end Fx
namespace Fx
open PySem
def dHs : List ((Str -> Bool) × (Str -> Bool) × DS) -> Str -> DS
 | [], _ => fun _ => .stuck
 | (y, n, h) :: r, c => fun G => if y c then noX (h G) else if n c then dHs r c G else .stuck
@[simp] theorem zcO (y n : Str -> Bool) (h : DS) (r : List ((Str -> Bool) × (Str -> Bool) × DS)) (c : Str) (G : List Sl) : dHs ((y, n, h) :: r) c G = if y c then noX (h G) else if n c then dHs r c G else .stuck := rfl
@[simp] def dTryM (b : DS) (hs : List ((Str -> Bool) × (Str -> Bool) × DS)) : DS := fun G => match b G with
 | .exc c => dHs hs c G
 | .ok o => .ok o
 | .stuck => .stuck
end Fx
namespace Fx
open PySem
def Qf : List PyData -> Option (List Int)
 | [] => some []
 | .int i :: r => (Qf r).map (i :: ·)
 | _ => none
def Ww : PyData -> Option (List Int)
 | .tuple xs => Qf xs
 | _ => none
theorem zaP : ∀ {xs : List PyData} {ns : List Int}, Qf xs = some ns -> xs = ns.map .int
 | [], ns, h => by cases h; rfl
 | x :: r, ns, h => by
  cases x <;> try (cases h; done)
  rename_i i
  simp only [Qf] at h
  cases e : Qf r with
  | none => rw [e] at h; cases h
  | some ms =>
   rw [e] at h
   cases h
   rw [zaP e]; rfl
theorem zdm (ns : List Int) : Qf (ns.map .int) = some ns := by
 induction ns with
 | nil => rfl
 | cons n ns ih => simp [Qf, ih]
theorem keyIs_ok {k : PyData} {ns : List Int} (h : Ww k = some ns) : k = .tuple (ns.map .int) := by
 cases k <;> try (cases h; done)
 rw [zaP h]
@[simp] theorem zaM (ns : List Int) : Ww (.tuple (ns.map .int)) = some ns := zdm ns
def Uy (ns : List Int) : List (PyData × PyData) -> Option PyData
 | [] => none
 | (k, t) :: r => if Ww k = some ns then some t else Uy ns r
def putD' (ns : List Int) (t : PyData) (es : List (PyData × PyData)) : List (PyData × PyData) :=
 if (Uy ns es).isSome then es.map fun e => if Ww e.1 = some ns then (e.1, t) else e else es ++ [(.tuple (ns.map .int), t)]
@[simp] def dNewD (i : Nat) : DS := fun G => if i < G.length then .ok (.nx (G.set i (.dct []))) else .stuck
@[simp] def zca (i : Nat) (k : DE) : DE := fun G => (k G).bind fun y => match G[i]?, Ww y with
 | some (.dct es), some ns => .ok (.bool (!(Uy ns es).isSome))
 | _, _ => .stuck
@[simp] def dGetN (i : Nat) (k : DE) : DE := fun G => match G[i]? with
 | some (.dct es) => (k G).bind fun y => match Ww y with
  | some ns => ofO (Uy ns es)
  | none => .stuck
 | _ => .stuck
@[simp] def zeh (i : Nat) (G : List Sl) (t y : PyData) : Res Out :=
 match G[i]?, Ww y with
 | some (.dct es), some ns => if es.length < 16777215 then .ok (.nx (G.set i (.dct (putD' ns t es)))) else .stuck
 | _, _ => .stuck
def isDct (G : List Sl) (i : Nat) : Bool := match G[i]? with
 | some (.dct _) => true
 | _ => false
@[simp] def dPutN (i : Nat) (k e : DE) : DS := fun G => (e G).bind fun t => if isDct G i then (k G).bind fun y => zeh i G t y else .stuck
@[simp] def dRetD (i : Nat) : DS := fun G => match G[i]? with
 | some (.dct es) => .ok (.rt (.dict ((.none, .none) :: es)))
 | _ => .stuck
@[simp] def dIfG (c : DT) (a b : DS) : DS := fun G => (c G).bind fun k => if k then a G else b G
@[simp] def fGetD : PyData -> PyData -> Res PyData
 | .dict ((.none, .none) :: es), y => match Ww y with
  | some ns => ofO (Uy ns es)
  | none => .stuck
 | _, _ => .stuck
@[simp] def iKeys (a : DE) : DA := fun G => (a G).bind fun x => match x with
 | .dict ((.none, .none) :: es) => .ok (es.map (·.1))
 | _ => .stuck
@[simp] def dJ (a b : DE) : DE := fun G => match a G with
 | .stuck => b G
 | r => r
@[simp] def extOwn (i : Nat) (G' : List Sl) (ts : List PyData) : Res Out :=
 match G'[i]? with
 | some (.own xs) => if xs.length + ts.length <= 16777216 then .ok (.nx (G'.set i (.own (xs ++ ts)))) else .stuck
 | _ => .stuck
@[simp] def dExt (i : Nat) (e : DA) : DS := fun G => if zaO G i then (e G).bind fun ts => extOwn i G ts else .stuck
def maxL : Int -> List PyData -> Res PyData
 | m, [] => .ok (.int m)
 | m, .int i :: r => maxL (if m < i then i else m) r
 | _, _ => .stuck
@[simp] def maxD (n : Int) : PyData -> Res PyData
 | .list [] => .ok (.int n)
 | .list (.int i :: r) => maxL i r
 | _ => .stuck
end Fx
namespace L2
open PySem PySem.Spec PyProof.Rows
section
variable {κ : Type} [DecidableEq κ]
def valV (kvs : List (κ × V)) (k : κ) : Option V := (kvs.find? fun kv => decide (kv.1 = k)).map (·.2)
def putK (kvs : List (κ × V)) (k : κ) (v : V) : List (κ × V) :=
 if (kvs.any fun kv => decide (kv.1 = k)) = true then kvs.map (fun kv => if kv.1 = k then (kv.1, v) else kv) else kvs ++ [(k, v)]
theorem valV_nil {k : κ} : valV ([] : List (κ × V)) k = none := rfl
theorem UI {p : κ × V} {r : List (κ × V)} {k : κ} (e : p.1 = k) : valV (p :: r) k = some p.2 := by simp [valV, List.find?_cons, e]
theorem UJ {p : κ × V} {r : List (κ × V)} {k : κ} (e : ¬ p.1 = k) : valV (p :: r) k = valV r k := by simp [valV, List.find?_cons, e]
theorem Jy (k : κ) : ∀ kvs : List (κ × V), (kvs.any fun kv => decide (kv.1 = k)) = (valV kvs k).isSome
 | [] => rfl
 | p :: r => by
  rw [List.any_cons]
  by_cases e : p.1 = k
  ·simp only [UI e, decide_eq_true e, Bool.true_or, Option.isSome_some]
  ·rw [UJ e, decide_eq_false e, Bool.false_or]; exact Jy k r
theorem Qa (kvs : List (κ × V)) (k : κ) (v : V) : (putK kvs k v).length <= kvs.length + 1 := by
 unfold putK
 split
 ·rw [List.length_map]; omega
 ·rw [List.length_append, List.length_cons, List.length_nil]; omega
theorem RelO.isSome_eq {o : Option V} {u : Option Value} (r : RelO o u) : o.isSome = u.isSome := by
 cases o with
 | none => cases u with
  | none => rfl
  | some _ => exact (show False from r).elim
 | some _ => cases u with
  | none => exact (show False from r).elim
  | some _ => rfl
theorem KV.val {kvs : List (κ × V)} {vs : List (κ × Value)} (r : KV kvs vs) (k : κ) : RelO (valV kvs k) (valueAt vs k) := by
 unfold KV at r
 induction r with
 | nil => exact True.intro
 | @cons p q ps qs h t ih =>
  obtain ⟨h1, h2⟩ := h
  by_cases e : p.1 = k
  ·have e' : q.1 = k := h1.symm.trans e
   have b : valueAt (q :: qs) k = some q.2 := by simp [valueAt, List.find?_cons, e']
   rw [UI e, b]; exact h2
  ·have e' : ¬ q.1 = k := fun z => e (h1.trans z)
   have b : valueAt (q :: qs) k = valueAt qs k := by simp [valueAt, List.find?_cons, e']
   rw [UJ e, b]; exact ih
theorem KV.any {kvs : List (κ × V)} {vs : List (κ × Value)} (r : KV kvs vs) (k : κ) : (kvs.any fun kv => decide (kv.1 = k)) = vs.any fun kv => decide (kv.1 = k) := by
 unfold KV at r
 induction r with
 | nil => rfl
 | cons h t ih => rw [List.any_cons, List.any_cons, ih, h.1]
theorem KV.repl {kvs : List (κ × V)} {vs : List (κ × Value)} (r : KV kvs vs) (k : κ) {y : V} {u : Value} (ry : RelV y u) :
  KV (kvs.map fun kv => if kv.1 = k then (kv.1, y) else kv) (vs.map fun kv => if kv.1 = k then (kv.1, u) else kv) := by
 unfold KV at r ⊢
 induction r with
 | nil => exact .nil
 | @cons p q ps qs h t ih =>
  rw [List.map_cons, List.map_cons]
  refine .cons ?_ ih
  obtain ⟨h1, h2⟩ := h
  by_cases e : p.1 = k
  ·rw [if_pos e, if_pos (h1.symm.trans e)]; exact ⟨h1, ry⟩
  ·rw [if_neg e, if_neg (fun z => e (h1.trans z))]; exact ⟨h1, h2⟩
theorem KV.put {kvs : List (κ × V)} {vs : List (κ × Value)} (r : KV kvs vs) (k : κ) {y : V} {u : Value} (ry : RelV y u) : KV (putK kvs k y) (stored vs k u) := by
 unfold putK stored
 rw [r.any k]
 by_cases e : (vs.any fun kv => decide (kv.1 = k)) = true
 ·rw [if_pos e, if_pos e]; exact r.repl k ry
 ·rw [if_neg e, if_neg e]; exact Paired.snoc r ⟨rfl, ry⟩
theorem KV.length {kvs : List (κ × V)} {vs : List (κ × Value)} (r : KV kvs vs) : kvs.length = vs.length := Paired.length r
end
theorem kV_is {P : Program} {w : World} {k : Key} {u : Value} (r : RelV (kV k) u) : (YG P w).is k u = true := by
 cases k with
 | inl i => obtain ⟨t, e⟩ := (show ∃ t, u = Value.int i t from r); subst e; exact zbI P w i t
 | inr x => obtain ⟨t, e⟩ := (show ∃ t, u = Value.str x t from r); subst e; exact zbH P w x t
theorem zaN {P : Program} {w : World} : ∀ {ks : List Key} {us : List Value}, Vals (ks.map kV) us -> ItemsAre (YG P w) ks us
 | [], _, r => by rw [List.map_nil] at r; cases r; exact .nil
 | k :: ks, _, r => by
  rw [List.map_cons] at r
  cases r with
  | cons h t => exact .cons (kV_is h) (zaN t)
abbrev KT (H : Hp) : List (List Key × V) -> List (List Key × Addr × Value) -> Prop := Paired fun p q => p.1 = q.1 /\ H q.2.1 = some (.tup (p.1.map kV)) /\ RelV p.2 q.2.2
theorem KT.val {H : Hp} {kvs : List (List Key × V)} {xs : List (List Key × Addr × Value)} (r : KT H kvs xs) (k : List Key) : RelO (valV kvs k) ((atKey xs k).map (·.2)) := by
 induction r with
 | nil => exact True.intro
 | @cons p q ps qs h t ih =>
  obtain ⟨h1, _, h2⟩ := h
  by_cases e : p.1 = k
  ·have e' : q.1 = k := h1.symm.trans e
   have b : atKey (q :: qs) k = some q.2 := by simp [atKey, List.find?_cons, e']
   rw [UI e, b]; exact h2
  ·have e' : ¬ q.1 = k := fun z => e (h1.trans z)
   have b : atKey (q :: qs) k = atKey qs k := by simp [atKey, List.find?_cons, e']
   rw [UJ e, b]; exact ih
theorem KT.repl {H : Hp} {kvs : List (List Key × V)} {xs : List (List Key × Addr × Value)} (r : KT H kvs xs) (k : List Key) {y : V} {u : Value} (ry : RelV y u) :
  KT H (kvs.map fun kv => if kv.1 = k then (kv.1, y) else kv) (xs.map (putAt k u)) := by
 induction r with
 | nil => exact .nil
 | @cons p q ps qs h t ih =>
  rw [List.map_cons, List.map_cons]
  refine .cons ?_ ih
  obtain ⟨h1, h2, h3⟩ := h
  unfold putAt
  by_cases e : p.1 = k
  ·rw [if_pos e, if_pos (h1.symm.trans e)]; exact ⟨h1, h2, ry⟩
  ·rw [if_neg e, if_neg (fun z => e (h1.trans z))]; exact ⟨h1, h2, h3⟩
theorem KT.put {H : Hp} {kvs : List (List Key × V)} {xs : List (List Key × Addr × Value)} (r : KT H kvs xs) (k : List Key) {b : Addr} {y : V} {u : Value} (hb : H b = some (.tup (k.map kV))) (ry : RelV y u) :
  KT H (putK kvs k y) (storedH xs k b u) := by
 have e : (kvs.any fun kv => decide (kv.1 = k)) = (atKey xs k).isSome := by
  rw [Jy, (r.val k).isSome_eq, Option.isSome_map]
 unfold putK storedH
 rw [e]
 by_cases q : (atKey xs k).isSome = true
 ·rw [if_pos q, if_pos q]; exact r.repl k ry
 ·rw [if_neg q, if_neg q]; exact Paired.snoc r ⟨rfl, hb, ry⟩
theorem KT.keeps {H H' : Hp} {kvs : List (List Key × V)} {xs : List (List Key × Addr × Value)} (r : KT H kvs xs) (ht : ∀ b ys, H b = some (.tup ys) -> H' b = some (.tup ys)) : KT H' kvs xs :=
 Paired.mapP r fun _ _ z => ⟨z.1, ht _ _ z.2.1, z.2.2⟩
section
variable {P : Program} {w : World} {H : Hp} {h : Heap} {a : Addr}
theorem rd_of {u : HO} (ok : HOk P w H h) (e : Rd H a u) : Y6 P w H h a u := e.ok ok
theorem dk_rd {kvs : List (Key × V)} (ok : HOk P w H h) (e : Rd H a (.dK kvs)) : kvs.length <= sizeLine /\ (a == sysModules) = false /\ ∃ vs, KV kvs vs /\ h.DictOf (YG P w) a vs :=
 show Y6 P w H h a (.dK kvs) from rd_of ok e
theorem dk_of {kvs : List (Key × V)} (ok : HOk P w H h) (e : H a = some (.dK kvs)) : kvs.length <= sizeLine /\ (a == sysModules) = false /\ ∃ vs, KV kvs vs /\ h.DictOf (YG P w) a vs := dk_rd ok (.inl e)
theorem zcC {ks : List Key} (ok : HOk P w H h) (e : H a = some (.tup (ks.map kV))) : (tupleKind (YG P w)).is h ks a := by
 obtain ⟨_, its, r, o, h1, h2, n, h3⟩ := (show Y6 P w H h a (.tup (ks.map kV)) from ok a _ e)
 exact ⟨o, its.toArray, n, h1, h2, h3, by simpa using zaN r⟩
theorem dt_rd {kvs : List (List Key × V)} (ok : HOk P w H h) (e : Rd H a (.dT kvs)) : kvs.length <= sizeLine /\ (a == sysModules) = false /\
  ∃ xs, KT H kvs xs /\ h.DictOfH (tupleKind (YG P w)) a xs := by
 obtain ⟨z, y, xs, r, o, es, ep, h1, h2, h3, h4, h5⟩ := (show Y6 P w H h a (.dT kvs) from rd_of ok e)
 refine ⟨z, y, xs, r, o, es, ep, h1, h2, h3, h4, fun x hx => ?_, h5⟩
 have all : ∀ {l : List (List Key × V)} {m : List (List Key × Addr × Value)}, KT H l m -> ∀ x ∈ m, (tupleKind (YG P w)).is h x.1 x.2.1 := by
  intro l m q
  induction q with
  | nil => intro x hx; exact nomatch hx
  | @cons p q ps qs hq t ih =>
   intro x hx
   rcases List.mem_cons.mp hx with e | hx
   ·subst e
    exact zcC ok (by rw [<- hq.1]; exact hq.2.1)
   ·exact ih x hx
 exact all r x hx
theorem dt_of {kvs : List (List Key × V)} (ok : HOk P w H h) (e : H a = some (.dT kvs)) : kvs.length <= sizeLine /\ (a == sysModules) = false /\
  ∃ xs, KT H kvs xs /\ h.DictOfH (tupleKind (YG P w)) a xs := dt_rd ok (.inl e)
end
def DGet (H : Hp) (a : Addr) (y : V) (r : Option V) : Prop :=
 (∃ kvs k, Rd H a (.dK kvs) /\ y = kV k /\ r = valV kvs k) \/ ∃ kvs k b, Rd H a (.dT kvs) /\ y = .ref b /\ H b = some (.tup (k.map kV)) /\ r = valV kvs k
def DPut (H : Hp) (a : Addr) (y v : V) (H' : Hp) : Prop :=
 (∃ kvs k, H a = some (.dK kvs) /\ y = kV k /\ kvs.length < sizeLine /\ H' = upd H a (.dK (putK kvs k v))) \/
 ∃ kvs k b, H a = some (.dT kvs) /\ y = .ref b /\ H b = some (.tup (k.map kV)) /\ kvs.length < sizeLine /\ H' = upd H a (.dT (putK kvs k v))
theorem DGet.t {H : Hp} {a b : Addr} {kvs : List (List Key × V)} {k : List Key} (e : H a = some (.dT kvs)) (eb : H b = some (.tup (k.map kV))) : DGet H a (.ref b) (valV kvs k) := .inr ⟨kvs, k, b, .inl e, rfl, eb, rfl⟩
theorem DPut.t {H : Hp} {a b : Addr} {kvs : List (List Key × V)} {k : List Key} {v : V} (e : H a = some (.dT kvs)) (eb : H b = some (.tup (k.map kV))) (hl : kvs.length < sizeLine) :
  DPut H a (.ref b) v (upd H a (.dT (putK kvs k v))) := .inr ⟨kvs, k, b, e, rfl, eb, hl, rfl⟩
section
variable {X : Cx} {pins : List (Addr × Obj)} {σ : St} {H : Hp} {s : Shared} {a : Addr} {y v : V} {u r : Value} {o : Option V} {A : Around} {E : Value -> Shared -> Prop}
theorem Inv.big (I : Inv X pins σ H s) : sysModules < s.heap.objs.size := by
 have h : mainGlobals < s.heap.objs.size := (I.mod.glob.keeps I.bk).lt
 exact Nat.lt_trans (by decide) h
theorem zfk {Q : Value -> Shared -> Prop} (hu : A.units + 1 < cLine) (I : Inv X pins σ H s) (g : DGet H a y (some v)) (ry : RelV y u) (h : ∀ w' s', Inv X pins σ H s' -> RelV v w' -> Q w' s') :
  wpAny (model X.prog X.w) A (getItem (.ref a) u) Q E s := by
 rcases g with ⟨kvs, k, e, ey, l⟩ | ⟨kvs, k, b, e, ey, eb, l⟩
 ·subst ey
  obtain ⟨z, hd, vs, rel, dd⟩ := dk_rd I.hok e
  obtain ⟨w', hw, rw'⟩ := RelO.some_of (v := v) (o := valueAt vs k) (by rw [l]; exact rel.val k)
  exact wpAny_getItem_of (kV_is ry) dd.mapOf hw (h w' _ (I.tok _) rw')
 ·subst ey
  cases (show u = Value.ref b from ry)
  obtain ⟨z, hd, xs, rel, dd⟩ := dt_rd I.hok e
  obtain ⟨w', hw, rw'⟩ := RelO.some_of (v := v) (o := (atKey xs k).map (·.2)) (by rw [l]; exact rel.val k)
  obtain ⟨p, hp, hp2⟩ := Option.map_eq_some_iff.mp hw
  refine wpAny_getItem_heap (tupleKind_room_in1 hu) (zcC I.hok eb) dd hp ?_
  rw [hp2]
  exact h w' _ (I.tok _) rw'
theorem d_notIn {Q : Value -> Shared -> Prop} (hu : A.units + 1 < cLine) (I : Inv X pins σ H s) (g : DGet H a y o) (ry : RelV y u) (h : ∀ s', Inv X pins σ H s' -> Q (.bool (!o.isSome)) s') :
  wpAny (model X.prog X.w) A (compareOp .NotIn u (.ref a)) Q E s := by
 rcases g with ⟨kvs, k, e, ey, l⟩ | ⟨kvs, k, b, e, ey, eb, l⟩
 ·subst ey
  obtain ⟨z, hd, vs, rel, dd⟩ := dk_rd I.hok e
  refine wpAny_notIn_of (kV_is ry) hd dd.mapOf ?_
  rw [<- (rel.val k).isSome_eq, <- l]
  exact h _ (I.tok _)
 ·subst ey
  cases (show u = Value.ref b from ry)
  obtain ⟨z, hd, xs, rel, dd⟩ := dt_rd I.hok e
  refine wpAny_notIn_heap (tupleKind_room_in1 hu) (zcC I.hok eb) hd dd ?_
  have q := (rel.val k).isSome_eq
  rw [Option.isSome_map] at q
  rw [<- q, <- l]
  exact h _ (I.tok _)
theorem zfb {h' : Heap} {t' : Nat} {ob : HO} (I : Inv X pins σ H s) (mu : Mut (H a)) (hs : Heap.SameBut a s.heap h') (he : ∃ q, h'.get? a = some q) (new : Y6 X.prog X.w (upd H a ob) h' a ob) :
  Inv X pins σ (upd H a ob) { s with heap := h', toks := t' } :=
 I.write (x := a) (e := a) mu (.inl rfl) (fun b q hb z => (hs.2 b hb).trans z) he new
theorem dk_new {P : Program} {w : World} {H' : Hp} {h' : Heap} {kvs : List (Key × V)} {vs : List (Key × Value)} (z : kvs.length <= sizeLine) (hd : (a == sysModules) = false) (rel : KV kvs vs) (dd : h'.DictOf (YG P w) a vs) :
  Y6 P w H' h' a (.dK kvs) := ⟨z, hd, vs, rel, dd⟩
theorem zff {H' : Hp} {Q : Unit -> Shared -> Prop} (hu : A.units + 1 < cLine) (I : Inv X pins σ H s) (g : DPut H a y v H') (ry : RelV y u) (rv : RelV v r) (h : ∀ s', Inv X pins σ H' s' -> Q () s') :
  wpAny (model X.prog X.w) A (setItem (.ref a) u r) Q E s := by
 rcases g with ⟨kvs, k, e, ey, l, eH⟩ | ⟨kvs, k, b, e, ey, eb, l, eH⟩
 ·subst ey eH
  obtain ⟨z, hd, vs, rel, dd⟩ := dk_of I.hok e
  have hz : vs.length <= sizeLine := by rw [<- rel.length]; exact z
  have hl : (putK kvs k v).length <= sizeLine := by have := Qa kvs k v; omega
  refine wpAny_setItem_pairs (hsz := hz) (kV_is ry) dd fun h' dd' hs => h _ ?_
  have he : ∃ q, h'.get? a = some q := let ⟨q, _, _, hq, _⟩ := dd'; ⟨q, hq⟩
  exact zfb I (by rw [e]; exact True.intro) hs he (dk_new hl hd (rel.put k rv) dd')
 ·subst ey eH
  cases (show u = Value.ref b from ry)
  obtain ⟨z, hd, xs, rel, dd⟩ := dt_of I.hok e
  have hz : xs.length <= sizeLine := by rw [<- Paired.length rel]; exact z
  have hl : (putK kvs k v).length <= sizeLine := by have := Qa kvs k v; omega
  refine wpAny_setItem_heap (hsz := hz) (tupleKind_room_in1 hu) (zcC I.hok eb) dd fun h' dd' hs => h _ ?_
  obtain ⟨q, es, ep, hq, h2, h3, h4, _, h5⟩ := dd'
  refine zfb I (by rw [e]; exact True.intro) hs ⟨q, hq⟩ ⟨hl, hd, _, (rel.put k eb rv).keeps fun c ys ec => ?_, q, es, ep, hq, h2, h3, h4, h5⟩
  rw [Zn (ne_of ec e (fun z => nomatch z))]
  exact ec
end
section
variable {X : Cx} {pins : List (Addr × Obj)} {σ : St} {H : Hp} {s : Shared} {a : Addr} {kvs : List (Key × V)} {k : Key} {u : Value} {A : Around} {E : Value -> Shared -> Prop}
end
def NoSl (i : Expr) : Prop := ∀ ov iv, subscripted i false ov iv = operate [ov, iv] (getItem ov iv)
theorem subD_of {prog : Program} {w : World} {A : Around} {E : Value -> Shared -> Prop} {s : Shared} {env : Env} {value slice : Expr} {pos : Pos} {T id : String} {Q : Value -> Shared -> Prop}
  (hl : typeLookup (.type T) "__getitem__" = pure (some (.builtin id))) (hs : NoSl slice)
  (h : wpAny (model prog w) A (eval value env) (fun o s₁ => wpAny (model prog w) A (eval slice env) (fun i s₂ => s₂.TypeIs o T /\ wpAny (model prog w) A (getItem o i) Q E s₂) E s₁) E s) :
  wpAny (model prog w) A (eval (.Subscript value slice pos) env) Q E s := by
 refine Subscript_ (wpAny_mono h (fun o s₁ h₁ => wpAny_mono h₁ (fun i s₂ h₂ => ?_) fun _ _ x => x) fun _ _ x => x)
 obtain ⟨hT, h₂⟩ := h₂
 unfold subscriptTail
 refine wpAny_bind ?_
 rw [getitemInPython_of_ne hT.not_modules]
 refine wpAny_bind (wpAny_specialOf hT hl ?_)
 have fin : wpAny (model prog w) A (subscripted slice false o i) (fun r s₃ => wpAny (model prog w) A (letTemporaryGo value o r >>= fun _ => pure r) Q E s₃) E s₂ := by
  rw [hs o i]
  exact wpAny_operating (wpAny_mono h₂ (fun r s₃ h₃ => wpAny_bind (wpAny_letTemporaryGo (wpAny_pure h₃))) fun _ _ x => x)
 first
  | exact wpAny_pure (wpAny_bind fin)
  | exact wpAny_bind (wpAny_pure (wpAny_bind fin))
  | exact wpAny_bind fin
theorem zbQ {X : Cx} {pins : List (Addr × Obj)} {σ : St} {H : Hp} {s : Shared} {a : Addr} {y : V} {o : Option V} (I : Inv X pins σ H s) (g : DGet H a y o) : s.TypeIs (.ref a) "dict" := by
 rcases g with ⟨kvs, k, e, _, _⟩ | ⟨kvs, k, b, e, _, _, _⟩
 ·obtain ⟨_, _, vs, _, dd⟩ := dk_rd I.hok e
  exact dd.typeIs
 ·obtain ⟨_, _, xs, _, dd⟩ := dt_rd I.hok e
  exact dd.typeIs
def tDGet (td ty : TE) : TE := fun σ H Q => td σ H fun x H1 => ty σ H1 fun y H2 => ∃ a v, x = .ref a /\ DGet H2 a y (some v) /\ Q v H2
def tDNotIn (ty td : TE) : TE := fun σ H Q => ty σ H fun y H1 => td σ H1 fun x H2 => ∃ a o, x = .ref a /\ DGet H2 a y o /\ Q (.bl (!o.isSome)) H2
def sDPut (td ty tv : TE) : TS := fun D σ H => tv σ H fun v H1 => td σ H1 fun x H2 => ty σ H2 fun y H3 => ∃ a H4, x = .ref a /\ DPut H3 a y v H4 /\ D.nx σ H4
section
variable {X : Cx} {o i e value : Expr} {pos pos' tpos : Pos} {td ty tv : TE}
theorem zep (hu : X.A.units + 1 < cLine) (ho : PE X o td) (hi : PE X i ty) (hs : NoSl i) : PE X (.Subscript o i pos) (tDGet td ty) := by
 intro pins s σ H Q I h
 refine subD_of PySem.F.slot_dict_getitem.lookup hs (thn (ho pins s σ H _ I h) fun u s1 ⟨x, H1, I1, rx, q1⟩ => thn (hi pins s1 σ H1 _ I1 q1) fun iv s2 ⟨y, H2, I2, ry, a, v, ex, g, q2⟩ => ?_)
 subst ex
 obtain rfl : u = Value.ref a := rx
 exact ⟨zbQ I2 g, zfk hu I2 g ry fun w' s3 I3 rw' => ⟨v, H2, I3, rw', q2⟩⟩
theorem zes (hu : X.A.units + 1 < cLine) (hi : PE X i ty) (ho : PE X o td) : PC X .NotIn i o (tDNotIn ty td) := by
 intro pins s σ H Q I h
 refine thn (hi pins s σ H _ I h) fun iv s1 ⟨y, H1, I1, ry, q1⟩ => thn (ho pins s1 σ H1 _ I1 q1) fun u s2 ⟨x, H2, I2, rx, a, ov, ex, g, q2⟩ => ?_
 subst ex
 obtain rfl : u = Value.ref a := rx
 exact d_notIn hu I2 g ry fun s3 I3 => ⟨.bl (!ov.isSome), H2, I3, rfl, q2⟩
theorem ps_dput (hu : X.A.units + 1 < cLine) (ho : PE X o td) (hi : PE X i ty) (hv : PE X value tv) (hs : swapsWith value (some (.Subscript o i pos')) pos.line X.env = pure false) :
  PS X (.Assign [.Subscript o i pos'] value pos) (sDPut td ty tv) := by
 intro pins s σ H D I h
 refine wpAny_Assign_Subscript (thn (hv pins s σ H _ I h) fun r s1 ⟨v, H1, I1, rv, q1⟩ => thn (ho pins s1 σ H1 _ I1 q1) fun u s2 ⟨x, H2, I2, rx, q2⟩ => thn (hi pins s2 σ H2 _ I2 q2) fun iv s3 ⟨y, H3, I3, ry, a, H4, ex, g, q3⟩ => ?_) hs
 subst ex
 obtain rfl : u = Value.ref a := rx
 exact zff hu I3 g ry rv fun s4 I4 => ⟨σ, H4, I4, q3⟩
end
theorem dt_empty {P : Program} {w : World} {H : Hp} (h : Heap) (hb : sysModules < h.objs.size) : Y6 P w H (h.push { cls := .type "dict", data := .dict #[] }) h.objs.size (.dT []) :=
 ⟨Nat.zero_le _, beq_eq_false_iff_ne.mpr (Ne.symm (Nat.ne_of_lt hb)), [], .nil, _, #[], 0, Heap.get?_push_size _ rfl, ⟨rfl, rfl, rfl⟩, rfl, rfl, List.nodup_nil⟩
def tDNewT : TE := fun _ H Q => ∀ p, H p = none -> Q (.ref p) (upd H p (.dT []))
section
variable {X : Cx} {pos : Pos}
theorem pe_dnewT : PE X (.Dict [] [] pos) tDNewT := fun pins s σ H Q I h =>
 wpAny_Dict_empty ⟨.ref s.heap.objs.size, _, I.laid (a := s.heap.objs.size) (o := .dT []) (t' := s.toks) (fun _ _ q => Heap.get?_push_of_some _ q) (Nat.le_refl _) (dt_empty s.heap I.big), rfl, h _ (I.hok.fresh (Nat.le_refl _))⟩
end
end L2
namespace Fx
open PySem PySem.Spec PyProof.Rows L2
section
variable {X : Cx} {pins : List (Addr × Obj)} {σ : L2.St} {H H' : Hp} {s s' : Shared} {a : Addr} {cl : Str -> Value} {W : Str -> Hp -> Prop} {L : Addr} {fl : Bool}
theorem ze9 {K : PySem.W.Frag} {M : Model} {A : Around} {E : Value -> Shared -> Prop} {mg : Str -> Option Value} {x : Str} {C C' : Addr} {ob : Obj} {Q : Bool -> Shared -> Prop} (k : K.In s.heap) (c : XCls K mg x C') (ho : s.heap.get? a = some ob) (hc : ob.cls = .ref C)
  (hsub : PySem.W.subIn K (.ref C) (.ref C') = some false) (q : Q false s) : wpAny M A (excMatches (.ref a) (.ref C')) Q E s := by
 obtain ⟨tl, N, nm, qn, bs, hd, sn, sb, ab, co, dd, k0, k1, k2, k3, k5, mN, hC, hN, hni, tail⟩ := (c.obj k).obj
 have hB : (Value.ref C' :: tl).contains (.type "BaseException") = true := by rw [List.contains_cons, tail.hasType PySem.F.excBase_ValueError.hasBase, Bool.or_true]
 have nt := tc_notTuple
 obtain ⟨hp, g, d, tk, os⟩ := s
 unfold excMatches
 repeat (first | (with_reducible refine wpAny_loadPart_at ho ?_; rw [hc]) | with_reducible refine wpAny_loadPart_at hC ?_ | (with_reducible refine wpAny_isSubtype_exc hC ?_; rw [hB]) | (refine (PySem.W.looks_subIn k hsub).at ?_) | wp_step)
 exact q
def zfE (X : Cx) (cl : Str -> Value) (no : Str -> Bool) (C' : Addr) : Prop := ∀ c, no c = true -> ∃ C, cl c = .ref C /\ PySem.W.subIn X.K (.ref C) (.ref C') = some false
theorem JC {C' : Addr} : zfE X cl (subs []) C' := fun c h => by simp [subs] at h
theorem Wd {C C' : Addr} {c : Str} {cs : List Str} (e : cl c = .ref C) (u : PySem.W.subIn X.K (.ref C) (.ref C') = some false) (h : zfE X cl (subs cs) C') : zfE X cl (subs (c :: cs)) C' := fun d hd => by
 simp only [subs, List.contains_cons, Bool.or_eq_true] at hd
 rcases hd with hd | hd
 ·have z : d = c := by simpa using hd
  subst z
  exact ⟨C, e, u⟩
 ·exact h d hd
inductive HV (X : Cx) (cl : Str -> Value) (fl : Bool) : List ExceptHandler -> List ((Str -> Bool) × (Str -> Bool) × DS) -> Prop
 | nil : HV X cl fl [] []
 | cons {Cn : Str} {C' : Addr} {y n : Str -> Bool} {dh : DS} {b₀ : Stmt} {suite : List Stmt} {np hpos : Pos} {hs : List ExceptHandler} {ds : List ((Str -> Bool) × (Str -> Bool) × DS)} (hcn : XCls X.K X.mg Cn C') (hgn : Gl X Cn) (hy : QL X cl y C') (hn : zfE X cl n C')
   (hh : ∀ a, SVs (cxH X a) (fun _ _ => False) fl (b₀ :: suite) dh) (hr : HV X cl fl hs ds) (hdb : (Cn == ("__debug__" : Str)) = false) : HV X cl fl (.ExceptHandler (some (.Name Cn np)) none (b₀ :: suite) hpos :: hs) ((y, n, dh) :: ds)
theorem hv_nil : HV X cl fl [] [] := .nil
theorem zbK {Cn : Str} {C' : Addr} {y n : Str -> Bool} {dh : DS} {b₀ : Stmt} {suite : List Stmt} {np hpos : Pos} {hs : List ExceptHandler} {ds : List ((Str -> Bool) × (Str -> Bool) × DS)} (hcn : XCls X.K X.mg Cn C') (hgn : Gl X Cn) (hy : QL X cl y C') (hn : zfE X cl n C')
  (hh : ∀ a, SVs (cxH X a) (fun _ _ => False) fl (b₀ :: suite) dh) (hr : HV X cl fl hs ds) (hdb : (Cn == ("__debug__" : Str)) = false := by decide) : HV X cl fl (.ExceptHandler (some (.Name Cn np)) none (b₀ :: suite) hpos :: hs) ((y, n, dh) :: ds) := .cons hcn hgn hy hn hh hr hdb
theorem dHs_nox (ds : List ((Str -> Bool) × (Str -> Bool) × DS)) (c : Str) (G : List Sl) (c' : Str) : dHs ds c G ≠ .exc c' := by
 induction ds with
 | nil => intro z; cases z
 | cons d ds ih =>
  obtain ⟨y, n, h⟩ := d
  rw [zcO]
  split
  ·intro z; rcases WK (h G) with ⟨t, e⟩ | e <;> (rw [e] at z; cases z)
  ·split
   ·exact ih
   ·intro z; cases z
theorem handledM {c : Str} {D : Ends} {G : List Sl} {P : Pv} {hs : List ExceptHandler} {ds : List ((Str -> Bool) × (Str -> Bool) × DS)} (hv : HV X cl fl hs ds) {T : Addr} (x2 : Exc X pins σ H a (cl c) (some (T, .none)) s) (h : Hol X.K H P σ G) (q : Xm X.K (fun _ _ => False) fl H P (dHs ds c G) D) :
  wpAny (model X.prog X.w) X.A (handleBy (.ref a) X.env hs) (SP X pins D) X.xe s := by
 induction hv with
 | nil => exact q.elim
 | @cons Cn C' y n dh b₀ suite np hpos hs ds hcn hgn hy hn hh hr hdb ih =>
  obtain ⟨oe, vs, a0, b1, ho, hc, _⟩ := x2.ob.first
  rw [zcO] at q
  refine wpAny_handleBy_cons (codeAny_handlers_test (Vi (X := cxH X a) (inv_h x2.inv) hgn hcn.bd ?_ hdb)) (by intro z; cases z)
  split at q
  ·rename_i hyc
   obtain ⟨C, ec, hC⟩ := hy c hyc
   refine zaT x2.inv.kIn hcn ho (hc.trans ec) hC ?_
   refine codeAny_handlers_suite (Exc.flight (X := cxH X a) (fr := none) (exc_h x2) fun s3 x3 => ?_)
   refine wpAny_mono (hh a pins s3 σ H D x3.inv ⟨G, P, h, ?_⟩) (fun f s4 h4 => sp_oh x2.inv.ok h4) fun _ _ z => False.elim z
   revert q
   cases dh G with
   | ok o => exact fun q => q
   | exc c' => exact fun q => q.elim
   | stuck => exact fun q => q.elim
  ·split at q
   ·rename_i hnc
    obtain ⟨C, ec, hC⟩ := hn c hnc
    exact ze9 x2.inv.kIn hcn ho (hc.trans ec) hC (ih q)
   ·exact q.elim
end
section
variable {X : Cx} {W : Str -> Hp -> Prop} {fl : Bool} {L : Addr} {cl : Str -> Value} {hs : List ExceptHandler} {h₀ : ExceptHandler} {ds : List ((Str -> Bool) × (Str -> Bool) × DS)} {ex : Expr} {es : List Expr} {k nps : Nat} {x : Str} {f : DF} {d : DA} {p cpos epos pos : Pos}
theorem ss_tryM (F : InFrame X L) (C : Clx X.prog X.w X.K X.mg X.base cl k x nps f) (hr : Room k X.A) (hg : Gl X x) (ha : AV X.nox (fun _ _ => False) (ex :: es) d) (hv : HV X cl fl (h₀ :: hs) ds)
  (hL : ∀ G ts, d G = .ok ts -> ts.length = nps := by first | exact Jn | exact zaK | exact zaJ | exact zcA) (hdb : (x == ("__debug__" : Str)) = false := by decide)
  (he : starEach (ex :: es) X.env = (false, eval ex X.env) :: starEach es X.env := by rfl) (hpl : (backTo cpos (starEach es X.env)).any (·.1) = false := by rfl) (hsw : swapsWith (.Call (.Name x p) (ex :: es) [] cpos) none epos.line X.env = pure false := by rfl) :
  SV X W fl (.Try [.Expr (.Call (.Name x p) (ex :: es) [] cpos) epos] (h₀ :: hs) [] [] pos) (dTryM (QI (Jv f d)) ds) := by
 intro pins s σ H D I ⟨G, P, h, q⟩
 obtain ⟨h', g⟩ := h.frzA
 unfold dTryM QI Jv at q
 cases ed : noX (d (frzA G)) with
 | exc c => rcases WK (d (frzA G)) with ⟨t, z⟩ | z <;> (rw [ed] at z; cases z)
 | stuck => rw [ed] at q; exact q.elim
 | ok ts =>
  rw [ed, Res.bind_ok] at q
  have hd : d (frzA G) = .ok ts := zcy ed
  refine wpAny_Try_except (wpAny_execs_cons (wpAny_Expr_any (zcS C hr F.pin hg ha hL hdb he hpl I h' hd (fun z => ?_) (fun t et v u H' s' I' sm rl rv => ?_) fun c ec a T H' s' xx sm => ?_) I.quiet hsw))
  ·rw [z] at q; exact q.elim
  ·rw [et] at q
   refine wpAny_execs_nil ?_
   exact wpAny_execs_nil ⟨σ, H', I', q σ H' P (.same sm) (h.same sm)⟩
  ·rw [ec] at q
   simp only [Res.bind_exc] at q
   refine xx.note F fun T1 s1 x1 => x1.flight (fr := none) fun s2 x2 => ?_
   refine handledM hv x2 (h.same sm) ?_
   cases eh : dHs ds c G with
   | ok o =>
    rw [eh] at q
    exact Xm.up (W := fun _ _ => False) (r := .ok o) (by cases o <;> exact q) (.same sm)
   | exc c' => exact absurd eh (dHs_nox ds c G c')
   | stuck => rw [eh] at q; exact q.elim
end
end Fx
namespace Fx
open PySem PySem.Spec PyProof.Rows L2
abbrev Xj (ns : List Int) : List Key := ns.map Sum.inl
theorem zaL {a b : List Int} (h : Xj a = Xj b) : a = b := by
 induction a generalizing b with
 | nil => cases b with
  | nil => rfl
  | cons y b => cases h
 | cons x a ih => cases b with
  | nil => cases h
  | cons y b =>
   simp only [Xj, List.map_cons, List.cons.injEq] at h
   rw [Sum.inl.inj h.1, ih h.2]
theorem zcE (ns : List Int) : (Xj ns).map kV = ns.map V.int := by
 induction ns with
 | nil => rfl
 | cons n ns ih => simp only [Xj, List.map_cons] at ih ⊢; rw [ih]; rfl
section
variable {K : PySem.W.Frag} {H : Hp} {P : Pv}
theorem UZ (ns : List Int) : ∀ {es : List (PyData × PyData)} {kvs : List (List Key × V)}, Rlk K H P es kvs -> (Uy ns es = none /\ valV kvs (Xj ns) = none) \/ ∃ t v, Uy ns es = some t /\ valV kvs (Xj ns) = some v /\ Rl K H P t v
 | [], kvs, r => by rw [Vh.mp r]; exact .inl ⟨rfl, rfl⟩
 | (k, t) :: es, kvs, r => by
  obtain ⟨ms, v, r', rfl, rfl, rv, rr⟩ := Xu.mp r
  by_cases e : ms = ns
  ·subst e
   exact .inr ⟨t, v, by simp [Uy], UI (p := (_, v)) rfl, rv⟩
  ·have e2 : ¬ (Xj ms = Xj ns) := fun z => e (zaL z)
   have e3 : Uy ns ((.tuple (ms.map .int), t) :: es) = Uy ns es := by simp [Uy, e]
   rw [e3, UJ (p := (Xj ms, v)) e2]
   exact UZ ns rr
theorem zbv : ∀ {es : List (PyData × PyData)} {kvs : List (List Key × V)}, Rlk K H P es kvs -> es.length = kvs.length
 | [], kvs, r => by rw [Vh.mp r]; rfl
 | (k, t) :: es, kvs, r => by
  obtain ⟨ms, v, r', rfl, rfl, rv, rr⟩ := Xu.mp r
  simp only [List.length_cons, zbv rr]
theorem zbu (ns : List Int) {t : PyData} {v : V} (rv : Rl K H P t v) : ∀ {es : List (PyData × PyData)} {kvs : List (List Key × V)}, Rlk K H P es kvs -> Rlk K H P (es.map fun e => if Ww e.1 = some ns then (e.1, t) else e) (kvs.map fun kv => if kv.1 = Xj ns then (kv.1, v) else kv)
 | [], kvs, r => by rw [Vh.mp r]; exact Vh.mpr rfl
 | (k, t') :: es, kvs, r => by
  obtain ⟨ms, v', r', rfl, rfl, rv', rr⟩ := Xu.mp r
  rw [List.map_cons, List.map_cons]
  by_cases e : ms = ns
  ·subst e
   rw [if_pos (zaM ms), if_pos rfl]
   exact Xu.mpr ⟨ms, v, _, rfl, rfl, rv, zbu ms rv rr⟩
  ·rw [if_neg (fun z => e (by rw [zaM] at z; exact Option.some.inj z)), if_neg (fun z => e (zaL z))]
   exact Xu.mpr ⟨ms, v', _, rfl, rfl, rv', zbu ns rv rr⟩
theorem zcr (ns : List Int) {t : PyData} {v : V} (rv : Rl K H P t v) : ∀ {es : List (PyData × PyData)} {kvs : List (List Key × V)}, Rlk K H P es kvs -> Rlk K H P (es ++ [(.tuple (ns.map .int), t)]) (kvs ++ [(Xj ns, v)])
 | [], kvs, r => by rw [Vh.mp r]; exact Xu.mpr ⟨ns, v, [], rfl, rfl, rv, Vh.mpr rfl⟩
 | (k, t') :: es, kvs, r => by
  obtain ⟨ms, v', r', rfl, rfl, rv', rr⟩ := Xu.mp r
  exact Xu.mpr ⟨ms, v', _, rfl, rfl, rv', zcr ns rv rr⟩
theorem rlk_put (ns : List Int) {t : PyData} {v : V} {es : List (PyData × PyData)} {kvs : List (List Key × V)} (r : Rlk K H P es kvs) (rv : Rl K H P t v) : Rlk K H P (putD' ns t es) (putK kvs (Xj ns) v) := by
 unfold putD' putK
 rw [Jy]
 rcases UZ ns r with ⟨e1, e2⟩ | ⟨t', v', e1, e2, _⟩
 ·rw [e1, e2, if_neg (by decide), if_neg (by decide)]
  exact zcr ns rv r
 ·rw [e1, e2, if_pos Option.isSome_some, if_pos Option.isSome_some]
  exact zbu ns rv r
theorem zcD {y : PyData} {ns : List Int} {u : V} (e : Ww y = some ns) (r : Rl K H P y u) : ∃ b, u = .ref b /\ H b = some (.tup ((Xj ns).map kV)) := by
 rw [keyIs_ok e] at r
 obtain ⟨b, vs, rfl, s, rs⟩ := ZH.mp r
 refine ⟨b, rfl, ?_⟩
 have : vs = ns.map V.int := by
  clear s e r
  induction ns generalizing vs with
  | nil => exact ZM.mp rs
  | cons n ns ih =>
   obtain ⟨v, r', rfl, a, c⟩ := Zx.mp rs
   rw [ih r' c, ZL.mp a]; rfl
 rw [zcE, <- this]
 exact s.1
end
section
variable {K : PySem.W.Frag} {H H' : Hp} {P P' : Pv} {σ : L2.St} {G : List Sl}
theorem Hol.setDct (h : Hol K H P σ G) {i : Nat} (hi : i < G.length) {p : Addr} (hp : H p = none) : Hol K (upd H p (.dT [])) (P.put i p) (σ.set i (some (.ref p))) (G.set i (.dct [])) /\ Go H P (upd H p (.dT [])) (P.put i p) := by
 have g0 : Go H P (upd H p (.dT [])) (P.put i p) := (Go.put hp).trans (.same (Zr hp))
 have gg := g0.tr
 refine ⟨⟨fun j s q => ?_, fun a b c h1 h2 => ?_, fun j a z => ?_, fun a z => ?_, fun j a z => ?_, ?_, (Zr hp).tab K h.tab⟩, g0⟩
 ·by_cases e : j = i
  ·subst e
   rw [List.getElem?_set_self hi] at q
   cases q
   exact ⟨p, [], Wx (by rw [h.len]; exact hi), if_pos rfl, Zp, Vh.mpr rfl⟩
  ·rw [List.getElem?_set_ne (Ne.symm e)] at q
   have z := h.sl j s q
   rw [Wy e]
   cases s with
   | emp => trivial
   | val t' => obtain ⟨v', e1, r'⟩ := z; exact ⟨v', e1, Rl.go gg t' v' r'⟩
   | own xs' => obtain ⟨p', vs', e1, e2, e3, r'⟩ := z; exact ⟨p', vs', e1, (by show (if j = i then some p else P.own j) = _; rw [if_neg e]; exact e2), (Zr hp).kp _ _ e3 Ue, Rls.go gg xs' vs' r'⟩
   | dct xs' => obtain ⟨p', vs', e1, e2, e3, r'⟩ := z; exact ⟨p', vs', e1, (by show (if j = i then some p else P.own j) = _; rw [if_neg e]; exact e2), (Zr hp).kp _ _ e3 nt_dT, Rlk.go gg xs' vs' r'⟩
 ·have h1' : (if a = i then some p else P.own a) = some c := h1
  have h2' : (if b = i then some p else P.own b) = some c := h2
  split at h1'
  ·split at h2'
   ·rename_i z1 z2; rw [z1, z2]
   ·cases h1'; obtain ⟨ws, q, _⟩ := h.dom h2'; rw [hp] at q; cases q
  ·split at h2'
   ·cases h2'; obtain ⟨ws, q, _⟩ := h.dom h1'; rw [hp] at q; cases q
   ·exact h.inj a b c h1' h2'
 ·have z' : (if j = i then some p else P.own j) = some a := z
  split at z'
  ·rename_i e; subst e; exact ⟨_, List.getElem?_set_self hi, trivial⟩
  ·rename_i ne
   obtain ⟨xs, q, m⟩ := h.only j a z'
   exact ⟨xs, by rw [List.getElem?_set_ne (Ne.symm ne)]; exact q, m⟩
 ·obtain ⟨o, q, m⟩ := h.fbd a z
  exact ⟨o, (Zr hp).kp _ _ q m.nt, m⟩
 ·have z' : (if j = i then some p else P.own j) = some a := z
  split at z'
  ·cases z'; exact h.nofb hp
  ·exact h.nfb j a z'
 ·rw [List.length_set, List.length_set]; exact h.len
theorem go_up {i : Nat} {p : Addr} {o : HO} (h : Hol K H P σ G) (hp : P.own i = some p) : Go H P (upd H p o) P := by
 have hpl := h.dom hp
 exact ⟨fun a o e _ q => ⟨by rw [Zn (fun z => q i (by rw [z]; exact hp))]; exact e, q⟩, rfl, fun {b} w => by
  by_cases z : b = p
  ·rw [z, Zp] at w; cases w
  ·rw [Zn z] at w; exact w, fun K t => Ws.mono t fun b o e nl => by
  rw [Zn (fun z => by obtain ⟨us, w, m⟩ := hpl; rw [z, w] at e; cases e; exact nl m)]; exact e, fun b ps e => ⟨ps, by rw [Zn (fun z => by obtain ⟨us, w, m⟩ := hpl; rw [z, w] at e; cases e; rcases m with ⟨_, m⟩ | ⟨_, m⟩ <;> cases m)]; exact e⟩⟩
theorem Hol.upDct (h : Hol K H P σ G) {i : Nat} {ys es : List (PyData × PyData)} {kvs : List (List Key × V)} {p : Addr} (hi : G[i]? = some (.dct ys)) (hp : P.own i = some p) (r : Rlk K H P es kvs) : Hol K (upd H p (.dT kvs)) P σ (G.set i (.dct es)) := by
 have g0 : Go H P (upd H p (.dT kvs)) P := go_up h hp
 have gg := g0.tr
 have hl : i < G.length := (List.getElem?_eq_some_iff.mp hi).1
 refine ⟨fun j s q => ?_, h.inj, fun j a z => ?_, fun a z => ?_, h.nfb, by rw [List.length_set]; exact h.len, g0.tab K h.tab⟩
 ·by_cases e : j = i
  ·subst e
   rw [List.getElem?_set_self hl] at q
   cases q
   obtain ⟨p', vs', e1, e2, _, _⟩ := h.sl j _ hi
   rw [hp] at e2; cases e2
   exact ⟨p, kvs, e1, hp, Zp, Rlk.go gg es kvs r⟩
  ·rw [List.getElem?_set_ne (Ne.symm e)] at q
   have z := h.sl j s q
   cases s with
   | emp => trivial
   | val t' => obtain ⟨v', e1, r'⟩ := z; exact ⟨v', e1, Rl.go gg t' v' r'⟩
   | own xs' =>
    obtain ⟨p', vs', e1, e2, e3, r'⟩ := z
    exact ⟨p', vs', e1, e2, by rw [Zn (fun z => e (h.inj j i p' e2 (by rw [z]; exact hp)))]; exact e3, Rls.go gg xs' vs' r'⟩
   | dct xs' =>
    obtain ⟨p', vs', e1, e2, e3, r'⟩ := z
    exact ⟨p', vs', e1, e2, by rw [Zn (fun z => e (h.inj j i p' e2 (by rw [z]; exact hp)))]; exact e3, Rlk.go gg xs' vs' r'⟩
 ·by_cases e : j = i
  ·subst e; exact ⟨_, List.getElem?_set_self hl, trivial⟩
  ·obtain ⟨xs', q, m⟩ := h.only j a z
   exact ⟨xs', by rw [List.getElem?_set_ne (Ne.symm e)]; exact q, m⟩
 ·rw [Zn (fun e => h.nfb i p hp (by rw [<- e]; exact z))]
  exact h.fbd a z
end
theorem Inv.freeze {X : Cx} {pins : List (Addr × Obj)} {σ : L2.St} {H : Hp} {s : Shared} {p : Addr} {kvs : List (List Key × V)} (I : Inv X pins σ H s) (e : H p = some (.dT kvs)) : ∃ ob, Inv X pins σ (upd H p (.frz ob (.dT kvs))) s := by
 have ho := I.hok p _ e
 obtain ⟨_, _, xs, _, ob, es, ep, h1, _⟩ := id ho
 have ne : ∀ b, H b = none -> b ≠ p := fun b n z => by rw [z, e] at n; cases n
 have st : ∀ b (u : HO), Y6 X.prog X.w H s.heap b u -> Y6 X.prog X.w (upd H p (.frz ob (.dT kvs))) s.heap b u := fun b u x => x.stay (fun _ _ _ q => q) (fun c q => by rw [Zn (fun z => by rw [z, e] at q; cases q)]; exact q) (fun c ys q => by rw [Zn (fun z => by rw [z, e] at q; cases q)]; exact q)
 refine ⟨ob, I.ok, I.os, I.bare, ⟨I.base.keep, I.base.slot, fun b u q n hx => ?_, I.base.there, fun b ys q => ?_, fun b o u q => ?_, fun b ps q => ?_⟩, I.loc, I.cell, ?_, fun x c q => ?_, fun q hq => ?_, fun b u q => ?_, I.len⟩
 ·have w := I.base.free b u q n hx
  rw [Zn (ne b w)]; exact w
 ·have w := I.base.tups b ys q
  rw [Zn (fun z => by rw [z, e] at w; cases w)]; exact w
 ·have w := I.base.frzs b o u q
  rw [Zn (fun z => by rw [z, e] at w; cases w)]; exact w
 ·obtain ⟨m, w⟩ := I.base.tbls b ps q
  exact ⟨m, by rw [Zn (fun z => by rw [z, e] at w; cases w)]; exact w⟩
 ·rw [Zn (ne _ I.free)]; exact I.free
 ·rw [Zn (ne _ (I.freeC x c q))]; exact I.freeC x c q
 ·obtain ⟨a1, a2, a3⟩ := I.pin q hq
  exact ⟨a1, by rw [Zn (ne _ a2)]; exact a2, a3⟩
 ·by_cases z : b = p
  ·subst z
   rw [Zp] at q
   cases q
   exact ⟨h1, st _ _ ho⟩
  ·rw [Zn z] at q
   exact st _ _ (I.hok b u q)
def tFrz (t : TE) : TE := fun σ H Q => t σ H fun v H1 => ∃ p kvs, v = .ref p /\ H1 p = some (.dT kvs) /\ ∀ ob, Q v (upd H1 p (.frz ob (.dT kvs)))
theorem pe_frz {X : Cx} {e : Expr} {t : TE} (h : PE X e t) : PE X e (tFrz t) := fun pins s σ H Q I q =>
 wpAny_mono (h pins s σ H _ I q) (fun u s1 ⟨v, H1, I1, rv, p, kvs, ev, ep, q1⟩ => let ⟨ob, I2⟩ := Fx.Inv.freeze I1 ep; ⟨v, _, I2, rv, q1 ob⟩) fun _ _ z => z
section
variable {X : Cx} {W : Str -> Hp -> Prop} {fl : Bool} {a b c e k : Expr} {da db dk : DE} {pos p : Pos} {i : Nat} {x : Str}
theorem ss_newD {pos' : Pos} (hN : X.N.Nodup) (hi : X.N[i]? = some x) (hx : Loc X.env.scope x) (hs : swapsWith (.Dict [] [] p) (some (.Name x pos')) pos.line X.env = pure false := by rfl)
  (hf : X.fn x = true \/ X.env.scope.names.lookup x = some .local := by first | exact .inl rfl | exact .inr rfl | assumption) : SV X W fl (.Assign [.Name x pos'] (.Dict [] [] p) pos) (dNewD i) :=
 YF (zek hN hi hx pe_dnewT hs hf) fun D σ H ⟨G, P, h, q⟩ => by
  unfold dNewD at q
  split at q
  ·rename_i hl
   intro p hp
   obtain ⟨h1, g1⟩ := h.setDct hl hp
   exact q _ _ _ g1 h1
  ·exact q.elim
theorem zdV (hu : X.A.units + 1 < cLine) (hk : EV X W k dk) (hi : X.N[i]? = some x) (hv : Vis X.env.scope x := by first | exact Or.inl rfl | exact Or.inr (Or.inl rfl) | exact Or.inr (Or.inr rfl)) (hd : (x == ("__debug__" : Str)) = false := by decide)
  (hcd : (x == ("__classdict__" : Str)) = false := by decide) (hm : behindInMarks .NotIn (.Name x p) = false := by rfl) : TV X W (.Compare k [.NotIn] [.Name x p] pos) (tV (zca i dk)) :=
 JO (zei (zes hu hk (Vc hi hv hd hcd)) hm) fun σ H Q ⟨G, P, h, q⟩ => by
  refine ⟨G, P, h, ?_⟩
  unfold Fx.tV zca at q
  cases ek : dk G with
  | stuck => rw [ek] at q; exact q
  | exc c => rw [ek] at q; exact q
  | ok y =>
   rw [ek] at q
   simp only [Res.bind_ok] at q
   intro u H1 s1 ru
   split at q
   ·rename_i es ns eg ey
    have h1 := h.same s1
    obtain ⟨pp, kvs, ev, ep, eh, rk⟩ := h1.sl i _ eg
    obtain ⟨b, rfl, hb⟩ := zcD ey ru
    refine ⟨.ref pp, getD_some ev, pp, _, rfl, DGet.t eh hb, _, rfl, ?_⟩
    have ee : (valV kvs (Xj ns)).isSome = (Uy ns es).isSome := by
     rcases UZ ns rk with ⟨e1, e2⟩ | ⟨_, _, e1, e2, _⟩ <;> rw [e1, e2] <;> rfl
    rw [ee]
    exact q H1 s1
   ·exact q.elim
theorem ev_getN (hu : X.A.units + 1 < cLine) (hi : X.N[i]? = some x) (hk : EV X W k dk) (hs : NoSl k) (hv : Vis X.env.scope x := by first | exact Or.inl rfl | exact Or.inr (Or.inl rfl) | exact Or.inr (Or.inr rfl)) (hd : (x == ("__debug__" : Str)) = false := by decide)
  (hcd : (x == ("__classdict__" : Str)) = false := by decide) : EV X W (.Subscript (.Name x p) k pos) (dGetN i dk) :=
 ZA (zep hu (Vc hi hv hd hcd) hk hs) fun σ H Q ⟨G, P, h, q⟩ => by
  unfold dGetN at q
  split at q
  ·rename_i es eg
   obtain ⟨pp, kvs, ev, ep, eh, rk⟩ := h.sl i _ eg
   refine ⟨.ref pp, getD_some ev, G, P, h, ?_⟩
   cases ek : dk G with
   | stuck => rw [ek] at q; exact q
   | exc c => rw [ek] at q; exact q
   | ok y =>
    rw [ek, Res.bind_ok] at q
    intro u H1 s1 ru
    split at q
    ·rename_i ns ey
     have h1 := h.same s1
     obtain ⟨pp', kvs', ev', ep', eh', rk'⟩ := h1.sl i _ eg
     rw [ev] at ev'; cases ev'
     obtain ⟨b, rfl, hb⟩ := zcD ey ru
     rcases UZ ns rk' with ⟨e1, e2⟩ | ⟨t, v, e1, e2, rv⟩
     ·rw [e1] at q; exact q.elim
     ·rw [e1] at q
      exact ⟨pp, v, rfl, by rw [<- e2]; exact DGet.t eh' hb, q v H1 s1 rv⟩
    ·exact q.elim
  ·exact q.elim
theorem ss_putN {pos' : Pos} (hu : X.A.units + 1 < cLine) (hi : X.N[i]? = some x) (hk : EV X W k dk) (he : EV X W e da) (hv : Vis X.env.scope x := by first | exact Or.inl rfl | exact Or.inr (Or.inl rfl) | exact Or.inr (Or.inr rfl)) (hd : (x == ("__debug__" : Str)) = false := by decide)
  (hcd : (x == ("__classdict__" : Str)) = false := by decide) (hs : swapsWith e (some (.Subscript (.Name x p) k pos')) pos.line X.env = pure false := by rfl) : SV X W fl (.Assign [.Subscript (.Name x p) k pos'] e pos) (dPutN i dk da) :=
 YF (ps_dput hu (Vc hi hv hd hcd) hk he hs) fun D σ H ⟨G, P, h, q⟩ => by
  unfold dPutN at q
  obtain ⟨q1, q2, q3⟩ := Uq q
  refine Zy h (fun c e H' s => q1 c e H' P (.same s)) q2 fun t v H1 et s1 h1 rt => ?_
  have q4 := q3 t et
  split at q4
  ·rename_i hdc
   obtain ⟨es, eg⟩ : ∃ es, G[i]? = some (.dct es) := by
    unfold isDct at hdc
    split at hdc
    ·rename_i es eg; exact ⟨es, eg⟩
    ·cases hdc
   obtain ⟨pp, kvs, ev, ep, eh, rk⟩ := h1.sl i _ eg
   refine ⟨.ref pp, getD_some ev, ?_⟩
   obtain ⟨q5, q6, q7⟩ := Uq q4
   refine Zy h1 (fun c e H' s => q5 c e H' P ((Go.same s1).trans (.same s))) q6 fun y u H2 ey s2 h2 ru => ?_
   have q8 := q7 y ey
   unfold zeh at q8
   rw [eg] at q8
   cases en : Ww y with
   | none => rw [en] at q8; exact q8.elim
   | some ns =>
    rw [en] at q8
    simp only at q8
    split at q8
    ·rename_i hl
     obtain ⟨pp', kvs', ev', ep', eh', rk'⟩ := h2.sl i _ eg
     rw [ev] at ev'; cases ev'
     obtain ⟨b, rfl, hb⟩ := zcD en ru
     have hlen := zbv rk'
     refine ⟨pp, _, rfl, DPut.t eh' hb (by rw [sizeLine_eq]; omega), ?_⟩
     exact q8 _ _ P (((Go.same s1).trans (.same s2)).trans (go_up h2 ep')) (h2.upDct eg ep' (rlk_put ns rk' (Rl.go (.same s2) t v rt)))
    ·exact q8.elim
  ·exact q4.elim
theorem ss_ifG {y z : List Stmt} {dc : DT} {dx dy : DS} (hc : TV X W c dc) (hx : SVs X W fl y dx) (hy : SVs X W fl z dy) : SV X W fl (.If c y z pos) (dIfG dc dx dy) :=
 YF (ps_if hc hx hy) fun D σ H ⟨G, P, h, q⟩ => by
  unfold dIfG at q
  obtain ⟨q1, q2, q3⟩ := zfz q
  refine Wt h (fun c e H' s => q1 c e H' P (.same s)) q2 fun k H1 ek s1 _ => ?_
  have q4 := q3 k ek
  cases k with
  | true => exact iteT ⟨G, P, h.same s1, Xm.up q4 (.same s1)⟩
  | false => exact iteF ⟨G, P, h.same s1, Xm.up q4 (.same s1)⟩
theorem ss_retD (hi : X.N[i]? = some x) (hv : Vis X.env.scope x := by first | exact Or.inl rfl | exact Or.inr (Or.inl rfl) | exact Or.inr (Or.inr rfl)) (hd : (x == ("__debug__" : Str)) = false := by decide)
  (hcd : (x == ("__classdict__" : Str)) = false := by decide) : SV X W false (.Return (some (.Name x p)) pos) (dRetD i) :=
 YF (zel (pe_frz (Vc hi hv hd hcd))) fun D σ H ⟨G, P, h, q⟩ => by
  unfold dRetD at q
  split at q
  ·rename_i es eg
   obtain ⟨pp, kvs, ev, ep, eh, rk⟩ := h.sl i _ eg
   refine ⟨.ref pp, getD_some ev, pp, kvs, rfl, eh, fun ob => ?_⟩
   have g1 : Go H P (upd H pp (.frz ob (.dT kvs))) P := go_up h ep
   have g2 : Go H P (upd H pp (.frz ob (.dT kvs))) (P.del i) := g1.trans .del
   have off : Off (P.del i) pp := ⟨fun j z => by
    have z' : (if j = i then none else P.own j) = some pp := z
    split at z'
    ·cases z'
    ·rename_i ne; exact ne (h.inj j i pp z' ep), h.nfb i pp ep⟩
   exact q (.ref pp) _ (P.del i) g2 (JN.mpr ⟨pp, ob, kvs, rfl, Zp, off, Rlk.go g2.tr es kvs rk⟩) fun z => by cases z
  ·exact q.elim
theorem ev_getD (hu : X.A.units + 1 < cLine) (ha : EV X W a da) (hk : EV X W k dk) (hs : NoSl k) : EV X W (.Subscript a k pos) (d2 fGetD da dk) :=
 ZA (zep hu ha hk hs) fun σ H Q ⟨G, P, h, q⟩ => by
  unfold d2 at q
  obtain ⟨q1, q2, q3⟩ := Wr q
  refine Zy h q1 q2 fun tx v H1 ex s1 h1 rx => ?_
  obtain ⟨q4, q5, q6⟩ := Wr (q3 tx ex)
  refine Zy h1 (fun c e H' s => q4 c e H' (s1.trans s)) q5 fun ty u H2 ey s2 h2 ru => ?_
  have q7 := q6 ty ey
  unfold fGetD at q7
  split at q7
  ·rename_i es
   split at q7
   ·rename_i ns en
    obtain ⟨pp, ob, kvs, rfl, eh, off, rk⟩ := JN.mp (Rl.go (.same s2) _ _ rx)
    obtain ⟨b, rfl, hb⟩ := zcD en ru
    rcases UZ ns rk with ⟨e1, e2⟩ | ⟨t, w, e1, e2, rw'⟩
    ·rw [e1] at q7; exact q7.elim
    ·rw [e1] at q7
     exact ⟨pp, w, rfl, .inr ⟨kvs, Xj ns, b, .inr ⟨ob, eh⟩, rfl, hb, e2.symm⟩, q7 w H2 (s1.trans s2) rw'⟩
   ·exact q7.elim
  ·exact q7.elim
theorem ev_join (ha : EV X W e da) (hb : EV X W e db) : EV X W e (dJ da db) := fun pins s σ H Q I ⟨G, P, h, q⟩ => by
 unfold dJ at q
 cases ed : da G with
 | stuck => rw [ed] at q; exact hb pins s σ H Q I ⟨G, P, h, q⟩
 | exc c => rw [ed] at q; exact ha pins s σ H Q I ⟨G, P, h, by rw [ed]; exact q⟩
 | ok t => rw [ed] at q; exact ha pins s σ H Q I ⟨G, P, h, by rw [ed]; exact q⟩
end
end Fx
namespace Fx
open PySem PySem.Spec PyProof.Rows L2
section
variable {prog : Program} {w : World} {A : Around} {E : Value -> Shared -> Prop} {s : Shared} {d it : Addr} {od : Obj} {es : Array DictEntry} {ep i : Nat}
theorem dit_new {Q : Value -> Shared -> Prop} (hd : (d == sysModules) = false) (ho : s.heap.get? d = some od) (hc : od.ExactDict) (hes : od.data = .dict es ep)
  (q : Q (.ref s.heap.objs.size) { s with heap := s.heap.push { cls := .type "dict_keyiterator", data := .fields #[.ref d, .int 0 0, .int es.size 0, .int ep 0] } }) : wpAny (model prog w) A (pyIter (.ref d)) Q E s := by
 have ty : s.TypeIs (.ref d) "dict" := ⟨od, ho, hc.1⟩
 refine wpAny_pyIter_slot ty PySem.F.slot_dict_iter (wpAny_call_entry PySem.F.slot_dict_iter ty PySem.F.entry_dict_iter ?_ (PySem.F.args_dict_iter_1 _))
 unfold Builtin.«dict.__iter__»; refine wpAny_bind ?_
 unfold Builtin.Dict.dictSlotNone; refine wpAny_bind (wpAny_notOrdered_dict ty ?_)
 show wpAny _ _ (pure (Value.ref d)) _ _ s; refine wpAny_pure ?_
 show wpAny _ _ (Builtin.Dict.showsAll d >>= _) _ _ s; unfold Builtin.Dict.showsAll
 rw [if_neg (by rw [hd]; decide)]; refine wpAny_bind (wpAny_pure ?_)
 refine wpAny_bind (wpAny_dictEntries ho hes ?_); refine wpAny_bind (wpAny_dictEpoch ho hes ?_)
 refine wpAny_bind (wpAny_newObj_type (wpAny_pure ⟨_, rfl, "dict_keyiterator", _, ⟨_, Heap.get?_push_size _ rfl, rfl⟩, PySem.F.slot_dict_keyiterator_next.lookup, ?_⟩)); simpa [rawInt] using q
theorem dit_item {e : DictEntry} {Q : Option Value -> Shared -> Prop} (hi : s.heap.IsKeyIter it d i es.size ep) (hd : s.heap.get? d = some od) (hes : od.data = .dict es ep) (he : es[i]? = some e)
  (q : ∀ h', h'.IsKeyIter it d (i + 1) es.size ep -> Heap.SameBut it s.heap h' -> Q (some e.key) { s with heap := h' }) : wpAny (model prog w) A (pyNext (.ref it)) Q E s := by
 obtain ⟨oi, h1, h2, h3⟩ := id hi
 have lt : i < es.size := (Array.getElem?_eq_some_iff.mp he).1
 have eq : es[i] = e := (Array.getElem?_eq_some_iff.mp he).2
 unfold pyNext
 refine wpAny_bind (wpAny_attempt (wpAny_callSpecial?_slot (name := Str.ofString "__next__") hi.typeIs PySem.F.slot_dict_keyiterator_next (wpAny_call_entry PySem.F.slot_dict_keyiterator_next hi.typeIs PySem.F.entry_dict_keyiterator_next ?_ (PySem.F.args_dict_keyiterator_next_1 _))))
 refine wpAny_bind (wpAny_pure ?_); refine wpAny_bind ?_; refine wpAny_bind ?_
 first | refine wpAny_bind (wpAny_typeNameOfWhole_keyiter hi.typeIs (wpAny_pure ?_)) | refine wpAny_bind (wpAny_typeNameOf_keyiter hi.typeIs (wpAny_pure ?_))
 refine wpAny_bind (wpAny_fieldsOf h1 h3 ?_)
 have own : Builtin.Dict_items.ownsTuple "dict_keyiterator" = false := by decide
 simp only [own, Bool.false_eq_true, if_false]
 show wpAny _ _ (if (Value.ref d == Value.none) = true then _ else _) _ _ s; rw [if_neg (show ¬ ((Value.ref d == Value.none) = true) from Bool.false_ne_true)]
 refine wpAny_bind (wpAny_pure ?_); refine wpAny_bind (wpAny_dictEntries hd hes ?_); rw [if_neg (by simp)]
 refine wpAny_bind (wpAny_pure ?_); refine wpAny_bind (wpAny_dictEpoch hd hes ?_); rw [if_neg (by simp)]
 refine wpAny_pure ?_
 simp only [show ¬ ((i : Int) < 0) from by omega, if_false, Int.toNat_natCast, Array.getElem?_eq_getElem lt, eq]
 refine wpAny_bind ?_
 first | refine wpAny_bind (wpAny_typeNameOfWhole_keyiter hi.typeIs (wpAny_pure ?_)) | refine wpAny_bind (wpAny_typeNameOf_keyiter hi.typeIs (wpAny_pure ?_))
 refine wpAny_bind (wpAny_isOneOf_keyiter hi.typeIs ?_)
 show wpAny _ _ (setField (.ref it) 1 (rawInt ((i : Int) + 1)) >>= _) _ _ s; refine wpAny_bind (wpAny_setField h1 h3 (by simp) ?_)
 have nx : (s.heap.update it (Obj.mapFields (·.setIfInBounds 1 (rawInt ((i : Int) + 1))))).IsKeyIter it d (i + 1) es.size ep := ⟨_, Heap.get?_update_self _ h1 (Obj.isFreed_of_fields (Obj.data_mapFields h3 _)), (Obj.cls_mapFields ..).trans h2, by rw [Obj.data_mapFields h3]; simp [rawInt]⟩
 refine wpAny_bind (wpAny_holding ?_)
 refine wpAny_bind (wpAny_isOneOf_keyiter (s := { s with heap := s.heap.update it (Obj.mapFields (·.setIfInBounds 1 (rawInt ((i : Int) + 1)))) }) nx.typeIs ?_)
 show wpAny _ _ (pure e.key) _ _ _; exact wpAny_pure (wpAny_pure ⟨_, rfl, wpAny_pure (q _ nx (Heap.SameBut.update ..))⟩)
theorem dit_end {Q : Option Value -> Shared -> Prop} (hh : A.handled = none) (hi : s.heap.IsKeyIter it d i es.size ep) (hd : s.heap.get? d = some od) (hes : od.data = .dict es ep) (ge : es.size <= i)
  (q : ∀ h', Heap.ExtBut it s.heap h' -> Q none { s with heap := h' }) : wpAny (model prog w) A (pyNext (.ref it)) Q E s := by
 obtain ⟨oi, h1, h2, h3⟩ := id hi
 unfold pyNext
 refine wpAny_bind (wpAny_attempt (wpAny_callSpecial?_slot (name := Str.ofString "__next__") hi.typeIs PySem.F.slot_dict_keyiterator_next (wpAny_call_entry PySem.F.slot_dict_keyiterator_next hi.typeIs PySem.F.entry_dict_keyiterator_next ?_ (PySem.F.args_dict_keyiterator_next_1 _))))
 refine wpAny_bind (wpAny_pure ?_); refine wpAny_bind ?_; refine wpAny_bind ?_
 first | refine wpAny_bind (wpAny_typeNameOfWhole_keyiter hi.typeIs (wpAny_pure ?_)) | refine wpAny_bind (wpAny_typeNameOf_keyiter hi.typeIs (wpAny_pure ?_))
 refine wpAny_bind (wpAny_fieldsOf h1 h3 ?_)
 have own : Builtin.Dict_items.ownsTuple "dict_keyiterator" = false := by decide
 simp only [own, Bool.false_eq_true, if_false]
 show wpAny _ _ (if (Value.ref d == Value.none) = true then _ else _) _ _ s; rw [if_neg (show ¬ ((Value.ref d == Value.none) = true) from Bool.false_ne_true)]
 refine wpAny_bind (wpAny_pure ?_); refine wpAny_bind (wpAny_dictEntries hd hes ?_); rw [if_neg (by simp)]
 refine wpAny_bind (wpAny_pure ?_); refine wpAny_bind (wpAny_dictEpoch hd hes ?_); rw [if_neg (by simp)]
 refine wpAny_pure ?_
 simp only [show ¬ ((i : Int) < 0) from by omega, if_false, Int.toNat_natCast, Array.getElem?_eq_none ge]
 refine wpAny_bind ?_
 first | refine wpAny_bind (wpAny_typeNameOfWhole_keyiter hi.typeIs (wpAny_pure ?_)) | refine wpAny_bind (wpAny_typeNameOf_keyiter hi.typeIs (wpAny_pure ?_))
 show wpAny _ _ (setField (.ref it) 0 .none >>= _) _ _ s; refine wpAny_bind (wpAny_setField h1 h3 (by simp) ?_)
 show wpAny _ _ (newExc (.type "StopIteration") [] >>= _) _ _ _; refine wpAny_bind ?_
 simp only [newExc, newTuple]; refine wpAny_bind (wpAny_newObj_type ?_ (by size_fits))
 refine wpAny_bind (m := firstArgMember _ _) (wpAny_of_eq (a := Value.none) (by first | rfl | (simp only [firstArgMember]; rfl)) ?_); refine wpAny_newObj_type ?_ (by size_fits)
 simp only [raiseNew]; refine wpAny_bind (wpAny_handled ?_)
 rw [show A.in1.handled = none from hh]; refine wpAny_bind (wpAny_pure (wpAny_throw ?_))
 refine wpAny_bind (wpAny_isInstance (T := "StopIteration") (b := true) ⟨_, Heap.get?_push_size _ rfl, rfl⟩ isSubtype_stop ?_); exact wpAny_pure (q _ (((Heap.SameBut.update ..).extBut.push _).push _))
end
def Itd (ob : Obj) (es : Array DictEntry) (a : Addr) : It :=
 ⟨fun i H => (∃ kvs, H a = some (.frz ob (.dT kvs))) /\ ∃ e b, es[i]? = some e /\ e.key = .ref b, fun i H x H' => H' = H /\ ∃ e b, es[i]? = some e /\ e.key = .ref b /\ x = .ref b, fun i H => (∃ kvs, H a = some (.frz ob (.dT kvs))) /\ es.size <= i⟩
theorem zdY {P : Program} {w : World} {K : PySem.W.Frag} {tg : Expr} (a it : Addr) {ob : Obj} {es : Array DictEntry} {ep : Nat} (hob : ob.data = .dict es ep) : Turn P w K tg (Itd ob es a) [it] it (fun i h => h.IsKeyIter it a i es.size ep) where
 mem := by simp
 obj := fun i h st b hb => by
  have e : b = it := by simpa using hb
  subst e
  obtain ⟨o, e, c, d⟩ := st
  exact ⟨o, e, fun v z => by rw [d] at z; cases z⟩
 keep := fun i h h' st k => st.at fun o e => k it (by simp) o e
 item := by
  intro X hP hw hK hc i pins s σ H E I hf st hg
  subst hP hw hK
  obtain ⟨⟨kvs, hq⟩, en, b, he, hk⟩ := hg
  obtain ⟨hp, _⟩ := I.hok a _ hq
  obtain ⟨f0, f1, f2, f3, f4, f5⟩ := hf it (by simp)
  refine dit_item st hp hob he fun h' st' sb => ?_
  have I1 : Inv X pins σ H { s with heap := h' } := I.turned (t' := s.toks) (fun b o hb e => (sb.2 b hb).trans e) f0 f1 f3 f4 f5
  obtain ⟨o, e, c, d⟩ := id st'
  refine ⟨en.key, rfl, go_of (s := { s with heap := h' }) e c d (by decide) ⟨.ref b, H, I1, ?_, ⟨rfl, en, b, he, hk, rfl⟩, st', fun b hb => (hf b hb).1⟩⟩
  rw [hk]; rfl
 done := by
  intro X hP hw hK hc i pins s σ H E I hf st hg
  subst hP hw hK
  obtain ⟨⟨kvs, hq⟩, ge⟩ := hg
  obtain ⟨hp, _⟩ := I.hok a _ hq
  obtain ⟨f0, f1, f2, f3, f4, f5⟩ := hf it (by simp)
  exact dit_end (I.ok.hd hc) st hp hob ge fun h' eb => ⟨rfl, I.turned (t' := s.toks) (fun b o hb e => eb b o hb e) f0 f1 f3 f4 f5⟩
 self := fun _ _ _ _ _ st h => wpAny_pyIter_keyiter st h
def KeysAt (H : Hp) (es : Array DictEntry) (kvs : List (List Key × V)) : Prop := es.size = kvs.length /\ ∀ (i : Nat) (ks : List Key) (v : V), kvs[i]? = some (ks, v) -> ∃ (e : DictEntry) (b : Addr), es[i]? = some e /\ e.key = .ref b /\ H b = some (.tup (ks.map kV))
theorem Jl {α β : Type} {F : α -> β -> Prop} : ∀ {l₁ : List α} {l₂ : List β}, Paired F l₁ l₂ -> ∀ (i : Nat) (a : α), l₁[i]? = some a -> ∃ b, l₂[i]? = some b /\ F a b
 | _, _, .nil, i, a, e => by simp at e
 | _, _, .cons r t, 0, a, e => by simp at e; subst e; exact ⟨_, rfl, r⟩
 | _, _, .cons r t, i + 1, a, e => by simpa using Jl t i a (by simpa using e)
def iDk (tl : TE) : TI := fun σ H R => tl σ H fun x H1 => ∃ a ob kvs, x = .ref a /\ H1 a = some (.frz ob (.dT kvs)) /\ ∀ es, KeysAt H1 es kvs -> R (Itd ob es a) H1
section
variable {X : Cx} {W : Str -> Hp -> Prop} {fl : Bool} {tg a e : Expr} {da : DE} {pos : Pos} {i : Nat} {x : Str}
theorem pi_dk {l : Expr} {tl : TE} (hl : PE X l tl) : PI X tg l (iDk tl) := by
 intro pins s σ H R I h
 refine thn (hl pins s σ H _ I h) fun v s1 ⟨u, H1, I1, r1, a, ob, kvs, eu, hq, q⟩ => ?_
 subst eu
 cases r1
 obtain ⟨hp, _, hsm, xs, pr, od, es, ep, h1, h2, h3, h4, _⟩ := I1.hok a _ hq
 rw [hp] at h1
 cases h1
 have hk : KeysAt H1 es kvs := by
  refine ⟨by rw [<- Array.length_toList, h4, List.length_map, <- Paired.length pr], fun i ks v e => ?_⟩
  obtain ⟨p, hx, e1, e2, _⟩ := Jl pr i _ e
  refine ⟨entryOfKey (tupleKind (YG X.prog X.w)) p, p.2.1, ?_, rfl, e2⟩
  rw [<- Array.getElem?_toList, h4, List.getElem?_map, hx]; rfl
 refine dit_new hsm hp h2 h3 ?_
 refine ⟨s1.heap.objs.size, [s1.heap.objs.size], _, _, H1, rfl, I1.kept (t' := s1.toks) fun b o e => Heap.get?_push_of_some _ e, zdY a _ h3, ⟨_, Heap.get?_push_size _ rfl, rfl, rfl⟩, fun b hb => ?_, q es hk⟩
 have e : b = s1.heap.objs.size := by simpa using hb
 subst e
 exact I1.fpOk (Nat.le_refl _) (I1.hok.fresh (Nat.le_refl _))
theorem rlk_at {K : PySem.W.Frag} {H : Hp} {P : Pv} : ∀ {es : List (PyData × PyData)} {kvs : List (List Key × V)}, Rlk K H P es kvs -> ∀ (i : Nat) (k t : PyData), es[i]? = some (k, t) -> ∃ ns v, kvs[i]? = some (Xj ns, v) /\ k = .tuple (ns.map .int)
 | [], kvs, r, i, k, t, e => by simp at e
 | (k', t') :: es, kvs, r, i, k, t, e => by
  obtain ⟨ms, v, r', rfl, rfl, rv, rr⟩ := Xu.mp r
  cases i with
  | zero => cases e; exact ⟨ms, v, rfl, rfl⟩
  | succ i => simpa using rlk_at rr i k t (by simpa using e)
theorem iv_keys (ha : EV X W a da) : IV X W tg a (iKeys da) :=
 U2 (pi_dk ha) fun σ H R ⟨G, P, h, q⟩ => by
  unfold iKeys at q
  obtain ⟨q1, q2, q3⟩ := zfA q
  refine Zy h q1 q2 fun tx v H1 ex s1 h1 rx => ?_
  have q4 := q3 tx ex
  split at q4
  ·rename_i es
   obtain ⟨l, ob, kvs, rfl, hl, off, rk⟩ := JN.mp rx
   refine ⟨l, ob, kvs, rfl, hl, fun ds hk => q4 _ H1 s1 fun H' P' tr nf i => ⟨fun t et => ?_, fun hge => ?_⟩⟩
   ·rw [List.getElem?_map] at et
    cases ee : es[i]? with
    | none => rw [ee] at et; cases et
    | some kt =>
     rw [ee] at et
     cases et
     obtain ⟨ns, v, ev, ek⟩ := rlk_at rk i kt.1 kt.2 ee
     obtain ⟨en, b, e1, e2, e3⟩ := hk.2 i _ v ev
     have hb := tr b _ e3 nt_tup (h1.tup_off e3)
     refine ⟨⟨⟨kvs, (tr l _ hl Jm off).1⟩, en, b, e1, e2⟩, fun y H'' yy => ?_⟩
     obtain ⟨rfl, en', b', e1', e2', rfl⟩ := yy
     rw [e1] at e1'
     cases e1'
     rw [e2] at e2'
     cases e2'
     rw [zcE] at hb
     exact ⟨Same.refl _, by show Rl _ _ _ kt.1 _; rw [ek]; exact ZH.mpr ⟨b, ns.map V.int, rfl, hb, zcp ns⟩⟩
   ·exact ⟨⟨kvs, (tr l _ hl Jm off).1⟩, by rw [hk.1, <- zbv rk]; simpa using hge⟩
  ·exact q4.elim
theorem ss_ext {o : DA} {p1 p2 p3 : Pos} (hi : X.N[i]? = some x) (he : OV X W e o) (hv : Vis X.env.scope x := by first | exact Or.inl rfl | exact Or.inr (Or.inl rfl) | exact Or.inr (Or.inr rfl)) (hd : (x == ("__debug__" : Str)) = false := by decide)
  (hcd : (x == ("__classdict__" : Str)) = false := by decide) (hsw : swapsWith (.Call (.Attribute (.Name x p1) "extend" p2) [e] [] p3) none pos.line X.env = pure false := by rfl)
  (hbase : attributeBase (.Name x p1) "extend" X.env (eval (.Name x p1) X.env) = eval (.Name x p1) X.env := by rfl)
  (hfew : ((backTo p3 (starEach [e] X.env)).all (fun x => !x.1) && (backToKw p3 (keywordEach [] X.env)).all (fun x => x.1.isSome)
   && decide (([e] : List Expr).length + ([] : List Keyword).length + (if ([] : List Keyword).isEmpty then 0 else 1) < 30)) = true := by rfl)
  (hline : (p2.endLine == p3.line) = true := by rfl) (hs : starEach [e] X.env = (false, eval e X.env) :: starEach [] X.env := by rfl) :
  SV X W fl (.Expr (.Call (.Attribute (.Name x p1) "extend" p2) [e] [] p3) pos) (dExt i o) :=
 YF (zbw (pe_bm PySem.F.plainAttrs_list PySem.F.slot_list_extend PySem.F.type_list_extend zeK (Vc hi hv hd hcd) (ZV he YX hs) hbase hfew hline hs rfl) hsw) fun D σ H ⟨G, P, h, q⟩ => by
  unfold dExt at q
  split at q
  ·rename_i ho
   obtain ⟨xs0, e0⟩ := zab ho
   obtain ⟨p, vs, ev, ep, eh, rs⟩ := h.sl i _ e0
   refine ⟨.ref p, getD_some ev, .inl ⟨rfl, vs, SqL.of eh⟩, G, P, h, ?_⟩
   cases eo : o G with
   | stuck => rw [eo] at q; exact q.elim
   | exc c => rw [eo] at q; exact fun H' s => q H' P (.same s)
   | ok ts =>
    rw [eo, Res.bind_ok] at q
    intro b us H1 s1 hb hl rb
    unfold extOwn at q
    rw [e0] at q
    simp only at q
    split at q
    ·rename_i hz
     have h1 := h.same s1
     obtain ⟨p', vs', ev', ep', eh', rs'⟩ := h1.sl i _ e0
     rw [ev] at ev'
     cases ev'
     have l1 := rs'.length
     have l2 := rb.length
     obtain ⟨h4, g4⟩ := h1.upOwn e0 ep' (rs'.append (Rls.go .fbd ts us rb))
     exact ⟨p, b, vs', us, rfl, rfl, eh', hl, by rw [sizeLine_eq]; omega, q σ _ P ((Go.same s1).trans g4) h4⟩
    ·exact q.elim
  ·exact q.elim
end
end Fx
namespace Fx
open PySem PySem.Spec PyProof.Rows L2
theorem u1 {n c : Nat} (h : n + 64 < c) : n + 1 < c := by omega
def mxI : Int -> List Int -> Int
 | m, [] => m
 | m, i :: r => mxI (if m < i then i else m) r
theorem zeM : ∀ {xs : List PyData} {m : Int} {t : PyData}, maxL m xs = .ok t -> ∃ ks : List Int, xs = ks.map .int /\ t = .int (mxI m ks)
 | [], m, t, h => by cases h; exact ⟨[], rfl, rfl⟩
 | x :: xs, m, t, h => by
  cases x <;> try (cases h; done)
  rename_i i
  obtain ⟨ks, rfl, rfl⟩ := zeM (xs := xs) (m := if m < i then i else m) h
  exact ⟨i :: ks, rfl, rfl⟩
theorem zcz : ∀ {xs : List PyData} {m : Int} {c : Str}, maxL m xs ≠ .exc c
 | [], m, c => by intro h; cases h
 | x :: xs, m, c => by
  cases x <;> try (intro h; cases h; done)
  exact zcz (xs := xs)
theorem max_args (a d : Value) : argsOk "max" ⟨[a], [(Str.ofString "default", d)]⟩ := by unfold argsOk; kernel_rfl
section
variable {X : Cx} {pins : List (Addr × Obj)} {σ : L2.St} {H : Hp} {l I S : Addr} {R : Result -> Shared -> Prop} {ks : List Int} {dv : Value}
theorem int_gt {A : Around} {s : Shared} {Q : Value -> Shared -> Prop} {E : Value -> Shared -> Prop} {a b : Int} {t u : Tok} (q : Q (.bool (decide (b < a))) s) : wpAny (model X.prog X.w) A (richCompare .Gt (.int a t) (.int b u)) Q E s :=
 CmpOf.ints_gt (prog := X.prog) (w := X.w) (A := A) (P := fun i v => ∃ t, v = .int (if i = 0 then a else b) t) (fun i => if i = 0 then a else b) (fun i v h => h) 0 1 _ _ _ _ _ ⟨t, rfl⟩ ⟨u, rfl⟩ q
theorem max_loop (hh : X.A.handled = none) (hlI : l ≠ I) (hSI : S ≠ I) (mS : Mine X pins S) (mI : Mine X pins I) (nS : H S = none) (nI : H I = none) (hl : SqL X.K H l (ks.map V.int)) :
  ∀ (r j : Nat) (s : Shared) (m : Int) (tb : Tok) (c : Nat), ks.length - (j + 1) = r -> j + 1 <= ks.length -> Inv X pins σ H s -> s.heap.get? S = some (seqObj "list" #[.int m tb, .int m tb] c) -> s.heap.IsListIter I l (j + 1) ->
   (∀ t s', Inv X pins σ H s' -> R (.ok (.ret (.int (mxI m (ks.drop (j + 1))) t))) s') -> codeAny (model X.prog X.w) X.A (.builtin "max.loop" ⟨[.ref I, .none, .ref S], [(Str.ofString "default", dv)]⟩) R s := by
 have nm : (toString "max" ++ toString ".loop" : String) = "max.loop" := by decide
 intro r
 induction r with
 | zero =>
  intro j s m tb c hr hj J eS hit fin
  obtain ⟨its, rv, pl, hz⟩ := J.list hl
  have hlen := rv.length
  rw [List.length_map] at hlen
  have W := Walks.list (prog := X.prog) (w := X.w) (A := X.A.in1) hh I l hlI its.toArray
  have hsz : its.toArray.size = j + 1 := by rw [List.size_toArray]; omega
  refine codeAny_builtin PySem.F.entry_max_loop ?_; rw [Around.under_plainId PySem.F.plain_max_loop _]
  show wpAny _ X.A.in1 (seqItems? (.ref S) >>= _) _ _ _; refine wpAny_bind (wpAny_seqItems eS rfl ?_)
  show wpAny _ X.A.in1 (tryCatch (pyNext (.ref I)) _ >>= _) _ _ _
  refine wpAny_bind (wpAny_tryCatch (W.done _ _ _ ⟨by rw [hsz]; exact hit, W3 pl⟩ fun h' tk' hk' => ?_))
  have J1 : Inv X pins σ H { s with heap := h', toks := tk' } := Fx.Inv.turn1 J mI nI fun b o hb e => hk' b o (by simpa using hb) e
  have hS' := hk' S _ (by simpa using hSI) eS
  have s1 := Heap.SameBut.update h' S (Obj.mapSeq fun _ => (#[] : Array Value))
  show wpAny _ X.A.in1 (updateSeq S (fun _ => #[]) >>= _) _ _ _; refine wpAny_bind ?_
  refine wpAny_updateSeq hS' rfl (wpAny_bind (wpAny_letGo (wpAny_pure ?_)))
  have e0 : ks.drop (j + 1) = [] := List.drop_eq_nil_of_le (by omega)
  rw [e0] at fin
  exact fin tb _ (Fx.Inv.turn1 J1 mS nS fun b o hb e => (s1.2 b hb).trans e)
 | succ r ih =>
  intro j s m tb c hr hj J eS hit fin
  have hlt : j + 1 < ks.length := by omega
  obtain ⟨its, rv, pl, hz⟩ := J.list hl
  have hlen := rv.length
  rw [List.length_map] at hlen
  have W := Walks.list (prog := X.prog) (w := X.w) (A := X.A.in1) hh I l hlI its.toArray
  have hsz : its.toArray.size = its.length := List.size_toArray ..
  refine codeAny_builtin PySem.F.entry_max_loop ?_; rw [Around.under_plainId PySem.F.plain_max_loop _]
  show wpAny _ X.A.in1 (seqItems? (.ref S) >>= _) _ _ _; refine wpAny_bind (wpAny_seqItems eS rfl ?_)
  show wpAny _ X.A.in1 (tryCatch (pyNext (.ref I)) _ >>= _) _ _ _
  refine wpAny_bind (wpAny_tryCatch (W.item (j + 1) _ _ _ (by rw [hsz, <- hlen]; exact hlt) ⟨hit, W3 pl⟩ fun u h' tk' hP hst' hk' => ?_))
  have hu : its[j + 1]? = some u := by simpa using hP
  have J1 : Inv X pins σ H { s with heap := h', toks := tk' } := Fx.Inv.turn1 J mI nI fun b o hb e => hk' b o (by simpa using hb) e
  have hS' := hk' S _ (by simpa using hSI) eS
  obtain ⟨u', hu', ru⟩ := rv.get (show (ks.map V.int)[j + 1]? = some (.int ks[j + 1]) by simp [hlt])
  rw [hu] at hu'
  cases hu'
  obtain ⟨t2, rfl⟩ := (show ∃ t, u = .int ks[j + 1] t from ru)
  have ed : ks.drop (j + 1) = ks[j + 1] :: ks.drop (j + 1 + 1) := List.drop_eq_getElem_cons hlt
  rw [ed] at fin
  generalize ks[j + 1] = kk at *
  show wpAny _ X.A.in1 (tryCatch (holding [_, _] (richCompare .Gt (.int kk t2) (.int m tb) >>= _)) _ >>= _) _ _ _
  refine wpAny_bind (wpAny_tryCatch (wpAny_holding (wpAny_bind (int_gt ?_))))
  refine wpAny_bind (wpAny_holding (wpAny_truthy_bool ?_)); refine wpAny_bind (wpAny_letGo (wpAny_pure ?_))
  by_cases hb' : m < kk
  ·have s1 := Heap.SameBut.update h' S (Obj.mapSeq fun _ => #[.int kk t2, .int kk t2])
   obtain ⟨c2, hc2⟩ : ∃ c2, (h'.update S (Obj.mapSeq fun _ => #[.int kk t2, .int kk t2])).get? S = some (seqObj "list" #[.int kk t2, .int kk t2] c2) := ⟨_, get?_update_seq hS' fun _ => #[.int kk t2, .int kk t2]⟩
   simp only [hb', decide_true, if_true]; refine wpAny_bind ?_
   refine wpAny_updateSeq hS' rfl (wpAny_bind (wpAny_letGo ?_)); rw [nm]
   have J4 := Fx.Inv.turn1 (t' := tk') J1 mS nS fun b o hb e => (s1.2 b hb).trans e
   obtain ⟨oI, hoI, hoc, hod⟩ := id hst'.1
   refine wpAny_pure ⟨plainId_quiet PySem.F.plain_max_loop _, ih (j + 1) _ kk t2 c2 (by omega) hlt J4 hc2 ⟨oI, (s1.2 I hSI.symm).trans hoI, hoc, hod⟩ fun t s' J' => ?_⟩
   have := fin t s' J'
   simp only [mxI, if_pos hb'] at this
   exact this
  ·simp only [hb', decide_false, Bool.false_eq_true, if_false]; refine wpAny_bind (wpAny_letGo ?_); rw [nm]
   refine wpAny_pure ⟨plainId_quiet PySem.F.plain_max_loop _, ih (j + 1) _ m tb c (by omega) hlt J1 hS' hst'.1 fun t s' J' => ?_⟩
   have := fin t s' J'
   simp only [mxI, if_neg hb'] at this
   exact this
theorem zba {s : Shared} {Q : Value -> Shared -> Prop} {E : Value -> Shared -> Prop} (hh : X.A.handled = none) (J : Inv X pins σ H s) (hl : SqL X.K H l (ks.map V.int)) (fin0 : ks = [] -> ∀ s', Inv X pins σ H s' -> Q dv s')
  (fin : ∀ k r, ks = k :: r -> ∀ t s', Inv X pins σ H s' -> Q (.int (mxI k r) t) s') : wpAny (model X.prog X.w) X.A (call (.builtin "max") [.ref l] [(Str.ofString "default", dv)]) Q E s := by
 have nm : (toString "max" ++ toString ".loop" : String) = "max.loop" := by decide
 obtain ⟨its, rv, pl, hz⟩ := J.list hl
 have hls := W3 pl
 have hlen := rv.length
 rw [List.length_map] at hlen
 obtain ⟨ol, hol, hol2⟩ := id hls
 have hll : l < s.heap.objs.size := Heap.lt_size hol
 refine kmk_tree PySem.F.kind_max PySem.F.plain_max PySem.F.entry_max (max_args _ _) ?_
 show wpAny _ X.A.in1 (Builtin.Builtins.bindParams "max" ["key", "default"] 0 ⟨[], [(Str.ofString "default", dv)]⟩ >>= _) _ _ s
 refine wpAny_bind (wpAny_of_eq (show Builtin.Builtins.bindParams "max" ["key", "default"] 0 ⟨[], [(Str.ofString "default", dv)]⟩ = pure [none, some dv] from rfl) ?_)
 refine wpAny_bind (wpAny_pure ?_); refine wpAny_bind (wpAny_pyIter_list hls ?_); refine wpAny_bind (wpAny_newList ?_ (Nat.zero_le _)); rw [nm]
 have hS : (s.heap.push { cls := .type "list_iterator", data := .fields #[.ref l, .int 0 0] }).objs.size = s.heap.objs.size + 1 := size_push' ..
 have hlI : l ≠ s.heap.objs.size := Nat.ne_of_lt hll
 have nI : H s.heap.objs.size = none := J.hok.fresh (Nat.le_refl _)
 have nS : H (s.heap.push { cls := .type "list_iterator", data := .fields #[.ref l, .int 0 0] }).objs.size = none := J.hok.fresh (by rw [hS]; exact Nat.le_succ _)
 have mI : Mine X pins s.heap.objs.size := .of (J.fpOk (Nat.le_refl _) nI)
 have mS : Mine X pins (s.heap.push { cls := .type "list_iterator", data := .fields #[.ref l, .int 0 0] }).objs.size := .of (J.fpOk (by rw [hS]; exact Nat.le_succ _) nS)
 have hSI : (s.heap.push { cls := .type "list_iterator", data := .fields #[.ref l, .int 0 0] }).objs.size ≠ s.heap.objs.size := by rw [hS]; exact Nat.ne_of_gt (Nat.lt_succ_self _)
 refine wpAny_pure ⟨plainId_quiet PySem.F.plain_max_loop _, ?_⟩
 have kpH : ∀ b o, s.heap.get? b = some o -> ((s.heap.push { cls := .type "list_iterator", data := .fields #[.ref l, .int 0 0] }).push (seqObj "list" #[] 0)).get? b = some o := fun b o e => Heap.get?_push_of_some _ (Heap.get?_push_of_some _ e)
 have gI : ((s.heap.push { cls := .type "list_iterator", data := .fields #[.ref l, .int 0 0] }).push (seqObj "list" #[] 0)).get? s.heap.objs.size = some { cls := .type "list_iterator", data := .fields #[.ref l, .int 0 0] } := Heap.get?_push_of_some _ (Heap.get?_push_size _ rfl)
 have gS : ((s.heap.push { cls := .type "list_iterator", data := .fields #[.ref l, .int 0 0] }).push (seqObj "list" #[] 0)).get? (s.heap.push { cls := .type "list_iterator", data := .fields #[.ref l, .int 0 0] }).objs.size = some (seqObj "list" #[] 0) := Heap.get?_push_size _ rfl
 have W := Walks.list (prog := X.prog) (w := X.w) (A := X.A.in1) hh s.heap.objs.size l hlI its.toArray
 have hsz : its.toArray.size = its.length := List.size_toArray ..
 have JH : Inv X pins σ H { s with heap := (s.heap.push { cls := .type "list_iterator", data := .fields #[.ref l, .int 0 0] }).push (seqObj "list" #[] 0) } := J.kept (t' := s.toks) kpH
 have hlsH : ((s.heap.push { cls := .type "list_iterator", data := .fields #[.ref l, .int 0 0] }).push (seqObj "list" #[] 0)).IsList l its.toArray := ⟨ol, kpH _ _ hol, hol2⟩
 generalize hSS : (s.heap.push { cls := .type "list_iterator", data := .fields #[.ref l, .int 0 0] }).objs.size = S at *
 refine codeAny_builtin PySem.F.entry_max_loop ?_; rw [Around.under_plainId PySem.F.plain_max_loop _]
 show wpAny _ X.A.in1 (seqItems? (.ref _) >>= _) _ _ _; refine wpAny_bind (wpAny_seqItems gS rfl ?_)
 show wpAny _ X.A.in1 (tryCatch (pyNext (.ref s.heap.objs.size)) _ >>= _) _ _ _
 cases ks with
 | nil =>
  refine wpAny_bind (wpAny_tryCatch (W.done _ _ _ ⟨by rw [hsz, <- hlen]; exact ⟨_, gI, rfl, rfl⟩, hlsH⟩ fun h' tk' hk' => ?_))
  have J1 : Inv X pins σ H { s with heap := h', toks := tk' } := Fx.Inv.turn1 (s := { s with heap := (s.heap.push { cls := .type "list_iterator", data := .fields #[.ref l, .int 0 0] }).push (seqObj "list" #[] 0) }) JH mI nI fun b o hb e => hk' b o (by simpa using hb) e
  exact wpAny_bind (wpAny_rule (wpAny_pure (fin0 rfl _ J1)))
 | cons k r =>
  refine wpAny_bind (wpAny_tryCatch (W.item 0 _ _ _ (by rw [hsz, <- hlen]; simp) ⟨⟨_, gI, rfl, rfl⟩, hlsH⟩ fun u h' tk' hP hst' hk' => ?_))
  have hu : its[0]? = some u := by simpa using hP
  have J1 : Inv X pins σ H { s with heap := h', toks := tk' } := Fx.Inv.turn1 (s := { s with heap := (s.heap.push { cls := .type "list_iterator", data := .fields #[.ref l, .int 0 0] }).push (seqObj "list" #[] 0) }) JH mI nI fun b o hb e => hk' b o (by simpa using hb) e
  have hS' := hk' _ _ (by simpa using hSI) gS
  obtain ⟨u', hu', ru⟩ := rv.get (show ((k :: r).map V.int)[0]? = some (.int k) from rfl)
  rw [hu] at hu'
  cases hu'
  obtain ⟨t2, rfl⟩ := (show ∃ t, u = .int k t from ru)
  have s1 := Heap.SameBut.update h' S (Obj.mapSeq fun _ => #[.int k t2, .int k t2])
  obtain ⟨c2, hc2⟩ : ∃ c2, (h'.update S (Obj.mapSeq fun _ => #[.int k t2, .int k t2])).get? S = some (seqObj "list" #[.int k t2, .int k t2] c2) := ⟨_, get?_update_seq hS' fun _ => #[.int k t2, .int k t2]⟩
  show wpAny _ X.A.in1 (updateSeq S (fun _ => #[.int k t2, .int k t2]) >>= _) _ _ _; refine wpAny_bind ?_
  refine wpAny_updateSeq hS' rfl ?_; rw [nm]
  have J4 := Fx.Inv.turn1 (t' := tk') J1 mS nS fun b o hb e => (s1.2 b hb).trans e
  obtain ⟨oI, hoI, hoc, hod⟩ := id hst'.1
  refine wpAny_pure ⟨plainId_quiet PySem.F.plain_max_loop _, max_loop hh hlI hSI mS mI nS nI hl _ 0 _ k t2 c2 rfl (by simp) J4 hc2 ⟨oI, (s1.2 _ hSI.symm).trans hoI, hoc, hod⟩ fun t s' J' => ?_⟩
  exact fin k r rfl t s' J'
end
section
variable {X : Cx} {W : Str -> Hp -> Prop} {a : Expr} {da : DE} {pos : Pos}
theorem Jj {K : PySem.W.Frag} {H : Hp} {P : Pv} : ∀ {ns : List Int} {vs : List V}, Rls K H P (ns.map .int) vs -> vs = ns.map V.int
 | [], vs, r => ZM.mp r
 | n :: ns, vs, r => by
  obtain ⟨v, r', rfl, a, c⟩ := Zx.mp r
  rw [Jj c, ZL.mp a]; rfl
theorem ev_maxD {n : Int} {ed : Expr} {p kp : Pos} (hr : X.A.handled = none) (hg : Gl X "max") (hm : X.mg "max" = none) (ha : EV X W a da) (hd : EV X W ed (dC (.int n))) (hs : starEach [a] X.env = (false, eval a X.env) :: starEach [] X.env := by rfl) :
  EV X W (.Call (.Name "max" p) [a] [⟨some "default", ed, kp⟩] pos) (d1 (maxD n) da) := by
 intro pins s σ H Q I ⟨G, P, h, q⟩
 unfold d1 at q
 obtain ⟨q1, q2, q3⟩ := Wr q
 refine wpAny_Call_Name_kw (Uf I hg hm (show bootBuiltins "max" = some (.builtin "max") by decide +kernel) ?_)
 refine callWith_kw (thn (ZV ha YX hs pos pins s σ H (fun vs H1 => ∃ tx v, vs = [v] /\ da G = .ok tx /\ Same H H1 /\ Hol X.K H1 P σ G /\ Rl X.K H1 P tx v) I (Zy h q1 q2 fun tx v H1 ex s1 h1 rx => ⟨tx, v, rfl, ex, s1, h1, rx⟩)) fun us s1 ⟨vs, H1, I1, r1, tx, v, ev, ex, sm1, h1, rx⟩ => ?_) (by rw [hs]; rfl) (by rw [hs]; rfl)
 subst ev
 obtain ⟨u1, rfl, ru⟩ := UR r1
 refine thn ((zbx hd pk_nil) pos pins s1 σ H1 (fun zs H2 => ∃ v, zs = [v] /\ v = .int n /\ Same H1 H2) I1 ⟨G, P, h1, fun v H2 s2 r2 => ⟨v, rfl, ZL.mp r2, s2⟩⟩) fun ws s2 ⟨zs, H2, I2, r2, v2, ez, ev2, sm2⟩ => ?_
 subst ez ev2
 obtain ⟨w2, rfl, rw2⟩ := UR r2
 obtain ⟨tn, rfl⟩ := (show ∃ t, w2 = .int n t from rw2)
 show wpAny _ _ (call (.builtin "max") [u1] [(Str.ofString "default", .int n tn)]) _ _ _
 have q4 := q3 tx ex
 cases tx <;> try exact q4.elim
 rename_i ts
 obtain ⟨l, vs, rfl, sl, rs⟩ := ZN.mp rx
 cases ru
 have sl2 := sl.go (.same sm2)
 have rs2 := Rls.go (.same sm2) ts vs rs
 cases ts with
 | nil =>
  have e0 := ZM.mp rs2
  subst e0
  refine zba (ks := []) hr I2 sl2.sq (fun _ s' J => ?_) (fun k r z => by cases z)
  exact ⟨.int n, H2, J, ⟨tn, rfl⟩, q4 _ H2 (sm1.trans sm2) (ZL.mpr rfl)⟩
 | cons y ts =>
  cases y <;> try exact q4.elim
  rename_i k
  have q5 : Yu X.K W H P (maxL k ts) Q := q4
  cases em : maxL k ts with
  | stuck => rw [em] at q5; exact q5.elim
  | exc c => exact absurd em zcz
  | ok t =>
   rw [em] at q5
   obtain ⟨ks, rfl, rfl⟩ := zeM em
   have e0 : vs = (k :: ks).map V.int := Jj (ns := k :: ks) rs2
   subst e0
   refine zba (ks := k :: ks) hr I2 sl2.sq (fun z => by cases z) (fun k' r' z t s' J => ?_)
   cases z
   exact ⟨.int (mxI k ks), H2, J, ⟨t, rfl⟩, q5 _ H2 (sm1.trans sm2) (ZL.mpr rfl)⟩
end
end Fx
namespace K22
open PySem Fx Lw
def zbk : List Sl -> Nat := fun _ => 100000
def zbl : List Sl -> Nat := fun _ => 100000
def u_lean_1 : List Sl -> Nat := fun _ => 1000
def zcX : List Sl -> Nat := fun _ => 1000
def d_unit_2 : DS :=
  (dRet (dVar 2))
def d_unit_1 : DS :=
  dSeq (Up 2 [] (dVar 1) (dC (.int 1)))
  d_unit_2
def d_unit : DS :=
  dSeq (Vb 2 [] (oRep (oLst (Zc (dC (.int 0)) dNil)) (dVar 0)))
  d_unit_1
def ze5 : DF := runQ 3 2 d_unit
def zdx : DS :=
  (dRet (d2 fAdd (dL (YH 1 [] (ZQ 0) (iSeq (d2 fIx (dVar 0) (dC (.int 0)))) tT (d1 fNeg (dVar 0)))) (dLst (Zc (d2 fIx (dVar 0) (dC (.int 1))) dNil))))
def V0 : DF := runQ 1 1 zdx
def QB : DS :=
  (dRet (dMk ["heads", "divisor", "rows"] (Zc (dL (zde (iRng (dVar 2)))) (Zc (dC (.int 1)) (Zc (d2 fAdd (d2 fAdd (dVar 3) (dVar 4)) (dLst (Zc (d2 fAdd (dVar 1) (dLst (Zc (dC (.int 0)) dNil))) dNil))) dNil)))))
def QC : DS :=
  dSeq (dSet 4 [] (dL (YH 1 [] (ZQ 0) (iSeq (d2 fIx (dVar 0) (dC (.int 1)))) tT (Zl V0 (Zc (dVar 0) dNil)))))
  QB
def QD : DS :=
  dSeq (dSet 3 [] (dL (YH 1 [2] (ZQ 0) (iRng (dVar 2)) tT (Zl ze5 (Zc (d2 fAdd (dVar 1) (dC (.int 1))) (Zc (dVar 0) dNil))))))
  QC
def zap : DS :=
  dSeq (dSet 2 [] (d2 fIx (dVar 0) (dC (.int 0))))
  QD
def Y3 : DF := runQ 5 2 zap
def zdw : DS :=
  (dRet (dL (zde (iRng2 (d1 fLen (d1 (fFld "heads") (dVar 0))) (d2 fSub (d1 fLen (d1 (fFld "rows") (dVar 0))) (dC (.int 1)))))))
def Ya : DF := runQ 1 1 zdw
def zds : DS :=
  (dRet (d2 fSub (d1 fLen (d1 (fFld "rows") (dVar 0))) (dC (.int 1))))
def Xc : DF := runQ 1 1 zds
def Qo : DS :=
  (dRet (dVar 6))
def Qp : DS :=
  dSeq (Up 6 [] (dVar 2) (dVar 5))
  Qo
def Qq : DS :=
  dSeq (Vb 6 [] (YH 2 [4, 5, 3] (VV 0 1) (iZip (iSeq (dVar 0)) (iSeq (dVar 1))) tT (d2 fDiv (d2 fSub (d2 fMul (dVar 2) (dVar 0)) (d2 fMul (dVar 3) (dVar 1))) (dVar 4))))
  Qp
def Qr : DS :=
  dSeq (dSet 5 [] (dIfE (tV (d2 fGt (d2 fIx (dVar 1) (dVar 2)) (dC (.int 0)))) (d2 fIx (dVar 0) (dVar 2)) (d1 fNeg (d2 fIx (dVar 0) (dVar 2)))))
  Qq
def zak : DS :=
  dSeq (dSet 4 [] (d1 fAbs (d2 fIx (dVar 1) (dVar 2))))
  Qr
def WB : DF := runQ 7 4 zak
def zbR : DS :=
  (dRet (dMk ["heads", "divisor", "rows"] (Zc (dVar 4) (Zc (d1 fAbs (d2 fIx (dVar 3) (dVar 2))) (Zc (dVar 5) dNil)))))
def zbS : DS :=
  dSeq (dSet 5 [] (dL (YH 1 [3, 2, 0] (ZQ 0) (iSeq (d1 (fFld "rows") (dVar 0))) tT (Zl WB (Zc (dVar 0) (Zc (dVar 1) (Zc (dVar 2) (Zc (d1 (fFld "divisor") (dVar 3)) dNil))))))))
  zbR
def zbT : DS :=
  dSeq (Up 4 [] (dVar 2) (dVar 1))
  zbS
def zbU : DS :=
  dSeq (Vb 4 [] (oList (d1 (fFld "heads") (dVar 0))))
  zbT
def zfd : DS :=
  dSeq (dSet 3 [] (d2 fIx (d1 (fFld "rows") (dVar 0)) (dVar 1)))
  zbU
def Y1 : DF := runQ 6 3 zfd
def V6 : DS :=
  (dRet (dC .none))
def QA : DS :=
  dSeq (dFor (ZQ 2) [] (iSeq (Zl Ya (Zc (dVar 0) dNil)))
  (dIf (tV (d2 fNe (d2 fIx (d2 fIx (d1 (fFld "rows") (dVar 0)) (dVar 2)) (dVar 1)) (dC (.int 0))))
  (dRet (dVar 2))
  ZZ))
  V6
def XV : DF := runQ 3 2 QA
def zfl : DS :=
  (dRet (dVar 0))
def d_freed : DS :=
  dSeq (dFor (ZQ 1) [] (iRng (d1 fLen (d1 (fFld "heads") (dVar 0))))
  (dSeq (dSet 2 [] (Zl XV (Zc (dVar 0) (Zc (dVar 1) dNil))))
  (dIf (tV (d1 zaS (dVar 2)))
  (dSet 0 [] (Zl Y1 (Zc (dVar 0) (Zc (dVar 2) (Zc (dVar 1) dNil)))))
  ZZ)))
  zfl
def zbO : DF := runQ 3 1 d_freed
def d_helps : DS :=
  (dRet (dOrV (d2 fGt (dVar 2) (dC (.int 0))) (zdI (d2 fLt (dVar 2) (dC (.int 0))) (d2 fLt (d2 fIx (d1 (fFld "heads") (dVar 0)) (dVar 1)) (d1 fLen (d1 (fFld "heads") (dVar 0)))))))
def zbN : DF := runQ 3 3 d_helps
def VF : DS :=
  (dRet (dMinK [0] (dVar 3) (d2 fIx (d1 (fFld "heads") (dVar 1)) (dVar 0))))
def VG : DS :=
  dSeq (dSet 3 [] (dL (YH 1 [0, 2] (ZQ 0) (iRng (d1 fLen (d1 (fFld "heads") (dVar 0)))) (tV (Zl zbN (Zc (dVar 1) (Zc (dVar 0) (Zc (d2 fIx (dVar 2) (dVar 0)) dNil))))) (dVar 0))))
  VF
def Uz : DS :=
  dSeq (dSet 2 [] (d2 fIx (d1 (fFld "rows") (dVar 0)) (dVar 1)))
  VG
def Z2 : DF := runQ 4 2 Uz
def QZ : DS :=
  (dRet (dC .none))
def zaY : DS :=
  dSeq (dFor (ZQ 1) [] (iSeq (Zl Ya (Zc (dVar 0) dNil)))
  (dIf (tV (d2 fLt (d2 fIx (d2 fIx (d1 (fFld "rows") (dVar 0)) (dVar 1)) (d1 fNeg (dC (.int 1)))) (dC (.int 0))))
  (dRet (dVar 1))
  ZZ))
  QZ
def YY : DF := runQ 2 1 zaY
def zbW : DS :=
  (dRet (dTup (Zc (dVar 2) (Zc (dC .none) dNil))))
def zbX : DS :=
  dSeq (Ju zbk (tV (d1 zaS (dVar 3)))
  (dSeq (dSet 4 [] (Zl Z2 (Zc (dVar 2) (Zc (dVar 3) dNil))))
  (dSeq (dIf (tV (d1 fIsN (dVar 4)))
  (dRet (dTup (Zc (dVar 2) (Zc (dVar 3) dNil))))
  ZZ)
  (dSeq (dSet 2 [] (Zl Y1 (Zc (dVar 2) (Zc (dVar 3) (Zc (dVar 4) dNil)))))
  (dSet 3 [] (Zl YY (Zc (dVar 2) dNil)))))))
  zbW
def zbY : DS :=
  dSeq (dSet 3 [] (Zl YY (Zc (dVar 2) dNil)))
  zbX
def zfe : DS :=
  dSeq (dSet 2 [] (Zl zbO (Zc (Zl Y3 (Zc (dVar 0) (Zc (dVar 1) dNil))) dNil)))
  zbY
def Qh : DF := runQ 5 2 zfe
def zdB : DS :=
  (dRet (dL (YH 1 [0] (ZQ 0) (iRng (d1 fLen (d1 (fFld "heads") (dVar 0)))) tT (Zl Y2 (Zc (d2 fIx (d2 fIx (d1 (fFld "rows") (dVar 1)) (dVar 0)) (d1 fNeg (dC (.int 1)))) (Zc (d1 (fFld "divisor") (dVar 1)) dNil))))))
def XI : DF := runQ 1 1 zdB
def zal : DS :=
  (dRetO 3)
def zam : DS :=
  dSeq (dFor (VV 4 5) [] (iZip (iSeq (d1 (fFld "heads") (dVar 0))) (iSeq (d2 fIx (d1 (fFld "rows") (dVar 0)) (dVar 1))))
  (dIf (tV (d2 fGe (dVar 4) (dVar 2)))
  (Up 3 [] (d2 fSub (dVar 4) (dVar 2)) (Zl Y2 (Zc (d1 fNeg (dVar 5)) (Zc (d1 (fFld "divisor") (dVar 0)) dNil))))
  ZZ))
  zal
def zan : DS :=
  dSeq (Vb 3 [] (oRep (oLst (Zc (dTup (Zc (dC (.int 0)) (Zc (dC (.int 1)) dNil))) dNil)) (d1 fLen (Zl Ya (Zc (dVar 0) dNil)))))
  zam
def zbV : DS :=
  dSeq (dSet 2 [] (d1 fLen (d1 (fFld "heads") (dVar 0))))
  zan
def XT : DF := runQ 6 2 zbV
def za5 : DS :=
  (dRet (dVar 2))
def za6 : DS :=
  dSeq (Up 2 [] (d2 fSub (dVar 1) (d1 fLen (d1 (fFld "heads") (dVar 0)))) (dTup (Zc (dC (.int 1)) (Zc (dC (.int 1)) dNil))))
  za5
def zdG : DS :=
  dSeq (Vb 2 [] (oCall XT (Zc (dVar 0) (Zc (dVar 1) dNil))))
  za6
def V2 : DF := runQ 3 2 zdG
def V8 : DS :=
  (dRet (dC .none))
def V9 : DS :=
  dSeq (dFor (VV 3 4) [] (iEnum (iSeq (d1 (fFld "heads") (dVar 0))))
  (dIf (tAnd (tV (d2 fLt (dVar 4) (dVar 2))) (tV (d2 fNe (d2 fIx (d2 fIx (d1 (fFld "rows") (dVar 0)) (dVar 1)) (dVar 3)) (dC (.int 0)))))
  (dRet (dVar 3))
  ZZ))
  V8
def QH : DS :=
  dSeq (dSet 2 [] (d1 fLen (d1 (fFld "heads") (dVar 0))))
  V9
def XW : DF := runQ 5 2 QH
def V3 : DS :=
  (dRetO 2)
def V4 : DS :=
  dSeq (dFor (ZQ 3) [] (iSeq (Zl Ya (Zc (dVar 0) dNil)))
  (dSeq (dSet 4 [] (Zl XW (Zc (dVar 0) (Zc (dVar 3) dNil))))
  (dIf (tAnd (tV (d2 fGt (dVar 3) (dVar 1))) (tV (d1 zaS (dVar 4))))
  (dApp 2 [] (Zl Y1 (Zc (dVar 0) (Zc (dVar 3) (Zc (dVar 4) dNil)))))
  ZZ)))
  V3
def V5 : DS :=
  dSeq (Vb 2 [] (oLst dNil))
  V4
def Qn : DS :=
  dSeq (dSet 1 [] (d1 (maxD (-1)) (dL (YH 1 [0] (ZQ 0) (iSeq (d1 (fFld "heads") (dVar 0))) (tV (d2 fGe (dVar 0) (d1 fLen (d1 (fFld "heads") (dVar 1))))) (dVar 0)))))
  V5
def XS : DF := runQ 5 1 Qn
def Vm : DS :=
  (dRet (dVar 1))
def Vn : DS :=
  dSeq (dFor (ZQ 2) [] (iRng (d2 fIx (dVar 0) (dC (.int 0))))
  (dSeq (Vb 3 [] (oLst dNil))
  (dSeq (dFor (ZQ 4) [] (iSeq (dVar 1))
  (dExt 3 (oCall XS (Zc (dVar 4) dNil))))
  (dSet 1 [3] (dVar 3)))))
  Vm
def V7 : DS :=
  dSeq (dSet 1 [] (dLst (Zc (Zl Y3 (Zc (dVar 0) (Zc (dL (oRep (oLst (Zc (dC (.int 0)) dNil)) (d2 fIx (dVar 0) (dC (.int 0))))) dNil))) dNil)))
  Vn
def Xd : DF := runQ 5 1 V7
def UG : DS :=
  (dRet (dC (.bool false)))
def Q6 : DS :=
  dSeq (dFor (VV 2 3) [] (iZip (iSeq (dVar 0)) (iSeq (dVar 1)))
  (dIf (tV (d2 fNe (dVar 2) (dVar 3)))
  (dRet (Zl WD (Zc (dVar 2) (Zc (dVar 3) dNil))))
  ZZ))
  UG
def X9 : DF := runQ 4 2 Q6
def zdy : DS :=
  (dRet (d2 fAdd (d2 fAdd (dL (oCut (dVar 0) pNo (pAt (dVar 2)))) (dLst (Zc (dVar 1) dNil))) (dL (oCut (dVar 0) (pAt (dVar 2)) pNo))))
def zdz : DS :=
  dSeq (dIf (tAnd (tV (d2 fLt (dVar 2) (d1 fLen (dVar 0)))) (tV (d2 fEq (d2 fIx (dVar 0) (dVar 2)) (dVar 1))))
  (dRet (dVar 0))
  ZZ)
  zdy
def zdA : DS :=
  dSeq (Ju zcX (tAnd (tV (d2 fLt (dVar 2) (d1 fLen (dVar 0)))) (tV (Zl X9 (Zc (d2 fIx (dVar 0) (dVar 2)) (Zc (dVar 1) dNil)))))
  (dSet 2 [] (d2 fAdd (dVar 2) (dC (.int 1)))))
  zdz
def d_put_in : DS :=
  dSeq (dSet 2 [] (dC (.int 0)))
  zdA
def zae : DF := runQ 3 2 d_put_in
def zb5 : DS :=
  (dRet (dVar 1))
def zb6 : DS :=
  dSeq (dFor (ZQ 2) [] (iSeq (Zl Xd (Zc (dVar 0) dNil)))
  (dIf (tV (d1 fIsN (Zl YY (Zc (dVar 2) dNil))))
  (dSet 1 [] (Zl zae (Zc (dVar 1) (Zc (Zl XI (Zc (dVar 2) dNil)) dNil))))
  ZZ))
  zb5
def zb7 : DS :=
  dSeq (dSet 1 [] (dLst dNil))
  zb6
def za4 : DS :=
  dSeq (dIf (tOr (tV (d2 fGt (d2 fIx (dVar 0) (dC (.int 0))) (dC (.int 3)))) (tV (d2 fGt (d1 fLen (d2 fIx (dVar 0) (dC (.int 1)))) (dC (.int 12)))))
  (X4 "TooMany" (Zc (dC (.str (PySem.Str.ofString "corners are gone through for up to 3 kinds and 12 limits"))) dNil))
  ZZ)
  zb7
def Xl : DF := runF 3 1 za4
def Uh : DS :=
  (dRet (dTup (Zc (d1 Jr (dVar 2)) (Zc (dVar 3) dNil))))
def Ui : DS :=
  dSeq (dIf (tNot (tV (Zl YN (Zc (dVar 3) dNil))))
  (X4 "NoDesk" (Zc (dC (.str (PySem.Str.ofString "a bound is a whole number of at most 12 figures"))) dNil))
  ZZ)
  Uh
def Uj : DS :=
  dSeq (dIf (tNot (tV (d1 fAll (dL (YH 1 [] (ZQ 0) (iSeq (dVar 2)) tT (Zl YN (Zc (dVar 0) dNil)))))))
  (X4 "NoDesk" (Zc (dC (.str (PySem.Str.ofString "a weight is a whole number of at most 12 figures"))) dNil))
  ZZ)
  Ui
def Uk : DS :=
  dSeq (dIf (tOr (tNot (tV (d1 (fIs isList) (dVar 2)))) (tV (d2 fNe (d1 fLen (dVar 2)) (dVar 0))))
  (X4 "NoDesk" (Zc (dC (.str (PySem.Str.ofString "weights are a list with one number for each kind"))) dNil))
  ZZ)
  Uj
def Ul : DS :=
  dSeq (dSet 3 [] (d2 fIx (dVar 1) (dC (.int 1))))
  Uk
def Um : DS :=
  dSeq (dSet 2 [] (d2 fIx (dVar 1) (dC (.int 0))))
  Ul
def Js : DS :=
  dSeq (dIf (tOr (tNot (tV (d1 (fIs zeW) (dVar 1)))) (tV (d2 fNe (d1 fLen (dVar 1)) (dC (.int 2)))))
  (X4 "NoDesk" (Zc (dC (.str (PySem.Str.ofString "a limit is a tuple of weights and a bound"))) dNil))
  ZZ)
  Um
def XJ : DF := runF 4 2 Js
def QF : DS :=
  (dRet (dTup (Zc (dVar 0) (Zc (d1 Jr (dL (YH 1 [0] (ZQ 0) (iSeq (dVar 1)) tT (Zl XJ (Zc (dVar 1) (Zc (dVar 0) dNil)))))) dNil))))
def QG : DS :=
  dSeq (dIf (tOr (tNot (tV (d1 (fIs isList) (dVar 1)))) (tV (d2 fGt (d1 fLen (dVar 1)) (dC (.int 10)))))
  (X4 "NoDesk" (Zc (dC (.str (PySem.Str.ofString "limits are a list of at most 10"))) dNil))
  ZZ)
  QF
def za3 : DS :=
  dSeq (dIf (tOr (tNot (tV (Zl Z3 (Zc (dVar 0) dNil)))) (tOr (tV (d2 fLt (dVar 0) (dC (.int 1)))) (tV (d2 fGt (dVar 0) (dC (.int 4))))))
  (X4 "NoDesk" (Zc (dC (.str (PySem.Str.ofString "kinds are a whole number from 1 to 4"))) dNil))
  ZZ)
  QG
def Yq : DF := runF 2 2 za3
def VM : DS :=
  (dIf (tOr (tNot (tV (Zl Z3 (Zc (dVar 1) dNil)))) (tOr (tV (d2 fLt (dVar 1) (dC (.int 0)))) (tV (d2 fGe (dVar 1) (dVar 0)))))
  (X4 "NoPlace" (Zc (dC (.str (PySem.Str.ofString "a place is a whole number from 0 to below how many there are"))) dNil))
  ZZ)
def Yf : DF := runF 2 2 VM
def Q7 : DS :=
  (dIf (tNot (tV (d1 fAll (dL (YH 1 [] (ZQ 0) (iSeq (dVar 1)) tT (Zl Z3 (Zc (dVar 0) dNil)))))))
  (X4 "NoGoal" (Zc (dC (.str (PySem.Str.ofString "a goal is of whole numbers"))) dNil))
  ZZ)
def za7 : DS :=
  dSeq (dIf (tOr (tNot (tV (d1 (fIs isList) (dVar 1)))) (tV (d2 fNe (d1 fLen (dVar 1)) (dVar 0))))
  (X4 "NoGoal" (Zc (dC (.str (PySem.Str.ofString "a goal is a list with one number for each kind"))) dNil))
  ZZ)
  Q7
def WO : DF := runF 2 2 za7
def d_sooner : DS :=
  (dRet (d2 fLt (d2 fMul (d2 fIx (dVar 0) (d1 fNeg (dC (.int 1)))) (d1 fNeg (d2 fIx (dVar 1) (dVar 2)))) (d2 fMul (d2 fIx (dVar 1) (d1 fNeg (dC (.int 1)))) (d1 fNeg (d2 fIx (dVar 0) (dVar 2))))))
def zad : DF := runQ 3 3 d_sooner
def Q2 : DS :=
  (dRet (dVar 2))
def Q3 : DS :=
  dSeq (dFor (ZQ 3) [] (iSeq (Zl Ya (Zc (dVar 0) dNil)))
  (dSeq (dSet 4 [] (d2 fIx (d1 (fFld "rows") (dVar 0)) (dVar 3)))
  (dIf (tAnd (tV (d2 fLt (d2 fIx (dVar 4) (dVar 1)) (dC (.int 0)))) (tOr (tV (d1 fIsN (dVar 2))) (tV (Zl zad (Zc (dVar 4) (Zc (d2 fIx (d1 (fFld "rows") (dVar 0)) (dVar 2)) (Zc (dVar 1) dNil)))))))
  (dSet 2 [] (dVar 3))
  ZZ)))
  Q2
def za0 : DS :=
  dSeq (dSet 2 [] (dC .none))
  Q3
def WM : DF := runQ 5 2 za0
def zdv : DS :=
  (dRet (dL (YH 1 [2, 0, 1] (ZQ 0) (iRng (d1 fLen (d1 (fFld "heads") (dVar 0)))) tT (Zl Y2 (Zc (d2 fMul (dVar 1) (d2 fIx (d2 fIx (d1 (fFld "rows") (dVar 2)) (dVar 0)) (dVar 3))) (Zc (d1 (fFld "divisor") (dVar 2)) dNil))))))
def d_way_of : DS :=
  dSeq (dSet 2 [] (dIfE (tV (d2 fGt (d2 fIx (d2 fIx (d1 (fFld "rows") (dVar 0)) (Zl Xc (Zc (dVar 0) dNil))) (dVar 1)) (dC (.int 0)))) (dC (.int 1)) (d1 fNeg (dC (.int 1)))))
  zdv
def zac : DF := runQ 3 2 d_way_of
def zb8 : DS :=
  (dRet (dTup (Zc (dC (.str (PySem.Str.ofString "best"))) (Zc (Zl XI (Zc (dVar 0) dNil)) (Zc (Zl XT (Zc (dVar 0) (Zc (Zl Xc (Zc (dVar 0) dNil)) dNil))) dNil)))))
def zb9 : DS :=
  dSeq (Ju zbl (tV (d1 zaS (dVar 1)))
  (dSeq (dSet 2 [] (Zl WM (Zc (dVar 0) (Zc (dVar 1) dNil))))
  (dSeq (dIf (tV (d1 fIsN (dVar 2)))
  (dRet (dTup (Zc (dC (.str (PySem.Str.ofString "endless"))) (Zc (Zl XI (Zc (dVar 0) dNil)) (Zc (Zl zac (Zc (dVar 0) (Zc (dVar 1) dNil))) dNil)))))
  ZZ)
  (dSeq (dSet 0 [] (Zl Y1 (Zc (dVar 0) (Zc (dVar 2) (Zc (dVar 1) dNil)))))
  (dSet 1 [] (Zl Z2 (Zc (dVar 0) (Zc (Zl Xc (Zc (dVar 0) dNil)) dNil))))))))
  zb8
def zfs : DS :=
  dSeq (dSet 1 [] (Zl Z2 (Zc (dVar 0) (Zc (Zl Xc (Zc (dVar 0) dNil)) dNil))))
  zb9
def Qj : DF := runQ 3 1 zfs
def d_best_3 : DS :=
  (dRet (Zl Qj (Zc (d2 fIx (dVar 2) (dC (.int 0))) dNil)))
def d_best_2 : DS :=
  dSeq (dIf (tV (d1 zaS (d2 fIx (dVar 2) (dC (.int 1)))))
  (dRet (dTup (Zc (dC (.str (PySem.Str.ofString "clash"))) (Zc (Zl V2 (Zc (d2 fIx (dVar 2) (dC (.int 0))) (Zc (d2 fIx (dVar 2) (dC (.int 1))) dNil))) dNil))))
  ZZ)
  d_best_3
def d_best_1 : DS :=
  dSeq (dSet 2 [] (Zl Qh (Zc (dVar 0) (Zc (dVar 1) dNil))))
  d_best_2
def d_best : DS :=
  dSeq (QI (Zl WO (Zc (d2 fIx (dVar 0) (dC (.int 0))) (Zc (dVar 1) dNil))))
  d_best_1
def ze8 : DF := runF 3 2 d_best
def zfc : DS :=
  (dRet (dTup (Zc (d2 fIx (dVar 0) (dC (.int 0))) (Zc (d2 fAddU (zdH (d2 fIx (dVar 0) (dC (.int 1))) pNo (pAt (dVar 1))) (zdH (d2 fIx (dVar 0) (dC (.int 1))) (pAt (d2 fAdd (dVar 1) (dC (.int 1)))) pNo)) dNil))))
def WL : DF := runQ 2 2 zfc
def zai : DS :=
  (dRet (d2 fAdd (d2 fAdd (dL (oCut (dVar 0) pNo (pAt (dVar 1)))) (dLst (Zc (dTup (Zc (dC (.int 0)) (Zc (dC (.int 1)) dNil))) dNil))) (dL (oCut (dVar 0) (pAt (dVar 1)) pNo))))
def Xv : DF := runQ 2 2 zai
def d_moved : DS :=
  (dRet (dL (YH 2 [2] (VV 0 1) (iZip (iSeq (dVar 0)) (iSeq (dVar 1))) tT (Zl Qi (Zc (dVar 0) (Zc (Zl zbL (Zc (dVar 2) (Zc (dVar 1) dNil))) dNil))))))
def zbM : DF := runQ 3 3 d_moved
def UA : DS :=
  (dRet (Zl zbM (Zc (dVar 1) (Zc (dVar 2) (Zc (dVar 4) dNil)))))
def UB : DS :=
  dSeq (dSet 4 [] (Zl Qi (Zc (Zl ze6 (Zc (dVar 3) (Zc (Zl W6 (Zc (d2 fIx (dVar 0) (dC (.int 0))) (Zc (dVar 2) dNil))) dNil))) (Zc (dTup (Zc (dC (.int 1)) (Zc (dC (.int 1)) dNil))) dNil))))
  UA
def UC : DS :=
  dSeq (dIf (tV (Zl WD (Zc (dVar 3) (Zc (dTup (Zc (dC (.int 0)) (Zc (dC (.int 1)) dNil))) dNil))))
  (dRet (dVar 1))
  ZZ)
  UB
def Q0 : DS :=
  dSeq (dSet 3 [] (Zl ze7 (Zc (dTup (Zc (d2 fIx (dVar 0) (dC (.int 1))) (Zc (dC (.int 1)) dNil))) (Zc (Zl W6 (Zc (d2 fIx (dVar 0) (dC (.int 0))) (Zc (dVar 1) dNil))) dNil))))
  UC
def X7 : DF := runQ 5 3 Q0
def zfm : DS :=
  (dRet (dTup (Zc (dC (.str (PySem.Str.ofString "shares"))) (Zc (Zl Xv (Zc (d2 fIx (dVar 3) (dC (.int 2))) (Zc (dVar 1) dNil))) dNil))))
def zfn : DS :=
  dSeq (dIf (tV (Zl WD (Zc (dTup (Zc (d2 fIx (dVar 2) (dC (.int 1))) (Zc (dC (.int 1)) dNil))) (Zc (Zl W6 (Zc (d2 fIx (dVar 2) (dC (.int 0))) (Zc (d2 fIx (dVar 3) (dC (.int 1))) dNil))) dNil))))
  (dRet (dTup (Zc (dC (.str (PySem.Str.ofString "point"))) (Zc (d2 fIx (dVar 3) (dC (.int 1))) dNil))))
  ZZ)
  zfm
def zfo : DS :=
  dSeq (dIf (tV (d2 fEq (d2 fIx (dVar 3) (dC (.int 0))) (dC (.str (PySem.Str.ofString "endless")))))
  (dRet (dTup (Zc (dC (.str (PySem.Str.ofString "point"))) (Zc (Zl X7 (Zc (dVar 2) (Zc (d2 fIx (dVar 3) (dC (.int 1))) (Zc (d2 fIx (dVar 3) (dC (.int 2))) dNil)))) dNil))))
  ZZ)
  zfn
def zfp : DS :=
  dSeq (dIf (tV (d2 fEq (d2 fIx (dVar 3) (dC (.int 0))) (dC (.str (PySem.Str.ofString "clash")))))
  (dRet (dTup (Zc (dC (.str (PySem.Str.ofString "clash"))) (Zc (Zl Xv (Zc (d2 fIx (dVar 3) (dC (.int 1))) (Zc (dVar 1) dNil))) dNil))))
  ZZ)
  zfo
def zfq : DS :=
  dSeq (dSet 3 [] (Zl ze8 (Zc (Zl WL (Zc (dVar 0) (Zc (dVar 1) dNil))) (Zc (dL (oList (d2 fIx (dVar 2) (dC (.int 0))))) dNil))))
  zfp
def zfr : DS :=
  dSeq (dSet 2 [] (d2 fIx (d2 fIx (dVar 0) (dC (.int 1))) (dVar 1)))
  zfq
def d_cover : DS :=
  dSeq (QI (Zl Yf (Zc (d1 fLen (d2 fIx (dVar 0) (dC (.int 1)))) (Zc (dVar 1) dNil))))
  zfr
def zbP : DF := runF 4 2 d_cover
def zdC : DS :=
  (dRet (d2 fNe (d2 fIx (Zl zbP (Zc (dVar 0) (Zc (dVar 1) dNil))) (dC (.int 0))) (dC (.str (PySem.Str.ofString "point")))))
def V1 : DF := runF 2 2 zdC
def d_lean_2 : DS :=
  (dRet (dVar 0))
def d_lean_1 : DS :=
  dSeq (Ju u_lean_1 (tV (d2 fLt (dVar 1) (d1 fLen (d2 fIx (dVar 0) (dC (.int 1))))))
  (dIf (tV (Zl V1 (Zc (dVar 0) (Zc (dVar 1) dNil))))
  (dSet 0 [] (Zl WL (Zc (dVar 0) (Zc (dVar 1) dNil))))
  (dSet 1 [] (d2 fAdd (dVar 1) (dC (.int 1))))))
  d_lean_2
def d_lean : DS :=
  dSeq (dSet 1 [] (dC (.int 0)))
  d_lean_1
def zcI : DF := runF 2 1 d_lean
def d_others : DS :=
  (dRet (dJ (d2 fAdd (dL (oCut (dVar 0) pNo (pAt (dVar 1)))) (dL (oCut (dVar 0) (pAt (d2 fAdd (dVar 1) (dC (.int 1)))) pNo))) (d2 fAddU (zdH (dVar 0) pNo (pAt (dVar 1))) (zdH (dVar 0) (pAt (d2 fAdd (dVar 1) (dC (.int 1)))) pNo))))
def VC : DF := runQ 2 2 d_others
def zdD : DS :=
  (dRet (dTup (Zc (Zl VC (Zc (dVar 5) (Zc (dVar 2) dNil))) (Zc (d2 fAdd (d2 fMul (dVar 3) (d2 fIx (dVar 0) (dC (.int 1)))) (d2 fMul (dVar 4) (d2 fIx (dVar 1) (dC (.int 1))))) dNil))))
def zdE : DS :=
  dSeq (dSet 5 [] (dL (YH 2 [3, 4] (VV 0 1) (iZip (iSeq (d2 fIx (dVar 0) (dC (.int 0)))) (iSeq (d2 fIx (dVar 1) (dC (.int 0))))) tT (d2 fAdd (d2 fMul (dVar 2) (dVar 0)) (d2 fMul (dVar 3) (dVar 1))))))
  zdD
def zdF : DS :=
  dSeq (dSet 4 [] (d2 fIx (d2 fIx (dVar 0) (dC (.int 0))) (dVar 2)))
  zdE
def d_joined : DS :=
  dSeq (dSet 3 [] (d1 fNeg (d2 fIx (d2 fIx (dVar 1) (dC (.int 0))) (dVar 2))))
  zdF
def zaf : DF := runQ 6 3 d_joined
def Qs : DS :=
  (dRet (dVar 2))
def Qt : DS :=
  dSeq (dFor (ZQ 5) [] (iSeq (dVar 3))
  (dExt 2 (YH 1 [5, 1] (ZQ 0) (iSeq (dVar 4)) tT (Zl zaf (Zc (dVar 1) (Zc (dVar 0) (Zc (dVar 2) dNil)))))))
  Qs
def Qu : DS :=
  dSeq (dSet 4 [] (dL (YH 1 [1] (ZQ 0) (iSeq (dVar 0)) (tV (d2 fLt (d2 fIx (d2 fIx (dVar 0) (dC (.int 0))) (dVar 1)) (dC (.int 0)))) (dVar 0))))
  Qt
def Qv : DS :=
  dSeq (dSet 3 [] (dL (YH 1 [1] (ZQ 0) (iSeq (dVar 0)) (tV (d2 fGt (d2 fIx (d2 fIx (dVar 0) (dC (.int 0))) (dVar 1)) (dC (.int 0)))) (dVar 0))))
  Qu
def zao : DS :=
  dSeq (Vb 2 [] (YH 1 [1] (ZQ 0) (iSeq (dVar 0)) (tV (d2 fEq (d2 fIx (d2 fIx (dVar 0) (dC (.int 0))) (dVar 1)) (dC (.int 0)))) (dTup (Zc (Zl VC (Zc (d2 fIx (dVar 0) (dC (.int 0))) (Zc (dVar 1) dNil))) (Zc (d2 fIx (dVar 0) (dC (.int 1))) dNil)))))
  Qv
def WC : DF := runQ 6 2 zao
def Q4 : DS :=
  (dRet (d2 fMax (dVar 1) (dC (.int 1))))
def Q5 : DS :=
  dSeq (dFor (ZQ 2) [] (iSeq (dVar 0))
  (dSet 1 [] (Zl Yh (Zc (dVar 1) (Zc (dVar 2) dNil)))))
  Q4
def za2 : DS :=
  dSeq (dSet 1 [] (dC (.int 0)))
  Q5
def WN : DF := runQ 3 1 za2
def UD : DS :=
  (dRetD 1)
def UE : DS :=
  dSeq (dFor (ZQ 2) [] (iSeq (dVar 0))
  (dSeq (dSet 3 [] (Zl WN (Zc (d2 fIx (dVar 2) (dC (.int 0))) dNil)))
  (dSeq (dSet 4 [] (d1 Jr (dL (YH 1 [3] (ZQ 0) (iSeq (d2 fIx (dVar 2) (dC (.int 0)))) tT (d2 fDiv (dVar 0) (dVar 1))))))
  (dSeq (dSet 5 [] (Zl Y2 (Zc (d2 fIx (dVar 2) (dC (.int 1))) (Zc (dVar 3) dNil))))
  (dIfG (tOr (tV (zca 1 (dVar 4))) (tV (Zl WD (Zc (dVar 5) (Zc (dGetN 1 (dVar 4)) dNil)))))
  (dPutN 1 (dVar 4) (dVar 5))
  ZZ)))))
  UD
def Q1 : DS :=
  dSeq (dNewD 1)
  UE
def X8 : DF := runQ 6 1 Q1
def zaj : DS :=
  (dRet (dTup (Zc (d1 Jr (dL (YH 1 [1] (ZQ 0) (iSeq (dVar 0)) tT (d2 fMul (dVar 0) (d2 fIx (dVar 1) (dC (.int 1))))))) (Zc (d2 fIx (dVar 1) (dC (.int 0))) dNil))))
def WA : DF := runQ 2 2 zaj
def zb3 : DS :=
  (dRet (Zl zcI (Zc (dTup (Zc (d2 fSub (d2 fIx (dVar 0) (dC (.int 0))) (dC (.int 1))) (Zc (d1 Jr (dL (YH 1 [2] (ZQ 0) (iKeys (dVar 2)) tT (Zl WA (Zc (dVar 0) (Zc (d2 fGetD (dVar 1) (dVar 0)) dNil)))))) dNil))) dNil)))
def zb4 : DS :=
  dSeq (dSet 2 [] (Zl X8 (Zc (Zl WC (Zc (d2 fIx (Zl zcI (Zc (dVar 0) dNil)) (dC (.int 1))) (Zc (dVar 1) dNil))) dNil)))
  zb3
def QE : DS :=
  dSeq (dIf (tV (d2 fEq (d2 fIx (dVar 0) (dC (.int 0))) (dC (.int 1))))
  (X4 "NoPlace" (Zc (dC (.str (PySem.Str.ofString "a desk of one kind has no kinds but that"))) dNil))
  ZZ)
  zb4
def za1 : DS :=
  dSeq (QI (Zl Yf (Zc (d2 fIx (dVar 0) (dC (.int 0))) (Zc (dVar 1) dNil))))
  QE
def Xk : DF := runF 3 2 za1
def zbZ : DS :=
  dNev
def zb0 : DS :=
  dSeq dNev
  zbZ
def zaZ : DS :=
  dSeq (dIf (tV (d2 fNe (d2 fIx (dVar 0) (dC (.int 0))) (d2 fIx (dVar 1) (dC (.int 0)))))
  (X4 "Unlike" (Zc (dC (.str (PySem.Str.ofString "desks of as many kinds lie within one another"))) dNil))
  ZZ)
  zb0
def XU : DF := runF 4 2 zaZ
def zcM : DS :=
  (dRet (d1 fIsN (Zl XU (Zc (dVar 0) (Zc (dVar 1) dNil)))))
def UO : DF := runF 2 2 zcM
def VH : DS :=
  (dRet (Zl UO (Zc (dVar 1) (Zc (dVar 2) dNil))))
def WE : DS :=
  dSeq (dIf (tV (d2 fEq (dVar 0) (dC (.int 2))))
  (dRet (Zl XU (Zc (dVar 1) (Zc (dVar 2) dNil))))
  ZZ)
  VH
def Xx : DS :=
  dSeq (dIf (tV (d2 fEq (dVar 0) (dC (.int 1))))
  (dRet (Zl Xl (Zc (dVar 1) dNil)))
  ZZ)
  WE
def X0 : DS :=
  dSeq (dIf (tV (d2 fEq (dVar 0) (dC (.int 0))))
  (dRet (Zl Xk (Zc (dVar 1) (Zc (dC (.int 0)) dNil))))
  ZZ)
  Xx
def ZJ : DF := runF 3 3 X0
def Qw : DS :=
  (dRet (dC (.bool false)))
def Yr : DS :=
  dSeq (dTryA 4 (QI (Jv ZJ (Zc (dVar 0) (Zc (dVar 1) (Zc (dVar 2) dNil))))) (subs ["Unlike", "NoPlace", "NoGoal", "TooMany"])
  (dRet (d1 fIsX (dVar 4))))
  Qw
def Ys : DS :=
  dSeq (dIf (tV (d2 fNe (dVar 3) (d2 fIx (dLst (Zc (dC (.int 0)) (Zc (dC (.int 1)) (Zc (dC (.int 2)) (Zc (dC (.int 2)) dNil))))) (dVar 0))))
  (dRet (dC (.bool false)))
  ZZ)
  Yr
def Yt : DS :=
  dSeq (dTryM (QI (Jv ZJ (Zc (dVar 0) (Zc (dVar 1) (Zc (dVar 2) dNil))))) [((subs ["NoPlace"]), (subs ["Unlike", "NoGoal", "TooMany"]),
  (dSet 3 [] (dC (.int 0)))), ((subs ["TooMany"]), (subs ["Unlike", "NoGoal"]),
  (dSet 3 [] (dC (.int 1)))), ((subs ["Unlike"]), (subs ["NoGoal"]),
  (dSet 3 [] (dC (.int 2))))])
  Ys
def Y4 : DS :=
  dSeq (dSet 3 [] (d1 fNeg (dC (.int 1))))
  Yt
def ZB : DF := runQ 5 3 Y4
def Wc : DS :=
  (dRet (dVar 3))
def Ve : DS :=
  dSeq (dFor (ZQ 4) [] (iRng (dVar 2))
  (dSeq (dSet 5 [] (dL (YH 1 [0, 4, 1] (ZQ 0) (iRng (d2 fAdd (dVar 1) (dC (.int 1)))) tT (Zl Yc (Zc (Zl Zt (Zc (dVar 1) (Zc (d2 fAdd (d2 fAdd (dC (.int 5)) (d2 fMul (dVar 2) (d2 fAdd (dVar 3) (dC (.int 1))))) (dVar 0)) dNil))) (Zc (dC (.int 3)) dNil))))))
  (dApp 3 [] (dTup (Zc (dL (oCut (dVar 5) pNo (pAt (dVar 1)))) (Zc (d2 fIx (dVar 5) (dVar 1)) dNil))))))
  Wc
def Uo : DS :=
  dSeq (Vb 3 [] (oLst dNil))
  Ve
def Yd : DF := runQ 6 3 Uo
def d_law_11 : DS :=
  (dRet (Zl ZB (Zc (dC (.int 1)) (Zc (dVar 4) (Zc (dC .none) dNil)))))
def zcN : DS :=
  dSeq (dIf (tV (d2 fLe (d1 fLen (d2 fIx (dVar 4) (dC (.int 1)))) (dC (.int 12))))
  (dRet (d1 (fIs isList) (Zl Xl (Zc (dVar 4) dNil))))
  ZZ)
  d_law_11
def zb1 : DS :=
  dSeq (dSet 4 [6] (Zl Xk (Zc (Zl Yq (Zc (dC (.int 2)) (Zc (dVar 6) dNil))) (Zc (dC (.int 0)) dNil))))
  zcN
def Qx : DS :=
  dSeq (dIf (tV (d2 fEq (d2 fMod (Zl Zt (Zc (dVar 0) (Zc (dC (.int 4)) dNil))) (dC (.int 2))) (dC (.int 1))))
  (dSeq (Vb 6 [] (oCat (dL (YH 1 [] (ZQ 0) (iRng (dC (.int 3))) tT (dTup (Zc (dLst (Zc (dC (.int 1)) (Zc (dVar 0) dNil))) (Zc (dVar 0) dNil))))) (dL (YH 1 [] (ZQ 0) (iRng (dC (.int 4))) tT (dTup (Zc (dLst (Zc (d1 fNeg (dC (.int 1))) (Zc (dVar 0) dNil))) (Zc (d2 fSub (dC (.int 1)) (dVar 0)) dNil)))))))
  (Vb 6 [6] (oCat (dVar 6) (dL (YH 1 [] (ZQ 0) (iRng (d2 fMod (d2 fDiv (Zl Zt (Zc (dVar 0) (Zc (dC (.int 4)) dNil))) (dC (.int 2))) (dC (.int 3)))) tT (dTup (Zc (dLst (Zc (dC (.int 0)) (Zc (dC (.int 1)) dNil))) (Zc (dVar 0) dNil))))))))
  ZZ)
  zb1
def zfg : DS :=
  dSeq (dFor (ZQ 7) [] (iRng (d2 fAdd (dC (.int 2)) (d2 fMod (Zl Zt (Zc (dVar 0) (Zc (dC (.int 3)) dNil))) (dC (.int 4)))))
  (dSeq (dApp 6 [] (dTup (Zc (dLst (Zc (dC (.int 1)) (Zc (d2 fSub (d2 fMod (dVar 7) (dC (.int 3))) (dC (.int 1))) dNil))) (Zc (dVar 7) dNil))))
  (dApp 6 [] (dTup (Zc (dLst (Zc (d1 fNeg (dC (.int 1))) (Zc (d2 fMod (dVar 7) (dC (.int 2))) dNil))) (Zc (d2 fMul (dC (.int 2)) (dVar 7)) dNil))))))
  Qx
def zfh : DS :=
  dSeq (Vb 6 [] (oLst dNil))
  zfg
def zb2 : DS :=
  dSeq (dIf (tV (d2 fEq (d2 fMod (Zl Zt (Zc (dVar 0) (Zc (dC (.int 3)) dNil))) (dC (.int 3))) (dC (.int 0))))
  (dRet (Zl ZB (Zc (dC (.int 1)) (Zc (Zl Yq (Zc (dC (.int 4)) (Zc (Zl Yd (Zc (dVar 0) (Zc (dC (.int 4)) (Zc (dVar 3) dNil)))) dNil))) (Zc (dC .none) dNil)))))
  ZZ)
  zfh
def Qy : DS :=
  dSeq (dIf (tV (d2 fGt (dVar 1) (dC (.int 1))))
  (dSeq (dSet 4 [] (Zl Yq (Zc (dVar 2) (Zc (Zl Yd (Zc (dVar 0) (Zc (dVar 2) (Zc (dVar 3) dNil)))) dNil))))
  (dSeq (dSet 5 [] (Zl Yq (Zc (d2 fAdd (dVar 2) (dC (.int 1))) (Zc (Zl Yd (Zc (dVar 0) (Zc (d2 fAdd (dVar 2) (dC (.int 1))) (Zc (d2 fDiv (dVar 3) (dC (.int 2))) dNil)))) dNil))))
  (dRet (zdI (Zl ZB (Zc (dVar 1) (Zc (dVar 4) (Zc (dVar 5) dNil)))) (Zl ZB (Zc (dVar 1) (Zc (dVar 5) (Zc (dVar 4) dNil))))))))
  ZZ)
  zb2
def WQ : DS :=
  dSeq (dIf (tV (d2 fEq (dVar 1) (dC (.int 0))))
  (dRet (Zl ZB (Zc (dC (.int 0)) (Zc (Zl Yq (Zc (dC (.int 1)) (Zc (Zl Yd (Zc (dVar 0) (Zc (dC (.int 1)) (Zc (dVar 3) dNil)))) dNil))) (Zc (dC .none) dNil)))))
  ZZ)
  Qy
def zfi : DS :=
  dSeq (dSet 3 [] (d2 fMod (Zl Zt (Zc (dVar 0) (Zc (dC (.int 2)) dNil))) (dC (.int 8))))
  WQ
def zfj : DS :=
  dSeq (dSet 2 [] (d2 fAdd (dC (.int 1)) (d2 fMod (Zl Zt (Zc (dVar 0) (Zc (dC (.int 1)) dNil))) (dC (.int 3)))))
  zfi
def d_law : DS :=
  dSeq (dSet 1 [] (d2 fMod (Zl Zt (Zc (dVar 0) (Zc (dC (.int 0)) dNil))) (dC (.int 4))))
  zfj
def zdq : DF := runQ 8 1 d_law
end K22
namespace K22
open PySem Fx Lw
theorem XX (i j : Int) : fEq (.int i) (.int j) = .ok (.bool (decide (i = j))) := by simp [fEq]
theorem Qk (i j : Int) : fNe (.int i) (.int j) = .ok (.bool (!decide (i = j))) := by simp [fNe]
abbrev Vl (K : Nat) (ls : List Lim) : PyData := .tuple [.int K, .tuple (ls.map limT)]
theorem limit_ok {k w : Nat} {l : Lim} (h : LimOk k w l) (hw : w <= 999999999999) (hk : k <= 1000) : XJ [.int k, limL l] = .ok (limT l) := by
 have e := zaq (st := ZQ 0) (e := (Zl YN (Zc (dVar 0) dNil))) (C := [.emp]) PyData.int (fun _ => PyData.bool true) l.1 fun x hx => ⟨[.val (.int x)], rfl, by simp [zcF (Nat.le_trans (h.ws x hx) hw)]⟩
 have hl : l.1.length <= 16777216 := by rw [h.len]; omega
 have hb := zcF (Nat.le_trans h.bd hw)
 have a := zbi l.1
 obtain rfl := h.len
 simp [XJ, runF, Js, Um, Ul, Uk, Uj, Ui, Uh, limL, limT, at0, at1, fNe, hl, e, hb, a]
theorem W7 {k w : Nat} {ls : List Lim} (h : ∀ l ∈ ls, LimOk k w l) (hw : w <= 999999999999) (hk : 1 <= k /\ k <= 4) (hl : ls.length <= 10) : Yq [.int k, .list (ls.map limL)] = .ok (Vl k ls) := by
 have e := zaq (st := ZQ 0) (e := (Zl XJ (Zc (dVar 1) (Zc (dVar 0) dNil)))) (C := [.emp, .val (.int k)]) limL limT ls fun l hm => ⟨[.val (limL l), .val (.int k)], rfl, by simp [limit_ok (h l hm) hw (by omega)]⟩
 have h1 : ¬ ((k : Int) < 1) := by omega
 have h2 : ¬ (4 < (k : Int)) := by omega
 have h3 : ¬ (10 < (ls.length : Int)) := by omega
 have h4 : ls.length <= 16777216 := by omega
 simp [Yq, runF, za3, QG, QF, UQ, h1, h2, h3, h4, e]
theorem cut_lo {xs : List PyData} {p : Nat} (h : p <= xs.length) : cutT xs none (some (p : Int)) = xs.take p := by
 have h1 : ¬ ((p : Int) < 0) := by omega
 simp only [cutT, sIxT, if_neg h1]
 simp [Nat.min_eq_left h]
theorem JY {i j : Int} (h : i.natAbs < 18446744073709551616) : Va i j = true := by simp [Va, h]
theorem zcP (ns : List Int) (a : Nat) (g2 g3 : Int) (hg : 5 + g2 * (g3 + 1) = (a : Int)) (hm : Va g2 (g3 + 1) = true) : ∀ (ks : List Nat), ∃ rs : List Int, Y7 (ZQ 0) tT (Zl Yc (Zc (Zl Zt (Zc (dVar 1) (Zc (d2 fAdd (d2 fAdd (dC (.int 5)) (d2 fMul (dVar 2) (d2 fAdd (dVar 3) (dC (.int 1))))) (dVar 0)) dNil))) (Zc (dC (.int 3)) dNil)))
  [.emp, .val (.list (ns.map .int)), .val (.int g2), .val (.int g3)] (ks.map fun (k : Nat) => PyData.int (k : Int)) = .ok (rs.map .int) /\ rs.length = ks.length /\ ∀ x ∈ rs, x.natAbs <= 3
 | [] => ⟨[], rfl, rfl, by simp⟩
 | k :: ks => by
  obtain ⟨rs, e, hl, hb⟩ := zcP ns a g2 g3 hg hm ks
  obtain ⟨c, e1⟩ := Ua ns ((a : Int) + (k : Int)) (by omega)
  obtain ⟨r, e2, h1, h2⟩ := zeI c 3 (by omega) (by decide)
  refine ⟨r :: rs, ?_, by simp [hl], ?_⟩
  ·rw [List.map_cons]
   unfold Y7
   simp [hm, hg, e1, e2, e]
  ·intro x hx
   rcases List.mem_cons.mp hx with rfl | hx
   ·omega
   ·exact hb x hx
def bRow : DS := (dSeq (dSet 5 [] (dL (YH 1 [0, 4, 1] (ZQ 0) (iRng (d2 fAdd (dVar 1) (dC (.int 1)))) tT (Zl Yc (Zc (Zl Zt (Zc (dVar 1) (Zc (d2 fAdd (d2 fAdd (dC (.int 5)) (d2 fMul (dVar 2) (d2 fAdd (dVar 3) (dC (.int 1))))) (dVar 0)) dNil))) (Zc (dC (.int 3)) dNil))))))
  (dApp 3 [] (dTup (Zc (dL (oCut (dVar 5) pNo (pAt (dVar 1)))) (Zc (d2 fIx (dVar 5) (dVar 1)) dNil)))))
theorem row_step (ns : List Int) (k many i : Nat) (hk : k <= 4) (hi : i < 100) (xs : List PyData) (hx : xs.length < 100) (s5 : Sl) : ∃ (l : Lim) (s5' : Sl), LimOk k 3 l /\
  bRow [.val (.list (ns.map .int)), .val (.int k), .val (.int many), .own xs, .val (.int i), s5] = .ok (.nx [.val (.list (ns.map .int)), .val (.int k), .val (.int many), .own (xs ++ [limL l]), .val (.int i), s5']) := by
 obtain ⟨a, ea⟩ : ∃ a : Nat, (5 : Int) + (i : Int) * ((k : Int) + 1) = (a : Int) := ⟨5 + i * (k + 1), by simp⟩
 have m1 : Va (i : Int) ((k : Int) + 1) = true := JY (by omega)
 obtain ⟨rs, e, hl, hb⟩ := zcP ns a i k ea m1 (List.range (k + 1))
 rw [<- rngT_map] at e
 have hlen : rs.length = k + 1 := by simpa using hl
 have hk2 := Vy (n := k + 1) (by omega)
 rw [show ((k + 1 : Nat) : Int) = (k : Int) + 1 by omega] at hk2
 have ht : ((k : Int) + 1).toNat = k + 1 := by omega
 have hr : (rngT 0 (k + 1)).length <= 16777216 := by rw [JL]; omega
 have c1 := cut_lo (xs := rs.map .int) (p := k) (by simp; omega)
 have i1 : atP (rs.map .int) (k : Int) = some (.int rs[k]) := atP_map (by omega)
 have hxl : xs.length < 16777216 := by omega
 refine ⟨(rs.take k, rs[k]), .val (.list (rs.map .int)), ⟨by simp; omega, fun x hx => hb x (List.mem_of_mem_take hx), hb _ (List.getElem_mem _)⟩, ?_⟩
 have c2 : (rs.map PyData.int).take k = (rs.take k).map .int := by simp
 rw [c2] at c1
 generalize rs.take k = rt at *
 generalize rs[k] = rk at *
 unfold bRow
 simp only [dSeq, dSet_nil, d2, dC, dVar, Res.bind_ok, dL, YH, iRng, capS, List.map_cons, List.map_nil]
 simp [hk2, ht, hr, e, c1, i1, hxl, limL]
theorem VA (ns : List Int) (k many : Nat) (hk : k <= 4) (hm : many <= 10) : ∃ ls : List Lim, ls.length = many /\ (∀ l ∈ ls, LimOk k 3 l) /\ Yd [.list (ns.map .int), .int k, .int many] = .ok (.list (ls.map limL)) := by
 obtain ⟨G', e, ls, s4, s5, hl, hb, rfl⟩ := for_rng (st := ZQ 4) (b := bRow) (n := many) (G := [.val (.list (ns.map .int)), .val (.int k), .val (.int many), .own [], .emp, .emp])
  (fun i G => ∃ (ls : List Lim) (s4 s5 : Sl), ls.length = i /\ (∀ l ∈ ls, LimOk k 3 l) /\ G = [.val (.list (ns.map .int)), .val (.int k), .val (.int many), .own (ls.map limL), s4, s5])
  ⟨[], .emp, .emp, rfl, by simp, rfl⟩ fun i G hi ⟨ls, s4, s5, hl, hb, hG⟩ => by
   subst hG
   obtain ⟨l, s5', hlk, e⟩ := row_step ns k many i hk (by omega) (ls.map limL) (by rw [List.length_map]; omega) s5
   refine ⟨_, rfl, _, .inl e, ls ++ [l], .val (.int i), s5', by simp [hl], ?_, by simp⟩
   intro l' hl'
   rcases List.mem_append.mp hl' with h | h
   ·exact hb l' h
   ·simp at h; subst h; exact hlk
 refine ⟨ls, hl, hb, ?_⟩
 have h2 := Vy (n := many) (by omega)
 have hd : Ve = dSeq (dFor (ZQ 4) [] (iRng (dVar 2)) bRow) Wc := rfl
 simp [Yd, Uo, hd, Wc, runQ, runF, h2, e]
section
variable {K M : Nat} {ls os : List Lim} {t : PyData}
theorem asked0 : ZJ [.int 0, Vl 1 ls, t] = .exc "NoPlace" := by
 have h1 : Yf [.int 1, .int 0] = .ok .none := by simp [Yf, VM, runF, UQ]
 simp [ZJ, X0, runF, XX, Xk, za1, QE, at0, h1]
theorem asked1 : ZJ [.int 1, Vl 4 ls, t] = .exc "TooMany" := by
 simp [ZJ, X0, Xx, runF, XX, Xl, za4, at0]
theorem out_no (h : K ≠ M) : XU [Vl K ls, Vl M os] = .exc "Unlike" := by
 have h' : ¬ ((K : Int) = (M : Int)) := by omega
 simp [XU, zaZ, runF, at0, Qk, h']
theorem asked2 (h : K ≠ M) : ZJ [.int 2, Vl K ls, Vl M os] = .exc "Unlike" := by
 have e := out_no (ls := ls) (os := os) h
 simp only [Vl] at e ⊢
 simp [ZJ, X0, Xx, WE, runF, XX, e]
theorem asked3 (h : K ≠ M) : ZJ [.int 3, Vl K ls, Vl M os] = .exc "Unlike" := by
 have e := out_no (ls := ls) (os := os) h
 simp only [Vl] at e ⊢
 simp [ZJ, X0, Xx, WE, VH, runF, XX, UO, zcM, e]
end
theorem s_pp : subs ["NoPlace"] ("NoPlace" : Str) = true := by decide +kernel
theorem s_pt : subs ["NoPlace"] ("TooMany" : Str) = false := by decide +kernel
theorem s_pu : subs ["NoPlace"] ("Unlike" : Str) = false := by decide +kernel
theorem s_tt : subs ["TooMany"] ("TooMany" : Str) = true := by decide +kernel
theorem s_tu : subs ["TooMany"] ("Unlike" : Str) = false := by decide +kernel
theorem s_uu : subs ["Unlike"] ("Unlike" : Str) = true := by decide +kernel
theorem s_3t : subs ["Unlike", "NoGoal", "TooMany"] ("TooMany" : Str) = true := by decide +kernel
theorem s_3u : subs ["Unlike", "NoGoal", "TooMany"] ("Unlike" : Str) = true := by decide +kernel
theorem s_2u : subs ["Unlike", "NoGoal"] ("Unlike" : Str) = true := by decide +kernel
theorem s_4p : subs ["Unlike", "NoPlace", "NoGoal", "TooMany"] ("NoPlace" : Str) = true := by decide +kernel
theorem s_4t : subs ["Unlike", "NoPlace", "NoGoal", "TooMany"] ("TooMany" : Str) = true := by decide +kernel
theorem s_4u : subs ["Unlike", "NoPlace", "NoGoal", "TooMany"] ("Unlike" : Str) = true := by decide +kernel
theorem refused0 {a b : PyData} (e : ZJ [.int 0, a, b] = .exc "NoPlace") : ZB [.int 0, a, b] = .ok (.bool true) := by
 have n := Qk 0 0
 have i : atP [.int 0, .int 1, .int 2, .int 2] 0 = some (.int 0) := rfl
 simp [ZB, Y4, Yt, Ys, Yr, runQ, runF, e, s_pp, s_4p, n, i, -subs]
theorem refused1 {a b : PyData} (e : ZJ [.int 1, a, b] = .exc "TooMany") : ZB [.int 1, a, b] = .ok (.bool true) := by
 have n := Qk 1 1
 have i : atP [.int 0, .int 1, .int 2, .int 2] 1 = some (.int 1) := rfl
 simp [ZB, Y4, Yt, Ys, Yr, runQ, runF, e, s_pt, s_3t, s_tt, s_4t, n, i, -subs]
theorem zct {a b : PyData} (e : ZJ [.int 2, a, b] = .exc "Unlike") : ZB [.int 2, a, b] = .ok (.bool true) := by
 have n := Qk 2 2
 have i : atP [.int 0, .int 1, .int 2, .int 2] 2 = some (.int 2) := rfl
 simp [ZB, Y4, Yt, Ys, Yr, runQ, runF, e, s_pu, s_3u, s_tu, s_2u, s_uu, s_4u, n, i, -subs]
theorem zcs {a b : PyData} (e : ZJ [.int 3, a, b] = .exc "Unlike") : ZB [.int 3, a, b] = .ok (.bool true) := by
 have n := Qk 2 2
 have i : atP [.int 0, .int 1, .int 2, .int 2] 3 = some (.int 2) := rfl
 simp [ZB, Y4, Yt, Ys, Yr, runQ, runF, e, s_pu, s_3u, s_tu, s_2u, s_uu, s_4u, n, i, -subs]
def chk (L : PyData) : Bool :=
 match Yq [.int 2, L] with
 | .ok D => match Xk [D, .int 0] with
  | .ok (.tuple [k, .tuple os]) => Xi (.tuple [k, .tuple os]) && decide (os.length <= 12) && (match Xl [.tuple [k, .tuple os]] with
   | .ok (.list _) => true
   | _ => false)
  | _ => false
 | _ => false
theorem chk_ok {L : PyData} (h : chk L = true) : ∃ D k os xs, Yq [.int 2, L] = .ok D /\ Xk [D, .int 0] = .ok (.tuple [k, .tuple os]) /\ Xi (.tuple [k, .tuple os]) = true /\ os.length <= 12 /\ Xl [.tuple [k, .tuple os]] = .ok (.list xs) := by
 unfold chk at h
 split at h
 ·rename_i D e1
  split at h
  ·rename_i k os e2
   simp only [Bool.and_eq_true, decide_eq_true_eq] at h
   obtain ⟨⟨h1, h2⟩, h3⟩ := h
   split at h3
   ·rename_i xs e3
    exact ⟨D, k, os, xs, e1, e2, h1, h2, e3⟩
   ·cases h3
  ·cases h
 ·cases h
theorem zdZ {L : List PyData} (h : chk (.list L) = true) {a0 a1 a2 a3 : PyData} {s4 s5 s7 : Sl} : zb1 [.val a0, .val a1, .val a2, .val a3, s4, s5, .own L, s7] = .ok (.rt (.bool true)) := by
 obtain ⟨D, k, os, xs, e1, e2, h1, h2, e3⟩ := chk_ok h
 have h4 : (os.length : Int) <= 12 := by omega
 simp [zb1, zcN, e1, e2, h1, at1, h4, e3]
abbrev two (a b c : Int) : PyData := .tuple [.list [.int a, .int b], .int c]
def bF : DS := (dSeq (dApp 6 [] (dTup (Zc (dLst (Zc (dC (.int 1)) (Zc (d2 fSub (d2 fMod (dVar 7) (dC (.int 3))) (dC (.int 1))) dNil))) (Zc (dVar 7) dNil))))
  (dApp 6 [] (dTup (Zc (dLst (Zc (d1 fNeg (dC (.int 1))) (Zc (d2 fMod (dVar 7) (dC (.int 2))) dNil))) (Zc (d2 fMul (dC (.int 2)) (dVar 7)) dNil)))))
def M2 : List PyData := [two 1 (-1) 0, two (-1) 0 0, two 1 0 1, two (-1) 1 2]
def M3 : List PyData := M2 ++ [two 1 1 2, two (-1) 0 4]
def M4 : List PyData := M3 ++ [two 1 (-1) 3, two (-1) 1 6]
def M5 : List PyData := M4 ++ [two 1 0 4, two (-1) 0 8]
def N0 : List PyData := [two 1 0 0, two 1 1 1, two 1 2 2, two (-1) 0 1, two (-1) 1 0, two (-1) 2 (-1), two (-1) 3 (-2)]
def N1 : List PyData := N0 ++ [two 0 1 0]
def N2 : List PyData := N1 ++ [two 0 1 1]
theorem c_M2 : chk (.list M2) = true := by decide +kernel
theorem c_M3 : chk (.list M3) = true := by decide +kernel
theorem c_M4 : chk (.list M4) = true := by decide +kernel
theorem c_M5 : chk (.list M5) = true := by decide +kernel
theorem c_N0 : chk (.list N0) = true := by decide +kernel
theorem c_N1 : chk (.list N1) = true := by decide +kernel
theorem c_N2 : chk (.list N2) = true := by decide +kernel
section
variable {a0 a1 a2 a3 : PyData} {s4 s5 : Sl}
theorem bF_ok {xs : List PyData} {k : Int} (hx : xs.length < 100) (hk : k.natAbs < 100) : bF [.val a0, .val a1, .val a2, .val a3, s4, s5, .own xs, .val (.int k)] = .ok (.nx [.val a0, .val a1, .val a2, .val a3, s4, s5, .own (xs ++ [two 1 (Int.fmod k 3 - 1) k] ++ [two (-1) (Int.fmod k 2) (2 * k)]), .val (.int k)]) := by
 have h1 : xs.length < 16777216 := by omega
 have h2 : xs.length + 1 < 16777216 := by omega
 have m : Va 2 k = true := JY (by decide)
 simp [bF, h1, h2, m]
theorem loop_ok (r : Nat) (hr : r < 4) : ∃ (L : List PyData) (s7 : Sl), forL (ZQ 7) bF (rngT 0 (2 + r)) [.val a0, .val a1, .val a2, .val a3, s4, s5, .own [], .emp] = .ok (.nx [.val a0, .val a1, .val a2, .val a3, s4, s5, .own L, s7]) /\ chk (.list L) = true := by
 have st : ∀ (xs : List PyData) (k : Int) (ts : List PyData) (s : Sl), xs.length < 100 -> k.natAbs < 100 -> forL (ZQ 7) bF (.int k :: ts) [.val a0, .val a1, .val a2, .val a3, s4, s5, .own xs, s] = forL (ZQ 7) bF ts [.val a0, .val a1, .val a2, .val a3, s4, s5, .own (xs ++ [two 1 (Int.fmod k 3 - 1) k] ++ [two (-1) (Int.fmod k 2) (2 * k)]), .val (.int k)] := fun xs k ts s hx hk => by
  rw [forL]
  simp only [ZQ, List.set, Res.bind_ok, bF_ok hx hk]
 rcases (show r = 0 \/ r = 1 \/ r = 2 \/ r = 3 by omega) with rfl | rfl | rfl | rfl
 ·refine ⟨M2, .val (.int 1), ?_, c_M2⟩
  show forL (ZQ 7) bF [.int 0, .int 1] _ = _
  rw [st _ _ _ _ (by simp) (by decide), st _ _ _ _ (by simp) (by decide)]
  rfl
 ·refine ⟨M3, .val (.int 2), ?_, c_M3⟩
  show forL (ZQ 7) bF [.int 0, .int 1, .int 2] _ = _
  rw [st _ _ _ _ (by simp) (by decide), st _ _ _ _ (by simp) (by decide), st _ _ _ _ (by simp) (by decide)]
  rfl
 ·refine ⟨M4, .val (.int 3), ?_, c_M4⟩
  show forL (ZQ 7) bF [.int 0, .int 1, .int 2, .int 3] _ = _
  rw [st _ _ _ _ (by simp) (by decide), st _ _ _ _ (by simp) (by decide), st _ _ _ _ (by simp) (by decide), st _ _ _ _ (by simp) (by decide)]
  rfl
 ·refine ⟨M5, .val (.int 4), ?_, c_M5⟩
  show forL (ZQ 7) bF [.int 0, .int 1, .int 2, .int 3, .int 4] _ = _
  rw [st _ _ _ _ (by simp) (by decide), st _ _ _ _ (by simp) (by decide), st _ _ _ _ (by simp) (by decide), st _ _ _ _ (by simp) (by decide), st _ _ _ _ (by simp) (by decide)]
  rfl
end
theorem three_ok : Y7 (ZQ 0) tT (dTup (Zc (dLst (Zc (dC (.int 1)) (Zc (dVar 0) dNil))) (Zc (dVar 0) dNil))) [.emp] (rngT 0 3) = .ok [two 1 0 0, two 1 1 1, two 1 2 2] := rfl
theorem four_ok : Y7 (ZQ 0) tT (dTup (Zc (dLst (Zc (d1 fNeg (dC (.int 1))) (Zc (dVar 0) dNil))) (Zc (d2 fSub (dC (.int 1)) (dVar 0)) dNil))) [.emp] (rngT 0 4) = .ok [two (-1) 0 1, two (-1) 1 0, two (-1) 2 (-1), two (-1) 3 (-2)] := rfl
theorem some_ok (r : Nat) (hr : r < 3) : ∃ L : List PyData, Y7 (ZQ 0) tT (dTup (Zc (dLst (Zc (dC (.int 0)) (Zc (dC (.int 1)) dNil))) (Zc (dVar 0) dNil))) [.emp] (rngT 0 r) = .ok L /\ L.length <= 3 /\ chk (.list (N0 ++ L)) = true := by
 rcases (show r = 0 \/ r = 1 \/ r = 2 by omega) with rfl | rfl | rfl
 ·exact ⟨[], rfl, by decide, c_N0⟩
 ·exact ⟨[two 0 1 0], rfl, by decide, c_N1⟩
 ·exact ⟨[two 0 1 0, two 0 1 1], rfl, by decide, c_N2⟩
theorem div2 : zdr 2 = true := by decide
theorem rng3 : Uu 3 = true := by decide
theorem rng4 : Uu 4 = true := by decide
theorem law_ok (ns : List Int) (_hl : ns.length <= 63) : zdq [.list (ns.map .int)] = .ok (.bool true) := by
 obtain ⟨c0, e0⟩ := Ua ns 0 (by omega)
 obtain ⟨c1, e1⟩ := Ua ns 1 (by omega)
 obtain ⟨c2, e2⟩ := Ua ns 2 (by omega)
 obtain ⟨c3, e3⟩ := Ua ns 3 (by omega)
 obtain ⟨c4, e4⟩ := Ua ns 4 (by omega)
 obtain ⟨r0, m0, h0⟩ : ∃ r : Nat, Int.fmod c0 4 = (r : Int) /\ r < 4 := U8 (n := 4) (by decide)
 obtain ⟨r1, m1, h1⟩ : ∃ r : Nat, Int.fmod c1 3 = (r : Int) /\ r < 3 := U8 (n := 3) (by decide)
 obtain ⟨r2, m2, h2⟩ : ∃ r : Nat, Int.fmod c2 8 = (r : Int) /\ r < 8 := U8 (n := 8) (by decide)
 obtain ⟨q3, n3, i3⟩ : ∃ r : Nat, Int.fmod c3 3 = (r : Int) /\ r < 3 := U8 (n := 3) (by decide)
 obtain ⟨r3, m3, h3⟩ : ∃ r : Nat, Int.fmod c3 4 = (r : Int) /\ r < 4 := U8 (n := 4) (by decide)
 obtain ⟨r4, m4, h4⟩ : ∃ r : Nat, Int.fmod c4 2 = (r : Int) /\ r < 2 := U8 (n := 2) (by decide)
 obtain ⟨q4, n4, i4⟩ : ∃ r : Nat, Int.fmod (Int.fdiv c4 2) 3 = (r : Int) /\ r < 3 := U8 (n := 3) (by decide)
 have top : ∀ t : PyData, WQ [.val (.list (ns.map .int)), .val (.int r0), .val (.int (1 + (r1 : Int))), .val (.int r2), .emp, .emp, .emp, .emp] = .ok (.rt t) -> zdq [.list (ns.map .int)] = .ok t := fun t ht => by
  simp [zdq, runQ, runF, d_law, zfj, zfi, e0, e1, e2, m0, m1, m2, ht]
 refine top _ ?_
 by_cases z0 : r0 = 0
 ·subst z0
  obtain ⟨ls, l1, l2, e5⟩ := VA ns 1 r2 (by decide) (by omega)
  have e6 := W7 l2 (by decide) (by decide) (by omega)
  have e7 := refused0 (asked0 (ls := ls) (t := .none))
  rw [show ((1 : Nat) : Int) = 1 from rfl] at e5 e6
  simp only [Vl] at e6 e7
  simp [WQ, XX, e5, e6]
  exact e7 ▸ rfl
 ·have y0 : ¬ ((r0 : Int) = 0) := by omega
  by_cases z1 : r0 = 1
  ·subst z1
   by_cases zq : q3 = 0
   ·subst zq
    obtain ⟨ls, l1, l2, e5⟩ := VA ns 4 r2 (by decide) (by omega)
    have e6 := W7 l2 (by decide) (by decide) (by omega)
    have e7 := refused1 (asked1 (ls := ls) (t := .none))
    rw [show ((4 : Nat) : Int) = 4 from rfl] at e5 e6
    simp only [Vl] at e6 e7
    simp [WQ, Qy, zb2, XX, e3, n3, e5, e6]
    exact e7 ▸ rfl
   ·have yq : ¬ ((q3 : Int) = 0) := by omega
    obtain ⟨L, s7, eL, cL⟩ := loop_ok (a0 := .list (ns.map .int)) (a1 := .int 1) (a2 := .int (1 + (r1 : Int))) (a3 := .int r2) (s4 := .emp) (s5 := .emp) r3 h3
    have hr := Vy (n := 2 + r3) (by omega)
    rw [show ((2 + r3 : Nat) : Int) = 2 + (r3 : Int) by omega] at hr
    have ht : (2 + (r3 : Int)).toNat = 2 + r3 := by omega
    have hd : zfg = dSeq (dFor (ZQ 7) [] (iRng (d2 fAdd (dC (.int 2)) (d2 fMod (Zl Zt (Zc (dVar 0) (Zc (dC (.int 3)) dNil))) (dC (.int 4))))) bF) Qx := rfl
    have mid : ∀ t : PyData, Qx [.val (.list (ns.map .int)), .val (.int 1), .val (.int (1 + (r1 : Int))), .val (.int r2), .emp, .emp, .own L, s7] = .ok (.rt t) -> WQ [.val (.list (ns.map .int)), .val (.int (1 : Nat)), .val (.int (1 + (r1 : Int))), .val (.int r2), .emp, .emp, .emp, .emp] = .ok (.rt t) := fun t ht' => by
     simp [WQ, Qy, zb2, zfh, hd, XX, e3, n3, zq, m3, hr, ht, eL, ht']
    refine mid _ ?_
    by_cases z4 : r4 = 1
    ·subst z4
     obtain ⟨L2, f1, f2, f3⟩ := some_ok q4 i4
     have hq := Vy (n := q4) (by omega)
     have tl := zdZ (L := N0 ++ L2) f3 (a0 := .list (ns.map .int)) (a1 := .int 1) (a2 := .int (1 + (r1 : Int))) (a3 := .int r2) (s4 := .emp) (s5 := .emp) (s7 := s7)
     have hl3 : (rngT 0 3).length <= 16777216 := by decide
     have hl4 : (rngT 0 4).length <= 16777216 := by decide
     have hlq : (rngT 0 q4).length <= 16777216 := by rw [JL]; omega
     have hs : 7 + L2.length <= 16777216 := by omega
     simp only [N0] at tl
     simp [Qx, e4, m4, n4, XX, div2, rng3, rng4, hq, hl3, hl4, hlq, three_ok, four_ok, f1] at tl ⊢
     rw [if_pos hs]
     exact tl
    ·have y4 : ¬ ((r4 : Int) = 1) := by omega
     have tl := zdZ (L := L) cL (a0 := .list (ns.map .int)) (a1 := .int 1) (a2 := .int (1 + (r1 : Int))) (a3 := .int r2) (s4 := .emp) (s5 := .emp) (s7 := s7)
     simp [Qx, e4, m4, XX, z4, y4, tl]
  ·have y1 : 1 < (r0 : Int) := by omega
   obtain ⟨k, hk⟩ : ∃ k : Nat, k = 1 + r1 := ⟨_, rfl⟩
   have ek : (1 : Int) + (r1 : Int) = (k : Int) := by omega
   have ek1 : ((k + 1 : Nat) : Int) = (k : Int) + 1 := by omega
   obtain ⟨m, em, hm⟩ : ∃ m : Nat, Int.fdiv (r2 : Int) 2 = (m : Int) /\ m <= 10 := ⟨r2 / 2, by rw [Int.fdiv_eq_ediv_of_nonneg _ (by decide)]; simp, by omega⟩
   obtain ⟨ls, l1, l2, e5⟩ := VA ns k r2 (by omega) (by omega)
   obtain ⟨os, o1, o2, e6⟩ := VA ns (k + 1) m (by omega) hm
   have e7 := W7 l2 (by decide) (by omega) (by omega)
   have e8 := W7 o2 (by decide) (by omega) (by omega)
   have ne1 : k ≠ k + 1 := by omega
   have ne2 : k + 1 ≠ k := by omega
   rcases (show r0 = 2 \/ r0 = 3 by omega) with rfl | rfl
   ·have f1 := zct (asked2 (ls := ls) (os := os) ne1)
    have f2 := zct (asked2 (ls := os) (os := ls) ne2)
    simp only [Vl, ek1] at e6 e7 e8 f1 f2
    simp [WQ, Qy, XX, ek, e5, e6, e7, e8, div2, em, f1, f2]
   ·have f1 := zcs (asked3 (ls := ls) (os := os) ne1)
    have f2 := zcs (asked3 (ls := os) (os := ls) ne2)
    simp only [Vl, ek1] at e6 e7 e8 f1 f2
    simp [WQ, Qy, XX, ek, e5, e6, e7, e8, div2, em, f1, f2]
end K22
namespace K22
open PySem PySem.Spec PyProof.Rows L2 Fx Lw
variable {P : Program} {w : World} {K : PySem.W.Frag} {mg : Str -> Option Value} {base : Heap} {k : Nat} {fa : Addr} {fd : FuncData}
set_option maxHeartbeats 0
def top (i : Nat) : Stmt := PySem.Challenge.pw_limitdesk_k22_kinds_and_corners_refused.main.body.getD i (.Pass ⟨0, 0, 0, 0⟩)
def inClass (st : Stmt) (i : Nat) : Stmt := match st with | .ClassDef _ _ _ body _ _ _ _ _ _ _ => body.getD i (.Pass ⟨0, 0, 0, 0⟩) | st => st
abbrev YW : Stmt := inClass (top 10) 0
theorem JG : FnScope ["self", "heads", "divisor", "rows"] ["self", "heads", "divisor", "rows"] (Zd YW) := ⟨rfl, rfl, rfl, by decide +kernel, rfl, by decide +kernel, by decide +kernel⟩
theorem JW {P : Program} {w : World} {K : PySem.W.Frag} {mg : Str -> Option Value} {base : Heap} {f C : Addr} {fd : FuncData} (F : Fun K "__init__" "Board.__init__" YW f fd) (cl : Cls K C) (n0 : X5 K C "heads") (n1 : X5 K C "divisor") (n2 : X5 K C "rows") : FnOk P w K mg base CX0 1 f fd ["self", "heads", "divisor", "rows"] (Fx.spI C ["heads", "divisor", "rows"]) := by
 refine F.ok JG (fun vs H Q E h => Fx.spI_len h) fun cdv A outer s H vs Q E hr h => ⟨_, JP (zem (pv 0) (pv 1) rfl) (JP (zem (pv 0) (pv 2) rfl) (zej (zem (pv 0) (pv 3) rfl))), ?_⟩
 obtain ⟨x, dx, u1, u2, u3, rfl, hp, k⟩ := Fx.spI3 h
 refine ⟨_, rfl, _, rfl, x, C, dx, [], rfl, hp, cl, n0, (by show 0 < 1000; decide), _, rfl, _, rfl, x, C, dx, _, rfl, Zp, cl, n1, (by show 1 < 1000; decide), _, rfl, _, rfl, x, C, dx, _, rfl, Zp, cl, n2, (by show 2 < 1000; decide), ?_⟩
 rw [zdS, zdS, Fx.putF3 (by decide +kernel) (by decide +kernel) (by decide +kernel)]
 exact k
abbrev XG : Stmt := top 1
theorem zbs : FnScope ["value"] ["value"] (Zd XG) := ⟨rfl, rfl, rfl, by decide +kernel, rfl, by decide +kernel, by decide +kernel⟩
theorem zbF (F : Fun K "is_whole" "is_whole" XG fa fd) (hm : mg "is_whole" = some (.ref fa)) (b : ZC K fd ["value"] []) (z_isinstance : mg "isinstance" = none) (z_int : mg "int" = none) (z_bool : mg "bool" = none) :
  Fx.Cle P w K mg base (k + 1) "is_whole" 1 Z3 := by
 exact ZG F hm b zbs rfl rfl fun cdv A outer s H E hr =>
  (Zi (Zo (zcK (XY Fx.kit_int (show bootBuiltins "int" = some (.type "int") by decide +kernel) rfl z_isinstance rfl z_int (Za 0)) (zaU (Fx.ev_not (XY Fx.kit_bool (show bootBuiltins "bool" = some (.type "bool") by decide +kernel) rfl z_isinstance rfl z_bool (Za 0)))))))
abbrev Z1 : Stmt := top 2
theorem ZW : FnScope ["a", "b", "rest"] ["a", "b"] (Zd Z1) := ⟨rfl, rfl, rfl, by decide +kernel, rfl, by decide +kernel, by decide +kernel⟩
theorem VZ (F : Fun K "common_divisor" "common_divisor" Z1 fa fd) (hm : mg "common_divisor" = some (.ref fa)) (b : ZC K fd ["a", "b"] []) (z_abs : mg "abs" = none) :
  Fx.Cle P w K mg base (k + 1) "common_divisor" 2 Yh := by
 exact ZG F hm b ZW rfl rfl fun cdv A outer s H E hr =>
  (Zg (Zq (i := 0) ZW.nd rfl (Or.inl rfl) (zaV rfl z_abs (Za 0)))
  (Zg (Zq (i := 1) ZW.nd rfl (Or.inl rfl) (zaV rfl z_abs (Za 1)))
  (Zg (Vr PassesOwn.never (ZD (Vd hr.units) (Za 1) Ze (Zz _))
  (Zg (Zq (i := 2) ZW.nd rfl (Or.inl rfl) (Zv Xo (Za 0) (Za 1)))
  (Zg (Zq (i := 0) ZW.nd rfl (Or.inl rfl) (Za 1))
  (Zi (Zq (i := 1) ZW.nd rfl (Or.inl rfl) (Za 2))))))
  (Zi (Zo (Za 0))))))
abbrev Jg : Stmt := top 3
theorem zbt : FnScope ["upper", "lower", "divisor"] ["upper", "lower"] (Zd Jg) := ⟨rfl, rfl, rfl, by decide +kernel, rfl, by decide +kernel, by decide +kernel⟩
theorem ok_frac (F : Fun K "frac" "frac" Jg fa fd) (hm : mg "frac" = some (.ref fa)) (b : ZC K fd ["upper", "lower"] []) (C_common_divisor : Fx.Cle P w K mg base k "common_divisor" 2 Yh) :
  Fx.Cle P w K mg base (k + 1) "frac" 2 Y2 := by
 exact ZG F hm b zbt rfl rfl fun cdv A outer s H E hr =>
  (Zg (Z4 (ZD (Wo hr.units) (Za 1) Ze (Zz _))
  (Zi Jz)
  ZK)
  (Zg (Zq (i := 2) zbt.nd rfl (Or.inl rfl) (Zh (Fx.Cle.cal C_common_divisor) hr rfl (Zb (Za 0) (Zb (Za 1) Zf))))
  (Zg (Z4 (ZD XQ (Za 1) Ze (Zz _))
  (Zi (Zq (i := 2) zbt.nd rfl (Or.inl rfl) (Xr (Za 2))))
  ZK)
  (Zi (Zo (ZY (Zb (Zv VX (Za 0) (Za 2)) (Zb (Zv VX (Za 1) (Za 2)) Zf))))))))
abbrev Jc : Stmt := top 4
theorem sc_plus : FnScope ["a", "b"] ["a", "b"] (Zd Jc) := ⟨rfl, rfl, rfl, by decide +kernel, rfl, by decide +kernel, by decide +kernel⟩
theorem ok_plus (F : Fun K "plus" "plus" Jc fa fd) (hm : mg "plus" = some (.ref fa)) (b : ZC K fd ["a", "b"] []) (C_frac : Fx.Cle P w K mg base k "frac" 2 Y2) :
  Fx.Cle P w K mg base (k + 1) "plus" 2 Qi := by
 exact ZG F hm b sc_plus rfl rfl fun cdv A outer s H E hr =>
  (Zi (Zo (Zh (Fx.Cle.cal C_frac) hr rfl (Zb (Zv ZP (Zv ZO (Zm (Za 0) Ze (fun _ _ => rfl)) (Zm (Za 1) Ze (fun _ _ => rfl))) (Zv ZO (Zm (Za 1) Ze (fun _ _ => rfl)) (Zm (Za 0) Ze (fun _ _ => rfl)))) (Zb (Zv ZO (Zm (Za 0) Ze (fun _ _ => rfl)) (Zm (Za 1) Ze (fun _ _ => rfl))) Zf)))))
abbrev Je : Stmt := top 5
theorem sc_less : FnScope ["a", "b"] ["a", "b"] (Zd Je) := ⟨rfl, rfl, rfl, by decide +kernel, rfl, by decide +kernel, by decide +kernel⟩
theorem ok_less (F : Fun K "less" "less" Je fa fd) (hm : mg "less" = some (.ref fa)) (b : ZC K fd ["a", "b"] []) (C_frac : Fx.Cle P w K mg base k "frac" 2 Y2) :
  Fx.Cle P w K mg base (k + 1) "less" 2 ze7 := by
 exact ZG F hm b sc_less rfl rfl fun cdv A outer s H E hr =>
  (Zi (Zo (Zh (Fx.Cle.cal C_frac) hr rfl (Zb (Zv XN (Zv ZO (Zm (Za 0) Ze (fun _ _ => rfl)) (Zm (Za 1) Ze (fun _ _ => rfl))) (Zv ZO (Zm (Za 1) Ze (fun _ _ => rfl)) (Zm (Za 0) Ze (fun _ _ => rfl)))) (Zb (Zv ZO (Zm (Za 0) Ze (fun _ _ => rfl)) (Zm (Za 1) Ze (fun _ _ => rfl))) Zf)))))
abbrev VP : Stmt := top 6
theorem sc_times : FnScope ["a", "b"] ["a", "b"] (Zd VP) := ⟨rfl, rfl, rfl, by decide +kernel, rfl, by decide +kernel, by decide +kernel⟩
theorem ok_times (F : Fun K "times" "times" VP fa fd) (hm : mg "times" = some (.ref fa)) (b : ZC K fd ["a", "b"] []) (C_frac : Fx.Cle P w K mg base k "frac" 2 Y2) :
  Fx.Cle P w K mg base (k + 1) "times" 2 zbL := by
 exact ZG F hm b sc_times rfl rfl fun cdv A outer s H E hr =>
  (Zi (Zo (Zh (Fx.Cle.cal C_frac) hr rfl (Zb (Zv ZO (Zm (Za 0) Ze (fun _ _ => rfl)) (Zm (Za 1) Ze (fun _ _ => rfl))) (Zb (Zv ZO (Zm (Za 0) Ze (fun _ _ => rfl)) (Zm (Za 1) Ze (fun _ _ => rfl))) Zf)))))
abbrev Jd : Stmt := top 7
theorem sc_over : FnScope ["a", "b"] ["a", "b"] (Zd Jd) := ⟨rfl, rfl, rfl, by decide +kernel, rfl, by decide +kernel, by decide +kernel⟩
theorem ok_over (F : Fun K "over" "over" Jd fa fd) (hm : mg "over" = some (.ref fa)) (b : ZC K fd ["a", "b"] []) (C_frac : Fx.Cle P w K mg base k "frac" 2 Y2) :
  Fx.Cle P w K mg base (k + 1) "over" 2 ze6 := by
 exact ZG F hm b sc_over rfl rfl fun cdv A outer s H E hr =>
  (Zi (Zo (Zh (Fx.Cle.cal C_frac) hr rfl (Zb (Zv ZO (Zm (Za 0) Ze (fun _ _ => rfl)) (Zm (Za 1) Ze (fun _ _ => rfl))) (Zb (Zv ZO (Zm (Za 0) Ze (fun _ _ => rfl)) (Zm (Za 1) Ze (fun _ _ => rfl))) Zf)))))
abbrev VU : Stmt := top 8
theorem sc_below : FnScope ["a", "b"] ["a", "b"] (Zd VU) := ⟨rfl, rfl, rfl, by decide +kernel, rfl, by decide +kernel, by decide +kernel⟩
theorem ok_below (F : Fun K "below" "below" VU fa fd) (hm : mg "below" = some (.ref fa)) (b : ZC K fd ["a", "b"] []) :
  Fx.Cle P w K mg base (k + 1) "below" 2 WD := by
 exact ZG F hm b sc_below rfl rfl fun cdv A outer s H E hr =>
  (Zi (Zo (Qm XQ (Zv ZO (Zm (Za 0) Ze (fun _ _ => rfl)) (Zm (Za 1) Ze (fun _ _ => rfl))) (Zv ZO (Zm (Za 1) Ze (fun _ _ => rfl)) (Zm (Za 0) Ze (fun _ _ => rfl))) (Zz _))))
abbrev Jb : Stmt := top 11
theorem zd6 : FnScope ["length", "place", "numbers"] ["length", "place"] (Zd Jb) := ⟨rfl, rfl, rfl, by decide +kernel, rfl, by decide +kernel, by decide +kernel⟩
theorem ok_unit (F : Fun K "unit" "unit" Jb fa fd) (hm : mg "unit" = some (.ref fa)) (b : ZC K fd ["length", "place"] []) :
  Fx.Cle P w K mg base (k + 1) "unit" 2 ze5 := by
 exact ZG F hm b zd6 rfl rfl fun cdv A outer s H E hr =>
  (Zg (X6 (i := 2) zd6.nd rfl (Or.inl rfl) (zeu (U3 (Zb Ze Zf)) (Za 0)))
  (Zg (Vs (i := 2) rfl (Za 1) Ze)
  (Zi (Zo (Za 2)))))
abbrev XB : Stmt := top 12
theorem zbp : FnScope ["limit"] ["limit"] (Zd XB) := ⟨rfl, rfl, rfl, by decide +kernel, rfl, by decide +kernel, by decide +kernel⟩
theorem zbB (F : Fun K "room_row" "room_row" XB fa fd) (hm : mg "room_row" = some (.ref fa)) (b : ZC K fd ["limit"] []) :
  Fx.Cle P w K mg base (k + 1) "room_row" 1 V0 := by
 exact ZG F hm b zbp rfl rfl fun cdv A outer s H E hr =>
  (Zi (Zo (Zv ZP (Yi (YM (N := ["number"]) (nv := 1) (cap := []) (Yk rfl) rfl (ZI (by decide)) (YD (Zm (Za 0) Ze (fun _ _ => rfl))) ZR (fun _ _ _ _ => (ZF (i := 0) (show List.Nodup (["number"] : List Str) from by decide +kernel) rfl (Or.inl rfl))) (fun _ _ _ _ _ => Yb) (fun _ _ _ _ _ => (Xr (Za 0))))) (X3 (Zb (Zm (Za 0) Ze (fun _ _ => rfl)) Zf)))))
abbrev YB : Stmt := top 13
theorem Xf : FnScope ["desk", "goal", "kinds", "amounts", "rooms"] ["desk", "goal"] (Zd YB) := ⟨rfl, rfl, rfl, by decide +kernel, rfl, by decide +kernel, by decide +kernel⟩
theorem QW (F : Fun K "first_board" "first_board" YB fa fd) (hm : mg "first_board" = some (.ref fa)) (b : ZC K fd ["desk", "goal"] []) (z_range : mg "range" = none) (z_list : mg "list" = none) (C_unit : Fx.Cle P w K mg base (k + 2) "unit" 2 ze5) (C_room_row : Fx.Cle P w K mg base (k + 2) "room_row" 1 V0) (M_Board : Fx.Mko P w K mg base (k + 1) "Board" ["heads", "divisor", "rows"]) :
  Fx.Cle P w K mg base (k + 2 + 1) "first_board" 2 Y3 := by
 exact ZG F hm b Xf rfl rfl fun cdv A outer s H E hr =>
  (Zg (Zq (i := 2) Xf.nd rfl (Or.inr rfl) (Zm (Za 0) Ze (fun _ _ => rfl)))
  (Zg (WG (N := ["kind", "kinds"]) (nv := 1) (cap := [2]) (i := 3) (Yk rfl) rfl (ZI (by decide)) (YL rfl z_range (Za 2)) ZR (fun _ _ _ _ => (ZF (i := 0) (show List.Nodup (["kind", "kinds"] : List Str) from by decide +kernel) rfl (Or.inl rfl))) (fun _ _ _ _ _ => Yb) (fun _ _ _ _ _ => (Zh (Fx.Cle.cal C_unit) hr rfl (Zb (Zv ZP (Za 1) Ze) (Zb (Za 0) Zf)))) Xf.nd rfl (Or.inl rfl))
  (Zg (WG (N := ["limit"]) (nv := 1) (cap := []) (i := 4) (Yk rfl) rfl (ZI (by decide)) (YD (Zm (Za 0) Ze (fun _ _ => rfl))) ZR (fun _ _ _ _ => (ZF (i := 0) (show List.Nodup (["limit"] : List Str) from by decide +kernel) rfl (Or.inl rfl))) (fun _ _ _ _ _ => Yb) (fun _ _ _ _ _ => (Zh (Fx.Cle.cal C_room_row) hr rfl (Zb (Za 0) Zf))) Xf.nd rfl (Or.inl rfl))
  (Zi (Zo (zfa M_Board hr rfl (Zb (Yi (Fx.ov_rng1 rfl z_list rfl z_range (Za 2))) (Zb Ze (Zb (Zv ZP (Zv ZP (Za 3) (Za 4)) (X3 (Zb (Zv ZP (Za 1) (X3 (Zb Ze Zf))) Zf))) Zf)))))))))
abbrev XA : Stmt := top 14
theorem zbo : FnScope ["board"] ["board"] (Zd XA) := ⟨rfl, rfl, rfl, by decide +kernel, rfl, by decide +kernel, by decide +kernel⟩
theorem zbA (F : Fun K "rooms_of" "rooms_of" XA fa fd) (hm : mg "rooms_of" = some (.ref fa)) (b : ZC K fd ["board"] []) (z_list : mg "list" = none) (z_range : mg "range" = none) (z_len : mg "len" = none) :
  Fx.Cle P w K mg base (k + 1) "rooms_of" 1 Ya := by
 exact ZG F hm b zbo rfl rfl fun cdv A outer s H E hr =>
  (Zi (Zo (Yi (Fx.ov_rng2 rfl z_list rfl z_range (Yj rfl z_len (ZU (Za 0))) (Zv XN (Yj rfl z_len (ZU (Za 0))) Ze)))))
abbrev Xz : Stmt := top 15
theorem zbn : FnScope ["board"] ["board"] (Zd Xz) := ⟨rfl, rfl, rfl, by decide +kernel, rfl, by decide +kernel, by decide +kernel⟩
theorem zbz (F : Fun K "worth_of" "worth_of" Xz fa fd) (hm : mg "worth_of" = some (.ref fa)) (b : ZC K fd ["board"] []) (z_len : mg "len" = none) :
  Fx.Cle P w K mg base (k + 1) "worth_of" 1 Xc := by
 exact ZG F hm b zbn rfl rfl fun cdv A outer s H E hr =>
  (Zi (Zo (Zv XN (Yj rfl z_len (ZU (Za 0))) Ze)))
abbrev Yx : Stmt := top 16
theorem Xe : FnScope ["row", "line", "column", "divisor", "pivot", "taken", "told"] ["row", "line", "column", "divisor"] (Zd Yx) := ⟨rfl, rfl, rfl, by decide +kernel, rfl, by decide +kernel, by decide +kernel⟩
theorem QS (F : Fun K "swapped_row" "swapped_row" Yx fa fd) (hm : mg "swapped_row" = some (.ref fa)) (b : ZC K fd ["row", "line", "column", "divisor"] []) (z_abs : mg "abs" = none) (z_zip : mg "zip" = none) :
  Fx.Cle P w K mg base (k + 1) "swapped_row" 4 WB := by
 exact ZG F hm b Xe rfl rfl fun cdv A outer s H E hr =>
  (Zg (Zq (i := 4) Xe.nd rfl (Or.inr rfl) (zaV rfl z_abs (Zm (Za 1) (Za 2) (fun _ _ => rfl))))
  (Zg (Zq (i := 5) Xe.nd rfl (Or.inr rfl) (zcJ (ZD WJ (Zm (Za 1) (Za 2) (fun _ _ => rfl)) Ze (Zz _)) (Zm (Za 0) (Za 2) (fun _ _ => rfl)) (Xr (Zm (Za 0) (Za 2) (fun _ _ => rfl)))))
  (Zg (zcj (N := ["number", "other", "pivot", "taken", "divisor"]) (nv := 2) (cap := [4, 5, 3]) (i := 6) (Yk rfl) rfl (Qd (by decide) (by decide)) (Jo rfl z_zip (Za 0) (Za 1)) ZR (fun _ _ _ _ => (Vj (i := 0) (j := 1) rfl (show List.Nodup (["number", "other", "pivot", "taken", "divisor"] : List Str) from by decide +kernel) rfl (Or.inl rfl) rfl (Or.inl rfl))) (fun _ _ _ _ _ => Yb) (fun _ _ _ _ _ => (Zv VX (Zv XN (Zv ZO (Za 2) (Za 0)) (Zv ZO (Za 3) (Za 1))) (Za 4))) Xe.nd rfl (Or.inl rfl))
  (Zg (Vs (i := 6) rfl (Za 2) (Za 5))
  (Zi (Zo (Za 6)))))))
abbrev Wg : Stmt := top 17
theorem WT : FnScope ["board", "thing", "column", "line", "heads", "rows"] ["board", "thing", "column"] (Zd Wg) := ⟨rfl, rfl, rfl, by decide +kernel, rfl, by decide +kernel, by decide +kernel⟩
theorem zc7 (F : Fun K "swapped" "swapped" Wg fa fd) (hm : mg "swapped" = some (.ref fa)) (b : ZC K fd ["board", "thing", "column"] []) (z_list : mg "list" = none) (z_abs : mg "abs" = none) (C_swapped_row : Fx.Cle P w K mg base (k + 2) "swapped_row" 4 WB) (M_Board : Fx.Mko P w K mg base (k + 1) "Board" ["heads", "divisor", "rows"]) :
  Fx.Cle P w K mg base (k + 2 + 1) "swapped" 3 Y1 := by
 exact ZG F hm b WT rfl rfl fun cdv A outer s H E hr =>
  (Zg (Zq (i := 3) WT.nd rfl (Or.inr rfl) (Zm (ZU (Za 0)) (Za 1) (fun _ _ => rfl)))
  (Zg (X6 (i := 4) WT.nd rfl (Or.inl rfl) (zev rfl z_list (ZU (Za 0))))
  (Zg (Vs (i := 4) rfl (Za 2) (Za 1))
  (Zg (WG (N := ["row", "line", "column", "board"]) (nv := 1) (cap := [3, 2, 0]) (i := 5) (Yk rfl) rfl (ZI (by decide)) (YD (ZU (Za 0))) ZR (fun _ _ _ _ => (ZF (i := 0) (show List.Nodup (["row", "line", "column", "board"] : List Str) from by decide +kernel) rfl (Or.inl rfl))) (fun _ _ _ _ _ => Yb) (fun _ _ _ _ _ => (Zh (Fx.Cle.cal C_swapped_row) hr rfl (Zb (Za 0) (Zb (Za 1) (Zb (Za 2) (Zb (ZU (Za 3)) Zf)))))) WT.nd rfl (Or.inl rfl))
  (Zi (Zo (zfa M_Board hr rfl (Zb (Za 4) (Zb (zaV rfl z_abs (Zm (Za 3) (Za 2) (fun _ _ => rfl))) (Zb (Za 5) Zf))))))))))
abbrev Z8 : Stmt := top 18
theorem WF : FnScope ["board", "column", "thing"] ["board", "column"] (Zd Z8) := ⟨rfl, rfl, rfl, by decide +kernel, rfl, by decide +kernel, by decide +kernel⟩
theorem Uw (F : Fun K "first_room_on" "first_room_on" Z8 fa fd) (hm : mg "first_room_on" = some (.ref fa)) (b : ZC K fd ["board", "column"] []) (C_rooms_of : Fx.Cle P w K mg base k "rooms_of" 1 Ya) :
  Fx.Cle P w K mg base (k + 1) "first_room_on" 2 XV := by
 exact ZG F hm b WF rfl rfl fun cdv A outer s H E hr =>
  (Zg (Xh PassesOwn.never rfl (YD (Zh (Fx.Cle.cal C_rooms_of) hr rfl (Zb (Za 0) Zf))) (ZF (i := 2) WF.nd rfl (Or.inl rfl))
  (Zi (Z4 (ZD (Vd hr.units) (Zm (Zm (ZU (Za 0)) (Za 2) (fun _ _ => rfl)) (Za 1) (fun _ _ => rfl)) Ze (Zz _))
  (Zi (Zo (Za 2)))
  ZK)))
  (Zi (Zo Ug)))
abbrev VS : Stmt := top 19
theorem UL : FnScope ["board", "column", "thing"] ["board"] (Zd VS) := ⟨rfl, rfl, rfl, by decide +kernel, rfl, by decide +kernel, by decide +kernel⟩
theorem ok_freed (F : Fun K "freed" "freed" VS fa fd) (hm : mg "freed" = some (.ref fa)) (b : ZC K fd ["board"] []) (z_range : mg "range" = none) (z_len : mg "len" = none) (C_first_room_on : Fx.Cle P w K mg base k "first_room_on" 2 XV) (C_swapped : Fx.Cle P w K mg base k "swapped" 3 Y1) :
  Fx.Cle P w K mg base (k + 1) "freed" 1 zbO := by
 exact ZG F hm b UL rfl rfl fun cdv A outer s H E hr =>
  (Zg (Xh PassesOwn.never rfl (YL rfl z_range (Yj rfl z_len (ZU (Za 0)))) (ZF (i := 1) UL.nd rfl (Or.inl rfl))
  (Zg (Zq (i := 2) UL.nd rfl (Or.inl rfl) (Zh (Fx.Cle.cal C_first_room_on) hr rfl (Zb (Za 0) (Zb (Za 1) Zf))))
  (Zi (Z4 (UU (Za 2))
  (Zi (Zq (i := 0) UL.nd rfl (Or.inl rfl) (Zh (Fx.Cle.cal C_swapped) hr rfl (Zb (Za 0) (Zb (Za 2) (Zb (Za 1) Zf))))))
  ZK))))
  (Zi (Zo (Za 0))))
abbrev VR : Stmt := top 20
theorem sc_helps : FnScope ["board", "column", "number"] ["board", "column", "number"] (Zd VR) := ⟨rfl, rfl, rfl, by decide +kernel, rfl, by decide +kernel, by decide +kernel⟩
theorem ok_helps (F : Fun K "helps" "helps" VR fa fd) (hm : mg "helps" = some (.ref fa)) (b : ZC K fd ["board", "column", "number"] []) (z_len : mg "len" = none) :
  Fx.Cle P w K mg base (k + 1) "helps" 3 zbN := by
 exact ZG F hm b sc_helps rfl rfl fun cdv A outer s H E hr =>
  (Zi (Zo (Fx.ev_or (Qm WJ (Za 2) Ze (Zz _)) (zaU (zcK (Qm XQ (Za 2) Ze (Zz _)) (zaU (Qm XQ (Zm (ZU (Za 0)) (Za 1) (fun _ _ => rfl)) (Yj rfl z_len (ZU (Za 0))) (Zz _))))))))
abbrev Z0 : Stmt := top 21
theorem Y8 : FnScope ["board", "thing", "row", "columns"] ["board", "thing"] (Zd Z0) := ⟨rfl, rfl, rfl, by decide +kernel, rfl, by decide +kernel, by decide +kernel⟩
theorem VY {cL TL : Addr} (F : Fun K "raising_column" "raising_column" Z0 fa fd) (hm : mg "raising_column" = some (.ref fa)) (b : ZC K fd ["board", "thing"] []) (z_range : mg "range" = none) (z_len : mg "len" = none) (z_min : mg "min" = none) (C_helps : Fx.Cle P w K mg base (k + 2) "helps" 3 zbN) (L_raising_column : Fx.LamHyp K mg base "raising_column" cL TL) (hcode : fd.code = .ref cL) :
  Fx.Cle P w K mg base (k + 2 + 1) "raising_column" 2 Z2 := by
 exact Fx.cle_ofC F hcode hm b Y8 rfl rfl fun A outer s H E hr =>
  (Zg (Zq (i := 2) Y8.nd rfl (Or.inr rfl) (Zm (ZU (Za 0)) (Za 1) (fun _ _ => rfl)))
  (Zg (WG (N := ["column", "board", "row"]) (nv := 1) (cap := [0, 2]) (i := 3) (Yk rfl) rfl (ZI (by decide)) (YL rfl z_range (Yj rfl z_len (ZU (Za 0)))) ZR (fun _ _ _ _ => (ZF (i := 0) (show List.Nodup (["column", "board", "row"] : List Str) from by decide +kernel) rfl (Or.inl rfl))) (fun _ _ _ _ _ => (za8 (Xp (Zh (Fx.Cle.cal C_helps) hr rfl (Zb (Za 1) (Zb (Za 0) (Zb (Zm (Za 2) (Za 0) (fun _ _ => rfl)) Zf)))) (fun _ => rfl)))) (fun _ _ _ _ _ => (Za 0)) Y8.nd rfl (Or.inl rfl))
  (Zi (Zo (Fx.ev_minK (k := k) (y := "column") (N := ["column", "board"]) (cap := [0]) (Fx.lam_at L_raising_column (List.mem_singleton.mpr rfl)) (Fx.lamok rfl) hr rfl z_min (Za 3) (fun _ _ _ _ => (Zm (ZU (Za 1)) (Za 0) (fun _ _ => rfl))))))))
abbrev YQ : Stmt := top 22
theorem Vv : FnScope ["board", "thing"] ["board"] (Zd YQ) := ⟨rfl, rfl, rfl, by decide +kernel, rfl, by decide +kernel, by decide +kernel⟩
theorem JQ (F : Fun K "short_room" "short_room" YQ fa fd) (hm : mg "short_room" = some (.ref fa)) (b : ZC K fd ["board"] []) (C_rooms_of : Fx.Cle P w K mg base k "rooms_of" 1 Ya) :
  Fx.Cle P w K mg base (k + 1) "short_room" 1 YY := by
 exact ZG F hm b Vv rfl rfl fun cdv A outer s H E hr =>
  (Zg (Xh PassesOwn.never rfl (YD (Zh (Fx.Cle.cal C_rooms_of) hr rfl (Zb (Za 0) Zf))) (ZF (i := 1) Vv.nd rfl (Or.inl rfl))
  (Zi (Z4 (ZD XQ (Zm (Zm (ZU (Za 0)) (Za 1) (fun _ _ => rfl)) (Xr Ze) (fun _ _ => rfl)) Ze (Zz _))
  (Zi (Zo (Za 1)))
  ZK)))
  (Zi (Zo Ug)))
abbrev Wh : Stmt := top 23
theorem Xy : FnScope ["desk", "goal", "board", "thing", "column"] ["desk", "goal"] (Zd Wh) := ⟨rfl, rfl, rfl, by decide +kernel, rfl, by decide +kernel, by decide +kernel⟩
theorem zc8 (F : Fun K "settled" "settled" Wh fa fd) (hm : mg "settled" = some (.ref fa)) (b : ZC K fd ["desk", "goal"] []) (C_first_board : Fx.Cle P w K mg base k "first_board" 2 Y3) (C_freed : Fx.Cle P w K mg base k "freed" 1 zbO) (C_short_room : Fx.Cle P w K mg base k "short_room" 1 YY) (C_raising_column : Fx.Cle P w K mg base k "raising_column" 2 Z2) (C_swapped : Fx.Cle P w K mg base k "swapped" 3 Y1) :
  Fx.Cle P w K mg base (k + 1) "settled" 2 Qh := by
 exact ZG F hm b Xy rfl rfl fun cdv A outer s H E hr =>
  (Zg (Zq (i := 2) Xy.nd rfl (Or.inl rfl) (Zh (Fx.Cle.cal C_freed) hr rfl (Zb (Zh (Fx.Cle.cal C_first_board) hr rfl (Zb (Za 0) (Zb (Za 1) Zf))) Zf)))
  (Zg (Zq (i := 3) Xy.nd rfl (Or.inl rfl) (Zh (Fx.Cle.cal C_short_room) hr rfl (Zb (Za 2) Zf)))
  (Zg (Vr PassesOwn.never (UU (Za 3))
  (Zg (Zq (i := 4) Xy.nd rfl (Or.inl rfl) (Zh (Fx.Cle.cal C_raising_column) hr rfl (Zb (Za 2) (Zb (Za 3) Zf))))
  (Zg (Z4 (zcg (Za 4))
  (Zi (Zo (ZY (Zb (Za 2) (Zb (Za 3) Zf)))))
  ZK)
  (Zg (Zq (i := 2) Xy.nd rfl (Or.inl rfl) (Zh (Fx.Cle.cal C_swapped) hr rfl (Zb (Za 2) (Zb (Za 3) (Zb (Za 4) Zf)))))
  (Zi (Zq (i := 3) Xy.nd rfl (Or.inl rfl) (Zh (Fx.Cle.cal C_short_room) hr rfl (Zb (Za 2) Zf))))))))
  (Zi (Zo (ZY (Zb (Za 2) (Zb Ug Zf))))))))
abbrev XC : Stmt := top 24
theorem zbq : FnScope ["board"] ["board"] (Zd XC) := ⟨rfl, rfl, rfl, by decide +kernel, rfl, by decide +kernel, by decide +kernel⟩
theorem zbC (F : Fun K "point_of" "point_of" XC fa fd) (hm : mg "point_of" = some (.ref fa)) (b : ZC K fd ["board"] []) (z_range : mg "range" = none) (z_len : mg "len" = none) (C_frac : Fx.Cle P w K mg base k "frac" 2 Y2) :
  Fx.Cle P w K mg base (k + 1) "point_of" 1 XI := by
 exact ZG F hm b zbq rfl rfl fun cdv A outer s H E hr =>
  (Zi (Zo (Yi (YM (N := ["kind", "board"]) (nv := 1) (cap := [0]) (Yk rfl) rfl (ZI (by decide)) (YL rfl z_range (Yj rfl z_len (ZU (Za 0)))) ZR (fun _ _ _ _ => (ZF (i := 0) (show List.Nodup (["kind", "board"] : List Str) from by decide +kernel) rfl (Or.inl rfl))) (fun _ _ _ _ _ => Yb) (fun _ _ _ _ _ => (Zh (Fx.Cle.cal C_frac) hr rfl (Zb (Zm (Zm (ZU (Za 1)) (Za 0) (fun _ _ => rfl)) (Xr Ze) (fun _ _ => rfl)) (Zb (ZU (Za 1)) Zf))))))))
abbrev Y9 : Stmt := top 25
theorem X1 : FnScope ["board", "thing", "kinds", "shares", "head", "number"] ["board", "thing"] (Zd Y9) := ⟨rfl, rfl, rfl, by decide +kernel, rfl, by decide +kernel, by decide +kernel⟩
theorem zaE (F : Fun K "shares_of" "shares_of" Y9 fa fd) (hm : mg "shares_of" = some (.ref fa)) (b : ZC K fd ["board", "thing"] []) (z_len : mg "len" = none) (z_zip : mg "zip" = none) (C_rooms_of : Fx.Cle P w K mg base k "rooms_of" 1 Ya) (C_frac : Fx.Cle P w K mg base k "frac" 2 Y2) :
  Fx.Cln P w K mg base (k + 1) "shares_of" 2 XT := by
 exact Fx.cln_of F hm b X1 rfl rfl fun cdv A outer s H E hr =>
  (Zg (Zq (i := 2) X1.nd rfl (Or.inl rfl) (Yj rfl z_len (ZU (Za 0))))
  (Zg (X6 (i := 3) X1.nd rfl (Or.inl rfl) (zeu (U3 (Zb (ZY (Zb Ze (Zb Ze Zf))) Zf)) (Yj rfl z_len (Zh (Fx.Cle.cal C_rooms_of) hr rfl (Zb (Za 0) Zf)))))
  (Zg (Xh PassesOwn.never rfl (Jo rfl z_zip (ZU (Za 0)) (Zm (ZU (Za 0)) (Za 1) (fun _ _ => rfl))) (Vj (i := 4) (j := 5) rfl X1.nd rfl (Or.inl rfl) rfl (Or.inl rfl))
  (Zi (Z4 (ZD zex (Za 4) (Za 2) (Zz _))
  (Zi (Vs (i := 3) rfl (Zv XN (Za 4) (Za 2)) (Zh (Fx.Cle.cal C_frac) hr rfl (Zb (Xr (Za 5)) (Zb (ZU (Za 0)) Zf)))))
  ZK)))
  (Zi (zd1 3)))))
abbrev XH : Stmt := top 26
theorem UY : FnScope ["board", "thing", "shares"] ["board", "thing"] (Zd XH) := ⟨rfl, rfl, rfl, by decide +kernel, rfl, by decide +kernel, by decide +kernel⟩
theorem zbG (F : Fun K "clash_of" "clash_of" XH fa fd) (hm : mg "clash_of" = some (.ref fa)) (b : ZC K fd ["board", "thing"] []) (z_len : mg "len" = none) (C_shares_of : Fx.Cln P w K mg base k "shares_of" 2 XT) :
  Fx.Cle P w K mg base (k + 1) "clash_of" 2 V2 := by
 exact ZG F hm b UY rfl rfl fun cdv A outer s H E hr =>
  (Zg (X6 (i := 2) UY.nd rfl (Or.inl rfl) (zew (Fx.Cln.cal C_shares_of) hr rfl (Zb (Za 0) (Zb (Za 1) Zf))))
  (Zg (Vs (i := 2) rfl (Zv XN (Za 1) (Yj rfl z_len (ZU (Za 0)))) (ZY (Zb Ze (Zb Ze Zf))))
  (Zi (Zo (Za 2)))))
abbrev Z9 : Stmt := top 37
theorem Xn : FnScope ["board", "thing", "kinds", "column", "head"] ["board", "thing"] (Zd Z9) := ⟨rfl, rfl, rfl, by decide +kernel, rfl, by decide +kernel, by decide +kernel⟩
theorem Ux (F : Fun K "amount_column" "amount_column" Z9 fa fd) (hm : mg "amount_column" = some (.ref fa)) (b : ZC K fd ["board", "thing"] []) (z_len : mg "len" = none) (z_enumerate : mg "enumerate" = none) :
  Fx.Cle P w K mg base (k + 1) "amount_column" 2 XW := by
 exact ZG F hm b Xn rfl rfl fun cdv A outer s H E hr =>
  (Zg (Zq (i := 2) Xn.nd rfl (Or.inl rfl) (Yj rfl z_len (ZU (Za 0))))
  (Zg (Xh PassesOwn.never rfl (Fx.iv_enum rfl z_enumerate (ZU (Za 0))) (Vj (i := 3) (j := 4) rfl Xn.nd rfl (Or.inl rfl) rfl (Or.inl rfl))
  (Zi (Z4 (Fx.tv_w (zav (ZD XQ (Za 4) (Za 2) (Zz _)) (UT (ZD (Vd hr.units) (Zm (Zm (ZU (Za 0)) (Za 1) (fun _ _ => rfl)) (Za 3) (fun _ _ => rfl)) Ze (Zz _)))))
  (Zi (Zo (Za 3)))
  ZK)))
  (Zi (Zo Ug))))
abbrev Z7 : Stmt := top 38
theorem Yg : FnScope ["board", "last", "boards", "thing", "column"] ["board"] (Zd Z7) := ⟨rfl, rfl, rfl, by decide +kernel, rfl, by decide +kernel, by decide +kernel⟩
theorem Uv (F : Fun K "with_one_more" "with_one_more" Z7 fa fd) (hm : mg "with_one_more" = some (.ref fa)) (b : ZC K fd ["board"] []) (z_max : mg "max" = none) (z_len : mg "len" = none) (C_rooms_of : Fx.Cle P w K mg base k "rooms_of" 1 Ya) (C_amount_column : Fx.Cle P w K mg base k "amount_column" 2 XW) (C_swapped : Fx.Cle P w K mg base k "swapped" 3 Y1) :
  Fx.Cln P w K mg base (k + 1) "with_one_more" 1 XS := by
 exact Fx.cln_of F hm b Yg rfl rfl fun cdv A outer s H E hr =>
  (Zg (Zq (i := 1) Yg.nd rfl (Or.inl rfl) (Fx.ev_maxD (n := -1) hr.hd rfl z_max (Yi (YM (N := ["head", "board"]) (nv := 1) (cap := [0]) (Yk rfl) rfl (ZI (by decide)) (YD (ZU (Za 0))) ZR (fun _ _ _ _ => (ZF (i := 0) (show List.Nodup (["head", "board"] : List Str) from by decide +kernel) rfl (Or.inl rfl))) (fun _ _ _ _ _ => (za8 (ZD zex (Za 0) (Yj rfl z_len (ZU (Za 1))) (Zz _)))) (fun _ _ _ _ _ => (Za 0)))) (Xr Ze)))
  (Zg (X6 (i := 2) Yg.nd rfl (Or.inl rfl) (U3 Zf))
  (Zg (Xh PassesOwn.never rfl (YD (Zh (Fx.Cle.cal C_rooms_of) hr rfl (Zb (Za 0) Zf))) (ZF (i := 3) Yg.nd rfl (Or.inl rfl))
  (Zg (Zq (i := 4) Yg.nd rfl (Or.inl rfl) (Zh (Fx.Cle.cal C_amount_column) hr rfl (Zb (Za 0) (Zb (Za 3) Zf))))
  (Zi (Z4 (Fx.tv_w (zav (ZD WJ (Za 3) (Za 1) (Zz _)) (UT (UU (Za 4)))))
  (Zi (zck (i := 2) rfl (Zh (Fx.Cle.cal C_swapped) hr rfl (Zb (Za 0) (Zb (Za 3) (Zb (Za 4) Zf))))))
  ZK))))
  (Zi (zd1 2)))))
abbrev ZX : Stmt := top 39
theorem ZT : FnScope ["desk", "boards", "step", "further", "board"] ["desk"] (Zd ZX) := ⟨rfl, rfl, rfl, by decide +kernel, rfl, by decide +kernel, by decide +kernel⟩
theorem Vz (F : Fun K "boards_of_rooms" "boards_of_rooms" ZX fa fd) (hm : mg "boards_of_rooms" = some (.ref fa)) (b : ZC K fd ["desk"] []) (z_range : mg "range" = none) (C_first_board : Fx.Cle P w K mg base k "first_board" 2 Y3) (C_with_one_more : Fx.Cln P w K mg base k "with_one_more" 1 XS) :
  Fx.Cle P w K mg base (k + 1) "boards_of_rooms" 1 Xd := by
 exact ZG F hm b ZT rfl rfl fun cdv A outer s H E hr =>
  (Zg (Zq (i := 1) ZT.nd rfl (Or.inl rfl) (X3 (Zb (Zh (Fx.Cle.cal C_first_board) hr rfl (Zb (Za 0) (Zb (Yi (zeu (U3 (Zb Ze Zf)) (Zm (Za 0) Ze (fun _ _ => rfl)))) Zf))) Zf)))
  (Zg (Xh PassesOwn.never rfl (YL rfl z_range (Zm (Za 0) Ze (fun _ _ => rfl))) (ZF (i := 2) ZT.nd rfl (Or.inl rfl))
  (Zg (X6 (i := 3) ZT.nd rfl (Or.inl rfl) (U3 Zf))
  (Zg (Xh PassesOwn.never rfl (YD (Za 1)) (ZF (i := 4) ZT.nd rfl (Or.inl rfl))
  (Zi (Fx.ss_ext (i := 3) rfl (zew (Fx.Cln.cal C_with_one_more) hr rfl (Zb (Za 4) Zf)))))
  (Zi (Zq (i := 1) ZT.nd rfl (Or.inl rfl) (Za 3))))))
  (Zi (Zo (Za 1)))))
abbrev Yo : Stmt := top 40
theorem WI : FnScope ["one", "other", "a", "b"] ["one", "other"] (Zd Yo) := ⟨rfl, rfl, rfl, by decide +kernel, rfl, by decide +kernel, by decide +kernel⟩
theorem U7 (F : Fun K "comes_before" "comes_before" Yo fa fd) (hm : mg "comes_before" = some (.ref fa)) (b : ZC K fd ["one", "other"] []) (z_zip : mg "zip" = none) (C_below : Fx.Cle P w K mg base k "below" 2 WD) :
  Fx.Cle P w K mg base (k + 1) "comes_before" 2 X9 := by
 exact ZG F hm b WI rfl rfl fun cdv A outer s H E hr =>
  (Zg (Xh PassesOwn.never rfl (Jo rfl z_zip (Za 0) (Za 1)) (Vj (i := 2) (j := 3) rfl WI.nd rfl (Or.inl rfl) rfl (Or.inl rfl))
  (Zi (Z4 (ZD (Vd hr.units) (Za 2) (Za 3) (Zz _))
  (Zi (Zo (Zh (Fx.Cle.cal C_below) hr rfl (Zb (Za 2) (Zb (Za 3) Zf)))))
  ZK)))
  (Zi (Zo Fx.ev_bl)))
abbrev WZ : Stmt := top 41
theorem UX : FnScope ["points", "point", "place"] ["points", "point"] (Zd WZ) := ⟨rfl, rfl, rfl, by decide +kernel, rfl, by decide +kernel, by decide +kernel⟩
theorem zeE (F : Fun K "put_in" "put_in" WZ fa fd) (hm : mg "put_in" = some (.ref fa)) (b : ZC K fd ["points", "point"] []) (z_len : mg "len" = none) (C_comes_before : Fx.Cle P w K mg base k "comes_before" 2 X9) :
  Fx.Cle P w K mg base (k + 1) "put_in" 2 zae := by
 exact ZG F hm b UX rfl rfl fun cdv A outer s H E hr =>
  (Zg (Zq (i := 2) UX.nd rfl (Or.inl rfl) Ze)
  (Zg (Vr PassesOwn.never (Fx.tv_w (zav (ZD XQ (Za 2) (Yj rfl z_len (Za 0)) (Zz _)) (UT (Xp (Zh (Fx.Cle.cal C_comes_before) hr rfl (Zb (Zm (Za 0) (Za 2) (fun _ _ => rfl)) (Zb (Za 1) Zf))) (fun _ => rfl)))))
  (Zi (Zq (i := 2) UX.nd rfl (Or.inl rfl) (Zv ZP (Za 2) Ze))))
  (Zg (Z4 (Fx.tv_w (zav (ZD XQ (Za 2) (Yj rfl z_len (Za 0)) (Zz _)) (UT (ZD (Wo hr.units) (Zm (Za 0) (Za 2) (fun _ _ => rfl)) (Za 1) (Zz _)))))
  (Zi (Zo (Za 0)))
  ZK)
  (Zi (Zo (Zv ZP (Zv ZP (Yi (U4 (Za 0) U0 (U1 (Za 2)))) (X3 (Zb (Za 1) Zf))) (Yi (U4 (Za 0) (U1 (Za 2)) U0))))))))
abbrev Wl : Stmt := top 42
theorem WU : FnScope ["desk", "points", "board"] ["desk"] (Zd Wl) := ⟨rfl, rfl, rfl, by decide +kernel, rfl, by decide +kernel, by decide +kernel⟩
theorem zdc {cl : Str -> Value} {X_TooMany : Addr} (F : Fun K "corners" "corners" Wl fa fd) (hm : mg "corners" = some (.ref fa)) (b : ZC K fd ["desk"] []) (z_len : mg "len" = none) (g_MOST_KINDS_GONE_THROUGH : ∃ t, mg "MOST_KINDS_GONE_THROUGH" = some (.int 3 t)) (g_MOST_LIMITS_GONE_THROUGH : ∃ t, mg "MOST_LIMITS_GONE_THROUGH" = some (.int 12 t)) (c_TooMany : Fx.XCls K mg "TooMany" X_TooMany) (e_TooMany : cl "TooMany" = .ref X_TooMany) (C_boards_of_rooms : Fx.Cle P w K mg base k "boards_of_rooms" 1 Xd) (C_short_room : Fx.Cle P w K mg base k "short_room" 1 YY) (C_point_of : Fx.Cle P w K mg base k "point_of" 1 XI) (C_put_in : Fx.Cle P w K mg base k "put_in" 2 zae) :
  Fx.Clx P w K mg base cl (k + 1) "corners" 1 Xl := by
 obtain ⟨t_MOST_KINDS_GONE_THROUGH, g_MOST_KINDS_GONE_THROUGH⟩ := g_MOST_KINDS_GONE_THROUGH; obtain ⟨t_MOST_LIMITS_GONE_THROUGH, g_MOST_LIMITS_GONE_THROUGH⟩ := g_MOST_LIMITS_GONE_THROUGH; exact Wp F hm b WU rfl rfl fun cdv A outer s H E W hr =>
  (Zg (Z4 (Fx.tv_w (US (ZD WJ (Zm (Za 0) Ze (fun _ _ => rfl)) (VE rfl g_MOST_KINDS_GONE_THROUGH) (Zz _)) (Vp (ZD WJ (Yj rfl z_len (Zm (Za 0) Ze (fun _ _ => rfl))) (VE rfl g_MOST_LIMITS_GONE_THROUGH) (Zz _)))))
  (Zi (YK Zw.pin c_TooMany e_TooMany (Zb YE Zf) rfl))
  ZK)
  (Zg (Zq (i := 1) WU.nd rfl (Or.inl rfl) (X3 Zf))
  (Zg (Xh (Jk Zw) rfl (YD (Zh (Fx.Cle.cal C_boards_of_rooms) hr rfl (Zb (Za 0) Zf))) (ZF (i := 2) WU.nd rfl (Or.inl rfl))
  (Zi (Z4 (zcg (Zh (Fx.Cle.cal C_short_room) hr rfl (Zb (Za 2) Zf)))
  (Zi (Zq (i := 1) WU.nd rfl (Or.inl rfl) (Zh (Fx.Cle.cal C_put_in) hr rfl (Zb (Za 1) (Zb (Zh (Fx.Cle.cal C_point_of) hr rfl (Zb (Za 2) Zf)) Zf)))))
  ZK)))
  (Zi (Zo (Za 1))))))
abbrev Xb : Stmt := top 47
theorem zaC : FnScope ["value"] ["value"] (Zd Xb) := ⟨rfl, rfl, rfl, by decide +kernel, rfl, by decide +kernel, by decide +kernel⟩
theorem zaG (F : Fun K "is_number" "is_number" Xb fa fd) (hm : mg "is_number" = some (.ref fa)) (b : ZC K fd ["value"] []) (z_abs : mg "abs" = none) (g_GREATEST_NUMBER : ∃ t, mg "GREATEST_NUMBER" = some (.int 999999999999 t)) (C_is_whole : Fx.Cle P w K mg base k "is_whole" 1 Z3) :
  Fx.Cle P w K mg base (k + 1) "is_number" 1 YN := by
 obtain ⟨t_GREATEST_NUMBER, g_GREATEST_NUMBER⟩ := g_GREATEST_NUMBER; exact ZG F hm b zaC rfl rfl fun cdv A outer s H E hr =>
  (Zi (Zo (zcK (Zh (Fx.Cle.cal C_is_whole) hr rfl (Zb (Za 0) Zf)) (zaU (Qm Fx.op_leF (zaV rfl z_abs (Za 0)) (VE rfl g_GREATEST_NUMBER) (Zz _))))))
abbrev XF : Stmt := top 48
theorem Vf : FnScope ["kinds", "limit", "weights", "bound"] ["kinds", "limit"] (Zd XF) := ⟨rfl, rfl, rfl, by decide +kernel, rfl, by decide +kernel, by decide +kernel⟩
theorem zbE {cl : Str -> Value} {X_NoDesk : Addr} (F : Fun K "limit_of" "limit_of" XF fa fd) (hm : mg "limit_of" = some (.ref fa)) (b : ZC K fd ["kinds", "limit"] []) (z_isinstance : mg "isinstance" = none) (z_tuple : mg "tuple" = none) (z_len : mg "len" = none) (z_list : mg "list" = none) (z_all : mg "all" = none) (c_NoDesk : Fx.XCls K mg "NoDesk" X_NoDesk) (e_NoDesk : cl "NoDesk" = .ref X_NoDesk) (C_is_number : Fx.Cle P w K mg base k "is_number" 1 YN) :
  Fx.Clx P w K mg base cl (k + 1) "limit_of" 2 XJ := by
 exact Wp F hm b Vf rfl rfl fun cdv A outer s H E W hr =>
  (Zg (Z4 (Fx.tv_w (US (Vq (Xp (XY zeS (show bootBuiltins "tuple" = some (.type "tuple") by decide +kernel) rfl z_isinstance rfl z_tuple (Za 1)) (fun _ => rfl))) (Vp (ZD (Vd hr.units) (Yj rfl z_len (Za 1)) Ze (Zz _)))))
  (Zi (YK Zw.pin c_NoDesk e_NoDesk (Zb YE Zf) rfl))
  ZK)
  (Zg (Zq (i := 2) Vf.nd rfl (Or.inl rfl) (Zm (Za 1) Ze (fun _ _ => rfl)))
  (Zg (Zq (i := 3) Vf.nd rfl (Or.inl rfl) (Zm (Za 1) Ze (fun _ _ => rfl)))
  (Zg (Z4 (Fx.tv_w (US (Vq (Xp (XY UN (show bootBuiltins "list" = some (.type "list") by decide +kernel) rfl z_isinstance rfl z_list (Za 2)) (fun _ => rfl))) (Vp (ZD (Vd hr.units) (Yj rfl z_len (Za 2)) (Za 0) (Zz _)))))
  (Zi (YK Zw.pin c_NoDesk e_NoDesk (Zb YE Zf) rfl))
  ZK)
  (Zg (Z4 (Vq (Xp (Fx.ev_all rfl z_all (Yi (YM (N := ["number"]) (nv := 1) (cap := []) (Yk rfl) rfl (ZI (by decide)) (YD (Za 2)) (UP Zw) (fun _ _ _ _ => (ZF (i := 0) (show List.Nodup (["number"] : List Str) from by decide +kernel) rfl (Or.inl rfl))) (fun _ _ _ _ hp1 => Yb) (fun _ _ _ _ hp1 => (Zh (Fx.Cle.cal C_is_number) hr rfl (Zb (Za 0) Zf)))))) (fun _ => rfl)))
  (Zi (YK Zw.pin c_NoDesk e_NoDesk (Zb YE Zf) rfl))
  ZK)
  (Zg (Z4 (Vq (Xp (Zh (Fx.Cle.cal C_is_number) hr rfl (Zb (Za 3) Zf)) (fun _ => rfl)))
  (Zi (YK Zw.pin c_NoDesk e_NoDesk (Zb YE Zf) rfl))
  ZK)
  (Zi (Zo (ZY (Zb (VD rfl z_tuple (Za 2)) (Zb (Za 3) Zf)))))))))))
abbrev Wk : Stmt := top 49
theorem zc4 : FnScope ["kinds", "limits"] ["kinds", "limits"] (Zd Wk) := ⟨rfl, rfl, rfl, by decide +kernel, rfl, by decide +kernel, by decide +kernel⟩
theorem zdb {cl : Str -> Value} {X_NoDesk : Addr} (F : Fun K "desk_of" "desk_of" Wk fa fd) (hm : mg "desk_of" = some (.ref fa)) (b : ZC K fd ["kinds", "limits"] []) (z_isinstance : mg "isinstance" = none) (z_list : mg "list" = none) (z_len : mg "len" = none) (z_tuple : mg "tuple" = none) (g_MOST_KINDS : ∃ t, mg "MOST_KINDS" = some (.int 4 t)) (g_MOST_LIMITS : ∃ t, mg "MOST_LIMITS" = some (.int 10 t)) (c_NoDesk : Fx.XCls K mg "NoDesk" X_NoDesk) (e_NoDesk : cl "NoDesk" = .ref X_NoDesk) (C_is_whole : Fx.Cle P w K mg base k "is_whole" 1 Z3) (C_limit_of : Fx.Clx P w K mg base cl k "limit_of" 2 XJ) :
  Fx.Clx P w K mg base cl (k + 1) "desk_of" 2 Yq := by
 obtain ⟨t_MOST_KINDS, g_MOST_KINDS⟩ := g_MOST_KINDS; obtain ⟨t_MOST_LIMITS, g_MOST_LIMITS⟩ := g_MOST_LIMITS; exact Wp F hm b zc4 rfl rfl fun cdv A outer s H E W hr =>
  (Zg (Z4 (Fx.tv_w (US (Vq (Xp (Zh (Fx.Cle.cal C_is_whole) hr rfl (Zb (Za 0) Zf)) (fun _ => rfl))) (US (ZD XQ (Za 0) Ze (Zz _)) (Vp (ZD WJ (Za 0) (VE rfl g_MOST_KINDS) (Zz _))))))
  (Zi (YK Zw.pin c_NoDesk e_NoDesk (Zb YE Zf) rfl))
  ZK)
  (Zg (Z4 (Fx.tv_w (US (Vq (Xp (XY UN (show bootBuiltins "list" = some (.type "list") by decide +kernel) rfl z_isinstance rfl z_list (Za 1)) (fun _ => rfl))) (Vp (ZD WJ (Yj rfl z_len (Za 1)) (VE rfl g_MOST_LIMITS) (Zz _)))))
  (Zi (YK Zw.pin c_NoDesk e_NoDesk (Zb YE Zf) rfl))
  ZK)
  (Zi (Zo (ZY (Zb (Za 0) (Zb (VD rfl z_tuple (Yi (YM (N := ["limit", "kinds"]) (nv := 1) (cap := [0]) (Yk rfl) rfl (ZI (by decide)) (YD (Za 1)) (UP Zw) (fun _ _ _ _ => (ZF (i := 0) (show List.Nodup (["limit", "kinds"] : List Str) from by decide +kernel) rfl (Or.inl rfl))) (fun _ _ _ _ hp1 => Yb) (fun _ _ _ _ hp1 => (Zh (Fx.Clx.cal hp1 C_limit_of) hr rfl (Zb (Za 1) (Zb (Za 0) Zf))))))) Zf)))))))
abbrev YC : Stmt := top 50
theorem QP : FnScope ["count", "place"] ["count", "place"] (Zd YC) := ⟨rfl, rfl, rfl, by decide +kernel, rfl, by decide +kernel, by decide +kernel⟩
theorem QX {cl : Str -> Value} {X_NoPlace : Addr} (F : Fun K "check_place" "check_place" YC fa fd) (hm : mg "check_place" = some (.ref fa)) (b : ZC K fd ["count", "place"] []) (c_NoPlace : Fx.XCls K mg "NoPlace" X_NoPlace) (e_NoPlace : cl "NoPlace" = .ref X_NoPlace) (C_is_whole : Fx.Cle P w K mg base k "is_whole" 1 Z3) :
  Fx.Clx P w K mg base cl (k + 1) "check_place" 2 Yf := by
 exact Wp F hm b QP rfl rfl fun cdv A outer s H E W hr =>
  (Zi (Z4 (Fx.tv_w (US (Vq (Xp (Zh (Fx.Cle.cal C_is_whole) hr rfl (Zb (Za 1) Zf)) (fun _ => rfl))) (US (ZD XQ (Za 1) Ze (Zz _)) (Vp (ZD zex (Za 1) (Za 0) (Zz _))))))
  (Zi (YK Zw.pin c_NoPlace e_NoPlace (Zb YE Zf) rfl))
  ZK))
abbrev WW : Stmt := top 51
theorem Vu : FnScope ["weights", "point", "total", "number", "amount"] ["weights", "point"] (Zd WW) := ⟨rfl, rfl, rfl, by decide +kernel, rfl, by decide +kernel, by decide +kernel⟩
theorem zeB (F : Fun K "weight" "weight" WW fa fd) (hm : mg "weight" = some (.ref fa)) (b : ZC K fd ["weights", "point"] []) (z_zip : mg "zip" = none) (C_frac : Fx.Cle P w K mg base k "frac" 2 Y2) (C_plus : Fx.Cle P w K mg base k "plus" 2 Qi) :
  Fx.Cle P w K mg base (k + 1) "weight" 2 W6 := by
 exact ZG F hm b Vu rfl rfl fun cdv A outer s H E hr =>
  (Zg (Zq (i := 2) Vu.nd rfl (Or.inl rfl) (ZY (Zb Ze (Zb Ze Zf))))
  (Zg (Xh PassesOwn.never rfl (Jo rfl z_zip (Za 0) (Za 1)) (Vj (i := 3) (j := 4) rfl Vu.nd rfl (Or.inl rfl) rfl (Or.inl rfl))
  (Zi (Zq (i := 2) Vu.nd rfl (Or.inl rfl) (Zh (Fx.Cle.cal C_plus) hr rfl (Zb (Za 2) (Zb (Zh (Fx.Cle.cal C_frac) hr rfl (Zb (Zv ZO (Za 3) (Zm (Za 4) Ze (fun _ _ => rfl))) (Zb (Zm (Za 4) Ze (fun _ _ => rfl)) Zf))) Zf))))))
  (Zi (Zo (Za 2)))))
abbrev YV : Stmt := top 53
theorem JF : FnScope ["kinds", "goal"] ["kinds", "goal"] (Zd YV) := ⟨rfl, rfl, rfl, by decide +kernel, rfl, by decide +kernel, by decide +kernel⟩
theorem JV {cl : Str -> Value} {X_NoGoal : Addr} (F : Fun K "check_goal" "check_goal" YV fa fd) (hm : mg "check_goal" = some (.ref fa)) (b : ZC K fd ["kinds", "goal"] []) (z_isinstance : mg "isinstance" = none) (z_list : mg "list" = none) (z_len : mg "len" = none) (z_all : mg "all" = none) (c_NoGoal : Fx.XCls K mg "NoGoal" X_NoGoal) (e_NoGoal : cl "NoGoal" = .ref X_NoGoal) (C_is_whole : Fx.Cle P w K mg base k "is_whole" 1 Z3) :
  Fx.Clx P w K mg base cl (k + 1) "check_goal" 2 WO := by
 exact Wp F hm b JF rfl rfl fun cdv A outer s H E W hr =>
  (Zg (Z4 (Fx.tv_w (US (Vq (Xp (XY UN (show bootBuiltins "list" = some (.type "list") by decide +kernel) rfl z_isinstance rfl z_list (Za 1)) (fun _ => rfl))) (Vp (ZD (Vd hr.units) (Yj rfl z_len (Za 1)) (Za 0) (Zz _)))))
  (Zi (YK Zw.pin c_NoGoal e_NoGoal (Zb YE Zf) rfl))
  ZK)
  (Zi (Z4 (Vq (Xp (Fx.ev_all rfl z_all (Yi (YM (N := ["number"]) (nv := 1) (cap := []) (Yk rfl) rfl (ZI (by decide)) (YD (Za 1)) (UP Zw) (fun _ _ _ _ => (ZF (i := 0) (show List.Nodup (["number"] : List Str) from by decide +kernel) rfl (Or.inl rfl))) (fun _ _ _ _ hp1 => Yb) (fun _ _ _ _ hp1 => (Zh (Fx.Cle.cal C_is_whole) hr rfl (Zb (Za 0) Zf)))))) (fun _ => rfl)))
  (Zi (YK Zw.pin c_NoGoal e_NoGoal (Zb YE Zf) rfl))
  ZK)))
abbrev WY : Stmt := top 54
theorem zd7 : FnScope ["row", "other", "column"] ["row", "other", "column"] (Zd WY) := ⟨rfl, rfl, rfl, by decide +kernel, rfl, by decide +kernel, by decide +kernel⟩
theorem zeD (F : Fun K "sooner" "sooner" WY fa fd) (hm : mg "sooner" = some (.ref fa)) (b : ZC K fd ["row", "other", "column"] []) :
  Fx.Cle P w K mg base (k + 1) "sooner" 3 zad := by
 exact ZG F hm b zd7 rfl rfl fun cdv A outer s H E hr =>
  (Zi (Zo (Qm XQ (Zv ZO (Zm (Za 0) (Xr Ze) (fun _ _ => rfl)) (Xr (Zm (Za 1) (Za 2) (fun _ _ => rfl)))) (Zv ZO (Zm (Za 1) (Xr Ze) (fun _ _ => rfl)) (Xr (Zm (Za 0) (Za 2) (fun _ _ => rfl)))) (Zz _))))
abbrev YT : Stmt := top 55
theorem YZ : FnScope ["board", "column", "found", "thing", "row"] ["board", "column"] (Zd YT) := ⟨rfl, rfl, rfl, by decide +kernel, rfl, by decide +kernel, by decide +kernel⟩
theorem JT (F : Fun K "first_stop" "first_stop" YT fa fd) (hm : mg "first_stop" = some (.ref fa)) (b : ZC K fd ["board", "column"] []) (C_rooms_of : Fx.Cle P w K mg base k "rooms_of" 1 Ya) (C_sooner : Fx.Cle P w K mg base k "sooner" 3 zad) :
  Fx.Cle P w K mg base (k + 1) "first_stop" 2 WM := by
 exact ZG F hm b YZ rfl rfl fun cdv A outer s H E hr =>
  (Zg (Zq (i := 2) YZ.nd rfl (Or.inl rfl) Ug)
  (Zg (Xh PassesOwn.never rfl (YD (Zh (Fx.Cle.cal C_rooms_of) hr rfl (Zb (Za 0) Zf))) (ZF (i := 3) YZ.nd rfl (Or.inl rfl))
  (Zg (Zq (i := 4) YZ.nd rfl (Or.inl rfl) (Zm (ZU (Za 0)) (Za 3) (fun _ _ => rfl)))
  (Zi (Z4 (Fx.tv_w (zav (ZD XQ (Zm (Za 4) (Za 1) (fun _ _ => rfl)) Ze (Zz _)) (UT (Fx.tv_w (US (zcg (Za 2)) (Vp (Xp (Zh (Fx.Cle.cal C_sooner) hr rfl (Zb (Za 4) (Zb (Zm (ZU (Za 0)) (Za 2) (fun _ _ => rfl)) (Zb (Za 1) Zf)))) (fun _ => rfl))))))))
  (Zi (Zq (i := 2) YZ.nd rfl (Or.inl rfl) (Za 3)))
  ZK))))
  (Zi (Zo (Za 2)))))
abbrev WX : Stmt := top 56
theorem zaA : FnScope ["board", "column", "sign"] ["board", "column"] (Zd WX) := ⟨rfl, rfl, rfl, by decide +kernel, rfl, by decide +kernel, by decide +kernel⟩
theorem zeC (F : Fun K "way_of" "way_of" WX fa fd) (hm : mg "way_of" = some (.ref fa)) (b : ZC K fd ["board", "column"] []) (z_range : mg "range" = none) (z_len : mg "len" = none) (C_worth_of : Fx.Cle P w K mg base k "worth_of" 1 Xc) (C_frac : Fx.Cle P w K mg base k "frac" 2 Y2) :
  Fx.Cle P w K mg base (k + 1) "way_of" 2 zac := by
 exact ZG F hm b zaA rfl rfl fun cdv A outer s H E hr =>
  (Zg (Zq (i := 2) zaA.nd rfl (Or.inr rfl) (zcJ (ZD WJ (Zm (Zm (ZU (Za 0)) (Zh (Fx.Cle.cal C_worth_of) hr rfl (Zb (Za 0) Zf)) (fun _ _ => rfl)) (Za 1) (fun _ _ => rfl)) Ze (Zz _)) Ze (Xr Ze)))
  (Zi (Zo (Yi (YM (N := ["kind", "sign", "board", "column"]) (nv := 1) (cap := [2, 0, 1]) (Yk rfl) rfl (ZI (by decide)) (YL rfl z_range (Yj rfl z_len (ZU (Za 0)))) ZR (fun _ _ _ _ => (ZF (i := 0) (show List.Nodup (["kind", "sign", "board", "column"] : List Str) from by decide +kernel) rfl (Or.inl rfl))) (fun _ _ _ _ _ => Yb) (fun _ _ _ _ _ => (Zh (Fx.Cle.cal C_frac) hr rfl (Zb (Zv ZO (Za 1) (Zm (Zm (ZU (Za 2)) (Za 0) (fun _ _ => rfl)) (Za 3) (fun _ _ => rfl))) (Zb (ZU (Za 2)) Zf)))))))))
abbrev Wm : Stmt := top 57
theorem We : FnScope ["board", "column", "thing"] ["board"] (Zd Wm) := ⟨rfl, rfl, rfl, by decide +kernel, rfl, by decide +kernel, by decide +kernel⟩
theorem zdd (F : Fun K "climbed" "climbed" Wm fa fd) (hm : mg "climbed" = some (.ref fa)) (b : ZC K fd ["board"] []) (C_worth_of : Fx.Cle P w K mg base k "worth_of" 1 Xc) (C_raising_column : Fx.Cle P w K mg base k "raising_column" 2 Z2) (C_first_stop : Fx.Cle P w K mg base k "first_stop" 2 WM) (C_point_of : Fx.Cle P w K mg base k "point_of" 1 XI) (C_way_of : Fx.Cle P w K mg base k "way_of" 2 zac) (C_swapped : Fx.Cle P w K mg base k "swapped" 3 Y1) (C_shares_of : Fx.Cln P w K mg base k "shares_of" 2 XT) :
  Fx.Cle P w K mg base (k + 1) "climbed" 1 Qj := by
 exact ZG F hm b We rfl rfl fun cdv A outer s H E hr =>
  (Zg (Zq (i := 1) We.nd rfl (Or.inl rfl) (Zh (Fx.Cle.cal C_raising_column) hr rfl (Zb (Za 0) (Zb (Zh (Fx.Cle.cal C_worth_of) hr rfl (Zb (Za 0) Zf)) Zf))))
  (Zg (Vr PassesOwn.never (UU (Za 1))
  (Zg (Zq (i := 2) We.nd rfl (Or.inl rfl) (Zh (Fx.Cle.cal C_first_stop) hr rfl (Zb (Za 0) (Zb (Za 1) Zf))))
  (Zg (Z4 (zcg (Za 2))
  (Zi (Zo (ZY (Zb YE (Zb (Zh (Fx.Cle.cal C_point_of) hr rfl (Zb (Za 0) Zf)) (Zb (Zh (Fx.Cle.cal C_way_of) hr rfl (Zb (Za 0) (Zb (Za 1) Zf))) Zf))))))
  ZK)
  (Zg (Zq (i := 0) We.nd rfl (Or.inl rfl) (Zh (Fx.Cle.cal C_swapped) hr rfl (Zb (Za 0) (Zb (Za 2) (Zb (Za 1) Zf)))))
  (Zi (Zq (i := 1) We.nd rfl (Or.inl rfl) (Zh (Fx.Cle.cal C_raising_column) hr rfl (Zb (Za 0) (Zb (Zh (Fx.Cle.cal C_worth_of) hr rfl (Zb (Za 0) Zf)) Zf)))))))))
  (Zi (Zo (ZY (Zb YE (Zb (Zh (Fx.Cle.cal C_point_of) hr rfl (Zb (Za 0) Zf)) (Zb (Zh (Fx.Cle.cal (Fx.Cln.cle C_shares_of)) hr rfl (Zb (Za 0) (Zb (Zh (Fx.Cle.cal C_worth_of) hr rfl (Zb (Za 0) Zf)) Zf))) Zf))))))))
abbrev Jh : Stmt := top 58
theorem zd9 : FnScope ["desk", "goal", "told"] ["desk", "goal"] (Zd Jh) := ⟨rfl, rfl, rfl, by decide +kernel, rfl, by decide +kernel, by decide +kernel⟩
theorem ok_best {cl : Str -> Value} (F : Fun K "best" "best" Jh fa fd) (hm : mg "best" = some (.ref fa)) (b : ZC K fd ["desk", "goal"] []) (C_check_goal : Fx.Clx P w K mg base cl k "check_goal" 2 WO) (C_settled : Fx.Cle P w K mg base k "settled" 2 Qh) (C_clash_of : Fx.Cle P w K mg base k "clash_of" 2 V2) (C_climbed : Fx.Cle P w K mg base k "climbed" 1 Qj) :
  Fx.Clx P w K mg base cl (k + 1) "best" 2 ze8 := by
 exact Wp F hm b zd9 rfl rfl fun cdv A outer s H E W hr =>
  (Zg (zbm (Zh (Fx.Clx.cal Zw.pin C_check_goal) hr rfl (Zb (Zm (Za 0) Ze (fun _ _ => rfl)) (Zb (Za 1) Zf))))
  (Zg (Zq (i := 2) zd9.nd rfl (Or.inl rfl) (Zh (Fx.Cle.cal C_settled) hr rfl (Zb (Za 0) (Zb (Za 1) Zf))))
  (Zg (Z4 (UU (Zm (Za 2) Ze (fun _ _ => rfl)))
  (Zi (Zo (ZY (Zb YE (Zb (Zh (Fx.Cle.cal C_clash_of) hr rfl (Zb (Zm (Za 2) Ze (fun _ _ => rfl)) (Zb (Zm (Za 2) Ze (fun _ _ => rfl)) Zf))) Zf)))))
  ZK)
  (Zi (Zo (Zh (Fx.Cle.cal C_climbed) hr rfl (Zb (Zm (Za 2) Ze (fun _ _ => rfl)) Zf)))))))
abbrev Wf : Stmt := top 60
theorem zc2 : FnScope ["desk", "place"] ["desk", "place"] (Zd Wf) := ⟨rfl, rfl, rfl, by decide +kernel, rfl, by decide +kernel, by decide +kernel⟩
theorem zc6 (F : Fun K "without" "without" Wf fa fd) (hm : mg "without" = some (.ref fa)) (b : ZC K fd ["desk", "place"] []) :
  Fx.Cle P w K mg base (k + 1) "without" 2 WL := by
 exact ZG F hm b zc2 rfl rfl fun cdv A outer s H E hr =>
  (Zi (Zo (ZY (Zb (Zm (Za 0) Ze (fun _ _ => rfl)) (Zb (Zv zez (zag (Zm (Za 0) Ze (fun _ _ => rfl)) U0 (U1 (Za 1))) (zag (Zm (Za 0) Ze (fun _ _ => rfl)) (U1 (Zv ZP (Za 1) Ze)) U0)) Zf)))))
abbrev Yv : Stmt := top 61
theorem QM : FnScope ["shares", "place"] ["shares", "place"] (Zd Yv) := ⟨rfl, rfl, rfl, by decide +kernel, rfl, by decide +kernel, by decide +kernel⟩
theorem QQ (F : Fun K "with_nought" "with_nought" Yv fa fd) (hm : mg "with_nought" = some (.ref fa)) (b : ZC K fd ["shares", "place"] []) :
  Fx.Cle P w K mg base (k + 1) "with_nought" 2 Xv := by
 exact ZG F hm b QM rfl rfl fun cdv A outer s H E hr =>
  (Zi (Zo (Zv ZP (Zv ZP (Yi (U4 (Za 0) U0 (U1 (Za 1)))) (X3 (Zb (ZY (Zb Ze (Zb Ze Zf))) Zf))) (Yi (U4 (Za 0) (U1 (Za 1)) U0)))))
abbrev VQ : Stmt := top 62
theorem sc_moved : FnScope ["point", "way", "often"] ["point", "way", "often"] (Zd VQ) := ⟨rfl, rfl, rfl, by decide +kernel, rfl, by decide +kernel, by decide +kernel⟩
theorem ok_moved (F : Fun K "moved" "moved" VQ fa fd) (hm : mg "moved" = some (.ref fa)) (b : ZC K fd ["point", "way", "often"] []) (z_zip : mg "zip" = none) (C_times : Fx.Cle P w K mg base k "times" 2 zbL) (C_plus : Fx.Cle P w K mg base k "plus" 2 Qi) :
  Fx.Cle P w K mg base (k + 1) "moved" 3 zbM := by
 exact ZG F hm b sc_moved rfl rfl fun cdv A outer s H E hr =>
  (Zi (Zo (Yi (YM (N := ["amount", "step", "often"]) (nv := 2) (cap := [2]) (Yk rfl) rfl (Qd (by decide) (by decide)) (Jo rfl z_zip (Za 0) (Za 1)) ZR (fun _ _ _ _ => (Vj (i := 0) (j := 1) rfl (show List.Nodup (["amount", "step", "often"] : List Str) from by decide +kernel) rfl (Or.inl rfl) rfl (Or.inl rfl))) (fun _ _ _ _ _ => Yb) (fun _ _ _ _ _ => (Zh (Fx.Cle.cal C_plus) hr rfl (Zb (Za 0) (Zb (Zh (Fx.Cle.cal C_times) hr rfl (Zb (Za 2) (Zb (Za 1) Zf))) Zf))))))))
abbrev Ym : Stmt := top 63
theorem XM : FnScope ["limit", "point", "way", "room", "often"] ["limit", "point", "way"] (Zd Ym) := ⟨rfl, rfl, rfl, by decide +kernel, rfl, by decide +kernel, by decide +kernel⟩
theorem U5 (F : Fun K "point_beyond" "point_beyond" Ym fa fd) (hm : mg "point_beyond" = some (.ref fa)) (b : ZC K fd ["limit", "point", "way"] []) (C_weight : Fx.Cle P w K mg base k "weight" 2 W6) (C_less : Fx.Cle P w K mg base k "less" 2 ze7) (C_below : Fx.Cle P w K mg base k "below" 2 WD) (C_over : Fx.Cle P w K mg base k "over" 2 ze6) (C_plus : Fx.Cle P w K mg base k "plus" 2 Qi) (C_moved : Fx.Cle P w K mg base k "moved" 3 zbM) :
  Fx.Cle P w K mg base (k + 1) "point_beyond" 3 X7 := by
 exact ZG F hm b XM rfl rfl fun cdv A outer s H E hr =>
  (Zg (Zq (i := 3) XM.nd rfl (Or.inl rfl) (Zh (Fx.Cle.cal C_less) hr rfl (Zb (ZY (Zb (Zm (Za 0) Ze (fun _ _ => rfl)) (Zb Ze Zf))) (Zb (Zh (Fx.Cle.cal C_weight) hr rfl (Zb (Zm (Za 0) Ze (fun _ _ => rfl)) (Zb (Za 1) Zf))) Zf))))
  (Zg (Z4 (Xp (Zh (Fx.Cle.cal C_below) hr rfl (Zb (Za 3) (Zb (ZY (Zb Ze (Zb Ze Zf))) Zf))) (fun _ => rfl))
  (Zi (Zo (Za 1)))
  ZK)
  (Zg (Zq (i := 4) XM.nd rfl (Or.inl rfl) (Zh (Fx.Cle.cal C_plus) hr rfl (Zb (Zh (Fx.Cle.cal C_over) hr rfl (Zb (Za 3) (Zb (Zh (Fx.Cle.cal C_weight) hr rfl (Zb (Zm (Za 0) Ze (fun _ _ => rfl)) (Zb (Za 2) Zf))) Zf))) (Zb (ZY (Zb Ze (Zb Ze Zf))) Zf))))
  (Zi (Zo (Zh (Fx.Cle.cal C_moved) hr rfl (Zb (Za 1) (Zb (Za 2) (Zb (Za 4) Zf)))))))))
abbrev VT : Stmt := top 64
theorem JE : FnScope ["desk", "place", "limit", "told"] ["desk", "place"] (Zd VT) := ⟨rfl, rfl, rfl, by decide +kernel, rfl, by decide +kernel, by decide +kernel⟩
theorem ok_cover {cl : Str -> Value} (F : Fun K "cover" "cover" VT fa fd) (hm : mg "cover" = some (.ref fa)) (b : ZC K fd ["desk", "place"] []) (z_len : mg "len" = none) (z_list : mg "list" = none) (C_check_place : Fx.Clx P w K mg base cl k "check_place" 2 Yf) (C_without : Fx.Cle P w K mg base k "without" 2 WL) (C_best : Fx.Clx P w K mg base cl k "best" 2 ze8) (C_with_nought : Fx.Cle P w K mg base k "with_nought" 2 Xv) (C_point_beyond : Fx.Cle P w K mg base k "point_beyond" 3 X7) (C_weight : Fx.Cle P w K mg base k "weight" 2 W6) (C_below : Fx.Cle P w K mg base k "below" 2 WD) :
  Fx.Clx P w K mg base cl (k + 1) "cover" 2 zbP := by
 exact Wp F hm b JE rfl rfl fun cdv A outer s H E W hr =>
  (Zg (zbm (Zh (Fx.Clx.cal Zw.pin C_check_place) hr rfl (Zb (Yj rfl z_len (Zm (Za 0) Ze (fun _ _ => rfl))) (Zb (Za 1) Zf))))
  (Zg (Zq (i := 2) JE.nd rfl (Or.inl rfl) (Zm (Zm (Za 0) Ze (fun _ _ => rfl)) (Za 1) (fun _ _ => rfl)))
  (Zg (Zq (i := 3) JE.nd rfl (Or.inl rfl) (Zh (Fx.Clx.cal Zw.pin C_best) hr rfl (Zb (Zh (Fx.Cle.cal C_without) hr rfl (Zb (Za 0) (Zb (Za 1) Zf))) (Zb (Yi (zev rfl z_list (Zm (Za 2) Ze (fun _ _ => rfl)))) Zf))))
  (Zg (Z4 (ZD (Wo hr.units) (Zm (Za 3) Ze (fun _ _ => rfl)) YE (Zz _))
  (Zi (Zo (ZY (Zb YE (Zb (Zh (Fx.Cle.cal C_with_nought) hr rfl (Zb (Zm (Za 3) Ze (fun _ _ => rfl)) (Zb (Za 1) Zf))) Zf)))))
  ZK)
  (Zg (Z4 (ZD (Wo hr.units) (Zm (Za 3) Ze (fun _ _ => rfl)) YE (Zz _))
  (Zi (Zo (ZY (Zb YE (Zb (Zh (Fx.Cle.cal C_point_beyond) hr rfl (Zb (Za 2) (Zb (Zm (Za 3) Ze (fun _ _ => rfl)) (Zb (Zm (Za 3) Ze (fun _ _ => rfl)) Zf)))) Zf)))))
  ZK)
  (Zg (Z4 (Xp (Zh (Fx.Cle.cal C_below) hr rfl (Zb (ZY (Zb (Zm (Za 2) Ze (fun _ _ => rfl)) (Zb Ze Zf))) (Zb (Zh (Fx.Cle.cal C_weight) hr rfl (Zb (Zm (Za 2) Ze (fun _ _ => rfl)) (Zb (Zm (Za 3) Ze (fun _ _ => rfl)) Zf))) Zf))) (fun _ => rfl))
  (Zi (Zo (ZY (Zb YE (Zb (Zm (Za 3) Ze (fun _ _ => rfl)) Zf)))))
  ZK)
  (Zi (Zo (ZY (Zb YE (Zb (Zh (Fx.Cle.cal C_with_nought) hr rfl (Zb (Zm (Za 3) Ze (fun _ _ => rfl)) (Zb (Za 1) Zf))) Zf)))))))))))
abbrev XD : Stmt := top 65
theorem zbr : FnScope ["desk", "place"] ["desk", "place"] (Zd XD) := ⟨rfl, rfl, rfl, by decide +kernel, rfl, by decide +kernel, by decide +kernel⟩
theorem zbD {cl : Str -> Value} (F : Fun K "needless" "needless" XD fa fd) (hm : mg "needless" = some (.ref fa)) (b : ZC K fd ["desk", "place"] []) (C_cover : Fx.Clx P w K mg base cl k "cover" 2 zbP) :
  Fx.Clx P w K mg base cl (k + 1) "needless" 2 V1 := by
 exact Wp F hm b zbr rfl rfl fun cdv A outer s H E W hr =>
  (Zi (Zo (Qm (Vd hr.units) (Zm (Zh (Fx.Clx.cal Zw.pin C_cover) hr rfl (Zb (Za 0) (Zb (Za 1) Zf))) Ze (fun _ _ => rfl)) YE (Zz _))))
abbrev Jf : Stmt := top 66
theorem JD : FnScope ["desk", "place"] ["desk"] (Zd Jf) := ⟨rfl, rfl, rfl, by decide +kernel, rfl, by decide +kernel, by decide +kernel⟩
theorem ok_lean {cl : Str -> Value} (F : Fun K "lean" "lean" Jf fa fd) (hm : mg "lean" = some (.ref fa)) (b : ZC K fd ["desk"] []) (z_len : mg "len" = none) (C_needless : Fx.Clx P w K mg base cl k "needless" 2 V1) (C_without : Fx.Cle P w K mg base k "without" 2 WL) :
  Fx.Clx P w K mg base cl (k + 1) "lean" 1 zcI := by
 exact Wp F hm b JD rfl rfl fun cdv A outer s H E W hr =>
  (Zg (Zq (i := 1) JD.nd rfl (Or.inl rfl) Ze)
  (Zg (Vr (Jk Zw) (ZD XQ (Za 1) (Yj rfl z_len (Zm (Za 0) Ze (fun _ _ => rfl))) (Zz _))
  (Zi (Z4 (Xp (Zh (Fx.Clx.cal Zw.pin C_needless) hr rfl (Zb (Za 0) (Zb (Za 1) Zf))) (fun _ => rfl))
  (Zi (Zq (i := 0) JD.nd rfl (Or.inl rfl) (Zh (Fx.Cle.cal C_without) hr rfl (Zb (Za 0) (Zb (Za 1) Zf)))))
  (Zi (Zq (i := 1) JD.nd rfl (Or.inl rfl) (Zv ZP (Za 1) Ze))))))
  (Zi (Zo (Za 0)))))
abbrev W0 : Stmt := top 68
theorem zd8 : FnScope ["weights", "kind"] ["weights", "kind"] (Zd W0) := ⟨rfl, rfl, rfl, by decide +kernel, rfl, by decide +kernel, by decide +kernel⟩
theorem zeF (F : Fun K "others" "others" W0 fa fd) (hm : mg "others" = some (.ref fa)) (b : ZC K fd ["weights", "kind"] []) :
  Fx.Cle P w K mg base (k + 1) "others" 2 VC := by
 exact ZG F hm b zd8 rfl rfl fun cdv A outer s H E hr =>
  (Zi (Zo (Fx.ev_join (Zv ZP (Yi (U4 (Za 0) U0 (U1 (Za 1)))) (Yi (U4 (Za 0) (U1 (Zv ZP (Za 1) Ze)) U0))) (Zv zez (zag (Za 0) U0 (U1 (Za 1))) (zag (Za 0) (U1 (Zv ZP (Za 1) Ze)) U0)))))
abbrev W1 : Stmt := top 69
theorem Vx : FnScope ["upper", "lower", "kind", "often", "as_often", "weights"] ["upper", "lower", "kind"] (Zd W1) := ⟨rfl, rfl, rfl, by decide +kernel, rfl, by decide +kernel, by decide +kernel⟩
theorem zeG (F : Fun K "joined" "joined" W1 fa fd) (hm : mg "joined" = some (.ref fa)) (b : ZC K fd ["upper", "lower", "kind"] []) (z_zip : mg "zip" = none) (C_others : Fx.Cle P w K mg base k "others" 2 VC) :
  Fx.Cle P w K mg base (k + 1) "joined" 3 zaf := by
 exact ZG F hm b Vx rfl rfl fun cdv A outer s H E hr =>
  (Zg (Zq (i := 3) Vx.nd rfl (Or.inr rfl) (Xr (Zm (Zm (Za 1) Ze (fun _ _ => rfl)) (Za 2) (fun _ _ => rfl))))
  (Zg (Zq (i := 4) Vx.nd rfl (Or.inr rfl) (Zm (Zm (Za 0) Ze (fun _ _ => rfl)) (Za 2) (fun _ _ => rfl)))
  (Zg (WG (N := ["a", "b", "often", "as_often"]) (nv := 2) (cap := [3, 4]) (i := 5) (Yk rfl) rfl (Qd (by decide) (by decide)) (Jo rfl z_zip (Zm (Za 0) Ze (fun _ _ => rfl)) (Zm (Za 1) Ze (fun _ _ => rfl))) ZR (fun _ _ _ _ => (Vj (i := 0) (j := 1) rfl (show List.Nodup (["a", "b", "often", "as_often"] : List Str) from by decide +kernel) rfl (Or.inl rfl) rfl (Or.inl rfl))) (fun _ _ _ _ _ => Yb) (fun _ _ _ _ _ => (Zv ZP (Zv ZO (Za 2) (Za 0)) (Zv ZO (Za 3) (Za 1)))) Vx.nd rfl (Or.inl rfl))
  (Zi (Zo (ZY (Zb (Zh (Fx.Cle.cal C_others) hr rfl (Zb (Za 5) (Zb (Za 2) Zf))) (Zb (Zv ZP (Zv ZO (Za 3) (Zm (Za 0) Ze (fun _ _ => rfl))) (Zv ZO (Za 4) (Zm (Za 1) Ze (fun _ _ => rfl)))) Zf))))))))
abbrev Yy : Stmt := top 70
theorem YI : FnScope ["limits", "kind", "left", "uppers", "lowers", "upper"] ["limits", "kind"] (Zd Yy) := ⟨rfl, rfl, rfl, by decide +kernel, rfl, by decide +kernel, by decide +kernel⟩
theorem QT (F : Fun K "limits_left" "limits_left" Yy fa fd) (hm : mg "limits_left" = some (.ref fa)) (b : ZC K fd ["limits", "kind"] []) (C_others : Fx.Cle P w K mg base k "others" 2 VC) (C_joined : Fx.Cle P w K mg base k "joined" 3 zaf) :
  Fx.Cle P w K mg base (k + 1) "limits_left" 2 WC := by
 exact ZG F hm b YI rfl rfl fun cdv A outer s H E hr =>
  (Zg (zcj (N := ["limit", "kind"]) (nv := 1) (cap := [1]) (i := 2) (Yk rfl) rfl (ZI (by decide)) (YD (Za 0)) ZR (fun _ _ _ _ => (ZF (i := 0) (show List.Nodup (["limit", "kind"] : List Str) from by decide +kernel) rfl (Or.inl rfl))) (fun _ _ _ _ _ => (za8 (ZD (Wo hr.units) (Zm (Zm (Za 0) Ze (fun _ _ => rfl)) (Za 1) (fun _ _ => rfl)) Ze (Zz _)))) (fun _ _ _ _ _ => (ZY (Zb (Zh (Fx.Cle.cal C_others) hr rfl (Zb (Zm (Za 0) Ze (fun _ _ => rfl)) (Zb (Za 1) Zf))) (Zb (Zm (Za 0) Ze (fun _ _ => rfl)) Zf)))) YI.nd rfl (Or.inl rfl))
  (Zg (WG (N := ["limit", "kind"]) (nv := 1) (cap := [1]) (i := 3) (Yk rfl) rfl (ZI (by decide)) (YD (Za 0)) ZR (fun _ _ _ _ => (ZF (i := 0) (show List.Nodup (["limit", "kind"] : List Str) from by decide +kernel) rfl (Or.inl rfl))) (fun _ _ _ _ _ => (za8 (ZD WJ (Zm (Zm (Za 0) Ze (fun _ _ => rfl)) (Za 1) (fun _ _ => rfl)) Ze (Zz _)))) (fun _ _ _ _ _ => (Za 0)) YI.nd rfl (Or.inl rfl))
  (Zg (WG (N := ["limit", "kind"]) (nv := 1) (cap := [1]) (i := 4) (Yk rfl) rfl (ZI (by decide)) (YD (Za 0)) ZR (fun _ _ _ _ => (ZF (i := 0) (show List.Nodup (["limit", "kind"] : List Str) from by decide +kernel) rfl (Or.inl rfl))) (fun _ _ _ _ _ => (za8 (ZD XQ (Zm (Zm (Za 0) Ze (fun _ _ => rfl)) (Za 1) (fun _ _ => rfl)) Ze (Zz _)))) (fun _ _ _ _ _ => (Za 0)) YI.nd rfl (Or.inl rfl))
  (Zg (Xh PassesOwn.never rfl (YD (Za 3)) (ZF (i := 5) YI.nd rfl (Or.inr rfl))
  (Zi (Fx.ss_ext (i := 2) rfl (YM (N := ["lower", "upper", "kind"]) (nv := 1) (cap := [5, 1]) (Yk rfl) rfl (ZI (by decide)) (YD (Za 4)) ZR (fun _ _ _ _ => (ZF (i := 0) (show List.Nodup (["lower", "upper", "kind"] : List Str) from by decide +kernel) rfl (Or.inl rfl))) (fun _ _ _ _ _ => Yb) (fun _ _ _ _ _ => (Zh (Fx.Cle.cal C_joined) hr rfl (Zb (Za 1) (Zb (Za 0) (Zb (Za 2) Zf)))))))))
  (Zi (Zo (Za 2)))))))
abbrev YU : Stmt := top 71
theorem Xt : FnScope ["weights", "divisor", "number"] ["weights"] (Zd YU) := ⟨rfl, rfl, rfl, by decide +kernel, rfl, by decide +kernel, by decide +kernel⟩
theorem JU (F : Fun K "divisor_of" "divisor_of" YU fa fd) (hm : mg "divisor_of" = some (.ref fa)) (b : ZC K fd ["weights"] []) (z_max : mg "max" = none) (C_common_divisor : Fx.Cle P w K mg base k "common_divisor" 2 Yh) :
  Fx.Cle P w K mg base (k + 1) "divisor_of" 1 WN := by
 exact ZG F hm b Xt rfl rfl fun cdv A outer s H E hr =>
  (Zg (Zq (i := 1) Xt.nd rfl (Or.inl rfl) Ze)
  (Zg (Xh PassesOwn.never rfl (YD (Za 0)) (ZF (i := 2) Xt.nd rfl (Or.inl rfl))
  (Zi (Zq (i := 1) Xt.nd rfl (Or.inl rfl) (Zh (Fx.Cle.cal C_common_divisor) hr rfl (Zb (Za 1) (Zb (Za 2) Zf))))))
  (Zi (Zo (Fx.ev_max rfl z_max (Za 1) Ze)))))
abbrev Yn : Stmt := top 72
theorem Z6 : FnScope ["limits", "bounds", "limit", "divisor", "weights", "bound"] ["limits"] (Zd Yn) := ⟨rfl, rfl, rfl, by decide +kernel, rfl, by decide +kernel, by decide +kernel⟩
theorem U6 (F : Fun K "least_bounds" "least_bounds" Yn fa fd) (hm : mg "least_bounds" = some (.ref fa)) (b : ZC K fd ["limits"] []) (z_tuple : mg "tuple" = none) (C_divisor_of : Fx.Cle P w K mg base k "divisor_of" 1 WN) (C_frac : Fx.Cle P w K mg base k "frac" 2 Y2) (C_below : Fx.Cle P w K mg base k "below" 2 WD) :
  Fx.Cle P w K mg base (k + 1) "least_bounds" 1 X8 := by
 exact ZG F hm b Z6 rfl rfl fun cdv A outer s H E hr =>
  (Zg (Fx.ss_newD (i := 1) Z6.nd rfl (Or.inl rfl))
  (Zg (Xh PassesOwn.never rfl (YD (Za 0)) (ZF (i := 2) Z6.nd rfl (Or.inl rfl))
  (Zg (Zq (i := 3) Z6.nd rfl (Or.inr rfl) (Zh (Fx.Cle.cal C_divisor_of) hr rfl (Zb (Zm (Za 2) Ze (fun _ _ => rfl)) Zf)))
  (Zg (Zq (i := 4) Z6.nd rfl (Or.inl rfl) (VD rfl z_tuple (Yi (YM (N := ["number", "divisor"]) (nv := 1) (cap := [3]) (Yk rfl) rfl (ZI (by decide)) (YD (Zm (Za 2) Ze (fun _ _ => rfl))) ZR (fun _ _ _ _ => (ZF (i := 0) (show List.Nodup (["number", "divisor"] : List Str) from by decide +kernel) rfl (Or.inl rfl))) (fun _ _ _ _ _ => Yb) (fun _ _ _ _ _ => (Zv VX (Za 0) (Za 1)))))))
  (Zg (Zq (i := 5) Z6.nd rfl (Or.inl rfl) (Zh (Fx.Cle.cal C_frac) hr rfl (Zb (Zm (Za 2) Ze (fun _ _ => rfl)) (Zb (Za 3) Zf))))
  (Zi (Fx.ss_ifG (Fx.tv_w (US (zdV (i := 1) (Fx.u1 hr.units) (Za 4) rfl) (Vp (Xp (Zh (Fx.Cle.cal C_below) hr rfl (Zb (Za 5) (Zb (Fx.ev_getN (i := 1) (Fx.u1 hr.units) rfl (Za 4) (fun _ _ => rfl)) Zf))) (fun _ => rfl)))))
  (Zi (Fx.ss_putN (i := 1) (Fx.u1 hr.units) rfl (Za 4) (Za 5)))
  ZK))))))
  (Zi (Fx.ss_retD (i := 1) rfl))))
abbrev Yw : Stmt := top 73
theorem QN : FnScope ["weights", "bound"] ["weights", "bound"] (Zd Yw) := ⟨rfl, rfl, rfl, by decide +kernel, rfl, by decide +kernel, by decide +kernel⟩
theorem QR (F : Fun K "whole_limit" "whole_limit" Yw fa fd) (hm : mg "whole_limit" = some (.ref fa)) (b : ZC K fd ["weights", "bound"] []) (z_tuple : mg "tuple" = none) :
  Fx.Cle P w K mg base (k + 1) "whole_limit" 2 WA := by
 exact ZG F hm b QN rfl rfl fun cdv A outer s H E hr =>
  (Zi (Zo (ZY (Zb (VD rfl z_tuple (Yi (YM (N := ["number", "bound"]) (nv := 1) (cap := [1]) (Yk rfl) rfl (ZI (by decide)) (YD (Za 0)) ZR (fun _ _ _ _ => (ZF (i := 0) (show List.Nodup (["number", "bound"] : List Str) from by decide +kernel) rfl (Or.inl rfl))) (fun _ _ _ _ _ => Yb) (fun _ _ _ _ _ => (Zv ZO (Za 0) (Zm (Za 1) Ze (fun _ _ => rfl))))))) (Zb (Zm (Za 1) Ze (fun _ _ => rfl)) Zf)))))
abbrev Wj : Stmt := top 74
theorem Ja : FnScope ["desk", "kind", "bounds"] ["desk", "kind"] (Zd Wj) := ⟨rfl, rfl, rfl, by decide +kernel, rfl, by decide +kernel, by decide +kernel⟩
theorem zda {cl : Str -> Value} {X_NoPlace : Addr} (F : Fun K "dropped" "dropped" Wj fa fd) (hm : mg "dropped" = some (.ref fa)) (b : ZC K fd ["desk", "kind"] []) (z_tuple : mg "tuple" = none) (c_NoPlace : Fx.XCls K mg "NoPlace" X_NoPlace) (e_NoPlace : cl "NoPlace" = .ref X_NoPlace) (C_check_place : Fx.Clx P w K mg base cl k "check_place" 2 Yf) (C_lean : Fx.Clx P w K mg base cl k "lean" 1 zcI) (C_limits_left : Fx.Cle P w K mg base k "limits_left" 2 WC) (C_least_bounds : Fx.Cle P w K mg base k "least_bounds" 1 X8) (C_whole_limit : Fx.Cle P w K mg base k "whole_limit" 2 WA) :
  Fx.Clx P w K mg base cl (k + 1) "dropped" 2 Xk := by
 exact Wp F hm b Ja rfl rfl fun cdv A outer s H E W hr =>
  (Zg (zbm (Zh (Fx.Clx.cal Zw.pin C_check_place) hr rfl (Zb (Zm (Za 0) Ze (fun _ _ => rfl)) (Zb (Za 1) Zf))))
  (Zg (Z4 (ZD (Wo hr.units) (Zm (Za 0) Ze (fun _ _ => rfl)) Ze (Zz _))
  (Zi (YK Zw.pin c_NoPlace e_NoPlace (Zb YE Zf) rfl))
  ZK)
  (Zg (Zq (i := 2) Ja.nd rfl (Or.inr rfl) (Zh (Fx.Cle.cal C_least_bounds) hr rfl (Zb (Zh (Fx.Cle.cal C_limits_left) hr rfl (Zb (Zm (Zh (Fx.Clx.cal Zw.pin C_lean) hr rfl (Zb (Za 0) Zf)) Ze (fun _ _ => rfl)) (Zb (Za 1) Zf))) Zf)))
  (Zi (Zo (Zh (Fx.Clx.cal Zw.pin C_lean) hr rfl (Zb (ZY (Zb (Zv XN (Zm (Za 0) Ze (fun _ _ => rfl)) Ze) (Zb (VD rfl z_tuple (Yi (YM (N := ["weights", "bounds"]) (nv := 1) (cap := [2]) (Yk rfl) rfl (ZI (by decide)) (Fx.iv_keys (Za 2)) (UP Zw) (fun _ _ _ _ => (ZF (i := 0) (show List.Nodup (["weights", "bounds"] : List Str) from by decide +kernel) rfl (Or.inl rfl))) (fun _ _ _ _ hp1 => Yb) (fun _ _ _ _ hp1 => (Zh (Fx.Cle.cal C_whole_limit) hr rfl (Zb (Za 0) (Zb (Fx.ev_getD (Fx.u1 hr.units) (Za 1) (Za 0) (fun _ _ => rfl)) Zf))))))) Zf))) Zf)))))))
abbrev Wi : Stmt := top 77
theorem zc3 : FnScope ["one", "other", "limit", "point"] ["one", "other"] (Zd Wi) := ⟨rfl, rfl, rfl, by decide +kernel, rfl, by decide +kernel, by decide +kernel⟩
theorem zc9 {cl : Str -> Value} {X_Unlike : Addr} (F : Fun K "outside" "outside" Wi fa fd) (hm : mg "outside" = some (.ref fa)) (b : ZC K fd ["one", "other"] []) (c_Unlike : Fx.XCls K mg "Unlike" X_Unlike) (e_Unlike : cl "Unlike" = .ref X_Unlike) :
  Fx.Clx P w K mg base cl (k + 1) "outside" 2 XU := by
 exact Wp F hm b zc3 rfl rfl fun cdv A outer s H E W hr =>
  (Zg (Z4 (ZD (Vd hr.units) (Zm (Za 0) Ze (fun _ _ => rfl)) (Zm (Za 1) Ze (fun _ _ => rfl)) (Zz _))
  (Zi (YK Zw.pin c_Unlike e_Unlike (Zb YE Zf) rfl))
  ZK)
  (Zg Jz
  (Zi Jz)))
abbrev WV : Stmt := top 78
theorem zd5 : FnScope ["one", "other"] ["one", "other"] (Zd WV) := ⟨rfl, rfl, rfl, by decide +kernel, rfl, by decide +kernel, by decide +kernel⟩
theorem zeA {cl : Str -> Value} (F : Fun K "within" "within" WV fa fd) (hm : mg "within" = some (.ref fa)) (b : ZC K fd ["one", "other"] []) (C_outside : Fx.Clx P w K mg base cl k "outside" 2 XU) :
  Fx.Clx P w K mg base cl (k + 1) "within" 2 UO := by
 exact Wp F hm b zd5 rfl rfl fun cdv A outer s H E W hr =>
  (Zi (Zo (Fx.ev_isN (Zh (Fx.Clx.cal Zw.pin C_outside) hr rfl (Zb (Za 0) (Zb (Za 1) Zf))))))
abbrev YA : Stmt := top 80
theorem QO : FnScope ["_law_script", "_law_k"] ["_law_script", "_law_k"] (Zd YA) := ⟨rfl, rfl, rfl, by decide +kernel, rfl, by decide +kernel, by decide +kernel⟩
theorem QV (F : Fun K "_law_cell_at" "_law_cell_at" YA fa fd) (hm : mg "_law_cell_at" = some (.ref fa)) (b : ZC K fd ["_law_script", "_law_k"] []) (z_len : mg "len" = none) :
  Fx.Cle P w K mg base (k + 1) "_law_cell_at" 2 Zt := by
 exact ZG F hm b QO rfl rfl fun cdv A outer s H E hr =>
  (Zg (Z4 (ZD XQ (Za 1) (Yj rfl z_len (Za 0)) (Zz _))
  (Zi (Zo (Zm (Za 0) (Za 1) (fun _ _ => rfl))))
  ZK)
  (Zg (Z4 (ZD (Wo hr.units) (Za 0) (X3 Zf) (Zz _))
  (Zi (Zo Ze))
  ZK)
  (Zi (Zo (Zv ZP (Zv ZO (Zm (Za 0) (Zv Xo (Za 1) (Yj rfl z_len (Za 0))) (fun _ _ => rfl)) Ze) (Za 1))))))
abbrev YR : Stmt := top 81
theorem Vw : FnScope ["_law_cell", "_law_wide", "_law_number_here"] ["_law_cell", "_law_wide"] (Zd YR) := ⟨rfl, rfl, rfl, by decide +kernel, rfl, by decide +kernel, by decide +kernel⟩
theorem JR (F : Fun K "_law_number" "_law_number" YR fa fd) (hm : mg "_law_number" = some (.ref fa)) (b : ZC K fd ["_law_cell", "_law_wide"] []) :
  Fx.Cle P w K mg base (k + 1) "_law_number" 2 Yc := by
 exact ZG F hm b Vw rfl rfl fun cdv A outer s H E hr =>
  (Zg (Zq (i := 2) Vw.nd rfl (Or.inl rfl) (Zv Xo (Za 0) (Zv ZP (Zv ZO Ze (Za 1)) Ze)))
  (Zg (Z4 (ZD WJ (Za 2) (Za 1) (Zz _))
  (Zi (Zo (Zv XN (Zv XN (Za 2) (Zv ZO Ze (Za 1))) Ze)))
  ZK)
  (Zi (Zo (Za 2)))))
abbrev Xa : Stmt := top 83
theorem zaB : FnScope ["_law_what", "_law_one", "_law_other"] ["_law_what", "_law_one", "_law_other"] (Zd Xa) := ⟨rfl, rfl, rfl, by decide +kernel, rfl, by decide +kernel, by decide +kernel⟩
theorem zaF {cl : Str -> Value} (F : Fun K "_law_asked" "_law_asked" Xa fa fd) (hm : mg "_law_asked" = some (.ref fa)) (b : ZC K fd ["_law_what", "_law_one", "_law_other"] []) (C_dropped : Fx.Clx P w K mg base cl k "dropped" 2 Xk) (C_corners : Fx.Clx P w K mg base cl k "corners" 1 Xl) (C_outside : Fx.Clx P w K mg base cl k "outside" 2 XU) (C_within : Fx.Clx P w K mg base cl k "within" 2 UO) :
  Fx.Clx P w K mg base cl (k + 1) "_law_asked" 3 ZJ := by
 exact Wp F hm b zaB rfl rfl fun cdv A outer s H E W hr =>
  (Zg (Z4 (ZD (Wo hr.units) (Za 0) Ze (Zz _))
  (Zi (Zo (Zh (Fx.Clx.cal Zw.pin C_dropped) hr rfl (Zb (Za 1) (Zb Ze Zf)))))
  ZK)
  (Zg (Z4 (ZD (Wo hr.units) (Za 0) Ze (Zz _))
  (Zi (Zo (Zh (Fx.Clx.cal Zw.pin C_corners) hr rfl (Zb (Za 1) Zf))))
  ZK)
  (Zg (Z4 (ZD (Wo hr.units) (Za 0) Ze (Zz _))
  (Zi (Zo (Zh (Fx.Clx.cal Zw.pin C_outside) hr rfl (Zb (Za 1) (Zb (Za 2) Zf)))))
  ZK)
  (Zi (Zo (Zh (Fx.Clx.cal Zw.pin C_within) hr rfl (Zb (Za 1) (Zb (Za 2) Zf))))))))
abbrev Yz : Stmt := top 84
theorem Yl : FnScope ["_law_what", "_law_one", "_law_other", "_law_found", "e"] ["_law_what", "_law_one", "_law_other"] (Zd Yz) := ⟨rfl, rfl, rfl, by decide +kernel, rfl, by decide +kernel, by decide +kernel⟩
theorem QU {cl : Str -> Value} {X_NoPlace : Addr} {X_TooMany : Addr} {X_NoGoal : Addr} {X_Unlike : Addr} {X_LimitError : Addr} (F : Fun K "_law_refused" "_law_refused" Yz fa fd) (hm : mg "_law_refused" = some (.ref fa)) (b : ZC K fd ["_law_what", "_law_one", "_law_other"] []) (z_isinstance : mg "isinstance" = none) (z_ValueError : mg "ValueError" = none) (c_NoPlace : Fx.XCls K mg "NoPlace" X_NoPlace) (c_TooMany : Fx.XCls K mg "TooMany" X_TooMany) (c_NoGoal : Fx.XCls K mg "NoGoal" X_NoGoal) (c_Unlike : Fx.XCls K mg "Unlike" X_Unlike) (c_LimitError : Fx.XCls K mg "LimitError" X_LimitError) (e_NoPlace : cl "NoPlace" = .ref X_NoPlace) (e_TooMany : cl "TooMany" = .ref X_TooMany) (e_NoGoal : cl "NoGoal" = .ref X_NoGoal) (e_Unlike : cl "Unlike" = .ref X_Unlike) (e_LimitError : cl "LimitError" = .ref X_LimitError) (u_NoPlace_NoPlace : PySem.W.subIn K (.ref X_NoPlace) (.ref X_NoPlace) = some true) (u_TooMany_TooMany : PySem.W.subIn K (.ref X_TooMany) (.ref X_TooMany) = some true) (u_Unlike_Unlike : PySem.W.subIn K (.ref X_Unlike) (.ref X_Unlike) = some true) (u_TooMany_LimitError : PySem.W.subIn K (.ref X_TooMany) (.ref X_LimitError) = some true) (u_TooMany_ValueError : PySem.W.subIn K (.ref X_TooMany) (.type "ValueError") = some true) (u_NoGoal_LimitError : PySem.W.subIn K (.ref X_NoGoal) (.ref X_LimitError) = some true) (u_NoGoal_ValueError : PySem.W.subIn K (.ref X_NoGoal) (.type "ValueError") = some true) (u_NoPlace_LimitError : PySem.W.subIn K (.ref X_NoPlace) (.ref X_LimitError) = some true) (u_NoPlace_ValueError : PySem.W.subIn K (.ref X_NoPlace) (.type "ValueError") = some true) (u_Unlike_LimitError : PySem.W.subIn K (.ref X_Unlike) (.ref X_LimitError) = some true) (u_Unlike_ValueError : PySem.W.subIn K (.ref X_Unlike) (.type "ValueError") = some true) (v_TooMany_NoPlace : PySem.W.subIn K (.ref X_TooMany) (.ref X_NoPlace) = some false) (v_NoGoal_NoPlace : PySem.W.subIn K (.ref X_NoGoal) (.ref X_NoPlace) = some false) (v_Unlike_NoPlace : PySem.W.subIn K (.ref X_Unlike) (.ref X_NoPlace) = some false) (v_NoGoal_TooMany : PySem.W.subIn K (.ref X_NoGoal) (.ref X_TooMany) = some false) (v_Unlike_TooMany : PySem.W.subIn K (.ref X_Unlike) (.ref X_TooMany) = some false) (v_NoGoal_Unlike : PySem.W.subIn K (.ref X_NoGoal) (.ref X_Unlike) = some false) (C_law_asked : Fx.Clx P w K mg base cl k "_law_asked" 3 ZJ) :
  Fx.Cle P w K mg base (k + 1) "_law_refused" 3 ZB := by
 exact ZG F hm b Yl rfl rfl fun cdv A outer s H E hr =>
  (Zg (Zq (i := 3) Yl.nd rfl (Or.inl rfl) (Xr Ze))
  (Zg (Fx.ss_tryM (Fx.InFrame.wish Zw) C_law_asked hr rfl (Zb (Za 0) (Zb (Za 1) (Zb (Za 2) Zf))) (zbK c_NoPlace rfl (YO e_NoPlace u_NoPlace_NoPlace W9) (Wd e_Unlike v_Unlike_NoPlace (Wd e_NoGoal v_NoGoal_NoPlace (Wd e_TooMany v_TooMany_NoPlace JC))) (fun _ =>
  (Zi (Zq (i := 3) Yl.nd rfl (Or.inl rfl) Ze))) (zbK c_TooMany rfl (YO e_TooMany u_TooMany_TooMany W9) (Wd e_Unlike v_Unlike_TooMany (Wd e_NoGoal v_NoGoal_TooMany JC)) (fun _ =>
  (Zi (Zq (i := 3) Yl.nd rfl (Or.inl rfl) Ze))) (zbK c_Unlike rfl (YO e_Unlike u_Unlike_Unlike W9) (Wd e_NoGoal v_NoGoal_Unlike JC) (fun _ =>
  (Zi (Zq (i := 3) Yl.nd rfl (Or.inl rfl) Ze))) Fx.hv_nil))))
  (Zg (Z4 (ZD (Vd hr.units) (Za 3) (Zm (X3 (Zb Ze (Zb Ze (Zb Ze (Zb Ze Zf))))) (Za 0) (fun _ _ => rfl)) (Zz _))
  (Zi (Zo Fx.ev_bl))
  ZK)
  (Zg (Fx.ss_tryA (i := 4) (Fx.InFrame.wish Zw) C_law_asked hr rfl (Zb (Za 0) (Zb (Za 1) (Zb (Za 2) Zf))) c_LimitError rfl (YO e_Unlike u_Unlike_LimitError (YO e_NoPlace u_NoPlace_LimitError (YO e_NoGoal u_NoGoal_LimitError (YO e_TooMany u_TooMany_LimitError W9)))) (Jx e_Unlike u_Unlike_ValueError (Jx e_NoPlace u_NoPlace_ValueError (Jx e_NoGoal u_NoGoal_ValueError (Jx e_TooMany u_TooMany_ValueError Fx.ve_nil)))) Yl.nd rfl rfl (fun _ =>
  (Zi (Zo (Fx.ev_isx rfl z_isinstance rfl z_ValueError (Za 4))))))
  (Zi (Zo Fx.ev_bl))))))
abbrev YS : Stmt := top 85
theorem Xs : FnScope ["_law_script", "_law_kinds", "_law_many", "_law_made", "_law_k", "_law_row"] ["_law_script", "_law_kinds", "_law_many"] (Zd YS) := ⟨rfl, rfl, rfl, by decide +kernel, rfl, by decide +kernel, by decide +kernel⟩
theorem JS (F : Fun K "_law_limits" "_law_limits" YS fa fd) (hm : mg "_law_limits" = some (.ref fa)) (b : ZC K fd ["_law_script", "_law_kinds", "_law_many"] []) (z_range : mg "range" = none) (C_law_cell_at : Fx.Cle P w K mg base k "_law_cell_at" 2 Zt) (C_law_number : Fx.Cle P w K mg base k "_law_number" 2 Yc) :
  Fx.Cle P w K mg base (k + 1) "_law_limits" 3 Yd := by
 exact ZG F hm b Xs rfl rfl fun cdv A outer s H E hr =>
  (Zg (X6 (i := 3) Xs.nd rfl (Or.inl rfl) (U3 Zf))
  (Zg (Xh PassesOwn.never rfl (YL rfl z_range (Za 2)) (ZF (i := 4) Xs.nd rfl (Or.inr rfl))
  (Zg (WG (N := ["_law_j", "_law_script", "_law_k", "_law_kinds"]) (nv := 1) (cap := [0, 4, 1]) (i := 5) (Yk rfl) rfl (ZI (by decide)) (YL rfl z_range (Zv ZP (Za 1) Ze)) ZR (fun _ _ _ _ => (ZF (i := 0) (show List.Nodup (["_law_j", "_law_script", "_law_k", "_law_kinds"] : List Str) from by decide +kernel) rfl (Or.inl rfl))) (fun _ _ _ _ _ => Yb) (fun _ _ _ _ _ => (Zh (Fx.Cle.cal C_law_number) hr rfl (Zb (Zh (Fx.Cle.cal C_law_cell_at) hr rfl (Zb (Za 1) (Zb (Zv ZP (Zv ZP Ze (Zv ZO (Za 2) (Zv ZP (Za 3) Ze))) (Za 0)) Zf))) (Zb Ze Zf)))) Xs.nd rfl (Or.inl rfl))
  (Zi (zck (i := 3) rfl (ZY (Zb (Yi (U4 (Za 5) U0 (U1 (Za 1)))) (Zb (Zm (Za 5) (Za 1) (fun _ _ => rfl)) Zf)))))))
  (Zi (Zo (Za 3)))))
abbrev JI : Stmt := top 86
theorem WH : FnScope ["_law_script", "_law_what", "_law_kinds", "_law_many", "_law_one", "_law_other", "_law_limits_here", "_law_k"] ["_law_script"] (Zd JI) := ⟨rfl, rfl, rfl, by decide +kernel, rfl, by decide +kernel, by decide +kernel⟩
theorem law_fn {cl : Str -> Value} (F : Fun K "law" "law" JI fa fd) (z_range : mg "range" = none) (z_len : mg "len" = none) (z_isinstance : mg "isinstance" = none) (z_list : mg "list" = none) (C_law_cell_at : Fx.Cle P w K mg base k "_law_cell_at" 2 Zt) (C_law_limits : Fx.Cle P w K mg base k "_law_limits" 3 Yd) (C_desk_of : Fx.Clx P w K mg base cl k "desk_of" 2 Yq) (C_law_refused : Fx.Cle P w K mg base k "_law_refused" 3 ZB) (C_dropped : Fx.Clx P w K mg base cl k "dropped" 2 Xk) (C_corners : Fx.Clx P w K mg base cl k "corners" 1 Xl) :
  FnOk P w K mg base CX0 (k + 1) fa fd ["_law_script"] (Fx.spF K none 1 zdq) := by
 exact Fx.fn_ok F WH rfl fun cdv A outer s H E hr =>
  (Zg (Zq (i := 1) WH.nd rfl (Or.inl rfl) (Zv Xo (Zh (Fx.Cle.cal C_law_cell_at) hr rfl (Zb (Za 0) (Zb Ze Zf))) Ze))
  (Zg (Zq (i := 2) WH.nd rfl (Or.inl rfl) (Zv ZP Ze (Zv Xo (Zh (Fx.Cle.cal C_law_cell_at) hr rfl (Zb (Za 0) (Zb Ze Zf))) Ze)))
  (Zg (Zq (i := 3) WH.nd rfl (Or.inl rfl) (Zv Xo (Zh (Fx.Cle.cal C_law_cell_at) hr rfl (Zb (Za 0) (Zb Ze Zf))) Ze))
  (Zg (Z4 (ZD (Wo hr.units) (Za 1) Ze (Zz _))
  (Zi (Zo (Zh (Fx.Cle.cal C_law_refused) hr rfl (Zb Ze (Zb (Zh (Fx.Clx.calN C_desk_of) hr rfl (Zb Ze (Zb (Zh (Fx.Cle.cal C_law_limits) hr rfl (Zb (Za 0) (Zb Ze (Zb (Za 3) Zf)))) Zf))) (Zb Ug Zf))))))
  ZK)
  (Zg (Z4 (ZD WJ (Za 1) Ze (Zz _))
  (Zg (Zq (i := 4) WH.nd rfl (Or.inl rfl) (Zh (Fx.Clx.calN C_desk_of) hr rfl (Zb (Za 2) (Zb (Zh (Fx.Cle.cal C_law_limits) hr rfl (Zb (Za 0) (Zb (Za 2) (Zb (Za 3) Zf)))) Zf))))
  (Zg (Zq (i := 5) WH.nd rfl (Or.inl rfl) (Zh (Fx.Clx.calN C_desk_of) hr rfl (Zb (Zv ZP (Za 2) Ze) (Zb (Zh (Fx.Cle.cal C_law_limits) hr rfl (Zb (Za 0) (Zb (Zv ZP (Za 2) Ze) (Zb (Zv VX (Za 3) Ze) Zf)))) Zf))))
  (Zi (Zo (zcK (Zh (Fx.Cle.cal C_law_refused) hr rfl (Zb (Za 1) (Zb (Za 4) (Zb (Za 5) Zf)))) (zaU (Zh (Fx.Cle.cal C_law_refused) hr rfl (Zb (Za 1) (Zb (Za 5) (Zb (Za 4) Zf))))))))))
  ZK)
  (Zg (Z4 (ZD (Wo hr.units) (Zv Xo (Zh (Fx.Cle.cal C_law_cell_at) hr rfl (Zb (Za 0) (Zb Ze Zf))) Ze) Ze (Zz _))
  (Zi (Zo (Zh (Fx.Cle.cal C_law_refused) hr rfl (Zb Ze (Zb (Zh (Fx.Clx.calN C_desk_of) hr rfl (Zb Ze (Zb (Zh (Fx.Cle.cal C_law_limits) hr rfl (Zb (Za 0) (Zb Ze (Zb (Za 3) Zf)))) Zf))) (Zb Ug Zf))))))
  ZK)
  (Zg (X6 (i := 6) WH.nd rfl (Or.inl rfl) (U3 Zf))
  (Zg (Xh PassesOwn.never rfl (YL rfl z_range (Zv ZP Ze (Zv Xo (Zh (Fx.Cle.cal C_law_cell_at) hr rfl (Zb (Za 0) (Zb Ze Zf))) Ze))) (ZF (i := 7) WH.nd rfl (Or.inl rfl))
  (Zg (zck (i := 6) rfl (ZY (Zb (X3 (Zb Ze (Zb (Zv XN (Zv Xo (Za 7) Ze) Ze) Zf))) (Zb (Za 7) Zf))))
  (Zi (zck (i := 6) rfl (ZY (Zb (X3 (Zb (Xr Ze) (Zb (Zv Xo (Za 7) Ze) Zf))) (Zb (Zv ZO Ze (Za 7)) Zf)))))))
  (Zg (Z4 (ZD (Wo hr.units) (Zv Xo (Zh (Fx.Cle.cal C_law_cell_at) hr rfl (Zb (Za 0) (Zb Ze Zf))) Ze) Ze (Zz _))
  (Zg (X6 (i := 6) WH.nd rfl (Or.inl rfl) (Fx.ov_cat (Yi (YM (N := ["_law_k"]) (nv := 1) (cap := []) (Yk rfl) rfl (ZI (by decide)) (YL rfl z_range Ze) ZR (fun _ _ _ _ => (ZF (i := 0) (show List.Nodup (["_law_k"] : List Str) from by decide +kernel) rfl (Or.inl rfl))) (fun _ _ _ _ _ => Yb) (fun _ _ _ _ _ => (ZY (Zb (X3 (Zb Ze (Zb (Za 0) Zf))) (Zb (Za 0) Zf)))))) (Yi (YM (N := ["_law_k"]) (nv := 1) (cap := []) (Yk rfl) rfl (ZI (by decide)) (YL rfl z_range Ze) ZR (fun _ _ _ _ => (ZF (i := 0) (show List.Nodup (["_law_k"] : List Str) from by decide +kernel) rfl (Or.inl rfl))) (fun _ _ _ _ _ => Yb) (fun _ _ _ _ _ => (ZY (Zb (X3 (Zb (Xr Ze) (Zb (Za 0) Zf))) (Zb (Zv XN Ze (Za 0)) Zf))))))))
  (Zi (X6 (i := 6) WH.nd rfl (Or.inl rfl) (Fx.ov_cat (Za 6) (Yi (YM (N := ["_law_k"]) (nv := 1) (cap := []) (Yk rfl) rfl (ZI (by decide)) (YL rfl z_range (Zv Xo (Zv VX (Zh (Fx.Cle.cal C_law_cell_at) hr rfl (Zb (Za 0) (Zb Ze Zf))) Ze) Ze)) ZR (fun _ _ _ _ => (ZF (i := 0) (show List.Nodup (["_law_k"] : List Str) from by decide +kernel) rfl (Or.inl rfl))) (fun _ _ _ _ _ => Yb) (fun _ _ _ _ _ => (ZY (Zb (X3 (Zb Ze (Zb Ze Zf))) (Zb (Za 0) Zf))))))))))
  ZK)
  (Zg (Zq (i := 4) WH.nd rfl (Or.inl rfl) (Zh (Fx.Clx.calN C_dropped) hr rfl (Zb (Zh (Fx.Clx.calN C_desk_of) hr rfl (Zb Ze (Zb (Za 6) Zf))) (Zb Ze Zf))))
  (Zg (Z4 (ZD Fx.op_leF (Yj rfl z_len (Zm (Za 4) Ze (fun _ _ => rfl))) Ze (Zz _))
  (Zi (Zo (XY UN (show bootBuiltins "list" = some (.type "list") by decide +kernel) rfl z_isinstance rfl z_list (Zh (Fx.Clx.calN C_corners) hr rfl (Zb (Za 4) Zf)))))
  ZK)
  (Zi (Zo (Zh (Fx.Cle.cal C_law_refused) hr rfl (Zb Ze (Zb (Za 4) (Zb Ug Zf)))))))))))))))))
theorem all_mk {l : PySem.W.OpenLaw} {w : World} {K : PySem.W.Frag} {h : Heap} {mg : Str -> Option Value} {fa : Addr} (X : K.In h) (G : h.Ns mainGlobals mg) (hfa : mg "law" = some (.ref fa))
  {f0 f1 f2 f3 f4 f5 f6 f7 f8 f9 f10 f11 f12 f13 f14 f15 f16 f17 f19 f20 f21 f22 f23 f24 f25 f26 f27 f28 f29 f30 f31 f32 f33 f34 f35 f36 f37 f38 f39 f40 f41 f42 f43 f44 f45 f46 f47 f48 f49 f50 f51 f52 f53 f54 f55 f56 f57 f58 f59 f60 f61 f62 : Addr} {od0 an0 od1 an1 od2 an2 od3 an3 od4 an4 od5 an5 od6 an6 od7 an7 od8 an8 od9 an9 od10 an10 od11 an11 od12 an12 od13 an13 od14 an14 od15 an15 od16 an16 od17 an17 od19 an19 od20 an20 od21 an21 od22 an22 od23 an23 od24 an24 od25 an25 od26 an26 od27 an27 od28 an28 od29 an29 od30 an30 od31 an31 od32 an32 od33 an33 od34 an34 od35 an35 od36 an36 od37 an37 od38 an38 od39 an39 od40 an40 od41 an41 od42 an42 od43 an43 od44 an44 od45 an45 od46 an46 od47 an47 od48 an48 od49 an49 od50 an50 od51 an51 od52 an52 od53 an53 od54 an54 od55 an55 od56 an56 od57 an57 od58 an58 od59 an59 od60 an60 od61 an61 od62 an62 : Option Addr} {sl0 sl1 sl2 sl3 sl4 sl5 sl6 sl7 sl8 sl9 sl10 sl11 sl12 sl13 sl14 sl15 sl16 sl17 sl19 sl20 sl21 sl22 sl23 sl24 sl25 sl26 sl27 sl28 sl29 sl30 sl31 sl32 sl33 sl34 sl35 sl36 sl37 sl38 sl39 sl40 sl41 sl42 sl43 sl44 sl45 sl46 sl47 sl48 sl49 sl50 sl51 sl52 sl53 sl54 sl55 sl56 sl57 sl58 sl59 sl60 sl61 sl62 : Array (Option Value)} {oc0 kV0 dc0 pm0 cd0 ct0 oc1 kV1 dc1 pm1 cd1 ct1 oc2 kV2 dc2 pm2 cd2 ct2 oc3 kV3 dc3 pm3 cd3 ct3 oc4 kV4 dc4 pm4 cd4 ct4 oc5 kV5 dc5 pm5 cd5 ct5 oc6 kV6 dc6 pm6 cd6 ct6 oc7 kV7 dc7 pm7 cd7 ct7 oc8 kV8 dc8 pm8 cd8 ct8 oc9 kV9 dc9 pm9 cd9 ct9 oc10 kV10 dc10 pm10 cd10 ct10 oc11 kV11 dc11 pm11 cd11 ct11 oc12 kV12 dc12 pm12 cd12 ct12 oc13 kV13 dc13 pm13 cd13 ct13 oc14 kV14 dc14 pm14 cd14 ct14 oc15 kV15 dc15 pm15 cd15 ct15 oc16 kV16 dc16 pm16 cd16 ct16 oc17 kV17 dc17 pm17 cd17 ct17 oc19 kV19 dc19 pm19 cd19 ct19 oc20 kV20 dc20 pm20 cd20 ct20 oc21 kV21 dc21 pm21 cd21 ct21 oc22 kV22 dc22 pm22 cd22 ct22 oc23 kV23 dc23 pm23 cd23 ct23 oc24 kV24 dc24 pm24 cd24 ct24 oc25 kV25 dc25 pm25 cd25 ct25 oc26 kV26 dc26 pm26 cd26 ct26 oc27 kV27 dc27 pm27 cd27 ct27 oc28 kV28 dc28 pm28 cd28 ct28 oc29 kV29 dc29 pm29 cd29 ct29 oc30 kV30 dc30 pm30 cd30 ct30 oc31 kV31 dc31 pm31 cd31 ct31 oc32 kV32 dc32 pm32 cd32 ct32 oc33 kV33 dc33 pm33 cd33 ct33 oc34 kV34 dc34 pm34 cd34 ct34 oc35 kV35 dc35 pm35 cd35 ct35 oc36 kV36 dc36 pm36 cd36 ct36 oc37 kV37 dc37 pm37 cd37 ct37 oc38 kV38 dc38 pm38 cd38 ct38 oc39 kV39 dc39 pm39 cd39 ct39 oc40 kV40 dc40 pm40 cd40 ct40 oc41 kV41 dc41 pm41 cd41 ct41 oc42 kV42 dc42 pm42 cd42 ct42 oc43 kV43 dc43 pm43 cd43 ct43 oc44 kV44 dc44 pm44 cd44 ct44 oc45 kV45 dc45 pm45 cd45 ct45 oc46 kV46 dc46 pm46 cd46 ct46 oc47 kV47 dc47 pm47 cd47 ct47 oc48 kV48 dc48 pm48 cd48 ct48 oc49 kV49 dc49 pm49 cd49 ct49 oc50 kV50 dc50 pm50 cd50 ct50 oc51 kV51 dc51 pm51 cd51 ct51 oc52 kV52 dc52 pm52 cd52 ct52 oc53 kV53 dc53 pm53 cd53 ct53 oc54 kV54 dc54 pm54 cd54 ct54 oc55 kV55 dc55 pm55 cd55 ct55 oc56 kV56 dc56 pm56 cd56 ct56 oc57 kV57 dc57 pm57 cd57 ct57 oc58 kV58 dc58 pm58 cd58 ct58 oc59 kV59 dc59 pm59 cd59 ct59 oc60 kV60 dc60 pm60 cd60 ct60 oc61 kV61 dc61 pm61 cd61 ct61 oc62 kV62 dc62 pm62 cd62 ct62 : Value}
  {f18 : Addr} {od18 an18 : Option Addr} {sl18 : Array (Option Value)} {oc18 kV18 dc18 pm18 ct18 : Value}
  {tg_MOST_KINDS_GONE_THROUGH : Tok}
  {tg_MOST_LIMITS_GONE_THROUGH : Tok}
  {tg_GREATEST_NUMBER : Tok}
  {tg_MOST_KINDS : Tok}
  {tg_MOST_LIMITS : Tok}
  {X_TooMany : Addr}
  {X_NoDesk : Addr}
  {X_NoPlace : Addr}
  {X_NoGoal : Addr}
  {X_Unlike : Addr}
  {X_LimitError : Addr}
  {C_Board fI_Board : Addr} {odI_Board anI_Board : Option Addr} {slI_Board : Array (Option Value)} {ocI_Board kVI_Board dcI_Board pmI_Board cdI_Board ctI_Board : Value}
  {cL_raising_column TL_raising_column : Addr} {occ_raising_column : Value} {odc_raising_column : Option Addr} {vsc_raising_column : Array Value} {slc_raising_column : Array (Option Value)}
  (a0 : PySem.W.nsIn K mainGlobals "is_whole" = some (some (.ref f0))) (l0 : K.lookup f0 = some ⟨oc0, od0, .func (PySem.W.fnOf "is_whole" "is_whole" (Zk XG) (Zj XG) (Zd XG) .none kV0 dc0 pm0 an0 cd0 ct0), sl0⟩) (c0 : PySem.W.codeIn K cd0 "is_whole" = true) (k0 : PySem.W.keepIn K (.ref f0) = true)
  (a1 : PySem.W.nsIn K mainGlobals "common_divisor" = some (some (.ref f1))) (l1 : K.lookup f1 = some ⟨oc1, od1, .func (PySem.W.fnOf "common_divisor" "common_divisor" (Zk Z1) (Zj Z1) (Zd Z1) .none kV1 dc1 pm1 an1 cd1 ct1), sl1⟩) (c1 : PySem.W.codeIn K cd1 "common_divisor" = true) (k1 : PySem.W.keepIn K (.ref f1) = true)
  (a2 : PySem.W.nsIn K mainGlobals "frac" = some (some (.ref f2))) (l2 : K.lookup f2 = some ⟨oc2, od2, .func (PySem.W.fnOf "frac" "frac" (Zk Jg) (Zj Jg) (Zd Jg) .none kV2 dc2 pm2 an2 cd2 ct2), sl2⟩) (c2 : PySem.W.codeIn K cd2 "frac" = true) (k2 : PySem.W.keepIn K (.ref f2) = true)
  (a3 : PySem.W.nsIn K mainGlobals "plus" = some (some (.ref f3))) (l3 : K.lookup f3 = some ⟨oc3, od3, .func (PySem.W.fnOf "plus" "plus" (Zk Jc) (Zj Jc) (Zd Jc) .none kV3 dc3 pm3 an3 cd3 ct3), sl3⟩) (c3 : PySem.W.codeIn K cd3 "plus" = true) (k3 : PySem.W.keepIn K (.ref f3) = true)
  (a4 : PySem.W.nsIn K mainGlobals "less" = some (some (.ref f4))) (l4 : K.lookup f4 = some ⟨oc4, od4, .func (PySem.W.fnOf "less" "less" (Zk Je) (Zj Je) (Zd Je) .none kV4 dc4 pm4 an4 cd4 ct4), sl4⟩) (c4 : PySem.W.codeIn K cd4 "less" = true) (k4 : PySem.W.keepIn K (.ref f4) = true)
  (a5 : PySem.W.nsIn K mainGlobals "times" = some (some (.ref f5))) (l5 : K.lookup f5 = some ⟨oc5, od5, .func (PySem.W.fnOf "times" "times" (Zk VP) (Zj VP) (Zd VP) .none kV5 dc5 pm5 an5 cd5 ct5), sl5⟩) (c5 : PySem.W.codeIn K cd5 "times" = true) (k5 : PySem.W.keepIn K (.ref f5) = true)
  (a6 : PySem.W.nsIn K mainGlobals "over" = some (some (.ref f6))) (l6 : K.lookup f6 = some ⟨oc6, od6, .func (PySem.W.fnOf "over" "over" (Zk Jd) (Zj Jd) (Zd Jd) .none kV6 dc6 pm6 an6 cd6 ct6), sl6⟩) (c6 : PySem.W.codeIn K cd6 "over" = true) (k6 : PySem.W.keepIn K (.ref f6) = true)
  (a7 : PySem.W.nsIn K mainGlobals "below" = some (some (.ref f7))) (l7 : K.lookup f7 = some ⟨oc7, od7, .func (PySem.W.fnOf "below" "below" (Zk VU) (Zj VU) (Zd VU) .none kV7 dc7 pm7 an7 cd7 ct7), sl7⟩) (c7 : PySem.W.codeIn K cd7 "below" = true) (k7 : PySem.W.keepIn K (.ref f7) = true)
  (a8 : PySem.W.nsIn K mainGlobals "unit" = some (some (.ref f8))) (l8 : K.lookup f8 = some ⟨oc8, od8, .func (PySem.W.fnOf "unit" "unit" (Zk Jb) (Zj Jb) (Zd Jb) .none kV8 dc8 pm8 an8 cd8 ct8), sl8⟩) (c8 : PySem.W.codeIn K cd8 "unit" = true) (k8 : PySem.W.keepIn K (.ref f8) = true)
  (a9 : PySem.W.nsIn K mainGlobals "room_row" = some (some (.ref f9))) (l9 : K.lookup f9 = some ⟨oc9, od9, .func (PySem.W.fnOf "room_row" "room_row" (Zk XB) (Zj XB) (Zd XB) .none kV9 dc9 pm9 an9 cd9 ct9), sl9⟩) (c9 : PySem.W.codeIn K cd9 "room_row" = true) (k9 : PySem.W.keepIn K (.ref f9) = true)
  (a10 : PySem.W.nsIn K mainGlobals "first_board" = some (some (.ref f10))) (l10 : K.lookup f10 = some ⟨oc10, od10, .func (PySem.W.fnOf "first_board" "first_board" (Zk YB) (Zj YB) (Zd YB) .none kV10 dc10 pm10 an10 cd10 ct10), sl10⟩) (c10 : PySem.W.codeIn K cd10 "first_board" = true) (k10 : PySem.W.keepIn K (.ref f10) = true)
  (a11 : PySem.W.nsIn K mainGlobals "rooms_of" = some (some (.ref f11))) (l11 : K.lookup f11 = some ⟨oc11, od11, .func (PySem.W.fnOf "rooms_of" "rooms_of" (Zk XA) (Zj XA) (Zd XA) .none kV11 dc11 pm11 an11 cd11 ct11), sl11⟩) (c11 : PySem.W.codeIn K cd11 "rooms_of" = true) (k11 : PySem.W.keepIn K (.ref f11) = true)
  (a12 : PySem.W.nsIn K mainGlobals "worth_of" = some (some (.ref f12))) (l12 : K.lookup f12 = some ⟨oc12, od12, .func (PySem.W.fnOf "worth_of" "worth_of" (Zk Xz) (Zj Xz) (Zd Xz) .none kV12 dc12 pm12 an12 cd12 ct12), sl12⟩) (c12 : PySem.W.codeIn K cd12 "worth_of" = true) (k12 : PySem.W.keepIn K (.ref f12) = true)
  (a13 : PySem.W.nsIn K mainGlobals "swapped_row" = some (some (.ref f13))) (l13 : K.lookup f13 = some ⟨oc13, od13, .func (PySem.W.fnOf "swapped_row" "swapped_row" (Zk Yx) (Zj Yx) (Zd Yx) .none kV13 dc13 pm13 an13 cd13 ct13), sl13⟩) (c13 : PySem.W.codeIn K cd13 "swapped_row" = true) (k13 : PySem.W.keepIn K (.ref f13) = true)
  (a14 : PySem.W.nsIn K mainGlobals "swapped" = some (some (.ref f14))) (l14 : K.lookup f14 = some ⟨oc14, od14, .func (PySem.W.fnOf "swapped" "swapped" (Zk Wg) (Zj Wg) (Zd Wg) .none kV14 dc14 pm14 an14 cd14 ct14), sl14⟩) (c14 : PySem.W.codeIn K cd14 "swapped" = true) (k14 : PySem.W.keepIn K (.ref f14) = true)
  (a15 : PySem.W.nsIn K mainGlobals "first_room_on" = some (some (.ref f15))) (l15 : K.lookup f15 = some ⟨oc15, od15, .func (PySem.W.fnOf "first_room_on" "first_room_on" (Zk Z8) (Zj Z8) (Zd Z8) .none kV15 dc15 pm15 an15 cd15 ct15), sl15⟩) (c15 : PySem.W.codeIn K cd15 "first_room_on" = true) (k15 : PySem.W.keepIn K (.ref f15) = true)
  (a16 : PySem.W.nsIn K mainGlobals "freed" = some (some (.ref f16))) (l16 : K.lookup f16 = some ⟨oc16, od16, .func (PySem.W.fnOf "freed" "freed" (Zk VS) (Zj VS) (Zd VS) .none kV16 dc16 pm16 an16 cd16 ct16), sl16⟩) (c16 : PySem.W.codeIn K cd16 "freed" = true) (k16 : PySem.W.keepIn K (.ref f16) = true)
  (a17 : PySem.W.nsIn K mainGlobals "helps" = some (some (.ref f17))) (l17 : K.lookup f17 = some ⟨oc17, od17, .func (PySem.W.fnOf "helps" "helps" (Zk VR) (Zj VR) (Zd VR) .none kV17 dc17 pm17 an17 cd17 ct17), sl17⟩) (c17 : PySem.W.codeIn K cd17 "helps" = true) (k17 : PySem.W.keepIn K (.ref f17) = true)
  (a18 : PySem.W.nsIn K mainGlobals "raising_column" = some (some (.ref f18))) (l18 : K.lookup f18 = some ⟨oc18, od18, .func (PySem.W.fnOf "raising_column" "raising_column" (Zk Z0) (Zj Z0) (Zd Z0) .none kV18 dc18 pm18 an18 (.ref cL_raising_column) ct18), sl18⟩) (c18 : PySem.W.codeIn K (.ref cL_raising_column) "raising_column" = true) (k18 : PySem.W.keepIn K (.ref f18) = true)
  (a19 : PySem.W.nsIn K mainGlobals "short_room" = some (some (.ref f19))) (l19 : K.lookup f19 = some ⟨oc19, od19, .func (PySem.W.fnOf "short_room" "short_room" (Zk YQ) (Zj YQ) (Zd YQ) .none kV19 dc19 pm19 an19 cd19 ct19), sl19⟩) (c19 : PySem.W.codeIn K cd19 "short_room" = true) (k19 : PySem.W.keepIn K (.ref f19) = true)
  (a20 : PySem.W.nsIn K mainGlobals "settled" = some (some (.ref f20))) (l20 : K.lookup f20 = some ⟨oc20, od20, .func (PySem.W.fnOf "settled" "settled" (Zk Wh) (Zj Wh) (Zd Wh) .none kV20 dc20 pm20 an20 cd20 ct20), sl20⟩) (c20 : PySem.W.codeIn K cd20 "settled" = true) (k20 : PySem.W.keepIn K (.ref f20) = true)
  (a21 : PySem.W.nsIn K mainGlobals "point_of" = some (some (.ref f21))) (l21 : K.lookup f21 = some ⟨oc21, od21, .func (PySem.W.fnOf "point_of" "point_of" (Zk XC) (Zj XC) (Zd XC) .none kV21 dc21 pm21 an21 cd21 ct21), sl21⟩) (c21 : PySem.W.codeIn K cd21 "point_of" = true) (k21 : PySem.W.keepIn K (.ref f21) = true)
  (a22 : PySem.W.nsIn K mainGlobals "shares_of" = some (some (.ref f22))) (l22 : K.lookup f22 = some ⟨oc22, od22, .func (PySem.W.fnOf "shares_of" "shares_of" (Zk Y9) (Zj Y9) (Zd Y9) .none kV22 dc22 pm22 an22 cd22 ct22), sl22⟩) (c22 : PySem.W.codeIn K cd22 "shares_of" = true) (k22 : PySem.W.keepIn K (.ref f22) = true)
  (a23 : PySem.W.nsIn K mainGlobals "clash_of" = some (some (.ref f23))) (l23 : K.lookup f23 = some ⟨oc23, od23, .func (PySem.W.fnOf "clash_of" "clash_of" (Zk XH) (Zj XH) (Zd XH) .none kV23 dc23 pm23 an23 cd23 ct23), sl23⟩) (c23 : PySem.W.codeIn K cd23 "clash_of" = true) (k23 : PySem.W.keepIn K (.ref f23) = true)
  (a24 : PySem.W.nsIn K mainGlobals "amount_column" = some (some (.ref f24))) (l24 : K.lookup f24 = some ⟨oc24, od24, .func (PySem.W.fnOf "amount_column" "amount_column" (Zk Z9) (Zj Z9) (Zd Z9) .none kV24 dc24 pm24 an24 cd24 ct24), sl24⟩) (c24 : PySem.W.codeIn K cd24 "amount_column" = true) (k24 : PySem.W.keepIn K (.ref f24) = true)
  (a25 : PySem.W.nsIn K mainGlobals "with_one_more" = some (some (.ref f25))) (l25 : K.lookup f25 = some ⟨oc25, od25, .func (PySem.W.fnOf "with_one_more" "with_one_more" (Zk Z7) (Zj Z7) (Zd Z7) .none kV25 dc25 pm25 an25 cd25 ct25), sl25⟩) (c25 : PySem.W.codeIn K cd25 "with_one_more" = true) (k25 : PySem.W.keepIn K (.ref f25) = true)
  (a26 : PySem.W.nsIn K mainGlobals "boards_of_rooms" = some (some (.ref f26))) (l26 : K.lookup f26 = some ⟨oc26, od26, .func (PySem.W.fnOf "boards_of_rooms" "boards_of_rooms" (Zk ZX) (Zj ZX) (Zd ZX) .none kV26 dc26 pm26 an26 cd26 ct26), sl26⟩) (c26 : PySem.W.codeIn K cd26 "boards_of_rooms" = true) (k26 : PySem.W.keepIn K (.ref f26) = true)
  (a27 : PySem.W.nsIn K mainGlobals "comes_before" = some (some (.ref f27))) (l27 : K.lookup f27 = some ⟨oc27, od27, .func (PySem.W.fnOf "comes_before" "comes_before" (Zk Yo) (Zj Yo) (Zd Yo) .none kV27 dc27 pm27 an27 cd27 ct27), sl27⟩) (c27 : PySem.W.codeIn K cd27 "comes_before" = true) (k27 : PySem.W.keepIn K (.ref f27) = true)
  (a28 : PySem.W.nsIn K mainGlobals "put_in" = some (some (.ref f28))) (l28 : K.lookup f28 = some ⟨oc28, od28, .func (PySem.W.fnOf "put_in" "put_in" (Zk WZ) (Zj WZ) (Zd WZ) .none kV28 dc28 pm28 an28 cd28 ct28), sl28⟩) (c28 : PySem.W.codeIn K cd28 "put_in" = true) (k28 : PySem.W.keepIn K (.ref f28) = true)
  (a29 : PySem.W.nsIn K mainGlobals "corners" = some (some (.ref f29))) (l29 : K.lookup f29 = some ⟨oc29, od29, .func (PySem.W.fnOf "corners" "corners" (Zk Wl) (Zj Wl) (Zd Wl) .none kV29 dc29 pm29 an29 cd29 ct29), sl29⟩) (c29 : PySem.W.codeIn K cd29 "corners" = true) (k29 : PySem.W.keepIn K (.ref f29) = true)
  (a30 : PySem.W.nsIn K mainGlobals "is_number" = some (some (.ref f30))) (l30 : K.lookup f30 = some ⟨oc30, od30, .func (PySem.W.fnOf "is_number" "is_number" (Zk Xb) (Zj Xb) (Zd Xb) .none kV30 dc30 pm30 an30 cd30 ct30), sl30⟩) (c30 : PySem.W.codeIn K cd30 "is_number" = true) (k30 : PySem.W.keepIn K (.ref f30) = true)
  (a31 : PySem.W.nsIn K mainGlobals "limit_of" = some (some (.ref f31))) (l31 : K.lookup f31 = some ⟨oc31, od31, .func (PySem.W.fnOf "limit_of" "limit_of" (Zk XF) (Zj XF) (Zd XF) .none kV31 dc31 pm31 an31 cd31 ct31), sl31⟩) (c31 : PySem.W.codeIn K cd31 "limit_of" = true) (k31 : PySem.W.keepIn K (.ref f31) = true)
  (a32 : PySem.W.nsIn K mainGlobals "desk_of" = some (some (.ref f32))) (l32 : K.lookup f32 = some ⟨oc32, od32, .func (PySem.W.fnOf "desk_of" "desk_of" (Zk Wk) (Zj Wk) (Zd Wk) .none kV32 dc32 pm32 an32 cd32 ct32), sl32⟩) (c32 : PySem.W.codeIn K cd32 "desk_of" = true) (k32 : PySem.W.keepIn K (.ref f32) = true)
  (a33 : PySem.W.nsIn K mainGlobals "check_place" = some (some (.ref f33))) (l33 : K.lookup f33 = some ⟨oc33, od33, .func (PySem.W.fnOf "check_place" "check_place" (Zk YC) (Zj YC) (Zd YC) .none kV33 dc33 pm33 an33 cd33 ct33), sl33⟩) (c33 : PySem.W.codeIn K cd33 "check_place" = true) (k33 : PySem.W.keepIn K (.ref f33) = true)
  (a34 : PySem.W.nsIn K mainGlobals "weight" = some (some (.ref f34))) (l34 : K.lookup f34 = some ⟨oc34, od34, .func (PySem.W.fnOf "weight" "weight" (Zk WW) (Zj WW) (Zd WW) .none kV34 dc34 pm34 an34 cd34 ct34), sl34⟩) (c34 : PySem.W.codeIn K cd34 "weight" = true) (k34 : PySem.W.keepIn K (.ref f34) = true)
  (a35 : PySem.W.nsIn K mainGlobals "check_goal" = some (some (.ref f35))) (l35 : K.lookup f35 = some ⟨oc35, od35, .func (PySem.W.fnOf "check_goal" "check_goal" (Zk YV) (Zj YV) (Zd YV) .none kV35 dc35 pm35 an35 cd35 ct35), sl35⟩) (c35 : PySem.W.codeIn K cd35 "check_goal" = true) (k35 : PySem.W.keepIn K (.ref f35) = true)
  (a36 : PySem.W.nsIn K mainGlobals "sooner" = some (some (.ref f36))) (l36 : K.lookup f36 = some ⟨oc36, od36, .func (PySem.W.fnOf "sooner" "sooner" (Zk WY) (Zj WY) (Zd WY) .none kV36 dc36 pm36 an36 cd36 ct36), sl36⟩) (c36 : PySem.W.codeIn K cd36 "sooner" = true) (k36 : PySem.W.keepIn K (.ref f36) = true)
  (a37 : PySem.W.nsIn K mainGlobals "first_stop" = some (some (.ref f37))) (l37 : K.lookup f37 = some ⟨oc37, od37, .func (PySem.W.fnOf "first_stop" "first_stop" (Zk YT) (Zj YT) (Zd YT) .none kV37 dc37 pm37 an37 cd37 ct37), sl37⟩) (c37 : PySem.W.codeIn K cd37 "first_stop" = true) (k37 : PySem.W.keepIn K (.ref f37) = true)
  (a38 : PySem.W.nsIn K mainGlobals "way_of" = some (some (.ref f38))) (l38 : K.lookup f38 = some ⟨oc38, od38, .func (PySem.W.fnOf "way_of" "way_of" (Zk WX) (Zj WX) (Zd WX) .none kV38 dc38 pm38 an38 cd38 ct38), sl38⟩) (c38 : PySem.W.codeIn K cd38 "way_of" = true) (k38 : PySem.W.keepIn K (.ref f38) = true)
  (a39 : PySem.W.nsIn K mainGlobals "climbed" = some (some (.ref f39))) (l39 : K.lookup f39 = some ⟨oc39, od39, .func (PySem.W.fnOf "climbed" "climbed" (Zk Wm) (Zj Wm) (Zd Wm) .none kV39 dc39 pm39 an39 cd39 ct39), sl39⟩) (c39 : PySem.W.codeIn K cd39 "climbed" = true) (k39 : PySem.W.keepIn K (.ref f39) = true)
  (a40 : PySem.W.nsIn K mainGlobals "best" = some (some (.ref f40))) (l40 : K.lookup f40 = some ⟨oc40, od40, .func (PySem.W.fnOf "best" "best" (Zk Jh) (Zj Jh) (Zd Jh) .none kV40 dc40 pm40 an40 cd40 ct40), sl40⟩) (c40 : PySem.W.codeIn K cd40 "best" = true) (k40 : PySem.W.keepIn K (.ref f40) = true)
  (a41 : PySem.W.nsIn K mainGlobals "without" = some (some (.ref f41))) (l41 : K.lookup f41 = some ⟨oc41, od41, .func (PySem.W.fnOf "without" "without" (Zk Wf) (Zj Wf) (Zd Wf) .none kV41 dc41 pm41 an41 cd41 ct41), sl41⟩) (c41 : PySem.W.codeIn K cd41 "without" = true) (k41 : PySem.W.keepIn K (.ref f41) = true)
  (a42 : PySem.W.nsIn K mainGlobals "with_nought" = some (some (.ref f42))) (l42 : K.lookup f42 = some ⟨oc42, od42, .func (PySem.W.fnOf "with_nought" "with_nought" (Zk Yv) (Zj Yv) (Zd Yv) .none kV42 dc42 pm42 an42 cd42 ct42), sl42⟩) (c42 : PySem.W.codeIn K cd42 "with_nought" = true) (k42 : PySem.W.keepIn K (.ref f42) = true)
  (a43 : PySem.W.nsIn K mainGlobals "moved" = some (some (.ref f43))) (l43 : K.lookup f43 = some ⟨oc43, od43, .func (PySem.W.fnOf "moved" "moved" (Zk VQ) (Zj VQ) (Zd VQ) .none kV43 dc43 pm43 an43 cd43 ct43), sl43⟩) (c43 : PySem.W.codeIn K cd43 "moved" = true) (k43 : PySem.W.keepIn K (.ref f43) = true)
  (a44 : PySem.W.nsIn K mainGlobals "point_beyond" = some (some (.ref f44))) (l44 : K.lookup f44 = some ⟨oc44, od44, .func (PySem.W.fnOf "point_beyond" "point_beyond" (Zk Ym) (Zj Ym) (Zd Ym) .none kV44 dc44 pm44 an44 cd44 ct44), sl44⟩) (c44 : PySem.W.codeIn K cd44 "point_beyond" = true) (k44 : PySem.W.keepIn K (.ref f44) = true)
  (a45 : PySem.W.nsIn K mainGlobals "cover" = some (some (.ref f45))) (l45 : K.lookup f45 = some ⟨oc45, od45, .func (PySem.W.fnOf "cover" "cover" (Zk VT) (Zj VT) (Zd VT) .none kV45 dc45 pm45 an45 cd45 ct45), sl45⟩) (c45 : PySem.W.codeIn K cd45 "cover" = true) (k45 : PySem.W.keepIn K (.ref f45) = true)
  (a46 : PySem.W.nsIn K mainGlobals "needless" = some (some (.ref f46))) (l46 : K.lookup f46 = some ⟨oc46, od46, .func (PySem.W.fnOf "needless" "needless" (Zk XD) (Zj XD) (Zd XD) .none kV46 dc46 pm46 an46 cd46 ct46), sl46⟩) (c46 : PySem.W.codeIn K cd46 "needless" = true) (k46 : PySem.W.keepIn K (.ref f46) = true)
  (a47 : PySem.W.nsIn K mainGlobals "lean" = some (some (.ref f47))) (l47 : K.lookup f47 = some ⟨oc47, od47, .func (PySem.W.fnOf "lean" "lean" (Zk Jf) (Zj Jf) (Zd Jf) .none kV47 dc47 pm47 an47 cd47 ct47), sl47⟩) (c47 : PySem.W.codeIn K cd47 "lean" = true) (k47 : PySem.W.keepIn K (.ref f47) = true)
  (a48 : PySem.W.nsIn K mainGlobals "others" = some (some (.ref f48))) (l48 : K.lookup f48 = some ⟨oc48, od48, .func (PySem.W.fnOf "others" "others" (Zk W0) (Zj W0) (Zd W0) .none kV48 dc48 pm48 an48 cd48 ct48), sl48⟩) (c48 : PySem.W.codeIn K cd48 "others" = true) (k48 : PySem.W.keepIn K (.ref f48) = true)
  (a49 : PySem.W.nsIn K mainGlobals "joined" = some (some (.ref f49))) (l49 : K.lookup f49 = some ⟨oc49, od49, .func (PySem.W.fnOf "joined" "joined" (Zk W1) (Zj W1) (Zd W1) .none kV49 dc49 pm49 an49 cd49 ct49), sl49⟩) (c49 : PySem.W.codeIn K cd49 "joined" = true) (k49 : PySem.W.keepIn K (.ref f49) = true)
  (a50 : PySem.W.nsIn K mainGlobals "limits_left" = some (some (.ref f50))) (l50 : K.lookup f50 = some ⟨oc50, od50, .func (PySem.W.fnOf "limits_left" "limits_left" (Zk Yy) (Zj Yy) (Zd Yy) .none kV50 dc50 pm50 an50 cd50 ct50), sl50⟩) (c50 : PySem.W.codeIn K cd50 "limits_left" = true) (k50 : PySem.W.keepIn K (.ref f50) = true)
  (a51 : PySem.W.nsIn K mainGlobals "divisor_of" = some (some (.ref f51))) (l51 : K.lookup f51 = some ⟨oc51, od51, .func (PySem.W.fnOf "divisor_of" "divisor_of" (Zk YU) (Zj YU) (Zd YU) .none kV51 dc51 pm51 an51 cd51 ct51), sl51⟩) (c51 : PySem.W.codeIn K cd51 "divisor_of" = true) (k51 : PySem.W.keepIn K (.ref f51) = true)
  (a52 : PySem.W.nsIn K mainGlobals "least_bounds" = some (some (.ref f52))) (l52 : K.lookup f52 = some ⟨oc52, od52, .func (PySem.W.fnOf "least_bounds" "least_bounds" (Zk Yn) (Zj Yn) (Zd Yn) .none kV52 dc52 pm52 an52 cd52 ct52), sl52⟩) (c52 : PySem.W.codeIn K cd52 "least_bounds" = true) (k52 : PySem.W.keepIn K (.ref f52) = true)
  (a53 : PySem.W.nsIn K mainGlobals "whole_limit" = some (some (.ref f53))) (l53 : K.lookup f53 = some ⟨oc53, od53, .func (PySem.W.fnOf "whole_limit" "whole_limit" (Zk Yw) (Zj Yw) (Zd Yw) .none kV53 dc53 pm53 an53 cd53 ct53), sl53⟩) (c53 : PySem.W.codeIn K cd53 "whole_limit" = true) (k53 : PySem.W.keepIn K (.ref f53) = true)
  (a54 : PySem.W.nsIn K mainGlobals "dropped" = some (some (.ref f54))) (l54 : K.lookup f54 = some ⟨oc54, od54, .func (PySem.W.fnOf "dropped" "dropped" (Zk Wj) (Zj Wj) (Zd Wj) .none kV54 dc54 pm54 an54 cd54 ct54), sl54⟩) (c54 : PySem.W.codeIn K cd54 "dropped" = true) (k54 : PySem.W.keepIn K (.ref f54) = true)
  (a55 : PySem.W.nsIn K mainGlobals "outside" = some (some (.ref f55))) (l55 : K.lookup f55 = some ⟨oc55, od55, .func (PySem.W.fnOf "outside" "outside" (Zk Wi) (Zj Wi) (Zd Wi) .none kV55 dc55 pm55 an55 cd55 ct55), sl55⟩) (c55 : PySem.W.codeIn K cd55 "outside" = true) (k55 : PySem.W.keepIn K (.ref f55) = true)
  (a56 : PySem.W.nsIn K mainGlobals "within" = some (some (.ref f56))) (l56 : K.lookup f56 = some ⟨oc56, od56, .func (PySem.W.fnOf "within" "within" (Zk WV) (Zj WV) (Zd WV) .none kV56 dc56 pm56 an56 cd56 ct56), sl56⟩) (c56 : PySem.W.codeIn K cd56 "within" = true) (k56 : PySem.W.keepIn K (.ref f56) = true)
  (a57 : PySem.W.nsIn K mainGlobals "_law_cell_at" = some (some (.ref f57))) (l57 : K.lookup f57 = some ⟨oc57, od57, .func (PySem.W.fnOf "_law_cell_at" "_law_cell_at" (Zk YA) (Zj YA) (Zd YA) .none kV57 dc57 pm57 an57 cd57 ct57), sl57⟩) (c57 : PySem.W.codeIn K cd57 "_law_cell_at" = true) (k57 : PySem.W.keepIn K (.ref f57) = true)
  (a58 : PySem.W.nsIn K mainGlobals "_law_number" = some (some (.ref f58))) (l58 : K.lookup f58 = some ⟨oc58, od58, .func (PySem.W.fnOf "_law_number" "_law_number" (Zk YR) (Zj YR) (Zd YR) .none kV58 dc58 pm58 an58 cd58 ct58), sl58⟩) (c58 : PySem.W.codeIn K cd58 "_law_number" = true) (k58 : PySem.W.keepIn K (.ref f58) = true)
  (a59 : PySem.W.nsIn K mainGlobals "_law_asked" = some (some (.ref f59))) (l59 : K.lookup f59 = some ⟨oc59, od59, .func (PySem.W.fnOf "_law_asked" "_law_asked" (Zk Xa) (Zj Xa) (Zd Xa) .none kV59 dc59 pm59 an59 cd59 ct59), sl59⟩) (c59 : PySem.W.codeIn K cd59 "_law_asked" = true) (k59 : PySem.W.keepIn K (.ref f59) = true)
  (a60 : PySem.W.nsIn K mainGlobals "_law_refused" = some (some (.ref f60))) (l60 : K.lookup f60 = some ⟨oc60, od60, .func (PySem.W.fnOf "_law_refused" "_law_refused" (Zk Yz) (Zj Yz) (Zd Yz) .none kV60 dc60 pm60 an60 cd60 ct60), sl60⟩) (c60 : PySem.W.codeIn K cd60 "_law_refused" = true) (k60 : PySem.W.keepIn K (.ref f60) = true)
  (a61 : PySem.W.nsIn K mainGlobals "_law_limits" = some (some (.ref f61))) (l61 : K.lookup f61 = some ⟨oc61, od61, .func (PySem.W.fnOf "_law_limits" "_law_limits" (Zk YS) (Zj YS) (Zd YS) .none kV61 dc61 pm61 an61 cd61 ct61), sl61⟩) (c61 : PySem.W.codeIn K cd61 "_law_limits" = true) (k61 : PySem.W.keepIn K (.ref f61) = true)
  (a62 : PySem.W.nsIn K mainGlobals "law" = some (some (.ref f62))) (l62 : K.lookup f62 = some ⟨oc62, od62, .func (PySem.W.fnOf "law" "law" (Zk JI) (Zj JI) (Zd JI) .none kV62 dc62 pm62 an62 cd62 ct62), sl62⟩) (c62 : PySem.W.codeIn K cd62 "law" = true) (k62 : PySem.W.keepIn K (.ref f62) = true)
  (z_isinstance : PySem.W.nsIn K mainGlobals "isinstance" = some none)
  (z_int : PySem.W.nsIn K mainGlobals "int" = some none)
  (z_bool : PySem.W.nsIn K mainGlobals "bool" = some none)
  (z_abs : PySem.W.nsIn K mainGlobals "abs" = some none)
  (z_range : PySem.W.nsIn K mainGlobals "range" = some none)
  (z_list : PySem.W.nsIn K mainGlobals "list" = some none)
  (z_len : PySem.W.nsIn K mainGlobals "len" = some none)
  (z_zip : PySem.W.nsIn K mainGlobals "zip" = some none)
  (z_min : PySem.W.nsIn K mainGlobals "min" = some none)
  (z_enumerate : PySem.W.nsIn K mainGlobals "enumerate" = some none)
  (z_max : PySem.W.nsIn K mainGlobals "max" = some none)
  (z_tuple : PySem.W.nsIn K mainGlobals "tuple" = some none)
  (z_all : PySem.W.nsIn K mainGlobals "all" = some none)
  (z_ValueError : PySem.W.nsIn K mainGlobals "ValueError" = some none)
  (g_MOST_KINDS_GONE_THROUGH : PySem.W.nsIn K mainGlobals "MOST_KINDS_GONE_THROUGH" = some (some (.int 3 tg_MOST_KINDS_GONE_THROUGH)))
  (g_MOST_LIMITS_GONE_THROUGH : PySem.W.nsIn K mainGlobals "MOST_LIMITS_GONE_THROUGH" = some (some (.int 12 tg_MOST_LIMITS_GONE_THROUGH)))
  (g_GREATEST_NUMBER : PySem.W.nsIn K mainGlobals "GREATEST_NUMBER" = some (some (.int 999999999999 tg_GREATEST_NUMBER)))
  (g_MOST_KINDS : PySem.W.nsIn K mainGlobals "MOST_KINDS" = some (some (.int 4 tg_MOST_KINDS)))
  (g_MOST_LIMITS : PySem.W.nsIn K mainGlobals "MOST_LIMITS" = some (some (.int 10 tg_MOST_LIMITS)))
  (x_TooMany : PySem.W.nsIn K mainGlobals "TooMany" = some (some (.ref X_TooMany))) (q_TooMany : PySem.W.excIn K X_TooMany [.type "ValueError", .type "Exception", .type "BaseException", .type "object"] "ValueError.__new__" = true)
  (x_NoDesk : PySem.W.nsIn K mainGlobals "NoDesk" = some (some (.ref X_NoDesk))) (q_NoDesk : PySem.W.excIn K X_NoDesk [.type "ValueError", .type "Exception", .type "BaseException", .type "object"] "ValueError.__new__" = true)
  (x_NoPlace : PySem.W.nsIn K mainGlobals "NoPlace" = some (some (.ref X_NoPlace))) (q_NoPlace : PySem.W.excIn K X_NoPlace [.type "ValueError", .type "Exception", .type "BaseException", .type "object"] "ValueError.__new__" = true)
  (x_NoGoal : PySem.W.nsIn K mainGlobals "NoGoal" = some (some (.ref X_NoGoal))) (q_NoGoal : PySem.W.excIn K X_NoGoal [.type "ValueError", .type "Exception", .type "BaseException", .type "object"] "ValueError.__new__" = true)
  (x_Unlike : PySem.W.nsIn K mainGlobals "Unlike" = some (some (.ref X_Unlike))) (q_Unlike : PySem.W.excIn K X_Unlike [.type "ValueError", .type "Exception", .type "BaseException", .type "object"] "ValueError.__new__" = true)
  (x_LimitError : PySem.W.nsIn K mainGlobals "LimitError" = some (some (.ref X_LimitError))) (q_LimitError : PySem.W.excIn K X_LimitError [.type "ValueError", .type "Exception", .type "BaseException", .type "object"] "ValueError.__new__" = true)
  (u_NoPlace_NoPlace : PySem.W.subIn K (.ref X_NoPlace) (.ref X_NoPlace) = some true)
  (u_TooMany_TooMany : PySem.W.subIn K (.ref X_TooMany) (.ref X_TooMany) = some true)
  (u_Unlike_Unlike : PySem.W.subIn K (.ref X_Unlike) (.ref X_Unlike) = some true)
  (u_TooMany_LimitError : PySem.W.subIn K (.ref X_TooMany) (.ref X_LimitError) = some true)
  (u_TooMany_ValueError : PySem.W.subIn K (.ref X_TooMany) (.type "ValueError") = some true)
  (u_NoGoal_LimitError : PySem.W.subIn K (.ref X_NoGoal) (.ref X_LimitError) = some true)
  (u_NoGoal_ValueError : PySem.W.subIn K (.ref X_NoGoal) (.type "ValueError") = some true)
  (u_NoPlace_LimitError : PySem.W.subIn K (.ref X_NoPlace) (.ref X_LimitError) = some true)
  (u_NoPlace_ValueError : PySem.W.subIn K (.ref X_NoPlace) (.type "ValueError") = some true)
  (u_Unlike_LimitError : PySem.W.subIn K (.ref X_Unlike) (.ref X_LimitError) = some true)
  (u_Unlike_ValueError : PySem.W.subIn K (.ref X_Unlike) (.type "ValueError") = some true)
  (v_TooMany_NoPlace : PySem.W.subIn K (.ref X_TooMany) (.ref X_NoPlace) = some false)
  (v_NoGoal_NoPlace : PySem.W.subIn K (.ref X_NoGoal) (.ref X_NoPlace) = some false)
  (v_Unlike_NoPlace : PySem.W.subIn K (.ref X_Unlike) (.ref X_NoPlace) = some false)
  (v_NoGoal_TooMany : PySem.W.subIn K (.ref X_NoGoal) (.ref X_TooMany) = some false)
  (v_Unlike_TooMany : PySem.W.subIn K (.ref X_Unlike) (.ref X_TooMany) = some false)
  (v_NoGoal_Unlike : PySem.W.subIn K (.ref X_NoGoal) (.ref X_Unlike) = some false)
  (aC_Board : PySem.W.nsIn K mainGlobals "Board" = some (some (.ref C_Board))) (iI_Board : PySem.W.findIn K (.ref C_Board) "__init__" = some (some (.ref fI_Board))) (jI_Board : PySem.W.isFn K (.ref fI_Board) = true) (lI_Board : K.lookup fI_Board = some ⟨ocI_Board, odI_Board, .func (PySem.W.fnOf "__init__" "Board.__init__" (Zk YW) (Zj YW) (Zd YW) .none kVI_Board dcI_Board pmI_Board anI_Board cdI_Board ctI_Board), slI_Board⟩) (cI_Board : PySem.W.codeIn K cdI_Board "Board.__init__" = true) (kI_Board : PySem.W.keepIn K (.ref fI_Board) = true)
  (pg_Board : PySem.W.plainGet K C_Board Str.empty = true) (hd_Board : PySem.W.hasDictIn K C_Board = true) (po_Board : PySem.W.plainOver K C_Board = true) (sa_Board : PySem.W.findIn K (.ref C_Board) "__setattr__" = some (some (.builtin "object.__setattr__"))) (mk_Board : PySem.W.makesIn K C_Board = true) (kc_Board : PySem.W.keepIn K (.ref C_Board) = true)
  (nA0_Board : PySem.W.findIn K (.ref C_Board) "heads" = some none)
  (nA1_Board : PySem.W.findIn K (.ref C_Board) "divisor" = some none)
  (nA2_Board : PySem.W.findIn K (.ref C_Board) "rows" = some none)
  (lc_raising_column : K.lookup cL_raising_column = some ⟨occ_raising_column, odc_raising_column, .fields vsc_raising_column, slc_raising_column⟩) (v11_raising_column : vsc_raising_column[11]? = some (.ref TL_raising_column)) (hno : PySem.W.noTabs K = true) :
  ∃ (fd : FuncData) (c T : Addr), PySem.W.tabIn K "raising_column" = some (c, T) /\ PySem.W.noTabs K = true /\ (∀ (s : Shared) (v : Value), BindsTo s fd ⟨[v], []⟩ [("_law_script", v)]) /\ ∀ base : Heap, K.In base -> base.Ns mainGlobals mg -> zat mg base -> PySem.W.CodeHd base c T -> FnOk l.prog w K mg base CX0 13 fa fd ["_law_script"] (Fx.spF K none 1 zdq) := by
 have e := hfa.symm.trans (PySem.W.mg_of X G a62)
 cases e
 have F0 := Zs (st := XG) l0 c0 k0
 have b0 := F0.binds (ps := ["value"]) fun _ _ _ _ _ _ us hl => match us, hl with | [_], _ => rfl
 have F1 := Zs (st := Z1) l1 c1 k1
 have b1 := F1.binds (ps := ["a", "b"]) fun _ _ _ _ _ _ us hl => match us, hl with | [_, _], _ => rfl
 have F2 := Zs (st := Jg) l2 c2 k2
 have b2 := F2.binds (ps := ["upper", "lower"]) fun _ _ _ _ _ _ us hl => match us, hl with | [_, _], _ => rfl
 have F3 := Zs (st := Jc) l3 c3 k3
 have b3 := F3.binds (ps := ["a", "b"]) fun _ _ _ _ _ _ us hl => match us, hl with | [_, _], _ => rfl
 have F4 := Zs (st := Je) l4 c4 k4
 have b4 := F4.binds (ps := ["a", "b"]) fun _ _ _ _ _ _ us hl => match us, hl with | [_, _], _ => rfl
 have F5 := Zs (st := VP) l5 c5 k5
 have b5 := F5.binds (ps := ["a", "b"]) fun _ _ _ _ _ _ us hl => match us, hl with | [_, _], _ => rfl
 have F6 := Zs (st := Jd) l6 c6 k6
 have b6 := F6.binds (ps := ["a", "b"]) fun _ _ _ _ _ _ us hl => match us, hl with | [_, _], _ => rfl
 have F7 := Zs (st := VU) l7 c7 k7
 have b7 := F7.binds (ps := ["a", "b"]) fun _ _ _ _ _ _ us hl => match us, hl with | [_, _], _ => rfl
 have F8 := Zs (st := Jb) l8 c8 k8
 have b8 := F8.binds (ps := ["length", "place"]) fun _ _ _ _ _ _ us hl => match us, hl with | [_, _], _ => rfl
 have F9 := Zs (st := XB) l9 c9 k9
 have b9 := F9.binds (ps := ["limit"]) fun _ _ _ _ _ _ us hl => match us, hl with | [_], _ => rfl
 have F10 := Zs (st := YB) l10 c10 k10
 have b10 := F10.binds (ps := ["desk", "goal"]) fun _ _ _ _ _ _ us hl => match us, hl with | [_, _], _ => rfl
 have F11 := Zs (st := XA) l11 c11 k11
 have b11 := F11.binds (ps := ["board"]) fun _ _ _ _ _ _ us hl => match us, hl with | [_], _ => rfl
 have F12 := Zs (st := Xz) l12 c12 k12
 have b12 := F12.binds (ps := ["board"]) fun _ _ _ _ _ _ us hl => match us, hl with | [_], _ => rfl
 have F13 := Zs (st := Yx) l13 c13 k13
 have b13 := F13.binds (ps := ["row", "line", "column", "divisor"]) fun _ _ _ _ _ _ us hl => match us, hl with | [_, _, _, _], _ => rfl
 have F14 := Zs (st := Wg) l14 c14 k14
 have b14 := F14.binds (ps := ["board", "thing", "column"]) fun _ _ _ _ _ _ us hl => match us, hl with | [_, _, _], _ => rfl
 have F15 := Zs (st := Z8) l15 c15 k15
 have b15 := F15.binds (ps := ["board", "column"]) fun _ _ _ _ _ _ us hl => match us, hl with | [_, _], _ => rfl
 have F16 := Zs (st := VS) l16 c16 k16
 have b16 := F16.binds (ps := ["board"]) fun _ _ _ _ _ _ us hl => match us, hl with | [_], _ => rfl
 have F17 := Zs (st := VR) l17 c17 k17
 have b17 := F17.binds (ps := ["board", "column", "number"]) fun _ _ _ _ _ _ us hl => match us, hl with | [_, _, _], _ => rfl
 have F18 := Zs (st := Z0) l18 c18 k18
 have b18 := F18.binds (ps := ["board", "thing"]) fun _ _ _ _ _ _ us hl => match us, hl with | [_, _], _ => rfl
 have F19 := Zs (st := YQ) l19 c19 k19
 have b19 := F19.binds (ps := ["board"]) fun _ _ _ _ _ _ us hl => match us, hl with | [_], _ => rfl
 have F20 := Zs (st := Wh) l20 c20 k20
 have b20 := F20.binds (ps := ["desk", "goal"]) fun _ _ _ _ _ _ us hl => match us, hl with | [_, _], _ => rfl
 have F21 := Zs (st := XC) l21 c21 k21
 have b21 := F21.binds (ps := ["board"]) fun _ _ _ _ _ _ us hl => match us, hl with | [_], _ => rfl
 have F22 := Zs (st := Y9) l22 c22 k22
 have b22 := F22.binds (ps := ["board", "thing"]) fun _ _ _ _ _ _ us hl => match us, hl with | [_, _], _ => rfl
 have F23 := Zs (st := XH) l23 c23 k23
 have b23 := F23.binds (ps := ["board", "thing"]) fun _ _ _ _ _ _ us hl => match us, hl with | [_, _], _ => rfl
 have F24 := Zs (st := Z9) l24 c24 k24
 have b24 := F24.binds (ps := ["board", "thing"]) fun _ _ _ _ _ _ us hl => match us, hl with | [_, _], _ => rfl
 have F25 := Zs (st := Z7) l25 c25 k25
 have b25 := F25.binds (ps := ["board"]) fun _ _ _ _ _ _ us hl => match us, hl with | [_], _ => rfl
 have F26 := Zs (st := ZX) l26 c26 k26
 have b26 := F26.binds (ps := ["desk"]) fun _ _ _ _ _ _ us hl => match us, hl with | [_], _ => rfl
 have F27 := Zs (st := Yo) l27 c27 k27
 have b27 := F27.binds (ps := ["one", "other"]) fun _ _ _ _ _ _ us hl => match us, hl with | [_, _], _ => rfl
 have F28 := Zs (st := WZ) l28 c28 k28
 have b28 := F28.binds (ps := ["points", "point"]) fun _ _ _ _ _ _ us hl => match us, hl with | [_, _], _ => rfl
 have F29 := Zs (st := Wl) l29 c29 k29
 have b29 := F29.binds (ps := ["desk"]) fun _ _ _ _ _ _ us hl => match us, hl with | [_], _ => rfl
 have F30 := Zs (st := Xb) l30 c30 k30
 have b30 := F30.binds (ps := ["value"]) fun _ _ _ _ _ _ us hl => match us, hl with | [_], _ => rfl
 have F31 := Zs (st := XF) l31 c31 k31
 have b31 := F31.binds (ps := ["kinds", "limit"]) fun _ _ _ _ _ _ us hl => match us, hl with | [_, _], _ => rfl
 have F32 := Zs (st := Wk) l32 c32 k32
 have b32 := F32.binds (ps := ["kinds", "limits"]) fun _ _ _ _ _ _ us hl => match us, hl with | [_, _], _ => rfl
 have F33 := Zs (st := YC) l33 c33 k33
 have b33 := F33.binds (ps := ["count", "place"]) fun _ _ _ _ _ _ us hl => match us, hl with | [_, _], _ => rfl
 have F34 := Zs (st := WW) l34 c34 k34
 have b34 := F34.binds (ps := ["weights", "point"]) fun _ _ _ _ _ _ us hl => match us, hl with | [_, _], _ => rfl
 have F35 := Zs (st := YV) l35 c35 k35
 have b35 := F35.binds (ps := ["kinds", "goal"]) fun _ _ _ _ _ _ us hl => match us, hl with | [_, _], _ => rfl
 have F36 := Zs (st := WY) l36 c36 k36
 have b36 := F36.binds (ps := ["row", "other", "column"]) fun _ _ _ _ _ _ us hl => match us, hl with | [_, _, _], _ => rfl
 have F37 := Zs (st := YT) l37 c37 k37
 have b37 := F37.binds (ps := ["board", "column"]) fun _ _ _ _ _ _ us hl => match us, hl with | [_, _], _ => rfl
 have F38 := Zs (st := WX) l38 c38 k38
 have b38 := F38.binds (ps := ["board", "column"]) fun _ _ _ _ _ _ us hl => match us, hl with | [_, _], _ => rfl
 have F39 := Zs (st := Wm) l39 c39 k39
 have b39 := F39.binds (ps := ["board"]) fun _ _ _ _ _ _ us hl => match us, hl with | [_], _ => rfl
 have F40 := Zs (st := Jh) l40 c40 k40
 have b40 := F40.binds (ps := ["desk", "goal"]) fun _ _ _ _ _ _ us hl => match us, hl with | [_, _], _ => rfl
 have F41 := Zs (st := Wf) l41 c41 k41
 have b41 := F41.binds (ps := ["desk", "place"]) fun _ _ _ _ _ _ us hl => match us, hl with | [_, _], _ => rfl
 have F42 := Zs (st := Yv) l42 c42 k42
 have b42 := F42.binds (ps := ["shares", "place"]) fun _ _ _ _ _ _ us hl => match us, hl with | [_, _], _ => rfl
 have F43 := Zs (st := VQ) l43 c43 k43
 have b43 := F43.binds (ps := ["point", "way", "often"]) fun _ _ _ _ _ _ us hl => match us, hl with | [_, _, _], _ => rfl
 have F44 := Zs (st := Ym) l44 c44 k44
 have b44 := F44.binds (ps := ["limit", "point", "way"]) fun _ _ _ _ _ _ us hl => match us, hl with | [_, _, _], _ => rfl
 have F45 := Zs (st := VT) l45 c45 k45
 have b45 := F45.binds (ps := ["desk", "place"]) fun _ _ _ _ _ _ us hl => match us, hl with | [_, _], _ => rfl
 have F46 := Zs (st := XD) l46 c46 k46
 have b46 := F46.binds (ps := ["desk", "place"]) fun _ _ _ _ _ _ us hl => match us, hl with | [_, _], _ => rfl
 have F47 := Zs (st := Jf) l47 c47 k47
 have b47 := F47.binds (ps := ["desk"]) fun _ _ _ _ _ _ us hl => match us, hl with | [_], _ => rfl
 have F48 := Zs (st := W0) l48 c48 k48
 have b48 := F48.binds (ps := ["weights", "kind"]) fun _ _ _ _ _ _ us hl => match us, hl with | [_, _], _ => rfl
 have F49 := Zs (st := W1) l49 c49 k49
 have b49 := F49.binds (ps := ["upper", "lower", "kind"]) fun _ _ _ _ _ _ us hl => match us, hl with | [_, _, _], _ => rfl
 have F50 := Zs (st := Yy) l50 c50 k50
 have b50 := F50.binds (ps := ["limits", "kind"]) fun _ _ _ _ _ _ us hl => match us, hl with | [_, _], _ => rfl
 have F51 := Zs (st := YU) l51 c51 k51
 have b51 := F51.binds (ps := ["weights"]) fun _ _ _ _ _ _ us hl => match us, hl with | [_], _ => rfl
 have F52 := Zs (st := Yn) l52 c52 k52
 have b52 := F52.binds (ps := ["limits"]) fun _ _ _ _ _ _ us hl => match us, hl with | [_], _ => rfl
 have F53 := Zs (st := Yw) l53 c53 k53
 have b53 := F53.binds (ps := ["weights", "bound"]) fun _ _ _ _ _ _ us hl => match us, hl with | [_, _], _ => rfl
 have F54 := Zs (st := Wj) l54 c54 k54
 have b54 := F54.binds (ps := ["desk", "kind"]) fun _ _ _ _ _ _ us hl => match us, hl with | [_, _], _ => rfl
 have F55 := Zs (st := Wi) l55 c55 k55
 have b55 := F55.binds (ps := ["one", "other"]) fun _ _ _ _ _ _ us hl => match us, hl with | [_, _], _ => rfl
 have F56 := Zs (st := WV) l56 c56 k56
 have b56 := F56.binds (ps := ["one", "other"]) fun _ _ _ _ _ _ us hl => match us, hl with | [_, _], _ => rfl
 have F57 := Zs (st := YA) l57 c57 k57
 have b57 := F57.binds (ps := ["_law_script", "_law_k"]) fun _ _ _ _ _ _ us hl => match us, hl with | [_, _], _ => rfl
 have F58 := Zs (st := YR) l58 c58 k58
 have b58 := F58.binds (ps := ["_law_cell", "_law_wide"]) fun _ _ _ _ _ _ us hl => match us, hl with | [_, _], _ => rfl
 have F59 := Zs (st := Xa) l59 c59 k59
 have b59 := F59.binds (ps := ["_law_what", "_law_one", "_law_other"]) fun _ _ _ _ _ _ us hl => match us, hl with | [_, _, _], _ => rfl
 have F60 := Zs (st := Yz) l60 c60 k60
 have b60 := F60.binds (ps := ["_law_what", "_law_one", "_law_other"]) fun _ _ _ _ _ _ us hl => match us, hl with | [_, _, _], _ => rfl
 have F61 := Zs (st := YS) l61 c61 k61
 have b61 := F61.binds (ps := ["_law_script", "_law_kinds", "_law_many"]) fun _ _ _ _ _ _ us hl => match us, hl with | [_, _, _], _ => rfl
 have F62 := Zs (st := JI) l62 c62 k62
 have b62 := F62.binds (ps := ["_law_script"]) fun _ _ _ _ _ _ us hl => match us, hl with | [_], _ => rfl
 have FI_Board := Zs (st := YW) lI_Board cI_Board kI_Board
 have bI_Board := FI_Board.binds (ps := ["self", "heads", "divisor", "rows"]) fun _ _ _ _ _ _ us hl => match us, hl with | [_, _, _, _], _ => rfl
 have tL_raising_column : PySem.W.tabIn K "raising_column" = some (cL_raising_column, TL_raising_column) := Fx.tab_mk a18 l18 rfl lc_raising_column v11_raising_column
 have m_isinstance := PySem.W.mg_none_of X G z_isinstance
 have m_int := PySem.W.mg_none_of X G z_int
 have m_bool := PySem.W.mg_none_of X G z_bool
 have m_abs := PySem.W.mg_none_of X G z_abs
 have m_range := PySem.W.mg_none_of X G z_range
 have m_list := PySem.W.mg_none_of X G z_list
 have m_len := PySem.W.mg_none_of X G z_len
 have m_zip := PySem.W.mg_none_of X G z_zip
 have m_min := PySem.W.mg_none_of X G z_min
 have m_enumerate := PySem.W.mg_none_of X G z_enumerate
 have m_max := PySem.W.mg_none_of X G z_max
 have m_tuple := PySem.W.mg_none_of X G z_tuple
 have m_all := PySem.W.mg_none_of X G z_all
 have m_ValueError := PySem.W.mg_none_of X G z_ValueError
 have n_MOST_KINDS_GONE_THROUGH := PySem.W.mg_of X G g_MOST_KINDS_GONE_THROUGH
 have n_MOST_LIMITS_GONE_THROUGH := PySem.W.mg_of X G g_MOST_LIMITS_GONE_THROUGH
 have n_GREATEST_NUMBER := PySem.W.mg_of X G g_GREATEST_NUMBER
 have n_MOST_KINDS := PySem.W.mg_of X G g_MOST_KINDS
 have n_MOST_LIMITS := PySem.W.mg_of X G g_MOST_LIMITS
 obtain ⟨cl, hcl⟩ : ∃ cl : Str -> Value, cl "TooMany" = .ref X_TooMany /\ cl "NoDesk" = .ref X_NoDesk /\ cl "NoPlace" = .ref X_NoPlace /\ cl "NoGoal" = .ref X_NoGoal /\ cl "Unlike" = .ref X_Unlike /\ cl "LimitError" = .ref X_LimitError /\ True := ⟨fun c => if c = "TooMany" then .ref X_TooMany else if c = "NoDesk" then .ref X_NoDesk else if c = "NoPlace" then .ref X_NoPlace else if c = "NoGoal" then .ref X_NoGoal else if c = "Unlike" then .ref X_Unlike else if c = "LimitError" then .ref X_LimitError else .none, (if_pos rfl), ((if_neg (by decide)).trans (if_pos rfl)), ((if_neg (by decide)).trans ((if_neg (by decide)).trans (if_pos rfl))), ((if_neg (by decide)).trans ((if_neg (by decide)).trans ((if_neg (by decide)).trans (if_pos rfl)))), ((if_neg (by decide)).trans ((if_neg (by decide)).trans ((if_neg (by decide)).trans ((if_neg (by decide)).trans (if_pos rfl))))), ((if_neg (by decide)).trans ((if_neg (by decide)).trans ((if_neg (by decide)).trans ((if_neg (by decide)).trans ((if_neg (by decide)).trans (if_pos rfl)))))), trivial⟩
 obtain ⟨e_TooMany, hcl⟩ := hcl
 obtain ⟨e_NoDesk, hcl⟩ := hcl
 obtain ⟨e_NoPlace, hcl⟩ := hcl
 obtain ⟨e_NoGoal, hcl⟩ := hcl
 obtain ⟨e_Unlike, hcl⟩ := hcl
 obtain ⟨e_LimitError, hcl⟩ := hcl
 have c_TooMany : Fx.XCls K mg "TooMany" X_TooMany := ⟨PySem.W.mg_of X G x_TooMany, q_TooMany⟩
 have c_NoDesk : Fx.XCls K mg "NoDesk" X_NoDesk := ⟨PySem.W.mg_of X G x_NoDesk, q_NoDesk⟩
 have c_NoPlace : Fx.XCls K mg "NoPlace" X_NoPlace := ⟨PySem.W.mg_of X G x_NoPlace, q_NoPlace⟩
 have c_NoGoal : Fx.XCls K mg "NoGoal" X_NoGoal := ⟨PySem.W.mg_of X G x_NoGoal, q_NoGoal⟩
 have c_Unlike : Fx.XCls K mg "Unlike" X_Unlike := ⟨PySem.W.mg_of X G x_Unlike, q_Unlike⟩
 have c_LimitError : Fx.XCls K mg "LimitError" X_LimitError := ⟨PySem.W.mg_of X G x_LimitError, q_LimitError⟩
 refine ⟨PySem.W.fnOf "law" "law" (Zk JI) (Zj JI) (Zd JI) .none kV62 dc62 pm62 an62 cd62 ct62, cL_raising_column, TL_raising_column, tL_raising_column, hno, fun s v => .of_eq rfl, fun base hKb _ hB hC => ?_⟩
 have L_raising_column : Fx.LamHyp K mg base "raising_column" cL_raising_column TL_raising_column := ⟨tL_raising_column, Jw tL_raising_column hKb hC, hB⟩
 have hcode_raising_column := PySem.W.law_code X G tL_raising_column (PySem.W.mg_of X G a18) (X _ _ l18) rfl
 have M_Board : Fx.Mko l.prog w K mg base 1 "Board" ["heads", "divisor", "rows"] := ⟨C_Board, fI_Board, _, _, ⟨mk_Board, iI_Board, jI_Board, kc_Board⟩, JW FI_Board ⟨pg_Board, hd_Board, po_Board, sa_Board⟩ nA0_Board nA1_Board nA2_Board, PySem.W.mg_of X G aC_Board, bI_Board, ⟨pg_Board, hd_Board, po_Board, sa_Board⟩, fun n hn => by
  rcases List.mem_cons.mp hn with rfl | hn
  ·exact nA0_Board
  ·rcases List.mem_cons.mp hn with rfl | hn
   ·exact nA1_Board
   ·rw [List.mem_singleton.mp hn]; exact nA2_Board⟩
 have R_is_whole := zbF (P := l.prog) (w := w) (base := base) (k := 0) F0 (PySem.W.mg_of X G a0) b0 m_isinstance m_int m_bool
 have R_common_divisor := VZ (P := l.prog) (w := w) (base := base) (k := 0) F1 (PySem.W.mg_of X G a1) b1 m_abs
 have R_frac := ok_frac (P := l.prog) (w := w) (base := base) (k := 1) F2 (PySem.W.mg_of X G a2) b2 (R_common_divisor.mono (by decide))
 have R_plus := ok_plus (P := l.prog) (w := w) (base := base) (k := 2) F3 (PySem.W.mg_of X G a3) b3 (R_frac.mono (by decide))
 have R_less := ok_less (P := l.prog) (w := w) (base := base) (k := 2) F4 (PySem.W.mg_of X G a4) b4 (R_frac.mono (by decide))
 have R_times := ok_times (P := l.prog) (w := w) (base := base) (k := 2) F5 (PySem.W.mg_of X G a5) b5 (R_frac.mono (by decide))
 have R_over := ok_over (P := l.prog) (w := w) (base := base) (k := 2) F6 (PySem.W.mg_of X G a6) b6 (R_frac.mono (by decide))
 have R_below := ok_below (P := l.prog) (w := w) (base := base) (k := 0) F7 (PySem.W.mg_of X G a7) b7 
 have R_unit := ok_unit (P := l.prog) (w := w) (base := base) (k := 0) F8 (PySem.W.mg_of X G a8) b8 
 have R_room_row := zbB (P := l.prog) (w := w) (base := base) (k := 0) F9 (PySem.W.mg_of X G a9) b9 
 have R_first_board := QW (P := l.prog) (w := w) (base := base) (k := 0) F10 (PySem.W.mg_of X G a10) b10 m_range m_list (R_unit.mono (by decide)) (R_room_row.mono (by decide)) (M_Board.mono (by decide))
 have R_rooms_of := zbA (P := l.prog) (w := w) (base := base) (k := 0) F11 (PySem.W.mg_of X G a11) b11 m_list m_range m_len
 have R_worth_of := zbz (P := l.prog) (w := w) (base := base) (k := 0) F12 (PySem.W.mg_of X G a12) b12 m_len
 have R_swapped_row := QS (P := l.prog) (w := w) (base := base) (k := 0) F13 (PySem.W.mg_of X G a13) b13 m_abs m_zip
 have R_swapped := zc7 (P := l.prog) (w := w) (base := base) (k := 0) F14 (PySem.W.mg_of X G a14) b14 m_list m_abs (R_swapped_row.mono (by decide)) (M_Board.mono (by decide))
 have R_first_room_on := Uw (P := l.prog) (w := w) (base := base) (k := 1) F15 (PySem.W.mg_of X G a15) b15 (R_rooms_of.mono (by decide))
 have R_freed := ok_freed (P := l.prog) (w := w) (base := base) (k := 3) F16 (PySem.W.mg_of X G a16) b16 m_range m_len (R_first_room_on.mono (by decide)) (R_swapped.mono (by decide))
 have R_helps := ok_helps (P := l.prog) (w := w) (base := base) (k := 0) F17 (PySem.W.mg_of X G a17) b17 m_len
 have R_raising_column := VY (P := l.prog) (w := w) (base := base) (k := 0) F18 (PySem.W.mg_of X G a18) b18 m_range m_len m_min (R_helps.mono (by decide)) L_raising_column hcode_raising_column
 have R_short_room := JQ (P := l.prog) (w := w) (base := base) (k := 1) F19 (PySem.W.mg_of X G a19) b19 (R_rooms_of.mono (by decide))
 have R_settled := zc8 (P := l.prog) (w := w) (base := base) (k := 4) F20 (PySem.W.mg_of X G a20) b20 (R_first_board.mono (by decide)) (R_freed.mono (by decide)) (R_short_room.mono (by decide)) (R_raising_column.mono (by decide)) (R_swapped.mono (by decide))
 have R_point_of := zbC (P := l.prog) (w := w) (base := base) (k := 2) F21 (PySem.W.mg_of X G a21) b21 m_range m_len (R_frac.mono (by decide))
 have R_shares_of := zaE (P := l.prog) (w := w) (base := base) (k := 2) F22 (PySem.W.mg_of X G a22) b22 m_len m_zip (R_rooms_of.mono (by decide)) (R_frac.mono (by decide))
 have R_clash_of := zbG (P := l.prog) (w := w) (base := base) (k := 3) F23 (PySem.W.mg_of X G a23) b23 m_len (R_shares_of.mono (by decide))
 have R_amount_column := Ux (P := l.prog) (w := w) (base := base) (k := 0) F24 (PySem.W.mg_of X G a24) b24 m_len m_enumerate
 have R_with_one_more := Uv (P := l.prog) (w := w) (base := base) (k := 3) F25 (PySem.W.mg_of X G a25) b25 m_max m_len (R_rooms_of.mono (by decide)) (R_amount_column.mono (by decide)) (R_swapped.mono (by decide))
 have R_boards_of_rooms := Vz (P := l.prog) (w := w) (base := base) (k := 4) F26 (PySem.W.mg_of X G a26) b26 m_range (R_first_board.mono (by decide)) (R_with_one_more.mono (by decide))
 have R_comes_before := U7 (P := l.prog) (w := w) (base := base) (k := 1) F27 (PySem.W.mg_of X G a27) b27 m_zip (R_below.mono (by decide))
 have R_put_in := zeE (P := l.prog) (w := w) (base := base) (k := 2) F28 (PySem.W.mg_of X G a28) b28 m_len (R_comes_before.mono (by decide))
 have R_corners := zdc (P := l.prog) (w := w) (base := base) (k := 5) (cl := cl) F29 (PySem.W.mg_of X G a29) b29 m_len ⟨_, n_MOST_KINDS_GONE_THROUGH⟩ ⟨_, n_MOST_LIMITS_GONE_THROUGH⟩ c_TooMany e_TooMany (R_boards_of_rooms.mono (by decide)) (R_short_room.mono (by decide)) (R_point_of.mono (by decide)) (R_put_in.mono (by decide))
 have R_is_number := zaG (P := l.prog) (w := w) (base := base) (k := 1) F30 (PySem.W.mg_of X G a30) b30 m_abs ⟨_, n_GREATEST_NUMBER⟩ (R_is_whole.mono (by decide))
 have R_limit_of := zbE (P := l.prog) (w := w) (base := base) (k := 2) (cl := cl) F31 (PySem.W.mg_of X G a31) b31 m_isinstance m_tuple m_len m_list m_all c_NoDesk e_NoDesk (R_is_number.mono (by decide))
 have R_desk_of := zdb (P := l.prog) (w := w) (base := base) (k := 3) (cl := cl) F32 (PySem.W.mg_of X G a32) b32 m_isinstance m_list m_len m_tuple ⟨_, n_MOST_KINDS⟩ ⟨_, n_MOST_LIMITS⟩ c_NoDesk e_NoDesk (R_is_whole.mono (by decide)) (R_limit_of.mono (by decide))
 have R_check_place := QX (P := l.prog) (w := w) (base := base) (k := 1) (cl := cl) F33 (PySem.W.mg_of X G a33) b33 c_NoPlace e_NoPlace (R_is_whole.mono (by decide))
 have R_weight := zeB (P := l.prog) (w := w) (base := base) (k := 3) F34 (PySem.W.mg_of X G a34) b34 m_zip (R_frac.mono (by decide)) (R_plus.mono (by decide))
 have R_check_goal := JV (P := l.prog) (w := w) (base := base) (k := 1) (cl := cl) F35 (PySem.W.mg_of X G a35) b35 m_isinstance m_list m_len m_all c_NoGoal e_NoGoal (R_is_whole.mono (by decide))
 have R_sooner := zeD (P := l.prog) (w := w) (base := base) (k := 0) F36 (PySem.W.mg_of X G a36) b36 
 have R_first_stop := JT (P := l.prog) (w := w) (base := base) (k := 1) F37 (PySem.W.mg_of X G a37) b37 (R_rooms_of.mono (by decide)) (R_sooner.mono (by decide))
 have R_way_of := zeC (P := l.prog) (w := w) (base := base) (k := 2) F38 (PySem.W.mg_of X G a38) b38 m_range m_len (R_worth_of.mono (by decide)) (R_frac.mono (by decide))
 have R_climbed := zdd (P := l.prog) (w := w) (base := base) (k := 3) F39 (PySem.W.mg_of X G a39) b39 (R_worth_of.mono (by decide)) (R_raising_column.mono (by decide)) (R_first_stop.mono (by decide)) (R_point_of.mono (by decide)) (R_way_of.mono (by decide)) (R_swapped.mono (by decide)) (R_shares_of.mono (by decide))
 have R_best := ok_best (P := l.prog) (w := w) (base := base) (k := 5) (cl := cl) F40 (PySem.W.mg_of X G a40) b40 (R_check_goal.mono (by decide)) (R_settled.mono (by decide)) (R_clash_of.mono (by decide)) (R_climbed.mono (by decide))
 have R_without := zc6 (P := l.prog) (w := w) (base := base) (k := 0) F41 (PySem.W.mg_of X G a41) b41 
 have R_with_nought := QQ (P := l.prog) (w := w) (base := base) (k := 0) F42 (PySem.W.mg_of X G a42) b42 
 have R_moved := ok_moved (P := l.prog) (w := w) (base := base) (k := 3) F43 (PySem.W.mg_of X G a43) b43 m_zip (R_times.mono (by decide)) (R_plus.mono (by decide))
 have R_point_beyond := U5 (P := l.prog) (w := w) (base := base) (k := 4) F44 (PySem.W.mg_of X G a44) b44 (R_weight.mono (by decide)) (R_less.mono (by decide)) (R_below.mono (by decide)) (R_over.mono (by decide)) (R_plus.mono (by decide)) (R_moved.mono (by decide))
 have R_cover := ok_cover (P := l.prog) (w := w) (base := base) (k := 6) (cl := cl) F45 (PySem.W.mg_of X G a45) b45 m_len m_list (R_check_place.mono (by decide)) (R_without.mono (by decide)) (R_best.mono (by decide)) (R_with_nought.mono (by decide)) (R_point_beyond.mono (by decide)) (R_weight.mono (by decide)) (R_below.mono (by decide))
 have R_needless := zbD (P := l.prog) (w := w) (base := base) (k := 7) (cl := cl) F46 (PySem.W.mg_of X G a46) b46 (R_cover.mono (by decide))
 have R_lean := ok_lean (P := l.prog) (w := w) (base := base) (k := 8) (cl := cl) F47 (PySem.W.mg_of X G a47) b47 m_len (R_needless.mono (by decide)) (R_without.mono (by decide))
 have R_others := zeF (P := l.prog) (w := w) (base := base) (k := 0) F48 (PySem.W.mg_of X G a48) b48 
 have R_joined := zeG (P := l.prog) (w := w) (base := base) (k := 1) F49 (PySem.W.mg_of X G a49) b49 m_zip (R_others.mono (by decide))
 have R_limits_left := QT (P := l.prog) (w := w) (base := base) (k := 2) F50 (PySem.W.mg_of X G a50) b50 (R_others.mono (by decide)) (R_joined.mono (by decide))
 have R_divisor_of := JU (P := l.prog) (w := w) (base := base) (k := 1) F51 (PySem.W.mg_of X G a51) b51 m_max (R_common_divisor.mono (by decide))
 have R_least_bounds := U6 (P := l.prog) (w := w) (base := base) (k := 2) F52 (PySem.W.mg_of X G a52) b52 m_tuple (R_divisor_of.mono (by decide)) (R_frac.mono (by decide)) (R_below.mono (by decide))
 have R_whole_limit := QR (P := l.prog) (w := w) (base := base) (k := 0) F53 (PySem.W.mg_of X G a53) b53 m_tuple
 have R_dropped := zda (P := l.prog) (w := w) (base := base) (k := 9) (cl := cl) F54 (PySem.W.mg_of X G a54) b54 m_tuple c_NoPlace e_NoPlace (R_check_place.mono (by decide)) (R_lean.mono (by decide)) (R_limits_left.mono (by decide)) (R_least_bounds.mono (by decide)) (R_whole_limit.mono (by decide))
 have R_outside := zc9 (P := l.prog) (w := w) (base := base) (k := 0) (cl := cl) F55 (PySem.W.mg_of X G a55) b55 c_Unlike e_Unlike
 have R_within := zeA (P := l.prog) (w := w) (base := base) (k := 1) (cl := cl) F56 (PySem.W.mg_of X G a56) b56 (R_outside.mono (by decide))
 have R_law_cell_at := QV (P := l.prog) (w := w) (base := base) (k := 0) F57 (PySem.W.mg_of X G a57) b57 m_len
 have R_law_number := JR (P := l.prog) (w := w) (base := base) (k := 0) F58 (PySem.W.mg_of X G a58) b58 
 have R_law_asked := zaF (P := l.prog) (w := w) (base := base) (k := 10) (cl := cl) F59 (PySem.W.mg_of X G a59) b59 (R_dropped.mono (by decide)) (R_corners.mono (by decide)) (R_outside.mono (by decide)) (R_within.mono (by decide))
 have R_law_refused := QU (P := l.prog) (w := w) (base := base) (k := 11) (cl := cl) F60 (PySem.W.mg_of X G a60) b60 m_isinstance m_ValueError c_NoPlace c_TooMany c_NoGoal c_Unlike c_LimitError e_NoPlace e_TooMany e_NoGoal e_Unlike e_LimitError u_NoPlace_NoPlace u_TooMany_TooMany u_Unlike_Unlike u_TooMany_LimitError u_TooMany_ValueError u_NoGoal_LimitError u_NoGoal_ValueError u_NoPlace_LimitError u_NoPlace_ValueError u_Unlike_LimitError u_Unlike_ValueError v_TooMany_NoPlace v_NoGoal_NoPlace v_Unlike_NoPlace v_NoGoal_TooMany v_Unlike_TooMany v_NoGoal_Unlike (R_law_asked.mono (by decide))
 have R_law_limits := JS (P := l.prog) (w := w) (base := base) (k := 1) F61 (PySem.W.mg_of X G a61) b61 m_range (R_law_cell_at.mono (by decide)) (R_law_number.mono (by decide))
 exact law_fn F62 m_range m_len m_isinstance m_list (R_law_cell_at.mono (by decide)) (R_law_limits.mono (by decide)) (R_desk_of.mono (by decide)) (R_law_refused.mono (by decide)) (R_dropped.mono (by decide)) (R_corners.mono (by decide))
end K22
namespace K22
open PySem PySem.Spec PyProof.Rows L2 Fx Lw
theorem walk {l : PySem.W.OpenLaw} {q : Program} {loose : List Str} {XP : (Str -> Option Value) -> Heap -> Prop} {YP : World -> Heap -> Prop} {d : DefRec} {K : Params -> PySem.W.Frag} (hn : l.most = some 63) (hdf : d.params.defaults = [])
  (hrec : ∃ d0, (recsOf q).find? (fun e => e.name == ("raising_column" : Str)) = some d0) (hY : ∀ (w : World) (h : Heap), YP w h -> (K w.params).In h)
  (F : ∀ (w : World) (mg : Str -> Option Value) (fa : Addr) (h : Heap), (K w.params).In h -> h.Ns mainGlobals mg -> mg d.name = some (.ref fa) ->
   ∃ (fd : FuncData) (c T : Addr), PySem.W.tabIn (K w.params) "raising_column" = some (c, T) /\ PySem.W.noTabs (K w.params) = true /\ (∀ (s : Shared) (u : Value), BindsTo s fd ⟨[u], []⟩ [("_law_script", u)]) /\ ∀ base : Heap, (K w.params).In base -> base.Ns mainGlobals mg -> zat mg base -> PySem.W.CodeHd base c T -> FnOk l.prog w (K w.params) mg base CX0 13 fa fd ["_law_script"] (Fx.spF (K w.params) none 1 zdq)) :
  PySem.W.WalkO q loose XP YP l.row.toRowW d [] (fun f vs => PySem.call f vs) :=
 let ⟨d0, h0⟩ := hrec
 Fx.walk_T (n := 63) (k := 13) (x := "_law_script") (x0 := "raising_column") hn (by decide) hdf ⟨rfl, by decide, by decide⟩ (List.mem_singleton.mpr rfl) h0 hY F (fun ns hl => law_ok ns hl)
end K22
open PySem PySem.W PyProof.Rows
namespace PySem.W.Fast
def tw8754764324375688316:=0
def tw3059721657307757910:=0
def tw18110277788312234108:=0
def tw14025127981575678805:=0
def tw10085721317708717080:=0
def tw7892487858934699025:=0
def tw11510685173544011471:=0
def tw10240368149000790368:=0
def tw5012867257503341245:=0
def tw9331846199117258726:=0
def tw6265559037237860067:=0
def tw7258392841511411953:=0
def tw5121141109867282953:=0
def tw2628417121630803703:=0
def tw14502905693500841637:=0
def tw6579611946670497607:=0
def tw13200851776264709559:=0
def tw11232782494558025647:=0
def tw3214717077259487112:=0
def tw1404910821304051904:=0
def tw14440424814414153932:=0
def tw10813123693969762382:=0
def tw910769710440227015:=0
def tw14423354580669086792:=0
def tw591618479631385907:=0
def tw15458790131776807509:=0
def tw16870645064913285408:=0
def tw12374774128896542394:=0
def tw18391411617351049950:=0
def tw16659777581164438390:=0
def tw12684518142557762479:=0
def tw3169117212159485855:=0
def tw4449455217937439277:=0
def tw12351208250185611220:=0
def tw12850010414683316263:=0
def tw13045565679895757093:=0
def tw5175069349081583734:=0
def tw17931658048430612950:=0
def tw4037364769275564673:=0
def tw7875729003770498345:=0
def tw4100131790389140919:=0
def tw3283161546962689340:=0
def tw1104618412239881040:=0
def tw6732743169593343182:=0
def tw16582031498908909803:=0
def tw15232366515801859359:=0
def tw4561212654198368054:=0
def tw17936252267094070480:=0
def tw10397331208155086697:=0
def tw7653587172260293476:=0
def tw15909513470081394123:=0
def tw13173073496625871999:=0
def tw15119034925443268120:=0
def tw1348857924687932690:=0
def tw15497996441805254928:=0
def tw3381646016345576284:=0
def tw2590570239832637083:=0
def tw5058287921473167654:=0
def tw18054670446066485305:=0
def tw7598671510643259674:=0
def tw17600441452756219291:=0
def tw13186613343650236684:=0
def tw14749363685518453964:=0
def tw8316665246855943197:=0
def tw1494102771013859352:=0
def tw11475834578597088998:=0
def tw9981532227318172251:=0
def tw9304334722072445711:=0
def tw10509677775241792520:=0
def tw6946831460463325416:=0
def tw3574829228530097967:=0
def tw517315756944010307:=0
def tw13618435583451047331:=0
def tw17269222712976761727:=0
def tw9161054287689835922:=0
def tw6739121664821934875:=0
def tw17902475588157503789:=0
def tw7131270893264798262:=0
def tw5251403487555069233:=0
def tw13133501982381266723:=0
def tw17375553224369210837:=0
def tw5946936097933443785:=0
def tw1994951737712050976:=0
def tw1475475250820386417:=0
def tw4146180445399020402:=0
def tw8658600425183832835:=0
def tw11992700746691571089:=0
def tw5282981614493811425:=0
def tw6424170131760012425:=0
def tw13715548621815690754:=0
def tw15473048352145304508:=0
def tw4263060871758528326:=0
def tw1626908472928878768:=0
def tw11596670425058243574:=0
def tw1252971683436012174:=0
def tw5581382959781870553:=0
def tw12247986471742372029:=0
def tw16569780424145722308:=0
def tw17709963850469413852:=0
def tw9080462577210054566:=0
def tw8059174289827854623:=0
def tw17213965708863754655:=0
def tw7564686959265121431:=0
def tw7468695783890864445:=0
def tw17586855324202405741:=0
def tw15138433308743616324:=0
def tw11584322118209093118:=0
def tw8447658328227572176:=0
def tw17705002297038991504:=0
def tw1255592869236305495:=0
def tw13479386100118439262:=0
def tw6924658586134975016:=0
def tw14896623730634023610:=0
def tw13406704094788100904:=0
def tw13835958455107823841:=0
def tw17028195122814729056:=0
def tw5795929590989372156:=0
def tw13529083414334754310:=0
def tw10705397774232391339:=0
def tw9921778448032873431:=0
def tw15419662239601787126:=0
def tw10360803476508225466:=0
def tw8095390354014318127:=0
def tw9602518575721873951:=0
def tw16980431945634199309:=0
def tw5897794606385041461:=0
def tw4063113708531370575:=0
def tw11040888084584812589:=0
def tw4587668961852098299:=0
def tw8557116408911249445:=0
def tw9147485158925251879:=0
def tw2235538550635396430:=0
def tw7314658124131004987:=0
def tw880526573749009945:=0
def tw1098778294204810064:=0
def tw18184429177351801212:=0
def tw13668209196615179016:=0
def tw4522037420737782044:=0
def tw1806188316602952396:=0
def tw6446593848289991277:=0
def tw11846498780823428776:=0
def tw115217448997012753:=0
def tw4553157315076873000:=0
def tw1128727125760922988:=0
def tw5014998049092856836:=0
def tw8359845497394149832:=0
def tw8454734017116628463:=0
def tw2554521161528559413:=0
def tw10126324251852889126:=0
def tw6958308889473395759:=0
def tw6677094821244535593:=0
def tw17910520660558773655:=0
def tw5766934765583239002:=0
def tw5914608024787506906:=0
def tw11625811107228102907:=0
def tw2837238018006409660:=0
def tw10003981355386953932:=0
def tw16951731083367913642:=0
def tw1341383724488801753:=0
def tw9825715011755691165:=0
def tw12109591394013729960:=0
def tw1444820487870904536:=0
def tw17457470223850500102:=0
def tw10255707296549147143:=0
def tw10373354316745862970:=0
def tw3630464836307514167:=0
def tw9414801201084795375:=0
def tw16999023566841147448:=0
def tw2032213852361785689:=0
def tw3847229492857513306:=0
def tw1465447765904762726:=0
def tw11810426228563823325:=0
def tw5335748363521156576:=0
def tw12938780691089515064:=0
def tw9477096994130956235:=0
def tw10448999826815928113:=0
def tw2400053263271999095:=0
def tw13752149364860631327:=0
def tw7040385022905424296:=0
def tw10925457515918099418:=0
def tw15844077419295710918:=0
def tw7140692752376998628:=0
def tw1250039207485087633:=0
def tw16322081265858299737:=0
def tw15916283564564713251:=0
def tw410041603446213961:=0
def tw471454213699221561:=0
def tw15281041216238356801:=0
def tw9454004855486739299:=0
def tw8751763551994328776:=0
def tw3882520086275420415:=0
def tw4663470067326422178:=0
def tw2244271716691085936:=0
def tw3277353508413448459:=0
def tw7379503333225136572:=0
def tw6238179695464176295:=0
def tw16419865748434400113:=0
def tw7496124770961675647:=0
def tw811544177709603792:=0
def tw17090491045581073088:=0
def tw11015506324743069820:=0
def tw1992470265197563989:=0
def tw16508719575720228993:=0
def tw11862275337628599118:=0
def tw17855188480242093658:=0
def tw11515156712315815093:=0
def tw7710976642557655030:=0
def tw4433102167265200160:=0
def tw254756720014218413:=0
def tw5554490908339018516:=0
def tw7607325833272707290:=0
def tw8090336481620777608:=0
def tw4408026338450388357:=0
def tw11870255780469362016:=0
def tw17384969824510073288:=0
def tw5844545442361948933:=0
def tw3152415348943700279:=0
def tw4732248181145586614:=0
def tw2718010178628664743:=0
def tw7622980577564472989:=0
def tw3749946317938658109:=0
def tw2378980768422921055:=0
def tw7530572692068646515:=0
def tw5888344368599385597:=0
def tw14602659401200750894:=0
def tw2747168535333491757:=0
def tw6660855599219150041:=0
def tw8800555686946775706:=0
def tw11649945740531371597:=0
def tw4016691457183165488:=0
def tw18146026849617227638:=0
def tw9640490657637269540:=0
def tw12523801661421104135:=0
def tw8549732340173322378:=0
def tw12719073052432438479:=0
def tw9361241708127893616:=0
def tw7799484739987917263:=0
def tw12292983232983394134:=0
def tw6579955959439545360:=0
def tw16136028795323060610:=0
def tw11450566503506566182:=0
def tw2692108119919992815:=0
def tw16503928561068963197:=0
def tw16065371423562126646:=0
def tw794776799468709307:=0
def tw4277295165595590364:=0
def tw13492452502425437232:=0
def tw11373016493645464955:=0
def tw4145668093863050353:=0
def tw235847928440612313:=0
def tw12873465231525130828:=0
def tw9221085466081350144:=0
def tw14921909193867185675:=0
def tw949679913505664133:=0
def tw9365306224372144994:=0
def tw7930527530921664089:=0
def tw11983070650371693384:=0
def tw5391138490256334266:=0
def tw5360705487418894046:=0
def tw17411184874643756330:=0
def tw533579312922698885:=0
def tw17061707582745407279:=0
def tw3725799430784165389:=0
def tw551883215709327592:=0
def tw16384268818429844091:=0
def tw16442396361339627579:=0
def tw18348168388384581814:=0
def tw4456425898814069948:=0
def tw7437203251516925621:=0
def tw16914585494984395965:=0
def tw14531199583812419338:=0
def tw11014522161053173458:=0
def tw13314961526537338230:=0
def tw1011115886548649347:=0
def tw1025262957820767521:=0
def tw9007799239192773093:=0
def tw11594360924107256654:=0
def tw11071518372537019164:=0
def tw5736271342951032893:=0
def tw1342639858545760148:=0
def tw6765568549325402026:=0
def tw14607040669644667626:=0
def tw9176667225437541982:=0
def tw5884204891544121384:=0
def tw12469343945144100457:=0
def tw4258719977741817102:=0
def tw4250151283657984941:=0
def tw5954515270247130142:=0
def tw4474350110715998202:=0
def tw528371817453366322:=0
def tw8563560649510322892:=0
def tw2736855216378358718:=0
def tw10806585146994766293:=0
def tw12817659864349710053:=0
def tw3609584196677533049:=0
def tw14648613399084430563:=0
def tw2764232339884246792:=0
def tw12626029348189962980:=0
def tw1910285486324662777:=0
def tw10684259747888413048:=0
def tw12915835721345257105:=0
def tw17486726796435031126:=0
def tw3071739208952253758:=0
def tw4200313119035421325:=0
def tw6053784402218162735:=0
def tw12183563608970662970:=0
def tw1179323659382181786:=0
def tw15960391140605138411:=0
def tw6857458021592271329:=0
def tw9230849270243084273:=0
def tw2347128332287250200:=0
def tw747321875861160712:=0
def tw9587225056785692068:=0
def tw13664677443818838243:=0
def tw2309957175068205971:=0
def tw13415316277700829281:=0
def tw4214076406191355911:=0
def tw8761239890845363878:=0
def tw7105810037057411388:=0
def tw12537220271538417138:=0
def tw9455838622548801560:=0
def tw11719527920095312019:=0
def tw7134956015987744287:=0
def tw9314277012426274074:=0
def tw8152748858072788960:=0
def tw11860943952192872541:=0
def tw15216076917516490869:=0
def tw10825223381437644526:=0
def tw18385054173817029916:=0
def tw4856968008155248952:=0
def tw3302399803786816416:=0
def tw14431860059749433683:=0
def tw14786658414813805559:=0
def tw13680416488105941382:=0
def tw5501471975873064259:=0
def tw9714616893136000686:=0
def tw5567316780192797437:=0
def tw5241699199056792397:=0
def tw12328205171170091336:=0
def tw1924782034199636545:=0
def tw16977477990811098336:=0
def tw12089936161602585832:=0
def tw1088067405629224182:=0
def tw14154462840875002100:=0
def tw16731734393407105261:=0
def tw777434018410867867:=0
def tw12265207433798714070:=0
def tw16175352896661839154:=0
def tw8336307166653737211:=0
def tw16740390172690234045:=0
def tw3923714854283017298:=0
def tw13723376160154034711:=0
def tw1263896208765014322:=0
def tw16180259592340151477:=0
def tw12787690594628841757:=0
def tw3874306670223258288:=0
def tw7900734043307821893:=0
def tw2718021551878282965:=0
def tw16423146365826039853:=0
def tw15602595547211410677:=0
def tw12312984827210449226:=0
def tw10893025759052744485:=0
def tw15775216817437985626:=0
def tw80800696867153140:=0
def tw3763243958248699119:=0
def tw12204876037705060085:=0
def tw9111729709784113706:=0
def tw3070812852796605401:=0
def tw5863586980738093831:=0
def tw17659029193151380891:=0
def tw8832484424635757471:=0
def tw4377095255419833655:=0
def tw2616977080159836712:=0
def tw1922394410415841161:=0
def tw10576293243390692721:=0
def tw6201701282494698834:=0
def tw563092917342377533:=0
def tw16391628506007586485:=0
def tw58957358313156644:=0
def tw10723644940372307679:=0
def tw12929500600576295427:=0
def tw4301497517499130313:=0
def tw3940499189980820580:=0
def tw18114281775295082856:=0
def tw10745090977731563452:=0
def tw16191996498535191972:=0
def tw5723545712526648769:=0
def tw1571857610065517911:=0
def tw6008505736575648030:=0
def tw4644118275830750027:=0
def tw12314740112211963477:=0
def tw2359306257099167296:=0
def tw10212418675926281681:=0
def tw1000488814007516469:=0
def tw11826172036380253622:=0
def tw4445526876732492494:=0
def tw14415783845784941545:=0
def tw8150631634877305181:=0
def tw11990785877545214833:=0
def tw14111667613638800268:=0
def tw3490499263109664513:=0
def tw12265132601217621784:=0
def tw8801977741921914819:=0
def tw4117392951644702992:=0
def tw17820541027667110163:=0
def tw10228741338716999640:=0
def tw7120978974126182766:=0
def tw373567816980393008:=0
def tw12249971177594930155:=0
def tw2267432946564866372:=0
def tw14197968618920225001:=0
def tw9764840936189875681:=0
def tw2605560096951173281:=0
def tw13006908957835907850:=0
def tw11332045109933685435:=0
def tw7451834524307092506:=0
def tw6285483557523593428:=0
def tw5080969396178403062:=0
def tw3154967324144659293:=0
def tw10452500521866023164:=0
def tw9180498066436184160:=0
def tw15304853143925435621:=0
def tw5996284623695896320:=0
def tw12048469446320477167:=0
def tw17052778987431203510:=0
def tw10924454892673466409:=0
def tw15090080746791774378:=0
def tw5409515124344672951:=0
def tw7481167366525623453:=0
def tw15941840345434428025:=0
def tw7217649228559883713:=0
def tw14658761034779492616:=0
def tw1926006648970754396:=0
def tw11049516263974563982:=0
def tw9608854430929394333:=0
def tw4262924530649989595:=0
def tw10703862880609465119:=0
def tw15915758900504407038:=0
def tw8794929732951794351:=0
def tw15963967153714832214:=0
def tw14976457261280518496:=0
def tw17645249100474092752:=0
def tw17621632996141441677:=0
def tw6621601438968016064:=0
def tw5391384278144330552:=0
def tw13895008277975874217:=0
def tw9989130042712246093:=0
def tw15222600469013137181:=0
def tw14322413977981818211:=0
def tw4154032076915879720:=0
def tw5768527567270080817:=0
def tw17017115728981227797:=0
def tw18351242901475712826:=0
def tw12466920626796754742:=0
def tw8295211480250744902:=0
def tw2540314439362498423:=0
def tw14313967074909854866:=0
def tw16983011001185427144:=0
def tw7927996905190118689:=0
def tw12450516024902363934:=0
def tw13625758197795974460:=0
def tw3582319729887006333:=0
def tw12802664002040984430:=0
def tw4419977361939955545:=0
def tw4799490960331366691:=0
def tw18287543609833447707:=0
def tw4927412022159122355:=0
def tw6836661610250956931:=0
def tw4852440926702607444:=0
def tw14285576852022880643:=0
def tw8670481773441406705:=0
def tw4243151282889006760:=0
def tw442678127717662295:=0
def tw14352192776941141964:=0
def tw4310391924686534137:=0
def tw11769532575618726206:=0
def tw3337916870958743331:=0
def tw16206218939420445303:=0
def tw8350872368022052499:=0
def tw10209402338855143777:=0
def tw8022916238311449332:=0
def tw10935244227709788224:=0
def tw3836316800186347149:=0
def tw6989249253611277235:=0
end PySem.W.Fast
set_option maxRecDepth 100000 in
set_option maxHeartbeats 0 in
theorem PySem.Challenge.cw_limitdesk_k22_kinds_and_corners_refused_holds : PySem.Challenge.rw_limitdesk_k22_kinds_and_corners_refused.Holds := by
 w_on; o_law; k_head; (case hw => w_witness2)
 k_fill
 refine K22.walk (l := PySem.Challenge.rw_limitdesk_k22_kinds_and_corners_refused) rfl rfl ⟨_, rfl⟩ (fun w h Y => PySem.W.km_in_of Y) ?F
 case F =>
  intro w mg fa h KX G hmg
  refine' K22.all_mk KX G hmg ?a0 ?l0 ?c0 ?k0 ?a1 ?l1 ?c1 ?k1 ?a2 ?l2 ?c2 ?k2 ?a3 ?l3 ?c3 ?k3 ?a4 ?l4 ?c4 ?k4 ?a5 ?l5 ?c5 ?k5 ?a6 ?l6 ?c6 ?k6 ?a7 ?l7 ?c7 ?k7 ?a8 ?l8 ?c8 ?k8 ?a9 ?l9 ?c9 ?k9 ?a10 ?l10 ?c10 ?k10 ?a11 ?l11 ?c11 ?k11 ?a12 ?l12 ?c12 ?k12 ?a13 ?l13 ?c13 ?k13 ?a14 ?l14 ?c14 ?k14 ?a15 ?l15 ?c15 ?k15 ?a16 ?l16 ?c16 ?k16 ?a17 ?l17 ?c17 ?k17 ?a18 ?l18 ?c18 ?k18 ?a19 ?l19 ?c19 ?k19 ?a20 ?l20 ?c20 ?k20 ?a21 ?l21 ?c21 ?k21 ?a22 ?l22 ?c22 ?k22 ?a23 ?l23 ?c23 ?k23 ?a24 ?l24 ?c24 ?k24 ?a25 ?l25 ?c25 ?k25 ?a26 ?l26 ?c26 ?k26 ?a27 ?l27 ?c27 ?k27 ?a28 ?l28 ?c28 ?k28 ?a29 ?l29 ?c29 ?k29 ?a30 ?l30 ?c30 ?k30 ?a31 ?l31 ?c31 ?k31 ?a32 ?l32 ?c32 ?k32 ?a33 ?l33 ?c33 ?k33 ?a34 ?l34 ?c34 ?k34 ?a35 ?l35 ?c35 ?k35 ?a36 ?l36 ?c36 ?k36 ?a37 ?l37 ?c37 ?k37 ?a38 ?l38 ?c38 ?k38 ?a39 ?l39 ?c39 ?k39 ?a40 ?l40 ?c40 ?k40 ?a41 ?l41 ?c41 ?k41 ?a42 ?l42 ?c42 ?k42 ?a43 ?l43 ?c43 ?k43 ?a44 ?l44 ?c44 ?k44 ?a45 ?l45 ?c45 ?k45 ?a46 ?l46 ?c46 ?k46 ?a47 ?l47 ?c47 ?k47 ?a48 ?l48 ?c48 ?k48 ?a49 ?l49 ?c49 ?k49 ?a50 ?l50 ?c50 ?k50 ?a51 ?l51 ?c51 ?k51 ?a52 ?l52 ?c52 ?k52 ?a53 ?l53 ?c53 ?k53 ?a54 ?l54 ?c54 ?k54 ?a55 ?l55 ?c55 ?k55 ?a56 ?l56 ?c56 ?k56 ?a57 ?l57 ?c57 ?k57 ?a58 ?l58 ?c58 ?k58 ?a59 ?l59 ?c59 ?k59 ?a60 ?l60 ?c60 ?k60 ?a61 ?l61 ?c61 ?k61 ?a62 ?l62 ?c62 ?k62 ?z_isinstance ?z_int ?z_bool ?z_abs ?z_range ?z_list ?z_len ?z_zip ?z_min ?z_enumerate ?z_max ?z_tuple ?z_all ?z_ValueError ?g_MOST_KINDS_GONE_THROUGH ?g_MOST_LIMITS_GONE_THROUGH ?g_GREATEST_NUMBER ?g_MOST_KINDS ?g_MOST_LIMITS ?x_TooMany ?q_TooMany ?x_NoDesk ?q_NoDesk ?x_NoPlace ?q_NoPlace ?x_NoGoal ?q_NoGoal ?x_Unlike ?q_Unlike ?x_LimitError ?q_LimitError ?u_NoPlace_NoPlace ?u_TooMany_TooMany ?u_Unlike_Unlike ?u_TooMany_LimitError ?u_TooMany_ValueError ?u_NoGoal_LimitError ?u_NoGoal_ValueError ?u_NoPlace_LimitError ?u_NoPlace_ValueError ?u_Unlike_LimitError ?u_Unlike_ValueError ?v_TooMany_NoPlace ?v_NoGoal_NoPlace ?v_Unlike_NoPlace ?v_NoGoal_TooMany ?v_Unlike_TooMany ?v_NoGoal_Unlike ?aC_Board ?iI_Board ?jI_Board ?lI_Board ?cI_Board ?kI_Board ?pg_Board ?hd_Board ?po_Board ?sa_Board ?mk_Board ?kc_Board ?nA0_Board ?nA1_Board ?nA2_Board ?lc_raising_column ?v11_raising_column ?hno
  (case a0 => k_is)
  (case l0 => k_is)
  (case c0 => k_is)
  (case k0 => k_is)
  (case a1 => k_is)
  (case l1 => k_is)
  (case c1 => k_is)
  (case k1 => k_is)
  (case a2 => k_is)
  (case l2 => k_is)
  (case c2 => k_is)
  (case k2 => k_is)
  (case a3 => k_is)
  (case l3 => k_is)
  (case c3 => k_is)
  (case k3 => k_is)
  (case a4 => k_is)
  (case l4 => k_is)
  (case c4 => k_is)
  (case k4 => k_is)
  (case a5 => k_is)
  (case l5 => k_is)
  (case c5 => k_is)
  (case k5 => k_is)
  (case a6 => k_is)
  (case l6 => k_is)
  (case c6 => k_is)
  (case k6 => k_is)
  (case a7 => k_is)
  (case l7 => k_is)
  (case c7 => k_is)
  (case k7 => k_is)
  (case a8 => k_is)
  (case l8 => k_is)
  (case c8 => k_is)
  (case k8 => k_is)
  (case a9 => k_is)
  (case l9 => k_is)
  (case c9 => k_is)
  (case k9 => k_is)
  (case a10 => k_is)
  (case l10 => k_is)
  (case c10 => k_is)
  (case k10 => k_is)
  (case a11 => k_is)
  (case l11 => k_is)
  (case c11 => k_is)
  (case k11 => k_is)
  (case a12 => k_is)
  (case l12 => k_is)
  (case c12 => k_is)
  (case k12 => k_is)
  (case a13 => k_is)
  (case l13 => k_is)
  (case c13 => k_is)
  (case k13 => k_is)
  (case a14 => k_is)
  (case l14 => k_is)
  (case c14 => k_is)
  (case k14 => k_is)
  (case a15 => k_is)
  (case l15 => k_is)
  (case c15 => k_is)
  (case k15 => k_is)
  (case a16 => k_is)
  (case l16 => k_is)
  (case c16 => k_is)
  (case k16 => k_is)
  (case a17 => k_is)
  (case l17 => k_is)
  (case c17 => k_is)
  (case k17 => k_is)
  (case a18 => k_is)
  (case l18 => k_is)
  (case c18 => k_is)
  (case k18 => k_is)
  (case a19 => k_is)
  (case l19 => k_is)
  (case c19 => k_is)
  (case k19 => k_is)
  (case a20 => k_is)
  (case l20 => k_is)
  (case c20 => k_is)
  (case k20 => k_is)
  (case a21 => k_is)
  (case l21 => k_is)
  (case c21 => k_is)
  (case k21 => k_is)
  (case a22 => k_is)
  (case l22 => k_is)
  (case c22 => k_is)
  (case k22 => k_is)
  (case a23 => k_is)
  (case l23 => k_is)
  (case c23 => k_is)
  (case k23 => k_is)
  (case a24 => k_is)
  (case l24 => k_is)
  (case c24 => k_is)
  (case k24 => k_is)
  (case a25 => k_is)
  (case l25 => k_is)
  (case c25 => k_is)
  (case k25 => k_is)
  (case a26 => k_is)
  (case l26 => k_is)
  (case c26 => k_is)
  (case k26 => k_is)
  (case a27 => k_is)
  (case l27 => k_is)
  (case c27 => k_is)
  (case k27 => k_is)
  (case a28 => k_is)
  (case l28 => k_is)
  (case c28 => k_is)
  (case k28 => k_is)
  (case a29 => k_is)
  (case l29 => k_is)
  (case c29 => k_is)
  (case k29 => k_is)
  (case a30 => k_is)
  (case l30 => k_is)
  (case c30 => k_is)
  (case k30 => k_is)
  (case a31 => k_is)
  (case l31 => k_is)
  (case c31 => k_is)
  (case k31 => k_is)
  (case a32 => k_is)
  (case l32 => k_is)
  (case c32 => k_is)
  (case k32 => k_is)
  (case a33 => k_is)
  (case l33 => k_is)
  (case c33 => k_is)
  (case k33 => k_is)
  (case a34 => k_is)
  (case l34 => k_is)
  (case c34 => k_is)
  (case k34 => k_is)
  (case a35 => k_is)
  (case l35 => k_is)
  (case c35 => k_is)
  (case k35 => k_is)
  (case a36 => k_is)
  (case l36 => k_is)
  (case c36 => k_is)
  (case k36 => k_is)
  (case a37 => k_is)
  (case l37 => k_is)
  (case c37 => k_is)
  (case k37 => k_is)
  (case a38 => k_is)
  (case l38 => k_is)
  (case c38 => k_is)
  (case k38 => k_is)
  (case a39 => k_is)
  (case l39 => k_is)
  (case c39 => k_is)
  (case k39 => k_is)
  (case a40 => k_is)
  (case l40 => k_is)
  (case c40 => k_is)
  (case k40 => k_is)
  (case a41 => k_is)
  (case l41 => k_is)
  (case c41 => k_is)
  (case k41 => k_is)
  (case a42 => k_is)
  (case l42 => k_is)
  (case c42 => k_is)
  (case k42 => k_is)
  (case a43 => k_is)
  (case l43 => k_is)
  (case c43 => k_is)
  (case k43 => k_is)
  (case a44 => k_is)
  (case l44 => k_is)
  (case c44 => k_is)
  (case k44 => k_is)
  (case a45 => k_is)
  (case l45 => k_is)
  (case c45 => k_is)
  (case k45 => k_is)
  (case a46 => k_is)
  (case l46 => k_is)
  (case c46 => k_is)
  (case k46 => k_is)
  (case a47 => k_is)
  (case l47 => k_is)
  (case c47 => k_is)
  (case k47 => k_is)
  (case a48 => k_is)
  (case l48 => k_is)
  (case c48 => k_is)
  (case k48 => k_is)
  (case a49 => k_is)
  (case l49 => k_is)
  (case c49 => k_is)
  (case k49 => k_is)
  (case a50 => k_is)
  (case l50 => k_is)
  (case c50 => k_is)
  (case k50 => k_is)
  (case a51 => k_is)
  (case l51 => k_is)
  (case c51 => k_is)
  (case k51 => k_is)
  (case a52 => k_is)
  (case l52 => k_is)
  (case c52 => k_is)
  (case k52 => k_is)
  (case a53 => k_is)
  (case l53 => k_is)
  (case c53 => k_is)
  (case k53 => k_is)
  (case a54 => k_is)
  (case l54 => k_is)
  (case c54 => k_is)
  (case k54 => k_is)
  (case a55 => k_is)
  (case l55 => k_is)
  (case c55 => k_is)
  (case k55 => k_is)
  (case a56 => k_is)
  (case l56 => k_is)
  (case c56 => k_is)
  (case k56 => k_is)
  (case a57 => k_is)
  (case l57 => k_is)
  (case c57 => k_is)
  (case k57 => k_is)
  (case a58 => k_is)
  (case l58 => k_is)
  (case c58 => k_is)
  (case k58 => k_is)
  (case a59 => k_is)
  (case l59 => k_is)
  (case c59 => k_is)
  (case k59 => k_is)
  (case a60 => k_is)
  (case l60 => k_is)
  (case c60 => k_is)
  (case k60 => k_is)
  (case a61 => k_is)
  (case l61 => k_is)
  (case c61 => k_is)
  (case k61 => k_is)
  (case a62 => k_is)
  (case l62 => k_is)
  (case c62 => k_is)
  (case k62 => k_is)
  (case z_isinstance => k_is)
  (case z_int => k_is)
  (case z_bool => k_is)
  (case z_abs => k_is)
  (case z_range => k_is)
  (case z_list => k_is)
  (case z_len => k_is)
  (case z_zip => k_is)
  (case z_min => k_is)
  (case z_enumerate => k_is)
  (case z_max => k_is)
  (case z_tuple => k_is)
  (case z_all => k_is)
  (case z_ValueError => k_is)
  (case g_MOST_KINDS_GONE_THROUGH => k_is)
  (case g_MOST_LIMITS_GONE_THROUGH => k_is)
  (case g_GREATEST_NUMBER => k_is)
  (case g_MOST_KINDS => k_is)
  (case g_MOST_LIMITS => k_is)
  (case x_TooMany => k_is)
  (case q_TooMany => k_exc)
  (case x_NoDesk => k_is)
  (case q_NoDesk => k_exc)
  (case x_NoPlace => k_is)
  (case q_NoPlace => k_exc)
  (case x_NoGoal => k_is)
  (case q_NoGoal => k_exc)
  (case x_Unlike => k_is)
  (case q_Unlike => k_exc)
  (case x_LimitError => k_is)
  (case q_LimitError => k_exc)
  (case u_NoPlace_NoPlace => k_is)
  (case u_TooMany_TooMany => k_is)
  (case u_Unlike_Unlike => k_is)
  (case u_TooMany_LimitError => k_is)
  (case u_TooMany_ValueError => k_is)
  (case u_NoGoal_LimitError => k_is)
  (case u_NoGoal_ValueError => k_is)
  (case u_NoPlace_LimitError => k_is)
  (case u_NoPlace_ValueError => k_is)
  (case u_Unlike_LimitError => k_is)
  (case u_Unlike_ValueError => k_is)
  (case v_TooMany_NoPlace => k_is)
  (case v_NoGoal_NoPlace => k_is)
  (case v_Unlike_NoPlace => k_is)
  (case v_NoGoal_TooMany => k_is)
  (case v_Unlike_TooMany => k_is)
  (case v_NoGoal_Unlike => k_is)
  (case aC_Board => k_is)
  (case iI_Board => k_is)
  (case jI_Board => k_is)
  (case lI_Board => k_is)
  (case cI_Board => k_is)
  (case kI_Board => k_is)
  (case pg_Board => k_is)
  (case hd_Board => k_is)
  (case po_Board => k_is)
  (case sa_Board => k_is)
  (case mk_Board => k_is)
  (case kc_Board => k_is)
  (case nA0_Board => k_is)
  (case nA1_Board => k_is)
  (case nA2_Board => k_is)
  (case lc_raising_column => k_is)
  (case v11_raising_column => rfl)
  (case hno => kernel_rfl)
#print axioms PySem.Challenge.cw_limitdesk_k22_kinds_and_corners_refused_holds
