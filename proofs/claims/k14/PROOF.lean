import PyProof.Rows.All
import Wide.All
import OpenK.AllK
import Wide.FinOn
import Lean
import PyProof.EqAt
import PyProof.EqKinds
import PyProof.EqLayable
import PyProof.TupleCall
import PyProof.P3Statements
import PySem.Challenge.RW_limitdesk_k14_whole_mixes
set_option Elab.async false
set_option linter.all false
set_option maxRecDepth 100000
namespace L2
open PySem PySem.Spec PyProof.Rows
abbrev Key := Sum Int Str
def keyIs : Key -> Value -> Bool
 | .inl k, v => Value.isInt k v
 | .inr x, v => Value.isStrOf x v
def keyH (w : World) : Key -> Int
 | .inl k => hashInt k
 | .inr x => hashStr w x
theorem Yl : ∀ {k : Key} {v : Value}, keyIs k v = true -> (∃ i t, k = Sum.inl i /\ v = Value.int i t) \/ (∃ x t, k = Sum.inr x /\ v = Value.str x t)
 | .inl i, v, h => by
  obtain ⟨t, e⟩ := Value.isInt_shape (k := i) (v := v) h
  exact .inl ⟨i, t, rfl, e⟩
 | .inr x, v, h => by
  obtain ⟨t, e⟩ := Value.isStrOf_shape (x := x) (v := v) h
  exact .inr ⟨x, t, rfl, e⟩
theorem key_ll (a b : Int) : decide ((Sum.inl a : Key) = Sum.inl b) = (a == b) := by
 by_cases e : a = b
 ·subst e; simp
 ·have h : ¬ (Sum.inl a : Key) = Sum.inl b := fun q => e (Sum.inl.inj q)
  rw [decide_eq_false h]
  exact (beq_eq_false_iff_ne.mpr e).symm
theorem key_rr (a b : Str) : decide ((Sum.inr a : Key) = Sum.inr b) = decide (a = b) := by
 by_cases e : a = b
 ·subst e; simp
 ·have h : ¬ (Sum.inr a : Key) = Sum.inr b := fun q => e (Sum.inr.inj q)
  rw [decide_eq_false h, decide_eq_false e]
theorem key_lr (a : Int) (b : Str) : decide ((Sum.inl a : Key) = Sum.inr b) = false := decide_eq_false (fun q => nomatch q)
theorem key_rl (a : Str) (b : Int) : decide ((Sum.inr a : Key) = Sum.inl b) = false := decide_eq_false (fun q => nomatch q)
def zaN (prog : Program) (w : World) : PySem.KeyKind prog w Key where
 is := keyIs
 hash := keyH w
 inj := fun v a b ha hb => by
  rcases Yl ha with ⟨i, t, rfl, rfl⟩ | ⟨x, t, rfl, rfl⟩
  ·rcases Yl hb with ⟨j, u, rfl, e⟩ | ⟨y, u, rfl, e⟩
   ·injection e with e1 _; rw [e1]
   ·exact nomatch e
  ·rcases Yl hb with ⟨j, u, rfl, e⟩ | ⟨y, u, rfl, e⟩
   ·exact nomatch e
   ·injection e with e1 _; rw [e1]
 byValue := fun k v h => by
  rcases Yl h with ⟨i, t, rfl, rfl⟩ | ⟨x, t, rfl, rfl⟩ <;> rfl
 pyHash := fun hv h => by
  rcases Yl hv with ⟨i, t, rfl, rfl⟩ | ⟨x, t, rfl, rfl⟩
  ·exact wpAny_pyHash_int h
  ·exact wpAny_pyHash_str h
 eqBool := fun hu hv h => by
  rcases Yl hu with ⟨i, t, rfl, rfl⟩ | ⟨x, t, rfl, rfl⟩
  ·rcases Yl hv with ⟨j, u, rfl, rfl⟩ | ⟨y, u, rfl, rfl⟩
   ·rw [key_ll] at h; exact wpAny_eqBool_int h
   ·rw [key_lr] at h; exact SeqAt.EqAt.int_str i t y u _ _ _ _ h
  ·rcases Yl hv with ⟨j, u, rfl, rfl⟩ | ⟨y, u, rfl, rfl⟩
   ·rw [key_rl] at h; exact SeqAt.EqAt.str_int x t j u _ _ _ _ h
   ·rw [key_rr] at h; exact wpAny_eqBool_str h
 «strs» := fun k x t v h => by
  rcases Yl h with ⟨i, u, rfl, e⟩ | ⟨y, u, rfl, e⟩
  ·exact nomatch e
  ·injection e with e1 _
   subst e1
   cases v <;> rfl
theorem mixKind_is (prog : Program) (w : World) (k : Key) (v : Value) : (zaN prog w).is k v = keyIs k v := rfl
end L2
namespace L2
open PySem PySem.Spec PyProof.Rows
inductive V where
 | non | bl (b : Bool) | int (i : Int) | str (x : Str) | byt (b : Array UInt8) | flt (b : UInt64) | ref (a : Addr) | ty (n : String)
 deriving DecidableEq
def RelV : V -> Value -> Prop
 | .non, u => u = Value.none
 | .bl b, u => u = Value.bool b
 | .int i, u => ∃ t, u = Value.int i t
 | .str x, u => ∃ t, u = Value.str x t
 | .byt b, u => ∃ t, u = Value.bytes b t
 | .flt b, u => ∃ t, u = Value.float b t
 | .ref a, u => u = Value.ref a
 | .ty n, u => u = Value.type n
abbrev Vals : List V -> List Value -> Prop := Paired RelV
theorem Vals.length {xs : List V} {us : List Value} (r : Vals xs us) : xs.length = us.length := Paired.length r
theorem Vals.get : ∀ {xs : List V} {us : List Value} {i : Nat} {x : V}, Vals xs us -> xs[i]? = some x -> ∃ u, us[i]? = some u /\ RelV x u
 | _, _, _, _, .nil, e => by simp at e
 | _, _, 0, _, .cons r _, e => by simp at e; subst e; exact ⟨_, rfl, r⟩
 | _, _, i + 1, x, .cons _ t, e => by
  obtain ⟨u, h1, h2⟩ := Vals.get (i := i) (x := x) t (by simpa using e)
  exact ⟨u, by simpa using h1, h2⟩
theorem Vals.set {x : V} {u : Value} (r : RelV x u) : ∀ {xs : List V} {us : List Value} (i : Nat), Vals xs us -> Vals (xs.set i x) (us.set i u)
 | _, _, _, .nil => .nil
 | _, _, 0, .cons _ t => .cons r t
 | _, _, i + 1, .cons q t => .cons q (Vals.set r i t)
theorem Vals.append : ∀ {xs ys : List V} {us ws : List Value}, Vals xs us -> Vals ys ws -> Vals (xs ++ ys) (us ++ ws)
 | _, _, _, _, .nil, s => s
 | _, _, _, _, .cons r t, s => .cons r (Vals.append t s)
theorem Vals.take : ∀ {xs : List V} {us : List Value} (n : Nat), Vals xs us -> Vals (xs.take n) (us.take n)
 | _, _, 0, _ => .nil
 | _, _, _ + 1, .nil => .nil
 | _, _, n + 1, .cons r t => .cons r (Vals.take n t)
theorem Vals.drop : ∀ {xs : List V} {us : List Value} (n : Nat), Vals xs us -> Vals (xs.drop n) (us.drop n)
 | _, _, 0, r => r
 | _, _, _ + 1, .nil => .nil
 | _, _, n + 1, .cons _ t => Vals.drop n t
def RelO : Option V -> Option Value -> Prop
 | some v, some u => RelV v u
 | none, none => True
 | _, _ => False
def KV {κ : Type} : List (κ × V) -> List (κ × Value) -> Prop := Paired fun (p : κ × V) (q : κ × Value) => p.1 = q.1 /\ RelV p.2 q.2
def kV : Key -> V
 | .inl i => .int i
 | .inr x => .str x
inductive HO where
 /-- a list -/
 | lst (xs : List V)
 /-- a tuple (never changes) -/
 | tup (xs : List V)
 /-- a dict whose keys are ints and texts; one whose keys are tuples of ints and texts (the empty one is both) -/
 | dK (kvs : List (Key × V)) | dT (kvs : List (List Key × V))
 /-- a set of ints: its members, its size -/
 | set (S : Int -> Bool) (n : Nat)
 /-- an instance of the class at C, its dict at dx, its attributes -/
 | ins (C dx : Addr) (fs : List (Str × V))
 /-- the dict of the instance at x -/
 | own (x : Addr)
 /-- the dict of an exception -/
 | xd (fs : List (Str × V))
 /-- a bound method, f of x -/
 | met (f x : Addr)
 /-- a range object lo, lo + 1, .. below hi -/
 | rng (lo hi : Int)
 /-- a thing that is known to the object (the script; a dict while a loop walks it): read, never written while it is so -/
 | frz (o : Obj) (u : HO)
 /-- a code object's table -/
 | tbl (ps : Array Value)
 /-- any other thing, by what is true of its one object (a def of one's own: SetO a S n := HO.ext fun h => ..) -/
 | ext (φ : Heap -> Prop)
abbrev Hp := Addr -> Option HO
def upd (H : Hp) (a : Addr) (o : HO) : Hp := fun b => if b = a then some o else H b
theorem Zp {H : Hp} {a : Addr} {o : HO} : upd H a o a = some o := by unfold upd; rw [if_pos rfl]
theorem Zs {H : Hp} {a b : Addr} {o : HO} (h : b ≠ a) : upd H a o b = H b := by unfold upd; rw [if_neg h]
theorem zeA {H : Hp} {a : Addr} {o u : HO} : upd (upd H a o) a u = upd H a u := by
 funext b; unfold upd; split <;> rfl
theorem Zw {H : Hp} {a b : Addr} {o : HO} (h : H a = some o) (h' : H b = none) : a ≠ b := by
 intro e; subst e; rw [h] at h'; cases h'
section
variable (P : Program) (w : World)
def Vc (H : Hp) (h : Heap) (a : Addr) : HO -> Prop
 | .lst xs => xs.length <= sizeLine /\ ∃ (its : List Value) (n : Nat), Vals xs its /\ h.get? a = some { cls := .type "list", data := .seq its.toArray n }
 | .tup xs => xs.length <= sizeLine /\ ∃ its : List Value, Vals xs its /\ IsTup h a its.toArray
 | .dK kvs => kvs.length <= sizeLine /\ (a == sysModules) = false /\ ∃ vs, KV kvs vs /\ h.DictOf (zaN P w) a vs
 | .dT kvs => kvs.length <= sizeLine /\ (a == sysModules) = false /\ ∃ xs : List (List Key × Addr × Value),
   Paired (fun (p : List Key × V) (q : List Key × Addr × Value) => p.1 = q.1 /\ H q.2.1 = some (.tup (p.1.map kV)) /\ RelV p.2 q.2.2) kvs xs /\
   ∃ o es ep, h.get? a = some o /\ o.ExactDict /\ o.data = .dict es ep /\ es.toList = xs.map (entryOfKey (tupleKind (zaN P w))) /\ (xs.map (·.1)).Nodup
 | .set S n => h.SetOf (intKind P w) a S n
 | .ins C dx fs => H dx = some (.own a) /\ fs.length <= 1000 /\ dx ≠ a /\ h.get? a = some (PySem.W.instObj C dx) /\
   ∃ mA, h.Ns1 dx mA /\ (∀ f, RelO (fs.lookup f) (mA f)) /\ PySem.Within mA (fs.map (·.1))
 | .own _ => ∃ o, h.get? a = some o
 | .xd fs => ∃ mA, h.Ns1 a mA /\ ∀ f, RelO (fs.lookup f) (mA f)
 | .rng lo hi => ∃ t u v, h.get? a = some { cls := .type "range", data := .fields #[.int lo t, .int hi u, .int 1 v] }
 | .frz o u => h.get? a = some o /\ Vc H h a u
 | .tbl ps => h.get? a = some { cls := .none, data := .fields ps }
 | .met f x => h.get? a = some (PySem.W.methodObj (.ref f) (.ref x))
 | .ext φ => φ h /\ (∃ o, h.get? a = some o) /\ ∀ h1 h2 : Heap, φ h1 -> (∀ o, h1.get? a = some o -> h2.get? a = some o) -> φ h2
def HOk (H : Hp) (h : Heap) : Prop := ∀ a o, H a = some o -> Vc P w H h a o
end
section
variable {P : Program} {w : World} {H H' : Hp} {h h' : Heap} {a : Addr} {o : HO}
theorem Vc.lt (x : Vc P w H h a o) : a < h.objs.size := by
 cases o with
 | lst xs => obtain ⟨_, _, _, _, e⟩ := x; exact Heap.lt_size e
 | tup xs => obtain ⟨_, _, _, p⟩ := x; exact p.lt
 | dK kvs => obtain ⟨_, _, _, _, o, _, _, e, _⟩ := x; exact Heap.lt_size e
 | dT kvs => obtain ⟨_, _, _, _, o, _, _, e, _⟩ := x; exact Heap.lt_size e
 | set S n => obtain ⟨o, _, _, _, e, _⟩ := x; exact Heap.lt_size e
 | ins C dx fs => obtain ⟨_, _, _, e, _⟩ := x; exact Heap.lt_size e
 | own y => obtain ⟨_, e⟩ := x; exact Heap.lt_size e
 | xd fs => obtain ⟨_, ⟨_, _, _, e, _⟩, _⟩ := x; exact Heap.lt_size e
 | rng lo hi => obtain ⟨_, _, _, e⟩ := x; exact Heap.lt_size e
 | frz ob u => obtain ⟨e, _⟩ := x; exact Heap.lt_size e
 | tbl ps => exact Heap.lt_size (show h.get? a = some _ from x)
 | met f y => exact Heap.lt_size (show h.get? a = some _ from x)
 | ext φ => obtain ⟨_, ⟨_, e⟩, _⟩ := x; exact Heap.lt_size e
theorem Paired.mapP {α β : Type} {F G : α -> β -> Prop} : ∀ {l₁ : List α} {l₂ : List β}, Paired F l₁ l₂ -> (∀ a b, F a b -> G a b) -> Paired G l₁ l₂
 | _, _, .nil, _ => .nil
 | _, _, .cons r t, f => .cons (f _ _ r) (Paired.mapP t f)
theorem Vc.stay (x : Vc P w H h a o) (k : ∀ b u, (b = a \/ H b = some (.own a)) -> h.get? b = some u -> h'.get? b = some u)
  (ho : ∀ b, H b = some (.own a) -> H' b = some (.own a)) (ht : ∀ b xs, H b = some (.tup xs) -> H' b = some (.tup xs)) : Vc P w H' h' a o := by
 induction o with
 | lst xs => obtain ⟨z, its, n, r, e⟩ := x; exact ⟨z, its, n, r, k _ _ (.inl rfl) e⟩
 | tup xs => obtain ⟨z, its, r, ob, e, c⟩ := x; exact ⟨z, its, r, ob, k _ _ (.inl rfl) e, c⟩
 | dK kvs => obtain ⟨z, y, vs, r, ob, es, ep, e, c⟩ := x; exact ⟨z, y, vs, r, ob, es, ep, k _ _ (.inl rfl) e, c⟩
 | dT kvs =>
  obtain ⟨z, y, xs, r, ob, es, ep, e, c⟩ := x
  exact ⟨z, y, xs, Paired.mapP r fun p q z => ⟨z.1, ht _ _ z.2.1, z.2.2⟩, ob, es, ep, k _ _ (.inl rfl) e, c⟩
 | set S n => obtain ⟨ob, es, ep, t, e, c⟩ := x; exact ⟨ob, es, ep, t, k _ _ (.inl rfl) e, c⟩
 | ins C dx fs =>
  obtain ⟨d, z, ne, e, mA, ⟨od, es, ep, e2, c⟩, r⟩ := x
  exact ⟨ho _ d, z, ne, k _ _ (.inl rfl) e, mA, ⟨od, es, ep, k _ _ (.inr d) e2, c⟩, r⟩
 | own y => obtain ⟨ob, e⟩ := x; exact ⟨ob, k _ _ (.inl rfl) e⟩
 | xd fs => obtain ⟨mA, ⟨od, es, ep, e, c⟩, r⟩ := x; exact ⟨mA, ⟨od, es, ep, k _ _ (.inl rfl) e, c⟩, r⟩
 | rng lo hi => obtain ⟨t, u, v, e⟩ := x; exact ⟨t, u, v, k _ _ (.inl rfl) e⟩
 | frz ob u ih => obtain ⟨e, q⟩ := x; exact ⟨k _ _ (.inl rfl) e, ih q⟩
 | tbl ps =>
  have e : h.get? a = some { cls := .none, data := .fields ps } := x
  show h'.get? a = some { cls := .none, data := .fields ps }
  exact k a _ (.inl rfl) e
 | met f y =>
  have e : h.get? a = some (PySem.W.methodObj (.ref f) (.ref y)) := x
  show h'.get? a = some (PySem.W.methodObj (.ref f) (.ref y))
  exact k a _ (.inl rfl) e
 | ext φ => obtain ⟨p, ⟨o, e⟩, st⟩ := x; exact ⟨st _ _ p fun o q => k _ _ (.inl rfl) q, ⟨o, k _ _ (.inl rfl) e⟩, st⟩
theorem HOk.lt (x : HOk P w H h) (e : H a = some o) : a < h.objs.size := (x a o e).lt
theorem HOk.fresh (x : HOk P w H h) (e : h.objs.size <= a) : H a = none := by
 cases q : H a with
 | none => rfl
 | some u => exact absurd (Nat.lt_of_lt_of_le (x.lt q) e) (Nat.lt_irrefl _)
theorem HOk.kept (x : HOk P w H h) (k : ∀ b u, h.get? b = some u -> h'.get? b = some u) : HOk P w H h' := fun a o e =>
 (x a o e).stay (fun b u _ q => k b u q) (fun _ q => q) fun _ _ q => q
theorem HOk.laid (x : HOk P w H h) (k : ∀ b u, h.get? b = some u -> h'.get? b = some u) (hp : h.objs.size <= a) (new : Vc P w (upd H a o) h' a o) : HOk P w (upd H a o) h' := fun b u e => by
 have hn := x.fresh hp
 by_cases hb : b = a
 ·subst hb; rw [Zp] at e; cases e; exact new
 ·rw [Zs hb] at e
  exact (x b u e).stay (fun c v _ q => k c v q) (fun c q => by rw [Zs (Zw q hn)]; exact q) fun c xs q => by rw [Zs (Zw q hn)]; exact q
end
def Rd (H : Hp) (a : Addr) (u : HO) : Prop := H a = some u \/ ∃ o, H a = some (.frz o u)
theorem Rd.ok {P : Program} {w : World} {H : Hp} {h : Heap} {a : Addr} {u : HO} (r : Rd H a u) (x : HOk P w H h) : Vc P w H h a u := by
 rcases r with r | ⟨o, r⟩
 ·exact x a u r
 ·obtain ⟨_, q⟩ := x a _ r
  exact q
def Mut : Option HO -> Prop
 | some (.lst _) => True
 | some (.dK _) => True
 | some (.dT _) => True
 | some (.set _ _) => True
 | some (.ins _ _ _) => True
 | some (.ext _) => True
 | _ => False
section
variable {P : Program} {w : World} {H : Hp} {h h' : Heap} {x e : Addr} {o' : HO}
theorem HOk.write (ok : HOk P w H h) (mu : Mut (H x)) (he : e = x \/ H e = some (.own x)) (k : ∀ b u, b ≠ e -> h.get? b = some u -> h'.get? b = some u) (heo : ∃ u, h'.get? e = some u)
  (new : Vc P w (upd H x o') h' x o') : HOk P w (upd H x o') h' := fun b u q => by
 have nown : ∀ c y, H c = some (.own y) -> c ≠ x := fun c y r z => by subst z; rw [r] at mu; exact mu
 have ntup : ∀ c xs, H c = some (.tup xs) -> c ≠ x := fun c xs r z => by subst z; rw [r] at mu; exact mu
 by_cases hb : b = x
 ·subst hb; rw [Zp] at q; cases q; exact new
 ·rw [Zs hb] at q
  by_cases hbe : b = e
  ·have q' : H b = some (.own x) := by
    rcases he with z | z
    ·exact absurd (hbe.trans z) hb
    ·rw [hbe]; exact z
   rw [q] at q'; cases q'
   obtain ⟨v, hv⟩ := heo
   exact ⟨v, by rw [hbe]; exact hv⟩
  ·refine (ok b u q).stay (fun c v hc r => k c v ?_ r) (fun c r => by rw [Zs (nown c b r)]; exact r) fun c xs r => by rw [Zs (ntup c xs r)]; exact r
   rcases hc with rfl | hc
   ·exact hbe
   ·rintro rfl
    rcases he with z | z
    ·exact nown c b hc z
    ·rw [hc] at z; cases z; exact hb rfl
end
structure Un (fs ex : List Addr) (H H' : Hp) (h h' : Heap) : Prop where
 keep : ∀ b o, h.get? b = some o -> H b = none -> b ∉ fs -> b ∉ ex -> h'.get? b = some o
 slot : ∀ b o, h.get? b = some o -> H b = none -> b ∈ fs -> b ∉ ex -> ∃ sl, h'.get? b = some { o with slots := sl }
 free : ∀ b o, h.get? b = some o -> H b = none -> b ∉ ex -> H' b = none
 there : ∀ b o, h.get? b = some o -> b ∉ ex -> ∃ o', h'.get? b = some o'
 tups : ∀ b xs, H b = some (.tup xs) -> H' b = some (.tup xs)
 frzs : ∀ b o u, H b = some (.frz o u) -> H' b = some (.frz o u)
 tbls : ∀ b ps, H b = some (.tbl ps) -> ∃ more, H' b = some (.tbl (ps ++ more))
section
variable {fs fs' ex ex' : List Addr} {H H1 H2 : Hp} {h h1 h2 h' : Heap} {a x e : Addr} {o : HO}
theorem Un.any (u : Un fs ex H H1 h h1) {b : Addr} {ob : Obj} (q : h.get? b = some ob) (n : H b = none) (hx : b ∉ ex) : ∃ sl, h1.get? b = some { ob with slots := sl } := by
 by_cases hb : b ∈ fs
 ·exact u.slot b ob q n hb hx
 ·exact ⟨ob.slots, u.keep b ob q n hb hx⟩
theorem Un.kept (k : ∀ b u, h.get? b = some u -> h'.get? b = some u) : Un fs ex H H h h' :=
 ⟨fun b ob q _ _ _ => k b ob q, fun b ob q _ _ _ => ⟨ob.slots, k b ob q⟩, fun _ _ _ n _ => n, fun b ob q _ => ⟨ob, k b ob q⟩, fun _ _ q => q, fun _ _ _ q => q, fun _ ps q => ⟨#[], by rw [q]; simp⟩⟩
theorem Un.refl : Un fs ex H H h h := Un.kept fun _ _ q => q
theorem Un.laid (k : ∀ b u, h.get? b = some u -> h'.get? b = some u) (hp : h.objs.size <= a) (hn : H a = none) : Un fs ex H (upd H a o) h h' where
 keep := fun b u q _ _ _ => k b u q
 slot := fun b u q _ _ _ => ⟨u.slots, k b u q⟩
 free := fun b u q n _ => by rw [Zs (Nat.ne_of_lt (Nat.lt_of_lt_of_le (Heap.lt_size q) hp))]; exact n
 there := fun b u q _ => ⟨u, k b u q⟩
 tups := fun b xs q => by rw [Zs (Zw q hn)]; exact q
 frzs := fun b u xs q => by rw [Zs (Zw q hn)]; exact q
 tbls := fun b ps q => ⟨#[], by rw [Zs (Zw q hn), q]; simp⟩
theorem Un.write (mu : Mut (H x)) (he : e = x \/ H e = some (.own x)) (k : ∀ b u, b ≠ e -> h.get? b = some u -> h'.get? b = some u) (heo : ∃ u, h'.get? e = some u) : Un fs ex H (upd H x o) h h' := by
 have hx : ∀ b, H b = none -> b ≠ x := fun b n z => by subst z; rw [n] at mu; exact mu
 have hb : ∀ b, H b = none -> b ≠ e := fun b n z => by
  subst z
  rcases he with r | r
  ·exact hx b n r
  ·rw [n] at r; cases r
 have hm : ∀ b u, H b = some u -> ¬ Mut (some u) -> b ≠ x := fun b u q nm z => by subst z; rw [q] at mu; exact nm mu
 refine ⟨fun b u q n _ _ => k b u (hb b n) q, fun b u q n _ _ => ⟨u.slots, k b u (hb b n) q⟩, fun b u q n _ => by rw [Zs (hx b n)]; exact n, fun b u q _ => ?_,
  fun b xs q => by rw [Zs (hm b _ q fun z => z)]; exact q, fun b u xs q => by rw [Zs (hm b _ q fun z => z)]; exact q, fun b ps q => ⟨#[], by rw [Zs (hm b _ q fun z => z), q]; simp⟩⟩
 by_cases hbe : b = e
 ·subst hbe; exact heo
 ·exact ⟨u, k b u hbe q⟩
end
def trk (h : Heap) (H : Hp) : List Addr := (List.range h.objs.size).filter fun a => (H a).isSome
def hidT (h : Heap) (H : Hp) : Heap := PySem.W.hideAll h (trk h H)
theorem zfR (h : Heap) (H : Hp) : (hidT h H).objs.size = h.objs.size := PySem.W.hideAll_size _ _
theorem hidT_get {h : Heap} {H : Hp} {b : Addr} {o : Obj} (e : h.get? b = some o) (n : H b = none) : (hidT h H).get? b = some o :=
 PySem.W.hideAll_get _ e fun hm => by
  have q : (H b).isSome = true := (List.mem_filter.mp hm).2
  rw [n] at q; simp at q
theorem of_hidT {h : Heap} {H : Hp} {b : Addr} {o : Obj} (e : (hidT h H).get? b = some o) : h.get? b = some o /\ H b = none := by
 have e' : h.get? b = some o := PySem.W.of_hideAll (trk h H) e
 refine ⟨e', ?_⟩
 cases q : H b with
 | none => rfl
 | some x =>
  have hm : b ∈ trk h H := List.mem_filter.mpr ⟨List.mem_range.mpr (Heap.lt_size e'), by simp [q]⟩
  have z : (hidT h H).get? b = none := PySem.W.hideAll_none (trk h H) hm
  rw [z] at e; cases e
end L2
namespace L2
open PySem PySem.Spec PyProof.Rows
structure Mod (K : PySem.W.Frag) (mg : Str -> Option Value) (base : Heap) : Prop where
 kin : K.In base
 glob : base.Ns mainGlobals mg
 blt : ∃ mb, base.Ns builtinsNs mb /\ ∀ x : Str, x ≠ "__name__" -> mb x = bootBuiltins x
 nolimit : base.NoLimit
structure Cx where
 prog : Program
 w : World
 K : PySem.W.Frag
 mg : Str -> Option Value
 base : Heap
 A : Around
 N : List Str
 s₀ : Shared
 H₀ : Hp
 env : Env
 outer : List Env
 stack : List Env
 ex : List Addr
 fn : Str -> Bool
 calm : Bool
 pn : List (Addr × Obj)
 xe : Value -> Shared -> Prop
def frs (l : List Env) : List Addr := l.filterMap (·.frame)
abbrev Cx.fs (X : Cx) : List Addr := frs X.outer
def Vis (sc : Scope) (x : Str) : Prop := sc.names.lookup x = some .local \/ sc.names.lookup x = some .cell \/ sc.names.lookup x = some .free
def Loc (sc : Scope) (x : Str) : Prop := sc.names.lookup x = some .local \/ sc.names.lookup x = some .cell
def Look (env : Env) (h : Heap) (m : Str -> Option Value) (x : Str) (u : Value) : Prop :=
 (env.kindOf x = some .local /\ m x = some u) \/ ((env.kindOf x = some .cell \/ env.kindOf x = some .free) /\ ∃ c, env.cells.lookup x = some c /\ h.IsCell c (some u))
structure Cx.Ok (X : Cx) : Prop where
 mod : Mod X.K X.mg X.base
 kind : X.env.scope.kind = .function
 glob : X.env.globals = mainGlobals
 blt : X.env.builtins = builtinsNs
 above : X.s₀.heap.objs.size <= X.env.locals
 inj : ∀ x y c, X.env.cells.lookup x = some c -> X.env.cells.lookup y = some c -> x = y
 has : ∀ x, (X.env.kindOf x = some .cell \/ X.env.kindOf x = some .free) -> ∃ c, X.env.cells.lookup x = some c
 cab : ∀ x c, X.fn x = true -> X.env.cells.lookup x = some c -> X.s₀.heap.objs.size <= c
 hd : X.calm = true -> X.A.handled = none
 frames : X.A.frames = some X.stack
 stk : X.stack = X.outer \/ (X.stack = X.env :: X.outer /\ X.env.frame = some X.env.locals)
 exf : ∀ b ∈ X.ex, b ≠ X.env.locals /\ ∀ x c, X.env.cells.lookup x = some c -> c ≠ b
 bs : ∀ b o, X.base.get? b = some o -> X.s₀.heap.get? b = some o /\ X.H₀ b = none
 bsz : X.base.objs.size <= X.s₀.heap.objs.size
 noex : ∀ b o, X.base.get? b = some o -> b ∉ X.ex
 exfs : ∀ b ∈ X.ex, b ∉ X.fs
 funs : X.s₀.heap.FunFrames X.base X.outer
 frf : ∀ b ∈ X.fs, X.H₀ b = none
structure Inv (X : Cx) (pins : List (Addr × Obj)) (σ : List (Option V)) (H : Hp) (s : Shared) : Prop where
 ok : X.Ok
 os : s.os = X.s₀.os
 bare : AllBare s.gens
 base : Un X.fs X.ex X.H₀ H X.s₀.heap s.heap
 loc : ∃ m, s.heap.Ns X.env.locals m /\ ∀ (i : Nat) (x : Str) (v : V), X.N[i]? = some x -> σ[i]? = some (some v) -> Vis X.env.scope x -> ∃ u, RelV v u /\ Look X.env s.heap m x u
 cell : ∀ x c, X.env.cells.lookup x = some c -> ∃ v, s.heap.IsCell c v
 free : H X.env.locals = none
 freeC : ∀ x c, X.env.cells.lookup x = some c -> H c = none
 pin : ∀ p ∈ X.pn ++ pins, s.heap.get? p.1 = some p.2 /\ H p.1 = none /\ p.1 ≠ X.env.locals /\ p.1 ∉ X.fs /\ ∀ v, p.2.data ≠ .cell v
 hok : HOk X.prog X.w H s.heap
 len : σ.length = X.N.length
section
variable {X : Cx} {pins : List (Addr × Obj)} {σ : List (Option V)} {H H' : Hp} {s : Shared} {h' : Heap}
theorem Cx.Ok.nofr (ok : X.Ok) {b : Addr} {o : Obj} (e : X.base.get? b = some o) : b ∉ X.fs := fun hb => by
 have := (ok.funs.mem hb).1
 rw [e] at this; cases this
theorem Inv.bs (I : Inv X pins σ H s) : ∀ b o, X.base.get? b = some o -> s.heap.get? b = some o /\ H b = none := fun b o e =>
 ⟨I.base.keep b o (I.ok.bs b o e).1 (I.ok.bs b o e).2 (I.ok.nofr e) (I.ok.noex b o e), I.base.free b o (I.ok.bs b o e).1 (I.ok.bs b o e).2 (I.ok.noex b o e)⟩
theorem Inv.bk (I : Inv X pins σ H s) : ∀ b o, X.base.get? b = some o -> s.heap.get? b = some o := fun b o e => (I.bs b o e).1
theorem Inv.mod (I : Inv X pins σ H s) : Mod X.K X.mg X.base := I.ok.mod
theorem Inv.kIn (I : Inv X pins σ H s) : X.K.In s.heap := I.ok.mod.kin.keeps I.bk
theorem Inv.nolimit (I : Inv X pins σ H s) : s.heap.NoLimit := I.ok.mod.nolimit.keeps I.bk
theorem Inv.lt (I : Inv X pins σ H s) : X.env.locals < s.heap.objs.size := let ⟨_, hn, _⟩ := I.loc; hn.lt
theorem Inv.sz (I : Inv X pins σ H s) : X.s₀.heap.objs.size <= s.heap.objs.size := Nat.le_trans I.ok.above (Nat.le_of_lt I.lt)
theorem Inv.nofs (I : Inv X pins σ H s) {a : Addr} (h : s.heap.objs.size <= a) : a ∉ X.fs := fun hb => by
 obtain ⟨_, o, ho, _⟩ := I.ok.funs.mem hb
 exact absurd (Nat.lt_of_lt_of_le (Heap.lt_size ho) (Nat.le_trans I.sz h)) (Nat.lt_irrefl _)
theorem Inv.cne (I : Inv X pins σ H s) : ∀ x c, X.env.cells.lookup x = some c -> c ≠ X.env.locals := fun x c e z => by
 obtain ⟨v, o, ho, hd⟩ := I.cell x c e
 obtain ⟨m, ⟨o', es, ep, ho', hd', _⟩, _⟩ := I.loc
 rw [z, ho'] at ho; cases ho; rw [hd'] at hd; cases hd
theorem Inv.funs (I : Inv X pins σ H s) : s.heap.FunFrames X.base X.outer := by
 have all : ∀ (l : List Env), (∀ b ∈ frs l, b ∈ X.fs) -> X.s₀.heap.FunFrames X.base l -> s.heap.FunFrames X.base l := by
  intro l
  induction l with
  | nil => intro _ _; trivial
  | cons env r ih =>
   intro hs hl
   obtain ⟨hk, ⟨L, o, hf, hn, ho, hd⟩, hr⟩ := hl
   have hL : L ∈ X.fs := hs L (by unfold frs; rw [List.filterMap_cons, hf]; exact List.mem_cons_self)
   obtain ⟨sl, e⟩ := I.base.slot L o ho (I.ok.frf L hL) hL fun z => I.ok.exfs L z hL
   exact ⟨hk, ⟨L, _, hf, hn, e, hd⟩, ih (fun b hb => hs b (by unfold frs; rw [List.filterMap_cons, hf]; exact List.mem_cons_of_mem _ hb)) hr⟩
 exact all X.outer (fun _ hb => hb) I.ok.funs
theorem Inv.stack (I : Inv X pins σ H s) : s.heap.FunFrames X.base X.stack := by
 rcases I.ok.stk with e | ⟨e, hf⟩
 ·rw [e]; exact I.funs
 ·rw [e]
  obtain ⟨m, hn, _⟩ := I.loc
  refine .cons (by rw [I.ok.kind]; decide) hf hn ?_ I.funs
  exact Heap.get?_none_of_le (Nat.le_trans I.ok.bsz I.ok.above)
theorem Inv.stkSub (I : Inv X pins σ H s) : ∀ b ∈ frs X.stack, b ∈ X.env.locals :: X.fs := fun b hb => by
 rcases I.ok.stk with e | ⟨e, hf⟩
 ·rw [e] at hb; exact List.mem_cons_of_mem _ hb
 ·rw [e] at hb
  unfold frs at hb
  rw [List.filterMap_cons, hf] at hb
  exact hb
theorem Inv.stkFree (I : Inv X pins σ H s) : ∀ b ∈ frs X.stack, H b = none := fun b hb => by
 rcases List.mem_cons.mp (I.stkSub b hb) with e | hb
 ·rw [e]; exact I.free
 ·obtain ⟨_, o, ho, _⟩ := I.ok.funs.mem hb
  exact I.base.free b o ho (I.ok.frf b hb) fun z => I.ok.exfs b z hb
theorem Inv.step {g' : Array GenState} {t' : Nat} {d' : Drawn} {ch : List Addr} (I : Inv X pins σ H s)
  (hch : ∀ b ∈ ch, (b ∈ X.ex \/ X.s₀.heap.objs.size <= b) /\ b ≠ X.env.locals /\ (∀ x c, X.env.cells.lookup x = some c -> c ≠ b) /\ ∀ p ∈ X.pn ++ pins, p.1 ≠ b)
  (keep : ∀ b o, b ≠ X.env.locals -> b ∉ X.fs -> b ∉ ch -> s.heap.get? b = some o -> H b = none -> h'.get? b = some o)
  (slot : ∀ b o, b ≠ X.env.locals -> b ∈ X.fs -> b ∉ ch -> s.heap.get? b = some o -> H b = none -> ∃ sl, h'.get? b = some { o with slots := sl }) (free : ∀ b o, b ∉ ch -> s.heap.get? b = some o -> H b = none -> H' b = none)
  (there : ∀ b o, b ∉ ch -> s.heap.get? b = some o -> ∃ o', h'.get? b = some o')
  (tups : ∀ b xs, H b = some (.tup xs) -> H' b = some (.tup xs)) (frzs : ∀ b o u, H b = some (.frz o u) -> H' b = some (.frz o u)) (tbls : ∀ b ps, H b = some (.tbl ps) -> ∃ more, H' b = some (.tbl (ps ++ more)))
  (ns : ∀ m, s.heap.Ns X.env.locals m -> h'.Ns X.env.locals m) (hok : HOk X.prog X.w H' h') (hg : AllBare g') :
  Inv X pins σ H' { s with heap := h', gens := g', drawn := d', toks := t' } := by
 have neL : ∀ b o, X.s₀.heap.get? b = some o -> b ≠ X.env.locals := fun b o e => Nat.ne_of_lt (Nat.lt_of_lt_of_le (Heap.lt_size e) I.ok.above)
 have neC : ∀ b o, X.s₀.heap.get? b = some o -> b ∉ X.ex -> b ∉ ch := fun b o e hx hb => by
  rcases (hch b hb).1 with z | z
  ·exact hx z
  ·exact absurd (Nat.lt_of_lt_of_le (Heap.lt_size e) z) (Nat.lt_irrefl _)
 have cellK : ∀ x c, X.env.cells.lookup x = some c -> ∀ v, s.heap.IsCell c v -> h'.IsCell c v := fun x c e v ⟨o, ho, hd⟩ => by
  have nch : c ∉ ch := fun z => (hch c z).2.2.1 x c e rfl
  by_cases hc : c ∈ X.fs
  ·obtain ⟨sl, q⟩ := slot c o (I.cne x c e) hc nch ho (I.freeC x c e)
   exact ⟨_, q, hd⟩
  ·exact ⟨o, keep c o (I.cne x c e) hc nch ho (I.freeC x c e), hd⟩
 refine ⟨I.ok, I.os, hg, ⟨fun b o e n hb hx => ?_, fun b o e n hb hx => ?_, fun b o e n hx => ?_, fun b o e hx => ?_, fun b xs e => tups b xs (I.base.tups b xs e), fun b o xs e => frzs b o xs (I.base.frzs b o xs e), fun b ps e => ?_⟩, ?_, fun x c e => ?_, ?_, fun x c e => ?_, fun p hp => ?_, hok, I.len⟩
 ·exact keep b o (neL b o e) hb (neC b o e hx) (I.base.keep b o e n hb hx) (I.base.free b o e n hx)
 ·obtain ⟨sl, e1⟩ := I.base.slot b o e n hb hx
  obtain ⟨sl', e2⟩ := slot b _ (neL b o e) hb (neC b o e hx) e1 (I.base.free b o e n hx)
  exact ⟨sl', e2⟩
 ·obtain ⟨o', e1⟩ := I.base.there b o e hx
  exact free b o' (neC b o e hx) e1 (I.base.free b o e n hx)
 ·obtain ⟨o', e1⟩ := I.base.there b o e hx
  exact there b o' (neC b o e hx) e1
 ·obtain ⟨m1, e1⟩ := I.base.tbls b ps e
  obtain ⟨m2, e2⟩ := tbls b _ e1
  exact ⟨m1 ++ m2, by rw [e2, Array.append_assoc]⟩
 ·obtain ⟨m, hn, hl⟩ := I.loc
  refine ⟨m, ns m hn, fun i x v e1 e2 e3 => ?_⟩
  obtain ⟨u, r, l⟩ := hl i x v e1 e2 e3
  refine ⟨u, r, ?_⟩
  rcases l with l | ⟨k, c, e, z⟩
  ·exact .inl l
  ·exact .inr ⟨k, c, e, cellK x c e _ z⟩
 ·obtain ⟨v, z⟩ := I.cell x c e
  exact ⟨v, cellK x c e v z⟩
 ·obtain ⟨m, ⟨o, _, _, ho, _⟩, _⟩ := I.loc
  exact free _ o (fun z => (hch _ z).2.1 rfl) ho I.free
 ·obtain ⟨v, o, ho, hd⟩ := I.cell x c e
  exact free c o (fun z => (hch c z).2.2.1 x c e rfl) ho (I.freeC x c e)
 ·obtain ⟨e, n, ne, nf, d⟩ := I.pin p hp
  have nch : p.1 ∉ ch := fun z => (hch p.1 z).2.2.2 p hp rfl
  exact ⟨keep p.1 p.2 ne nf nch e n, free p.1 p.2 nch e n, ne, nf, d⟩
theorem Inv.un {t' : Nat} (I : Inv X pins σ H s) (u : Un X.fs [] H H' s.heap h') (hok : HOk X.prog X.w H' h') : Inv X pins σ H' { s with heap := h', toks := t' } := by
 obtain ⟨m, ⟨o, es, ep, ho, r⟩, _⟩ := id I.loc
 obtain ⟨sl, hL⟩ := u.any ho I.free (by simp)
 exact I.step (g' := s.gens) (d' := s.drawn) (ch := []) (fun _ z => nomatch z) (fun b o _ hb _ e n => u.keep b o e n hb (by simp)) (fun b o _ hb _ e n => u.slot b o e n hb (by simp)) (fun b o _ e n => u.free b o e n (by simp)) (fun b o _ e => u.there b o e (by simp)) u.tups u.frzs u.tbls (fun m' hm => by
  obtain ⟨o', es', ep', ho', r'⟩ := hm
  rw [ho] at ho'; cases ho'
  exact ⟨_, es', ep', hL, r'⟩) hok I.bare
theorem Inv.call {g' : Array GenState} {t' : Nat} {d' : Drawn} {ch : List Addr} (I : Inv X pins σ H s) (u : Un (frs X.stack) ch H H' s.heap h') (hok : HOk X.prog X.w H' h') (hg : AllBare g')
  (hch : ∀ b ∈ ch, (b ∈ X.ex \/ X.s₀.heap.objs.size <= b) /\ b ≠ X.env.locals /\ (∀ x c, X.env.cells.lookup x = some c -> c ≠ b) /\ ∀ p ∈ X.pn ++ pins, p.1 ≠ b) :
  Inv X pins σ H' { s with heap := h', gens := g', drawn := d', toks := t' } := by
 obtain ⟨m, ⟨o, es, ep, ho, r⟩, _⟩ := id I.loc
 obtain ⟨sl, hL⟩ := u.any ho I.free fun z => (hch _ z).2.1 rfl
 exact I.step (ch := ch) hch (fun b o hL hb hc e n => u.keep b o e n (fun z => (List.mem_cons.mp (I.stkSub b z)).elim hL hb) hc) (fun b o _ _ hc e n => u.any e n hc) (fun b o hc e n => u.free b o e n hc) (fun b o hc e => u.there b o e hc) u.tups u.frzs u.tbls (fun m' hm => by
  obtain ⟨o', es', ep', ho', r'⟩ := hm
  rw [ho] at ho'; cases ho'
  exact ⟨_, es', ep', hL, r'⟩) hok hg
theorem Inv.turned {t' : Nat} {it : Addr} (I : Inv X pins σ H s) (k : ∀ b o, b ≠ it -> s.heap.get? b = some o -> h'.get? b = some o) (hn : H it = none) (hL : it ≠ X.env.locals)
  (h1 : it ∈ X.ex \/ X.s₀.heap.objs.size <= it) (h2 : ∀ x c, X.env.cells.lookup x = some c -> c ≠ it) (h3 : ∀ p ∈ X.pn ++ pins, p.1 ≠ it) : Inv X pins σ H { s with heap := h', toks := t' } := by
 have nit : ∀ b u, H b = some u -> b ≠ it := fun b u e z => by rw [z, hn] at e; cases e
 refine I.step (g' := s.gens) (d' := s.drawn) (ch := [it]) (fun b hb => ?_) (fun b o _ _ hc e _ => k b o (fun z => hc (by simp [z])) e) (fun b o _ _ hc e _ => ⟨o.slots, k b o (fun z => hc (by simp [z])) e⟩) (fun _ _ _ _ n => n)
  (fun b o hc e => ⟨o, k b o (fun z => hc (by simp [z])) e⟩) (fun _ _ e => e) (fun _ _ _ e => e) (fun b ps e => ⟨#[], by rw [e]; simp⟩) (fun m hm => ?_) (fun b u e => ?_) I.bare
 ·have e : b = it := by simpa using hb
  subst e
  exact ⟨h1, hL, h2, h3⟩
 ·obtain ⟨o, es, ep, ho, r⟩ := hm
  exact ⟨o, es, ep, k _ o (Ne.symm hL) ho, r⟩
 ·refine (I.hok b u e).stay (fun c v hc q => k c v ?_ q) (fun _ q => q) fun _ _ q => q
  rcases hc with z | z
  ·rw [z]; exact nit b u e
  ·exact nit c _ z
theorem Inv.tok (I : Inv X pins σ H s) (t : Nat) : Inv X pins σ H { s with toks := t } := I.un (h' := s.heap) (t' := t) Un.refl I.hok
theorem Inv.kept {t' : Nat} (I : Inv X pins σ H s) (k : ∀ b u, s.heap.get? b = some u -> h'.get? b = some u) : Inv X pins σ H { s with heap := h', toks := t' } := I.un (Un.kept k) (I.hok.kept k)
theorem Inv.laid {a : Addr} {o : HO} {t' : Nat} (I : Inv X pins σ H s) (k : ∀ b u, s.heap.get? b = some u -> h'.get? b = some u) (hp : s.heap.objs.size <= a) (new : Vc X.prog X.w (upd H a o) h' a o) :
  Inv X pins σ (upd H a o) { s with heap := h', toks := t' } := I.un (Un.laid k hp (I.hok.fresh hp)) (I.hok.laid k hp new)
theorem Inv.write {x e : Addr} {o : HO} {t' : Nat} (I : Inv X pins σ H s) (mu : Mut (H x)) (he : e = x \/ H e = some (.own x)) (k : ∀ b u, b ≠ e -> s.heap.get? b = some u -> h'.get? b = some u) (heo : ∃ u, h'.get? e = some u)
  (new : Vc X.prog X.w (upd H x o) h' x o) : Inv X pins σ (upd H x o) { s with heap := h', toks := t' } := I.un (Un.write mu he k heo) (I.hok.write mu he k heo new)
theorem Inv.pins_of {pins' : List (Addr × Obj)} (I : Inv X pins σ H s) (h : ∀ p ∈ pins', s.heap.get? p.1 = some p.2 /\ H p.1 = none /\ p.1 ≠ X.env.locals /\ p.1 ∉ X.fs /\ ∀ v, p.2.data ≠ .cell v) : Inv X pins' σ H s :=
 ⟨I.ok, I.os, I.bare, I.base, I.loc, I.cell, I.free, I.freeC, fun p hp => (List.mem_append.mp hp).elim (fun z => I.pin p (List.mem_append_left _ z)) (h p), I.hok, I.len⟩
theorem zdj {N : List Str} (hN : N.Nodup) {i j : Nat} {x : Str} (a : N[i]? = some x) (b : N[j]? = some x) : i = j := by
 obtain ⟨h1, e1⟩ := List.getElem?_eq_some_iff.mp a
 obtain ⟨h2, e2⟩ := List.getElem?_eq_some_iff.mp b
 exact (List.getElem_inj hN).mp (e1.trans e2.symm)
theorem zbn {M : Model} {A : Around} {E : Value -> Shared -> Prop} {i : Nat} {x : Str} {v : V} {u : Value} {Q : Unit -> Shared -> Prop} (I : Inv X pins σ H s) (hN : X.N.Nodup) (hi : X.N[i]? = some x) (hx : Loc X.env.scope x) (r : RelV v u)
  (h : ∀ s', Inv X pins (σ.set i (some v)) H s' -> (∃ a, Heap.SameBut a s.heap s'.heap /\ (a = X.env.locals \/ X.env.cells.lookup x = some a)) -> Q () s') (hf : X.fn x = true \/ X.env.scope.names.lookup x = some .local := by first | exact .inl rfl | exact .inr rfl | assumption) : wpAny M A (storeName X.env x u) Q E s := by
 obtain ⟨m, hn, hl⟩ := id I.loc
 have hcls : (X.env.scope.kind == .class || (X.env.scope.kind == .module && X.env.locals != X.env.globals)) = false := by rw [I.ok.kind]; rfl
 have hiσ : i < σ.length := by rw [I.len]; exact (List.getElem?_eq_some_iff.mp hi).1
 have cne := I.cne
 have tracked : ∀ {a : Addr} {h' : Heap}, (∃ o, s.heap.get? a = some o /\ H a = none) -> Heap.SameBut a s.heap h' -> HOk X.prog X.w H h' := fun {a h'} ha hs b ob e => by
  obtain ⟨_, _, hfree⟩ := ha
  refine (I.hok b ob e).stay (fun c w' hc q => (hs.2 c ?_).trans q) (fun _ q => q) fun _ _ q => q
  rintro rfl
  rcases hc with rfl | hc
  ·rw [hfree] at e; cases e
  ·rw [hfree] at hc; cases hc
 rcases hx with hk | hk
 ·refine wpAny_storeName_local hk hn (fun h' hn' hs => ?_) hcls
  obtain ⟨oL, _, _, hoL, _⟩ := id hn
  refine h _ ⟨I.ok, I.os, I.bare, ⟨fun b o e n hb hx => ?_, fun b o e n hb hx => ?_, I.base.free, fun b o e hx => ?_, I.base.tups, I.base.frzs, I.base.tbls⟩, ⟨_, hn', fun j y v' e1 e2 e3 => ?_⟩, fun y c e => ?_, I.free, I.freeC, fun p hp => ?_, tracked ⟨oL, hoL, I.free⟩ hs, by simpa using I.len⟩ ⟨_, hs, .inl rfl⟩
  ·exact (hs.2 b (Nat.ne_of_lt (Nat.lt_of_lt_of_le (Heap.lt_size e) I.ok.above))).trans (I.base.keep b o e n hb hx)
  ·obtain ⟨sl, e1⟩ := I.base.slot b o e n hb hx
   exact ⟨sl, (hs.2 b (Nat.ne_of_lt (Nat.lt_of_lt_of_le (Heap.lt_size e) I.ok.above))).trans e1⟩
  ·obtain ⟨o', e1⟩ := I.base.there b o e hx
   exact ⟨o', (hs.2 b (Nat.ne_of_lt (Nat.lt_of_lt_of_le (Heap.lt_size e) I.ok.above))).trans e1⟩
  ·by_cases hj : j = i
   ·subst hj
    rw [hi] at e1; cases e1
    rw [List.getElem?_set_self hiσ] at e2
    cases e2
    exact ⟨u, r, .inl ⟨hk, by simp⟩⟩
   ·rw [List.getElem?_set_ne (Ne.symm hj)] at e2
    obtain ⟨u', r', q⟩ := hl j y v' e1 e2 e3
    refine ⟨u', r', ?_⟩
    rcases q with ⟨k, e⟩ | ⟨k, c, e, z⟩
    ·refine .inl ⟨k, ?_⟩
     have : y ≠ x := fun e => hj (zdj hN e1 (e ▸ hi))
     simp [this, e]
    ·exact .inr ⟨k, c, e, z.sameBut hs (cne y c e)⟩
  ·obtain ⟨w', z⟩ := I.cell y c e
   exact ⟨w', z.sameBut hs (cne y c e)⟩
  ·obtain ⟨e, n, ne, nf, d⟩ := I.pin p hp
   exact ⟨(hs.2 p.1 ne).trans e, n, ne, nf, d⟩
 ·have hfn : X.fn x = true := by
   rcases hf with z | z
   ·exact z
   ·rw [z] at hk; cases hk
  obtain ⟨c, hc⟩ := I.ok.has x (.inl hk)
  obtain ⟨w', z⟩ := I.cell x c hc
  refine wpAny_storeName_cell I.ok.kind hk hc z (fun h' hc' hs => ?_)
  obtain ⟨oc, hoc, hocd⟩ := id z
  refine h { s with heap := h' } ⟨I.ok, I.os, I.bare, ⟨fun b o e n hb hx => ?_, fun b o e n hb hx => ?_, I.base.free, fun b o e hx => ?_, I.base.tups, I.base.frzs, I.base.tbls⟩, ⟨m, hn.sameBut hs (Ne.symm (cne x c hc)), fun j y v' e1 e2 e3 => ?_⟩, fun y c' e => ?_, I.free, I.freeC, fun p hp => ?_, tracked ⟨oc, hoc, I.freeC x c hc⟩ hs, by simpa using I.len⟩ ⟨c, hs, .inr hc⟩
  ·exact (hs.2 b (Nat.ne_of_lt (Nat.lt_of_lt_of_le (Heap.lt_size e) (I.ok.cab x c hfn hc)))).trans (I.base.keep b o e n hb hx)
  ·obtain ⟨sl, e1⟩ := I.base.slot b o e n hb hx
   exact ⟨sl, (hs.2 b (Nat.ne_of_lt (Nat.lt_of_lt_of_le (Heap.lt_size e) (I.ok.cab x c hfn hc)))).trans e1⟩
  ·obtain ⟨o', e1⟩ := I.base.there b o e hx
   exact ⟨o', (hs.2 b (Nat.ne_of_lt (Nat.lt_of_lt_of_le (Heap.lt_size e) (I.ok.cab x c hfn hc)))).trans e1⟩
  ·by_cases hj : j = i
   ·subst hj
    rw [hi] at e1; cases e1
    rw [List.getElem?_set_self hiσ] at e2
    cases e2
    exact ⟨u, r, .inr ⟨.inl hk, c, hc, hc'⟩⟩
   ·rw [List.getElem?_set_ne (Ne.symm hj)] at e2
    obtain ⟨u', r', q⟩ := hl j y v' e1 e2 e3
    refine ⟨u', r', ?_⟩
    rcases q with q | ⟨k, c', e, z'⟩
    ·exact .inl q
    ·refine .inr ⟨k, c', e, z'.sameBut hs ?_⟩
     rintro rfl
     exact hj (zdj hN e1 (I.ok.inj _ _ _ e hc ▸ hi))
  ·by_cases hcc : c' = c
   ·subst hcc; exact ⟨_, hc'⟩
   ·obtain ⟨w2, z2⟩ := I.cell y c' e
    exact ⟨w2, z2.sameBut hs hcc⟩
  ·obtain ⟨e, n, ne, nf, d⟩ := I.pin p hp
   refine ⟨(hs.2 p.1 ?_).trans e, n, ne, nf, d⟩
   intro q
   rw [q, hoc] at e
   have q' : oc = p.2 := Option.some.inj e
   exact d w' (by rw [<- q']; exact hocd)
theorem zc2 {M : Model} {A : Around} {E : Value -> Shared -> Prop} {i : Nat} {x : Str} {v : V} {u : Value} {Q : Unit -> Shared -> Prop} (I : Inv X pins σ H s) (hN : X.N.Nodup) (hi : X.N[i]? = some x) (hx : Loc X.env.scope x) (r : RelV v u)
  (h : ∀ s', Inv X pins (σ.set i (some v)) H s' -> Q () s') (hf : X.fn x = true \/ X.env.scope.names.lookup x = some .local := by first | exact .inl rfl | exact .inr rfl | assumption) : wpAny M A (storeName X.env x u) Q E s :=
 zbn I hN hi hx r (fun s' I' _ => h s' I') hf
theorem Inv.call' {s' : Shared} {ch : List Addr} (I : Inv X pins σ H s) (ho : s'.os = s.os) (u : Un (frs X.stack) ch H H' s.heap s'.heap) (hok : HOk X.prog X.w H' s'.heap) (hg : AllBare s'.gens)
  (hch : ∀ b ∈ ch, (b ∈ X.ex \/ X.s₀.heap.objs.size <= b) /\ b ≠ X.env.locals /\ (∀ x c, X.env.cells.lookup x = some c -> c ≠ b) /\ ∀ p ∈ X.pn ++ pins, p.1 ≠ b) : Inv X pins σ H' s' := by
 obtain ⟨h', g', d', t', o'⟩ := s'
 have e : o' = s.os := ho
 subst e
 exact I.call (g' := g') (t' := t') (d' := d') u hok hg hch
end
abbrev XK := Value -> Option Addr -> Hp -> Prop
abbrev St := List (Option V)
abbrev VK := V -> Hp -> Prop
abbrev TE := St -> Hp -> VK -> Prop
abbrev TT := St -> Hp -> (Bool -> Hp -> Prop) -> Prop
abbrev TA := St -> Hp -> (List V -> Hp -> Prop) -> Prop
structure Ends where
 nx : St -> Hp -> Prop
 rt : VK
 bk : St -> Hp -> Prop := fun _ _ => False
 ct : St -> Hp -> Prop := fun _ _ => False
abbrev TS := Ends -> St -> Hp -> Prop
def EP (X : Cx) (pins : List (Addr × Obj)) (σ : St) (Q : VK) (u : Value) (s' : Shared) : Prop := ∃ v H', Inv X pins σ H' s' /\ RelV v u /\ Q v H'
def TP (X : Cx) (pins : List (Addr × Obj)) (σ : St) (Q : Bool -> Hp -> Prop) (b : Bool) (s' : Shared) : Prop := ∃ H', Inv X pins σ H' s' /\ Q b H'
def AP (X : Cx) (pins : List (Addr × Obj)) (σ : St) (Q : List V -> Hp -> Prop) (us : List Value) (s' : Shared) : Prop := ∃ vs H', Inv X pins σ H' s' /\ Vals vs us /\ Q vs H'
def SP (X : Cx) (pins : List (Addr × Obj)) (D : Ends) (f : Flow) (s' : Shared) : Prop :=
 match f with
 | .next => ∃ σ' H', Inv X pins σ' H' s' /\ D.nx σ' H'
 | .brk => ∃ σ' H', Inv X pins σ' H' s' /\ D.bk σ' H'
 | .cont => ∃ σ' H', Inv X pins σ' H' s' /\ D.ct σ' H'
 | .ret u => ∃ v σ' H', Inv X pins σ' H' s' /\ RelV v u /\ D.rt v H'
def PE (X : Cx) (e : Expr) (t : TE) : Prop :=
 ∀ (pins : List (Addr × Obj)) (s : Shared) (σ : St) (H : Hp) (Q : VK), Inv X pins σ H s -> t σ H Q -> wpAny (model X.prog X.w) X.A (eval e X.env) (EP X pins σ Q) X.xe s
def PT (X : Cx) (e : Expr) (t : TT) : Prop :=
 ∀ (pins : List (Addr × Obj)) (s : Shared) (σ : St) (H : Hp) (Q : Bool -> Hp -> Prop), Inv X pins σ H s -> t σ H Q -> wpAny (model X.prog X.w) X.A (isTrue e X.env (eval e X.env)) (TP X pins σ Q) X.xe s
def PW (X : Cx) (e : Expr) (t : TT) : Prop :=
 ∀ (whole : Sem Value) (pins : List (Addr × Obj)) (s : Shared) (σ : St) (H : Hp) (Q : Bool -> Hp -> Prop), Inv X pins σ H s -> t σ H Q -> wpAny (model X.prog X.w) X.A (isTrue e X.env whole) (TP X pins σ Q) X.xe s
theorem PW.pt {X : Cx} {e : Expr} {t : TT} (h : PW X e t) : PT X e t := h _
def PA (X : Cx) (es : List Expr) (t : TA) : Prop :=
 ∀ (pos : Pos) (pins : List (Addr × Obj)) (s : Shared) (σ : St) (H : Hp) (Q : List V -> Hp -> Prop), Inv X pins σ H s -> t σ H Q -> wpAny (model X.prog X.w) X.A (spliced (backTo pos (starEach es X.env))) (AP X pins σ Q) X.xe s
def PS (X : Cx) (st : Stmt) (t : TS) : Prop :=
 ∀ (pins : List (Addr × Obj)) (s : Shared) (σ : St) (H : Hp) (D : Ends), Inv X pins σ H s -> t D σ H -> wpAny (model X.prog X.w) X.A (exec st X.env) (SP X pins D) X.xe s
def PSs (X : Cx) (st : List Stmt) (t : TS) : Prop :=
 ∀ (pins : List (Addr × Obj)) (s : Shared) (σ : St) (H : Hp) (D : Ends), Inv X pins σ H s -> t D σ H -> wpAny (model X.prog X.w) X.A (execs st X.env) (SP X pins D) X.xe s
theorem thn {α : Type} {t : Sem α} {Q Q' : α -> Shared -> Prop} {M : Model} {A : Around} {E : Value -> Shared -> Prop} {s : Shared} (h : wpAny M A t Q E s) (hQ : ∀ a s, Q a s -> Q' a s) : wpAny M A t Q' E s := wpAny_mono h hQ fun _ _ x => x
end L2
namespace L2
open PySem PySem.Spec PyProof.Rows
section
variable {X : Cx}
def tVar (i : Nat) : TE := fun σ H Q => ∃ v, σ[i]? = some (some v) /\ Q v H
def tC (v : V) : TE := fun _ H Q => Q v H
theorem zbD {i : Nat} {x : Str} {pos : Pos} (hN : X.N[i]? = some x) (hv : Vis X.env.scope x) (hd : (x == ("__debug__" : Str)) = false := by decide) (hcd : (x == ("__classdict__" : Str)) = false := by decide) : PE X (.Name x pos) (tVar i) := by
 intro pins s σ H Q I h
 obtain ⟨v, e, h⟩ := h
 obtain ⟨m, hn, hl⟩ := I.loc
 obtain ⟨u, r, l⟩ := hl i x v hN e hv
 have fin : EP X pins σ Q u s := ⟨v, H, I, r, h⟩
 rcases l with ⟨hk, hm⟩ | ⟨hk, c, hc, hcell⟩
 ·exact wpAny_Name (wpAny_loadName_local I.ok.kind hk hn hm fin) hd
 ·rcases hk with hk | hk
  ·exact wpAny_Name (wpAny_loadName_cell I.ok.kind hk hc hcell fin) hd
  ·exact wpAny_Name (wpAny_loadName_free I.ok.kind hk hc hcell fin hcd) hd
theorem pe_int {i j pos} : PE X (.Constant (.int i) j pos) (tC (.int i)) := fun _ _ _ H _ I h => wpAny_Constant_int ⟨.int i, H, I.tok _, ⟨_, rfl⟩, h⟩
theorem pe_bl {b j pos} : PE X (.Constant (.bool b) j pos) (tC (.bl b)) := fun _ _ _ H _ I h => Constant_bool ⟨.bl b, H, I, rfl, h⟩
theorem pe_non {j pos} : PE X (.Constant .none j pos) (tC .non) := fun _ _ _ H _ I h => Constant_none ⟨.non, H, I, rfl, h⟩
theorem pe_str {x j pos} : PE X (.Constant (.str x) j pos) (tC (.str x)) := fun _ _ _ H _ I h => Calls.Constant_str ⟨.str x, H, I.tok _, ⟨_, rfl⟩, h⟩
def Gl (X : Cx) (x : Str) : Prop := X.env.kindOf x = some .globalImplicit
theorem zcw {E : Value -> Shared -> Prop} {pins : List (Addr × Obj)} {s : Shared} {σ : St} {H : Hp} {x : Str} {u : Value} {pos : Pos} {Q : Value -> Shared -> Prop} (I : Inv X pins σ H s) (hg : Gl X x) (hm : X.mg x = some u) (h : Q u s)
  (hd : (x == ("__debug__" : Str)) = false := by decide) : wpAny (model X.prog X.w) X.A (eval (.Name x pos) X.env) Q E s :=
 Calls.Name_function_global I.ok.kind hg (Calls.loadGlobal_global (by rw [I.ok.glob]; exact I.mod.glob.keeps I.bk) hm h) hd
theorem JQ {E : Value -> Shared -> Prop} {pins : List (Addr × Obj)} {s : Shared} {σ : St} {H : Hp} {x : Str} {u : Value} {pos : Pos} {Q : Value -> Shared -> Prop} (I : Inv X pins σ H s) (hg : Gl X x) (hm : X.mg x = none) (hv : bootBuiltins x = some u) (h : Q u s)
  (hn : x ≠ "__name__" := by decide) (hd : (x == ("__debug__" : Str)) = false := by decide) : wpAny (model X.prog X.w) X.A (eval (.Name x pos) X.env) Q E s := by
 obtain ⟨mb, h1, h2⟩ := I.mod.blt
 exact Calls.Name_function_global I.ok.kind hg (Calls.loadGlobal_builtin (by rw [I.ok.glob]; exact I.mod.glob.keeps I.bk) hm (by rw [I.ok.blt]; exact h1.keeps I.bk) ((h2 x hn).trans hv) h) hd
theorem pe_glob {x : Str} {v : V} {u : Value} {pos : Pos} (hg : Gl X x) (hm : X.mg x = some u) (r : RelV v u) (hd : (x == ("__debug__" : Str)) = false := by decide) : PE X (.Name x pos) (tC v) :=
 fun _ _ _ H _ I h => zcw I hg hm ⟨v, H, I, r, h⟩ hd
theorem pe_bltn {x : Str} {v : V} {u : Value} {pos : Pos} (hg : Gl X x) (hm : X.mg x = none) (hv : bootBuiltins x = some u) (r : RelV v u) (hn : x ≠ "__name__" := by decide) (hd : (x == ("__debug__" : Str)) = false := by decide) : PE X (.Name x pos) (tC v) :=
 fun _ _ _ H _ I h => JQ I hg hm hv ⟨v, H, I, r, h⟩ hn hd
variable {a b : Expr} {ta tb : TE} {pos : Pos}
def PC (X : Cx) (op : CmpOp) (a b : Expr) (t : TE) : Prop :=
 ∀ (pins : List (Addr × Obj)) (s : Shared) (σ : St) (H : Hp) (Q : VK), Inv X pins σ H s -> t σ H Q ->
  wpAny (model X.prog X.w) X.A (eval a X.env) (fun v s₁ => wpAny (model X.prog X.w) X.A (eval b X.env) (fun u s₂ => wpAny (model X.prog X.w) X.A (compareOp op v u) (EP X pins σ Q) X.xe s₂) X.xe s₁) X.xe s
theorem zaJ (b : Expr) {op : CmpOp} (h : op ≠ .In) (h2 : op ≠ .NotIn) : behindInMarks op b = false := by
 have e1 : (op == CmpOp.In) = false := by cases op <;> first | rfl | exact absurd rfl h
 have e2 : (op == CmpOp.NotIn) = false := by cases op <;> first | rfl | exact absurd rfl h2
 cases b <;> simp [behindInMarks, e1, e2]
def tIsN (ta : TE) : TE := fun σ H Q => ta σ H fun x H1 => Q (.bl (decide (x = .non))) H1
def tNotN (ta : TE) : TE := fun σ H Q => ta σ H fun x H1 => Q (.bl (!decide (x = .non))) H1
theorem RelV.none_iff {x : V} {v : Value} (r : RelV x v) : (v == Value.none) = decide (x = .non) := by
 cases x with
 | non => cases r; rfl
 | bl _ => cases r; rfl
 | int _ => obtain ⟨t, rfl⟩ := r; rfl
 | str _ => obtain ⟨t, rfl⟩ := r; rfl
 | byt _ => obtain ⟨t, rfl⟩ := r; rfl
 | flt _ => obtain ⟨t, rfl⟩ := r; rfl
 | ref _ => cases r; rfl
 | ty _ => cases r; rfl
theorem pc_isN {j pos'} (ha : PE X a ta) : PC X .Is a (.Constant .none j pos') (tIsN ta) := by
 intro pins s σ H Q I h
 refine thn (ha pins s σ H _ I h) fun v s1 ⟨x, H1, I1, r1, q1⟩ => ?_
 exact Constant_none (is_none_gen ⟨.bl _, H1, I1, by rw [r1.none_iff]; rfl, q1⟩)
theorem pc_notN {j pos'} (ha : PE X a ta) : PC X .IsNot a (.Constant .none j pos') (tNotN ta) := by
 intro pins s σ H Q I h
 refine thn (ha pins s σ H _ I h) fun v s1 ⟨x, H1, I1, r1, q1⟩ => ?_
 exact Constant_none (isnot_none_gen ⟨.bl _, H1, I1, by rw [r1.none_iff]; rfl, q1⟩)
def tB (t : TE) : TT := fun σ H Q => t σ H fun x H1 => ∃ c, x = .bl c /\ Q c H1
theorem pt_cmp {op : CmpOp} {t : TE} (h : PC X op a b t) (h1 : behindInMarks op b = false := by first | exact zaJ _ (by decide) (by decide) | rfl) : PT X (.Compare a [op] [b] pos) (tB t) := by
 intro pins s σ H Q I hw
 refine wpAny_isTrue_Compare1 (thn (h pins s σ H _ I hw) fun v s1 h1 => thn h1 fun u s2 h2 => thn h2 fun c s3 ⟨x, H1, I1, r1, q1⟩ => ?_) h1
 obtain ⟨d, rfl, q⟩ := q1
 cases r1
 exact wpAny_truthy_bool ⟨H1, I1, q⟩
variable {tA tB' : TT} {rest : List Expr}
def tAnd (t u : TT) : TT := fun σ H Q => t σ H fun c H1 => if c = true then u σ H1 Q else Q false H1
def tOr (t u : TT) : TT := fun σ H Q => t σ H fun c H1 => if c = true then Q true H1 else u σ H1 Q
def tNot (t : TT) : TT := fun σ H Q => t σ H fun c H1 => Q (!c) H1
theorem pw_and1 (ha : PT X a tA) : PW X (.BoolOp .And [a] pos) tA := by
 intro wh pins s σ H Q I h
 refine isTrue_and (thn (ha pins s σ H Q I h) fun c s1 e => ?_)
 cases c with
 | true => exact isTrue_and_nil e
 | false => exact e
theorem pw_or1 (ha : PT X a tA) : PW X (.BoolOp .Or [a] pos) tA := by
 intro wh pins s σ H Q I h
 refine isTrue_or (thn (ha pins s σ H Q I h) fun c s1 e => ?_)
 cases c with
 | false => exact isTrue_or_nil e
 | true => exact e
theorem pw_and (ha : PT X a tA) (hb : PW X (.BoolOp .And (b :: rest) pos) tB') : PW X (.BoolOp .And (a :: b :: rest) pos) (tAnd tA tB') := by
 intro wh pins s σ H Q I h
 refine isTrue_and (thn (ha pins s σ H _ I h) fun c s1 ⟨H1, I1, q1⟩ => ?_)
 cases c with
 | true => exact hb wh pins s1 σ H1 Q I1 q1
 | false => exact ⟨H1, I1, q1⟩
theorem pw_or (ha : PT X a tA) (hb : PW X (.BoolOp .Or (b :: rest) pos) tB') : PW X (.BoolOp .Or (a :: b :: rest) pos) (tOr tA tB') := by
 intro wh pins s σ H Q I h
 refine isTrue_or (thn (ha pins s σ H _ I h) fun c s1 ⟨H1, I1, q1⟩ => ?_)
 cases c with
 | true => exact ⟨H1, I1, q1⟩
 | false => exact hb wh pins s1 σ H1 Q I1 q1
theorem pt_not (ha : PT X a tA) : PT X (.UnaryOp .Not a pos) (tNot tA) := by
 intro pins s σ H Q I h
 exact isTrue_not (ha pins s σ H (fun c H1 => Q (!c) H1) I h)
def tAndV (ta tb : TE) : TE := fun σ H Q => ta σ H fun x H1 => ∃ c, x = .bl c /\ if c = true then tb σ H1 Q else Q (.bl false) H1
def tOrV (ta tb : TE) : TE := fun σ H Q => ta σ H fun x H1 => ∃ c, x = .bl c /\ if c = true then Q (.bl true) H1 else tb σ H1 Q
def tNotV (ta : TE) : TE := fun σ H Q => ta σ H fun x H1 => ∃ c, x = .bl c /\ Q (.bl (!c)) H1
theorem pe_one {op} {t : TE} (h : PE X a t) : PE X (.BoolOp op [a] pos) t := fun pins s σ H Q I hw => BoolOp_one (h pins s σ H Q I hw)
theorem pe_and (ha : PE X a ta) (hb : PE X (.BoolOp .And (b :: rest) pos) tb) : PE X (.BoolOp .And (a :: b :: rest) pos) (tAndV ta tb) := by
 intro pins s σ H Q I h
 refine BoolOp_and (thn (ha pins s σ H _ I h) fun v s1 ⟨x, H1, I1, r1, q1⟩ => ?_)
 obtain ⟨c, rfl, q1⟩ := q1
 cases r1
 refine wpAny_truthy_bool ?_
 cases c with
 | true => exact hb pins s1 σ H1 Q I1 q1
 | false => exact ⟨.bl false, H1, I1, rfl, q1⟩
theorem pe_or (ha : PE X a ta) (hb : PE X (.BoolOp .Or (b :: rest) pos) tb) : PE X (.BoolOp .Or (a :: b :: rest) pos) (tOrV ta tb) := by
 intro pins s σ H Q I h
 refine BoolOp_or (thn (ha pins s σ H _ I h) fun v s1 ⟨x, H1, I1, r1, q1⟩ => ?_)
 obtain ⟨c, rfl, q1⟩ := q1
 cases r1
 refine wpAny_truthy_bool ?_
 cases c with
 | false => exact hb pins s1 σ H1 Q I1 q1
 | true => exact ⟨.bl true, H1, I1, rfl, q1⟩
theorem pe_not (ha : PE X a ta) : PE X (.UnaryOp .Not a pos) (tNotV ta) := by
 intro pins s σ H Q I h
 refine UnaryOp_ (thn (ha pins s σ H _ I h) fun v s1 ⟨x, H1, I1, r1, q1⟩ => ?_)
 obtain ⟨c, rfl, q1⟩ := q1
 cases r1
 exact not_of (wpAny_truthy_bool ⟨.bl (!c), H1, I1, rfl, q1⟩)
def tIf (t : TT) (ta tb : TE) : TE := fun σ H Q => t σ H fun c H1 => if c = true then ta σ H1 Q else tb σ H1 Q
theorem pe_ifExp {c : Expr} (hc : PT X c tA) (ha : PE X a ta) (hb : PE X b tb) : PE X (.IfExp c a b pos) (tIf tA ta tb) := by
 intro pins s σ H Q I h
 refine wpAny_IfExp (thn (hc pins s σ H _ I h) fun d s1 ⟨H1, I1, q1⟩ => ?_)
 cases d with
 | true => exact ha pins s1 σ H1 Q I1 q1
 | false => exact hb pins s1 σ H1 Q I1 q1
end
end L2
namespace L2
open PySem PySem.Spec PyProof.Rows
def SqL (K : PySem.W.Frag) (H : Hp) (a : Addr) (xs : List V) : Prop :=
 Rd H a (.lst xs) \/
  ∃ (o : Obj) (its : Array Value) (n : Nat), K.lookup a = some o /\ o.cls = .type "list" /\ o.dict = none /\ o.data = .seq its n /\ its.size <= sizeLine /\ Vals xs its.toList
def SqT (K : PySem.W.Frag) (H : Hp) (a : Addr) (xs : List V) : Prop :=
 Rd H a (.tup xs) \/
  ∃ (o : Obj) (its : Array Value) (n : Nat), K.lookup a = some o /\ o.cls = .type "tuple" /\ o.data = .seq its n /\ its.size <= sizeLine /\ Vals xs its.toList
def absV : Value -> Option V
 | .none => some .non
 | .bool b => some (.bl b)
 | .int i _ => some (.int i)
 | .str x _ => some (.str x)
 | .bytes b _ => some (.byt b)
 | .float b _ => some (.flt b)
 | .ref a => some (.ref a)
 | .type n => some (.ty n)
 | _ => none
theorem RelV.abs {x : V} {u : Value} (r : RelV x u) : absV u = some x := by
 cases x with
 | non => cases r; rfl
 | bl _ => cases r; rfl
 | int _ => obtain ⟨t, rfl⟩ := r; rfl
 | str _ => obtain ⟨t, rfl⟩ := r; rfl
 | byt _ => obtain ⟨t, rfl⟩ := r; rfl
 | flt _ => obtain ⟨t, rfl⟩ := r; rfl
 | ref _ => cases r; rfl
 | ty _ => cases r; rfl
theorem RelV.inj {x y : V} {u : Value} (r : RelV x u) (q : RelV y u) : x = y := Option.some.inj (r.abs.symm.trans q.abs)
theorem Vals.inj : ∀ {xs ys : List V} {us : List Value}, Vals xs us -> Vals ys us -> xs = ys
 | _, _, _, .nil, .nil => rfl
 | _, _, _, .cons r t, .cons r' t' => by rw [r.inj r', Vals.inj t t']
section
variable {X : Cx} {pins : List (Addr × Obj)} {σ : St} {H : Hp} {s : Shared} {a : Addr} {xs ys : List V}
theorem SqL.of {K : PySem.W.Frag} (h : H a = some (.lst xs)) : SqL K H a xs := .inl (.inl h)
theorem Inv.list (I : Inv X pins σ H s) (h : SqL X.K H a xs) : ∃ its : List Value, Vals xs its /\ PlainL s.heap a its.toArray /\ xs.length <= sizeLine := by
 rcases h with h | ⟨o, its, n, hk, hc, hd, hs, hz, r⟩
 ·obtain ⟨z, its, n, r, e⟩ := h.ok I.hok
  exact ⟨its, r, ⟨_, n, e, rfl, rfl, rfl⟩, z⟩
 ·refine ⟨its.toList, r, ⟨o, n, I.kIn a o hk, hc, hd, by simpa using hs⟩, ?_⟩
  have e := r.length
  simp only [Array.length_toList] at e
  omega
theorem Inv.tuple (I : Inv X pins σ H s) (h : SqT X.K H a xs) : ∃ its : List Value, Vals xs its /\ IsTup s.heap a its.toArray /\ xs.length <= sizeLine := by
 rcases h with h | ⟨o, its, n, hk, hc, hs, hz, r⟩
 ·obtain ⟨z, its, r, p⟩ := h.ok I.hok
  exact ⟨its, r, p, z⟩
 ·refine ⟨its.toList, r, ⟨o, I.kIn a o hk, hc, n, by simpa using hs⟩, ?_⟩
  have e := r.length
  simp only [Array.length_toList] at e
  omega
theorem Inv.list_inj (I : Inv X pins σ H s) (h : SqL X.K H a xs) (h' : SqL X.K H a ys) : xs = ys := by
 obtain ⟨its, r, ⟨o, n, e, _, _, d⟩, _⟩ := I.list h
 obtain ⟨its', r', ⟨o', n', e', _, _, d'⟩, _⟩ := I.list h'
 rw [e] at e'; cases e'
 rw [d] at d'
 injection d' with d1 _
 have : its = its' := by simpa using congrArg Array.toList d1
 subst this
 exact r.inj r'
theorem Inv.tuple_inj (I : Inv X pins σ H s) (h : SqT X.K H a xs) (h' : SqT X.K H a ys) : xs = ys := by
 obtain ⟨its, r, ⟨o, e, _, n, d⟩, _⟩ := I.tuple h
 obtain ⟨its', r', ⟨o', e', _, n', d'⟩, _⟩ := I.tuple h'
 rw [e] at e'; cases e'
 rw [d] at d'
 injection d' with d1 _
 have : its = its' := by simpa using congrArg Array.toList d1
 subst this
 exact r.inj r'
end
abbrev Cx.wish (X : Cx) (E : Value -> Shared -> Prop) : Cx := { X with xe := E }
abbrev Cx.nox (X : Cx) : Cx := X.wish fun _ _ => False
theorem Cx.Ok.wish {X : Cx} (ok : X.Ok) (E : Value -> Shared -> Prop) : (X.wish E).Ok :=
 ⟨ok.mod, ok.kind, ok.glob, ok.blt, ok.above, ok.inj, ok.has, ok.cab, ok.hd, ok.frames, ok.stk, ok.exf, ok.bs, ok.bsz, ok.noex, ok.exfs, ok.funs, ok.frf⟩
theorem Cx.Ok.unwish {X : Cx} {E : Value -> Shared -> Prop} (ok : (X.wish E).Ok) : X.Ok :=
 ⟨ok.mod, ok.kind, ok.glob, ok.blt, ok.above, ok.inj, ok.has, ok.cab, ok.hd, ok.frames, ok.stk, ok.exf, ok.bs, ok.bsz, ok.noex, ok.exfs, ok.funs, ok.frf⟩
section
variable {X : Cx} {pins : List (Addr × Obj)} {σ : St} {H : Hp} {s : Shared} {E : Value -> Shared -> Prop}
theorem Inv.wish (I : Inv X pins σ H s) (E : Value -> Shared -> Prop) : Inv (X.wish E) pins σ H s := ⟨I.ok.wish E, I.os, I.bare, I.base, I.loc, I.cell, I.free, I.freeC, I.pin, I.hok, I.len⟩
theorem Inv.unwish (I : Inv (X.wish E) pins σ H s) : Inv X pins σ H s := ⟨I.ok.unwish, I.os, I.bare, I.base, I.loc, I.cell, I.free, I.freeC, I.pin, I.hok, I.len⟩
theorem SP.unwish {D : Ends} {f : Flow} {s' : Shared} (h : SP (X.wish E) pins D f s') : SP X pins D f s' := by
 cases f with
 | next => obtain ⟨σ', H', I, q⟩ := h; exact ⟨σ', H', I.unwish, q⟩
 | brk => obtain ⟨σ', H', I, q⟩ := h; exact ⟨σ', H', I.unwish, q⟩
 | cont => obtain ⟨σ', H', I, q⟩ := h; exact ⟨σ', H', I.unwish, q⟩
 | ret u => obtain ⟨v, σ', H', I, r, q⟩ := h; exact ⟨v, σ', H', I.unwish, r, q⟩
theorem PSs.nox {st : List Stmt} {t : TS} (h : PSs X.nox st t) : PSs X st t := fun pins s σ H D I hw =>
 wpAny_mono (h pins s σ H D (I.wish _) hw) (fun _ _ q => q.unwish) fun _ _ z => False.elim z
end
section
variable {X : Cx} {st : Stmt} {rest : List Stmt} {t u : TS} {e : Expr} {te : TE} {pos : Pos}
def tNext : TS := fun D σ H => D.nx σ H
def tSeq (t u : TS) : TS := fun D σ H => t { D with nx := u D } σ H
theorem pss_nil : PSs X [] tNext := fun _ _ σ H _ I h => wpAny_execs_nil ⟨σ, H, I, h⟩
theorem zay (h1 : PS X st t) (h2 : PSs X rest u) : PSs X (st :: rest) (tSeq t u) := by
 intro pins s σ H D I h
 refine wpAny_execs_cons (thn (h1 pins s σ H { D with nx := u D } I h) fun f s1 q => ?_)
 cases f with
 | next =>
  obtain ⟨σ', H', I', q⟩ := q
  exact h2 pins s1 σ' H' D I' q
 | ret v => exact q
 | brk => exact q
 | cont => exact q
theorem zfh (h1 : PS X st t) : PSs X [st] t := by
 intro pins s σ H D I h
 refine wpAny_execs_cons (thn (h1 pins s σ H D I h) fun f s1 q => ?_)
 cases f with
 | next => exact wpAny_execs_nil q
 | ret v => exact q
 | brk => exact q
 | cont => exact q
theorem Inv.quiet {pins : List (Addr × Obj)} {σ : St} {H : Hp} {s : Shared} (I : Inv X pins σ H s) : interactive X.env = false := by simp [interactive, I.ok.kind]
def tDrop (te : TE) : TS := fun D σ H => te σ H fun _ H1 => D.nx σ H1
theorem zfj (he : PE X e te) (hs : swapsWith e none pos.line X.env = pure false := by rfl) : PS X (.Expr e pos) (tDrop te) := by
 intro pins s σ H D I h
 exact wpAny_Expr_any (thn (he pins s σ H _ I h) fun v s1 ⟨x, H1, I1, r1, q1⟩ => ⟨σ, H1, I1, q1⟩) I.quiet hs
def tRet (te : TE) : TS := fun D σ H => te σ H D.rt
theorem ps_ret (he : PE X e te) : PS X (.Return (some e) pos) (tRet te) := by
 intro pins s σ H D I h
 exact wpAny_Return_some (thn (he pins s σ H _ I h) fun v s1 ⟨x, H1, I1, r1, q1⟩ => ⟨x, σ, H1, I1, r1, q1⟩)
def tIfS (c : TT) (t u : TS) : TS := fun D σ H => c σ H fun b H1 => if b = true then t D σ H1 else u D σ H1
theorem ps_if {c : Expr} {a b : List Stmt} {tc : TT} (hc : PT X c tc) (ha : PSs X a t) (hb : PSs X b u) : PS X (.If c a b pos) (tIfS tc t u) := by
 intro pins s σ H D I h
 refine wpAny_If (thn (hc pins s σ H _ I h) fun d s1 ⟨H1, I1, q1⟩ => ?_)
 cases d with
 | true => exact ha pins s1 σ H1 D I1 q1
 | false => exact hb pins s1 σ H1 D I1 q1
def tNever : TS := fun _ _ _ => False
theorem ps_never : PS X st tNever := fun _ _ _ _ _ _ h => h.elim
end
abbrev TG := V -> St -> Hp -> (St -> Hp -> Prop) -> Prop
abbrev TGs := List V -> St -> Hp -> (St -> Hp -> Prop) -> Prop
def PG (X : Cx) (target : Expr) (t : TG) : Prop :=
 ∀ (pins : List (Addr × Obj)) (s : Shared) (σ : St) (H : Hp) (v : V) (u : Value) (Q : St -> Hp -> Prop), Inv X pins σ H s -> RelV v u -> t v σ H Q ->
  wpAny (model X.prog X.w) X.A (assign target X.env u) (fun _ s' => ∃ σ' H', Inv X pins σ' H' s' /\ Q σ' H') X.xe s
def PGs (X : Cx) (ts : List Expr) (t : TGs) : Prop :=
 ∀ (pins : List (Addr × Obj)) (s : Shared) (σ : St) (H : Hp) (vs : List V) (us : List Value) (Q : St -> Hp -> Prop), Inv X pins σ H s -> Vals vs us -> t vs σ H Q ->
  wpAny (model X.prog X.w) X.A (assignInOrder ((assignEach ts X.env).map (·.2)) us) (fun _ s' => ∃ σ' H', Inv X pins σ' H' s' /\ Q σ' H') X.xe s
abbrev TSet := V -> V -> V -> Hp -> (Hp -> Prop) -> Prop
def PSet (X : Cx) (t : TSet) : Prop :=
 ∀ (pins : List (Addr × Obj)) (s : Shared) (σ : St) (H : Hp) (o i v : V) (ov iv u : Value) (Q : Hp -> Prop), Inv X pins σ H s -> RelV o ov -> RelV i iv -> RelV v u -> t o i v H Q ->
  wpAny (model X.prog X.w) X.A (setItem ov iv u) (fun _ s' => ∃ H', Inv X pins σ H' s' /\ Q H') X.xe s
section
variable {X : Cx} {pos : Pos}
def gName (i : Nat) : TG := fun v σ H Q => Q (σ.set i (some v)) H
theorem zcm {i : Nat} {x : Str} (hN : X.N.Nodup) (hi : X.N[i]? = some x) (hx : Loc X.env.scope x) (hf : X.fn x = true \/ X.env.scope.names.lookup x = some .local := by first | exact .inl rfl | exact .inr rfl | assumption) : PG X (.Name x pos) (gName i) := by
 intro pins s σ H v u Q I r h
 exact wpAny_assign_Name (zc2 I hN hi hx r (fun s' I' => ⟨_, H, I', h⟩) hf)
def gNil : TGs := fun vs σ H Q => vs = [] /\ Q σ H
def gCons (t : TG) (u : TGs) : TGs := fun vs σ H Q => ∃ v r, vs = v :: r /\ t v σ H fun σ' H' => u r σ' H' Q
theorem pgs_nil : PGs X [] gNil := by
 intro pins s σ H vs us Q I r h
 obtain ⟨e, h⟩ := h
 subst e
 cases r
 exact assignInOrder_nil ⟨σ, H, I, h⟩
theorem zdd {e : Expr} {es : List Expr} {t : TG} {u : TGs} (h1 : PG X e t) (h2 : PGs X es u)
  (hs : (assignEach (e :: es) X.env).map (·.2) = assign e X.env :: (assignEach es X.env).map (·.2) := by rfl) : PGs X (e :: es) (gCons t u) := by
 intro pins s σ H vs us Q I r h
 obtain ⟨v, vr, e1, h⟩ := h
 subst e1
 cases r with
 | cons r rr =>
  rw [hs]
  refine assignInOrder_cons (thn (h1 pins s σ H _ _ _ I r h) fun _ s1 ⟨σ1, H1, I1, q1⟩ => ?_)
  exact h2 pins s1 σ1 H1 _ _ Q I1 rr q1
def gTup (K : PySem.W.Frag) (n : Nat) (t : TGs) : TG := fun v σ H Q => ∃ a xs, v = .ref a /\ SqT K H a xs /\ xs.length = n /\ t xs σ H Q
theorem pg_tup {es : List Expr} {k : Nat} {t : TGs} {n : Nat} (hc : X.calm = true) (h : PGs X es t)
  (hn : (assignEach es X.env).length = n := by rfl) (hst : (assignEach es X.env).findIdx? (·.1) = none := by rfl) : PG X (.Tuple es k pos) (gTup X.K n t) := by
 intro pins s σ H v u Q I r hw
 obtain ⟨a, xs, e1, hq, hl, hw⟩ := hw
 subst e1
 cases r
 obtain ⟨its, rv, ht, hz⟩ := I.tuple hq
 refine assign_Tuple_tuple (I.ok.hd hc) ht (by simp [hn, <- hl, rv.length]) hst fun h' hx => ?_
 have I1 : Inv X pins σ H { s with heap := h' } := I.kept (t' := s.toks) fun b o e => hx b o (Nat.ne_of_lt (Heap.lt_size e)) e
 exact h pins _ σ H xs _ Q I1 (by simpa using rv) hw
def gSub (to ti : TE) (t : TSet) : TG := fun v σ H Q => to σ H fun o H1 => ti σ H1 fun i H2 => t o i v H2 fun H3 => Q σ H3
theorem pg_sub {o i : Expr} {to ti : TE} {t : TSet} (ho : PE X o to) (hi : PE X i ti) (hs : PSet X t)
  (ha : ∀ v, assign (.Subscript o i pos) X.env v = (do
   let ov <- holding [v] (eval o X.env)
   let iv <- holding [v, ov] (eval i X.env)
   standAt pos
   holding [v, ov, iv] (setItem ov iv v)
   release [v, ov, iv] []) := by intro _; rfl) : PG X (.Subscript o i pos) (gSub to ti t) := by
 intro pins s σ H v u Q I r h
 rw [ha]
 refine wpAny_bind (wpAny_holding (thn (ho pins s σ H _ I h) fun ov s1 ⟨x, H1, I1, r1, q1⟩ => ?_))
 refine wpAny_bind (wpAny_holding (thn (hi pins s1 σ H1 _ I1 q1) fun iv s2 ⟨y, H2, I2, r2, q2⟩ => ?_))
 refine wpAny_bind (wpAny_standAt (wpAny_bind (wpAny_holding (thn (hs pins s2 σ H2 x y v ov iv u _ I2 r1 r2 r q2) fun _ s3 ⟨H3, I3, q3⟩ => ?_))))
 exact wpAny_release ⟨σ, H3, I3, q3⟩
def tAsg (te : TE) (g : TG) : TS := fun D σ H => te σ H fun x H1 => g x σ H1 D.nx
theorem ps_asg {tg e : Expr} {te : TE} {g : TG} (he : PE X e te) (hg : PG X tg g) (hs : swapsWithSole [tg] e pos.line X.env = pure false := by rfl) (hw : swappedStores [tg] e X.env = pure none := by rfl)
  (h1 : (assignEach [tg] X.env).map (·.2) = [assign tg X.env] := by rfl) : PS X (.Assign [tg] e pos) (tAsg te g) := by
 intro pins s σ H D I h
 refine wpAny_Assign_stores (thn (he pins s σ H _ I h) fun v s1 ⟨x, H1, I1, r1, q1⟩ => ?_) hs hw
 rw [h1]
 exact thn (hg pins s1 σ H1 x v _ I1 r1 q1) fun _ s2 q => q
theorem ps_set {i : Nat} {x : Str} {e : Expr} {te : TE} {pos' : Pos} (hN : X.N.Nodup) (hi : X.N[i]? = some x) (hx : Loc X.env.scope x) (he : PE X e te) (hs : swapsWith e (some (.Name x pos')) pos.line X.env = pure false := by rfl) (hf : X.fn x = true \/ X.env.scope.names.lookup x = some .local := by first | exact .inl rfl | exact .inr rfl | assumption) :
  PS X (.Assign [.Name x pos'] e pos) (tAsg te (gName i)) := by
 intro pins s σ H D I h
 refine wpAny_Assign_Name (thn (he pins s σ H _ I h) fun v s1 ⟨y, H1, I1, r1, q1⟩ => ?_) hs
 exact zc2 I1 hN hi hx r1 (fun s2 I2 => ⟨_, H1, I2, q1⟩) hf
end
section
variable {X : Cx} {pos : Pos}
def tWhile (c : TT) (tb : TS) : TS := fun D σ H => ∃ W : Nat -> St -> Hp -> Prop, (∃ m, W m σ H) /\ ∀ m σ H, W m σ H ->
 c σ H fun b H1 => if b = true then ∃ N : St -> Hp -> Prop, (∀ σ' H', N σ' H' -> ∃ m', m' < m /\ W m' σ' H') /\ tb { D with nx := N, ct := N, bk := D.nx } σ H1 else D.nx σ H1
theorem ps_while {c : Expr} {body : List Stmt} {tc : TT} {tb : TS} (hp : PassesOwn (model X.prog X.w) X.A X.env X.xe) (hc : PT X c tc) (hb : PSs X body tb) : PS X (.While c body [] pos) (tWhile tc tb) := by
 intro pins s σ H D I h
 obtain ⟨W, ⟨m0, w0⟩, turn⟩ := h
 refine wpAny_While (codeAny_whileLoop (fun n s' => ∃ σ' H', Inv X pins σ' H' s' /\ W n σ' H') ?_ m0 ⟨σ, H, I, w0⟩)
 rintro n s1 ⟨σ1, H1, I1, w1⟩
 refine wpAny_passesOwn hp (thn (hc pins s1 σ1 H1 _ I1 (turn n σ1 H1 w1)) fun b s2 ⟨H2, I2, q2⟩ => ?_)
 cases b with
 | true =>
  obtain ⟨N, hN, q2⟩ := q2
  rw [if_pos rfl]
  refine wpAny_passesOwn hp (thn (hb pins s2 σ1 H2 _ I2 q2) fun f s3 q3 => ?_)
  cases f with
  | next =>
   obtain ⟨σ3, H3, I3, n3⟩ := q3
   obtain ⟨m', hm, w3⟩ := hN σ3 H3 n3
   exact ⟨m', hm, σ3, H3, I3, w3⟩
  | cont =>
   obtain ⟨σ3, H3, I3, n3⟩ := q3
   obtain ⟨m', hm, w3⟩ := hN σ3 H3 n3
   exact ⟨m', hm, σ3, H3, I3, w3⟩
  | brk => exact q3
  | ret v => exact q3
 | false =>
  rw [if_neg Bool.false_ne_true]
  exact wpAny_execs_nil ⟨σ1, H2, I2, q2⟩
end
structure It where
 go : Nat -> Hp -> Prop
 yld : Nat -> Hp -> V -> Hp -> Prop
 stop : Nat -> Hp -> Prop
def FpOk (X : Cx) (pins : List (Addr × Obj)) (H : Hp) (b : Addr) : Prop :=
 H b = none /\ b ≠ X.env.locals /\ b ∉ X.fs /\ (b ∈ X.ex \/ X.s₀.heap.objs.size <= b) /\ (∀ x c, X.env.cells.lookup x = some c -> c ≠ b) /\ ∀ p ∈ X.pn ++ pins, p.1 ≠ b
theorem Inv.fpOk {X : Cx} {pins : List (Addr × Obj)} {σ : St} {H H' : Hp} {s : Shared} {b : Addr} (I : Inv X pins σ H s) (hb : s.heap.objs.size <= b) (hn : H' b = none) : FpOk X pins H' b := by
 refine ⟨hn, Nat.ne_of_gt (Nat.lt_of_lt_of_le I.lt hb), I.nofs hb, .inr (Nat.le_trans I.sz hb), fun x c e z => ?_, fun p hp z => ?_⟩
 ·obtain ⟨v, q⟩ := I.cell x c e
  exact absurd (Nat.lt_of_lt_of_le q.lt (by rw [z]; exact hb)) (Nat.lt_irrefl _)
 ·exact absurd (Nat.lt_of_lt_of_le (Heap.lt_size (I.pin p hp).1) (by rw [z]; exact hb)) (Nat.lt_irrefl _)
structure Turn (P : Program) (w : World) (K : PySem.W.Frag) (tg : Expr) (J : It) (fp : List Addr) (it : Addr) (tn : Nat -> Heap -> Prop) : Prop where
 mem : it ∈ fp
 obj : ∀ i h, tn i h -> ∀ b ∈ fp, ∃ o, h.get? b = some o /\ ∀ v, o.data ≠ .cell v
 keep : ∀ i h h', tn i h -> (∀ b ∈ fp, ∀ o, h.get? b = some o -> h'.get? b = some o) -> tn i h'
 item : ∀ (X : Cx), X.prog = P -> X.w = w -> X.K = K -> X.calm = true -> ∀ (i : Nat) (pins : List (Addr × Obj)) (s : Shared) (σ : St) (H : Hp) (E : Value -> Shared -> Prop), Inv X pins σ H s -> (∀ b ∈ fp, FpOk X pins H b) -> tn i s.heap -> J.go i H ->
  wpAny (model P w) X.A (pyNext (.ref it)) (fun r s1 => ∃ u, r = some u /\
   wpAny (model P w) X.A (letOwnedTupleGo tg (.ref it) u) (fun _ s2 => ∃ x H', Inv X pins σ H' s2 /\ RelV x u /\ J.yld i H x H' /\ tn (i + 1) s2.heap /\ ∀ b ∈ fp, H' b = none) E s1) E s
 done : ∀ (X : Cx), X.prog = P -> X.w = w -> X.K = K -> X.calm = true -> ∀ (i : Nat) (pins : List (Addr × Obj)) (s : Shared) (σ : St) (H : Hp) (E : Value -> Shared -> Prop), Inv X pins σ H s -> (∀ b ∈ fp, FpOk X pins H b) -> tn i s.heap -> J.stop i H ->
  wpAny (model P w) X.A (pyNext (.ref it)) (fun r s1 => r = none /\ Inv X pins σ H s1) E s
 self : ∀ (A : Around) (i : Nat) (s : Shared) (Q : Value -> Shared -> Prop) (E : Value -> Shared -> Prop), tn i s.heap -> Q (.ref it) s -> wpAny (model P w) A (pyIter (.ref it)) Q E s
abbrev TI := St -> Hp -> (It -> Hp -> Prop) -> Prop
def PIE (X : Cx) (pins : List (Addr × Obj)) (σ : St) (tg : Expr) (R : It -> Hp -> Prop) (itv : Value) (s2 : Shared) : Prop :=
 ∃ (it : Addr) (fp : List Addr) (tn : Nat -> Heap -> Prop) (J : It) (H' : Hp), itv = .ref it /\ Inv X pins σ H' s2 /\ Turn X.prog X.w X.K tg J fp it tn /\ tn 0 s2.heap /\ (∀ b ∈ fp, FpOk X pins H' b) /\ R J H'
def PI (X : Cx) (tg iter : Expr) (wi : TI) : Prop :=
 ∀ (pins : List (Addr × Obj)) (s : Shared) (σ : St) (H : Hp) (R : It -> Hp -> Prop), Inv X pins σ H s -> wi σ H R ->
  wpAny (model X.prog X.w) X.A (eval iter X.env) (fun v s1 => wpAny (model X.prog X.w) X.A (pyIter v) (PIE X pins σ tg R) X.xe s1) X.xe s
theorem go_of {M : Model} {A : Around} {E : Value -> Shared -> Prop} {s : Shared} {tg : Expr} {it : Addr} {u : Value} {o : Obj} {n : String} {vs : Array Value} {Q : Unit -> Shared -> Prop} (ho : s.heap.get? it = some o) (hc : o.cls = .type n) (hd : o.data = .fields vs)
  (hn : ["enumerate", "zip", "dict_itemiterator", "dict_reverseitemiterator", "odict_iterator", "itertools.zip_longest", "itertools.pairwise"].contains n = false) (hQ : Q () s) : wpAny M A (letOwnedTupleGo tg (.ref it) u) Q E s := by
 unfold letOwnedTupleGo
 cases tg <;> first
  | exact wpAny_pure hQ
  | (cases u <;> first
    | exact wpAny_pure hQ
    | (refine wpAny_bind (wpAny_load ho ?_)
       rw [hc, hd]
       show wpAny M A (if (["enumerate", "zip", "dict_itemiterator", "dict_reverseitemiterator", "odict_iterator", "itertools.zip_longest", "itertools.pairwise"].contains n && vs[0]? == some (rawInt _)) = true then _ else _) Q E s
       rw [if_neg (by intro h; rw [hn, Bool.false_and] at h; cases h)]
       exact wpAny_pure hQ))
def Itl (K : PySem.W.Frag) (a : Addr) : It :=
 ⟨fun i H => ∃ xs x, SqL K H a xs /\ xs[i]? = some x, fun i H x H' => H' = H /\ ∀ xs, SqL K H a xs -> xs[i]? = some x, fun i H => ∃ xs, SqL K H a xs /\ xs.length <= i⟩
def Itt (K : PySem.W.Frag) (a : Addr) : It :=
 ⟨fun i H => ∃ xs x, SqT K H a xs /\ xs[i]? = some x, fun i H x H' => H' = H /\ ∀ xs, SqT K H a xs -> xs[i]? = some x, fun i H => ∃ xs, SqT K H a xs /\ xs.length <= i⟩
def Itr (lo : Int) (n : Nat) : It := ⟨fun i _ => i < n, fun i H x H' => H' = H /\ x = .int (lo + i), fun i _ => n <= i⟩
theorem zeC {P : Program} {w : World} {K : PySem.W.Frag} {tg : Expr} (a it : Addr) : Turn P w K tg (Itl K a) [it] it (fun i h => h.IsListIter it a i) where
 mem := by simp
 obj := fun i h st b hb => by
  have e : b = it := by simpa using hb
  subst e
  obtain ⟨o, e, c, d⟩ := st
  exact ⟨o, e, fun v z => by rw [d] at z; cases z⟩
 keep := fun i h h' st k => st.at fun o e => k it (by simp) o e
 item := by
  intro X hP hw hK hc i pins s σ H E I hf st hg
  subst hP hw hK
  obtain ⟨xs, x, hq, hx⟩ := hg
  obtain ⟨its, rv, p, hz⟩ := I.list hq
  obtain ⟨u, hu, ru⟩ := rv.get hx
  obtain ⟨f0, f1, f2, f3, f4, f5⟩ := hf it (by simp)
  refine wpAny_pyNext_list_item st p.isList (x := u) (by simpa using hu) fun h' st' sb => ?_
  have I1 : Inv X pins σ H { s with heap := h' } := I.turned (t' := s.toks) (fun b o hb e => (sb.2 b hb).trans e) f0 f1 f3 f4 f5
  obtain ⟨o, e, c, d⟩ := id st'
  exact ⟨u, rfl, go_of (s := { s with heap := h' }) e c d (by decide) ⟨x, H, I1, ru, ⟨rfl, fun ys hy => by rw [I.list_inj hy hq]; exact hx⟩, st', fun b hb => (hf b hb).1⟩⟩
 done := by
  intro X hP hw hK hc i pins s σ H E I hf st hg
  subst hP hw hK
  obtain ⟨xs, hq, hx⟩ := hg
  obtain ⟨its, rv, p, hz⟩ := I.list hq
  obtain ⟨f0, f1, f2, f3, f4, f5⟩ := hf it (by simp)
  have hl := rv.length
  exact wpAny_pyNext_list_end (I.ok.hd hc) st p.isList (by simp; omega) fun h' eb => ⟨rfl, I.turned (t' := s.toks) (fun b o hb e => eb b o hb e) f0 f1 f3 f4 f5⟩
 self := fun _ _ _ _ _ st h => wpAny_pyIter_listiter st h
theorem zdW {P : Program} {w : World} {K : PySem.W.Frag} {tg : Expr} (a it : Addr) : Turn P w K tg (Itt K a) [it] it (fun i h => h.IsTupleIter it a i) where
 mem := by simp
 obj := fun i h st b hb => by
  have e : b = it := by simpa using hb
  subst e
  obtain ⟨o, e, c, d⟩ := st
  exact ⟨o, e, fun v z => by rw [d] at z; cases z⟩
 keep := fun i h h' st k => st.at fun o e => k it (by simp) o e
 item := by
  intro X hP hw hK hc i pins s σ H E I hf st hg
  subst hP hw hK
  obtain ⟨xs, x, hq, hx⟩ := hg
  obtain ⟨its, rv, p, hz⟩ := I.tuple hq
  obtain ⟨u, hu, ru⟩ := rv.get hx
  obtain ⟨f0, f1, f2, f3, f4, f5⟩ := hf it (by simp)
  refine wpAny_pyNext_tuple_item st (show s.heap.IsTuple a its.toArray from p) (x := u) (by simpa using hu) fun h' st' sb => ?_
  have I1 : Inv X pins σ H { s with heap := h' } := I.turned (t' := s.toks) (fun b o hb e => (sb.2 b hb).trans e) f0 f1 f3 f4 f5
  obtain ⟨o, e, c, d⟩ := id st'
  exact ⟨u, rfl, go_of (s := { s with heap := h' }) e c d (by decide) ⟨x, H, I1, ru, ⟨rfl, fun ys hy => by rw [I.tuple_inj hy hq]; exact hx⟩, st', fun b hb => (hf b hb).1⟩⟩
 done := by
  intro X hP hw hK hc i pins s σ H E I hf st hg
  subst hP hw hK
  obtain ⟨xs, hq, hx⟩ := hg
  obtain ⟨its, rv, p, hz⟩ := I.tuple hq
  obtain ⟨f0, f1, f2, f3, f4, f5⟩ := hf it (by simp)
  have hl := rv.length
  exact wpAny_pyNext_tuple_end (I.ok.hd hc) st (show s.heap.IsTuple a its.toArray from p) (by simp; omega) fun h' eb => ⟨rfl, I.turned (t' := s.toks) (fun b o hb e => eb b o hb e) f0 f1 f3 f4 f5⟩
 self := fun _ _ _ _ _ st h => wpAny_pyIter_tupleiter st h
theorem zdX {P : Program} {w : World} {K : PySem.W.Frag} {tg : Expr} (it : Addr) (lo : Int) (n : Nat) : Turn P w K tg (Itr lo n) [it] it (fun i h => IsRangeIter h it (lo + (i : Nat) * 1) ((n : Int) - (i : Nat)) 1) where
 mem := by simp
 obj := fun i h st b hb => by
  have e : b = it := by simpa using hb
  subst e
  exact ⟨_, st, fun v z => by
   have z' : Data.fields _ = Data.cell v := z
   cases z'⟩
 keep := fun i h h' st k => k it (by simp) _ st
 item := by
  intro X hP hw hK hc i pins s σ H E I hf st hg
  subst hP hw hK
  obtain ⟨f0, f1, f2, f3, f4, f5⟩ := hf it (by simp)
  have W := Walks.range (prog := X.prog) (w := X.w) (I.ok.hd hc) it lo 1 n
  refine W.item i s _ _ hg st fun v h' tk hv st' kk => ?_
  obtain ⟨t, rfl⟩ := hv
  have I1 : Inv X pins σ H { s with heap := h', toks := tk } := I.turned (fun b o hb e => kk b o (by simpa using hb) e) f0 f1 f3 f4 f5
  refine ⟨_, rfl, go_of (s := { s with heap := h', toks := tk }) (n := "range_iterator") st' rfl rfl (by decide) ⟨.int (lo + i), H, I1, ⟨t, ?_⟩, ⟨rfl, rfl⟩, st', fun b hb => (hf b hb).1⟩⟩
  rw [Int.mul_one]
 done := by
  intro X hP hw hK hc i pins s σ H E I hf st hg
  subst hP hw hK
  obtain ⟨f0, f1, f2, f3, f4, f5⟩ := hf it (by simp)
  exact wpAny_pyNext_range_end (I.ok.hd hc) st (by have : n <= i := hg; omega) fun h' eb => ⟨rfl, I.turned (t' := s.toks) (fun b o hb e => eb b o hb e) f0 f1 f3 f4 f5⟩
 self := fun _ _ _ _ _ st h => wpAny_pyIter_rangeiter st h
end L2
namespace L2
open PySem PySem.Spec PyProof.Rows
section
variable {X : Cx} {tg : Expr}
theorem range_it {pins : List (Addr × Obj)} {σ : St} {H : Hp} {s : Shared} {R : It -> Hp -> Prop} {E : Value -> Shared -> Prop} {lo hi : Int} {t u v : Tok} {tk : Nat} (I : Inv X pins σ H s) (h1 : -(2 ^ 62) <= lo) (h2 : lo < 2 ^ 62) (h3 : -(2 ^ 62) <= hi) (h4 : hi < 2 ^ 62)
  (q : R (Itr lo (hi - lo).toNat) H) : wpAny (model X.prog X.w) X.A (pyIter (.ref s.heap.objs.size)) (PIE X pins σ tg R) E { s with heap := s.heap.push { cls := .type "range", data := .fields #[.int lo t, .int hi u, .int 1 v] }, toks := tk } := by
 refine wpAny_pyIter_range (IsRange.new ..) (small_one h1 h2 h3 h4) ?_
 have I1 : Inv X pins σ H { s with heap := s.heap.push { cls := .type "range", data := .fields #[.int lo t, .int hi u, .int 1 v] }, toks := tk } := I.kept fun b o e => Heap.get?_push_of_some _ e
 refine ⟨(s.heap.push { cls := .type "range", data := .fields #[.int lo t, .int hi u, .int 1 v] }).objs.size, [(s.heap.push { cls := .type "range", data := .fields #[.int lo t, .int hi u, .int 1 v] }).objs.size], _, _, H, rfl,
  I1.kept (t' := tk) fun b o e => Heap.get?_push_of_some _ e, zdX _ lo (hi - lo).toNat, ?_, fun b hb => ?_, q⟩
 ·have e1 : lo + ((0 : Nat) : Int) * 1 = lo := by simp
  have e2 : (((hi - lo).toNat : Nat) : Int) - ((0 : Nat) : Int) = Builtin.Range.rangeSize lo hi 1 := by rw [rangeSize_one]; split <;> omega
  show IsRangeIter _ _ (lo + ((0 : Nat) : Int) * 1) ((((hi - lo).toNat : Nat) : Int) - ((0 : Nat) : Int)) 1
  rw [e1, e2]
  exact Heap.get?_push_size _ rfl
 ·have e : b = (s.heap.push { cls := .type "range", data := .fields #[.int lo t, .int hi u, .int 1 v] }).objs.size := by simpa using hb
  subst e
  exact I1.fpOk (Nat.le_refl _) (I1.hok.fresh (Nat.le_refl _))
def iRng1 (ta : TA) : TI := fun σ H R => ta σ H fun vs H1 => ∃ j : Int, vs = [.int j] /\ -(2 ^ 62) <= j /\ j < 2 ^ 62 /\ R (Itr 0 j.toNat) H1
theorem zfn {a : Expr} {ta : TA} {p pos : Pos} (hg : Gl X "range") (hm : X.mg "range" = none) (ha : PA X [a] ta) (hs : starEach [a] X.env = [(false, eval a X.env)] := by rfl) : PI X tg (.Call (.Name "range" p) [a] [] pos) (iRng1 ta) := by
 intro pins s σ H R I h
 refine Call_ (JQ I hg hm boot_range (PyProof.Rows.callWith_type1 (thn (ha pos pins s σ H _ I h) fun us s1 ⟨vs, H1, I1, r1, q1⟩ => ?_) hs rfl))
 obtain ⟨j, e, q1, q2, q⟩ := q1
 subst e
 cases r1 with
 | cons r rr =>
  cases rr
  obtain ⟨t, rfl⟩ := r
  exact call_range_1 (range_it I1 (by omega) (by omega) q1 q2 (by simpa using q))
def tFor (wi : TI) (g : TG) (tb : TS) : TS := fun D σ H => wi σ H fun J H1 => ∃ W : Nat -> Nat -> St -> Hp -> Prop, (∃ m, W 0 m σ H1) /\ ∀ i m σ H, W i m σ H ->
 (J.stop i H /\ D.nx σ H) \/ (J.go i H /\ ∃ N : St -> Hp -> Prop, (∀ σ' H', N σ' H' -> ∃ m', m' < m /\ W (i + 1) m' σ' H') /\ ∀ x H', J.yld i H x H' -> g x σ H' fun σ2 H2 => tb { D with nx := N, ct := N, bk := D.nx } σ2 H2)
def XL (fp : List Addr) (h : Heap) : List (Addr × Obj) := fp.filterMap fun b => (h.get? b).map fun o => (b, o)
theorem VE {fp : List Addr} {h : Heap} {b : Addr} {o : Obj} (hb : b ∈ fp) (e : h.get? b = some o) : (b, o) ∈ XL fp h := List.mem_filterMap.mpr ⟨b, hb, by rw [e]; rfl⟩
theorem zft {fp : List Addr} {h : Heap} {p : Addr × Obj} (hp : p ∈ XL fp h) : p.1 ∈ fp /\ h.get? p.1 = some p.2 := by
 obtain ⟨b, hb, e⟩ := List.mem_filterMap.mp hp
 cases q : h.get? b with
 | none => rw [q] at e; cases e
 | some o =>
  rw [q] at e
  have e' : (b, o) = p := Option.some.inj e
  subst e'
  exact ⟨hb, q⟩
theorem Inv.pinned {pins : List (Addr × Obj)} {σ : St} {H : Hp} {s : Shared} {fp : List Addr} (I : Inv X pins σ H s) (hf : ∀ b ∈ fp, FpOk X pins H b) (ho : ∀ b ∈ fp, ∃ o, s.heap.get? b = some o /\ ∀ v, o.data ≠ .cell v) : Inv X (pins ++ XL fp s.heap) σ H s :=
 I.pins_of fun p hp => (List.mem_append.mp hp).elim (fun z => I.pin p (List.mem_append_right _ z)) fun z => by
  obtain ⟨hb, e⟩ := zft z
  obtain ⟨f0, f1, f2, _⟩ := hf p.1 hb
  obtain ⟨o, e', d⟩ := ho p.1 hb
  rw [e] at e'; cases e'
  exact ⟨e, f0, f1, f2, d⟩
theorem Inv.unpinned {pins pl : List (Addr × Obj)} {σ : St} {H : Hp} {s : Shared} (I : Inv X (pins ++ pl) σ H s) : Inv X pins σ H s := I.pins_of fun p hp => I.pin p (List.mem_append_right _ (List.mem_append_left _ hp))
theorem ps_for {iter : Expr} {body : List Stmt} {wi : TI} {g : TG} {tb : TS} {pos : Pos} (hp : PassesOwn (model X.prog X.w) X.A X.env X.xe) (hc : X.calm = true) (hi : PI X tg iter wi) (hg : PG X tg g) (hb : PSs X body tb)
  (hs : ∀ x, foldedSetIterable iter X.env x = pure x := by intro _; rfl) : PS X (.For tg iter body [] pos) (tFor wi g tb) := by
 intro pins s σ H D I h
 refine wpAny_For (thn (hi pins s σ H _ I h) fun v s1 h1 => thn h1 fun itv s2 h2 => ?_) hs
 obtain ⟨it, fp, tn, J, H2, e, I2, T, st2, f2, W, ⟨m0, w0⟩, turn⟩ := h2
 subst e
 -- what stays true of the iterator's objects through the loop
 have stat : ∀ {H' : Hp}, (∀ b ∈ fp, H' b = none) -> ∀ b ∈ fp, FpOk X pins H' b := fun hn b hb => ⟨hn b hb, (f2 b hb).2⟩
 refine codeAny_forLoop_any (fun n s' => ∃ i σ' H', Inv X pins σ' H' s' /\ tn i s'.heap /\ (∀ b ∈ fp, H' b = none) /\ W i n σ' H') ?_ m0 ⟨0, σ, H2, I2, st2, fun b hb => (f2 b hb).1, w0⟩
 rintro n s3 ⟨i, σ3, H3, I3, st3, fr3, w3⟩
 rcases turn i n σ3 H3 w3 with ⟨stop, qn⟩ | ⟨go, N, hN, step⟩
 ·refine wpAny_passesOwn hp (thn (T.done X rfl rfl rfl hc i pins s3 σ3 H3 X.xe I3 (stat fr3) st3 stop) fun r s4 ⟨hr, I4⟩ => ?_)
  subst hr
  exact wpAny_execs_nil ⟨σ3, H3, I4, qn⟩
 ·refine wpAny_passesOwn hp (thn (T.item X rfl rfl rfl hc i pins s3 σ3 H3 X.xe I3 (stat fr3) st3 go) fun r s4 ⟨u, hr, h4⟩ => ?_)
  subst hr
  refine wpAny_passesOwn hp (thn h4 fun _ s5 ⟨x, H5, I5, r5, y5, st5, fr5⟩ => ?_)
  have I5' := I5.pinned (stat fr5) (T.obj _ _ st5)
  refine wpAny_passesOwn hp (thn (hg _ s5 σ3 H5 x u _ I5' r5 (step x H5 y5)) fun _ s6 ⟨σ6, H6, I6, q6⟩ => ?_)
  refine wpAny_passesOwn hp (thn (hb _ s6 σ6 H6 _ I6 q6) fun f s7 q7 => ?_)
  have again : ∀ {σ7 : St} {H7 : Hp}, Inv X (pins ++ XL fp s5.heap) σ7 H7 s7 -> N σ7 H7 -> ∃ m, m < n /\ ∃ i σ' H', Inv X pins σ' H' s7 /\ tn i s7.heap /\ (∀ b ∈ fp, H' b = none) /\ W i m σ' H' := fun {σ7 H7} I7 n7 => by
   obtain ⟨m', hm, w7⟩ := hN σ7 H7 n7
   refine ⟨m', hm, i + 1, σ7, H7, I7.unpinned, T.keep _ _ _ st5 fun b hb o e => (I7.pin (b, o) (List.mem_append_right _ (List.mem_append_right _ (VE hb e)))).1, fun b hb => ?_, w7⟩
   obtain ⟨o, e, d⟩ := T.obj _ _ st5 b hb
   exact (I7.pin (b, o) (List.mem_append_right _ (List.mem_append_right _ (VE hb e)))).2.1
  cases f with
  | next => obtain ⟨σ7, H7, I7, n7⟩ := q7; exact again I7 n7
  | cont => obtain ⟨σ7, H7, I7, n7⟩ := q7; exact again I7 n7
  | brk => obtain ⟨σ7, H7, I7, q7⟩ := q7; exact ⟨σ7, H7, I7.unpinned, q7⟩
  | ret v => obtain ⟨x7, σ7, H7, I7, r7, q7⟩ := q7; exact ⟨x7, σ7, H7, I7.unpinned, r7, q7⟩
end
end L2
namespace L2
open PySem PySem.Spec PyProof.Rows
abbrev R2 := V -> V -> Hp -> VK -> Prop
def OpR (X : Cx) (f : Value -> Value -> Sem Value) (r : R2) : Prop :=
 ∀ (pins : List (Addr × Obj)) (s : Shared) (σ : St) (H : Hp) (x y : V) (v u : Value) (Q : VK), Inv X pins σ H s -> RelV x v -> RelV y u -> r x y H Q ->
  wpAny (model X.prog X.w) X.A (f v u) (EP X pins σ Q) X.xe s
def UnR (X : Cx) (f : Value -> Sem Value) (r : V -> Hp -> VK -> Prop) : Prop :=
 ∀ (pins : List (Addr × Obj)) (s : Shared) (σ : St) (H : Hp) (x : V) (v : Value) (Q : VK), Inv X pins σ H s -> RelV x v -> r x H Q ->
  wpAny (model X.prog X.w) X.A (f v) (EP X pins σ Q) X.xe s
def Jr (X : Cx) (f : Value) (r : List V -> Hp -> VK -> Prop) : Prop :=
 ∀ (pins : List (Addr × Obj)) (s : Shared) (σ : St) (H : Hp) (xs : List V) (us : List Value) (Q : VK), Inv X pins σ H s -> Vals xs us -> r xs H Q ->
  wpAny (model X.prog X.w) X.A (call f us) (EP X pins σ Q) X.xe s
def TruR (X : Cx) (r : V -> Hp -> (Bool -> Hp -> Prop) -> Prop) : Prop :=
 ∀ (pins : List (Addr × Obj)) (s : Shared) (σ : St) (H : Hp) (x : V) (v : Value) (Q : Bool -> Hp -> Prop), Inv X pins σ H s -> RelV x v -> r x H Q ->
  wpAny (model X.prog X.w) X.A (truthy v) (TP X pins σ Q) X.xe s
def tOp (r : R2) (ta tb : TE) : TE := fun σ H Q => ta σ H fun x H1 => tb σ H1 fun y H2 => r x y H2 Q
def tUn (r : V -> Hp -> VK -> Prop) (ta : TE) : TE := fun σ H Q => ta σ H fun x H1 => r x H1 Q
def rI (C : Int -> Int -> Prop) (g : Int -> Int -> V) : R2 := fun x y H Q => ∃ i j, x = .int i /\ y = .int j /\ C i j /\ Q (g i j) H
def rI0 (g : Int -> Int -> V) : R2 := fun x y H Q => ∃ i j, x = .int i /\ y = .int j /\ Q (g i j) H
def rU (g : Int -> V) : V -> Hp -> VK -> Prop := fun x H Q => ∃ i, x = .int i /\ Q (g i) H
section
variable {X : Cx} {a b c : Expr} {ta tb tc : TE} {pos : Pos}
theorem binT (ha : PE X a ta) (hb : PE X b tb) {pins : List (Addr × Obj)} {s : Shared} {σ : St} {H : Hp} {R : V -> V -> Hp -> Prop} (I : Inv X pins σ H s)
  (h : ta σ H fun x H1 => tb σ H1 fun y H2 => R x y H2) {Q : Value -> Shared -> Prop} {f : Value -> Value -> Sem Value}
  (hf : ∀ v u s2 x y H2, Inv X pins σ H2 s2 -> RelV x v -> RelV y u -> R x y H2 -> wpAny (model X.prog X.w) X.A (f v u) Q X.xe s2) :
  wpAny (model X.prog X.w) X.A (eval a X.env) (fun v s₁ => wpAny (model X.prog X.w) X.A (eval b X.env) (fun u s₂ => wpAny (model X.prog X.w) X.A (f v u) Q X.xe s₂) X.xe s₁) X.xe s := by
 refine thn (ha pins s σ H _ I h) fun v s1 ⟨x, H1, I1, r1, q1⟩ => ?_
 refine thn (hb pins s1 σ H1 _ I1 q1) fun u s2 ⟨y, H2, I2, r2, q2⟩ => ?_
 exact hf v u s2 x y H2 I2 r1 r2 q2
theorem pe_op {op : Operator} {r : R2} (ho : OpR X (binaryOp op) r) (ha : PE X a ta) (hb : PE X b tb) : PE X (.BinOp a op b pos) (tOp r ta tb) := by
 intro pins s σ H Q I h
 exact wpAny_BinOp (binT ha hb I h fun v u s2 x y H2 I2 rx ry q => ho pins s2 σ H2 x y v u Q I2 rx ry q)
theorem pe_un {op : UnaryOp} {r : V -> Hp -> VK -> Prop} (ho : UnR X (unaryOp op) r) (ha : PE X a ta) : PE X (.UnaryOp op a pos) (tUn r ta) := by
 intro pins s σ H Q I h
 exact UnaryOp_ (thn (ha pins s σ H _ I h) fun v s1 ⟨x, H1, I1, r1, q1⟩ => ho pins s1 σ H1 x v Q I1 r1 q1)
theorem opI {f : Value -> Value -> Sem Value} {C : Int -> Int -> Prop} {g : Int -> Int -> Int}
  (rule : ∀ (i j : Int) (t u : Tok) (s : Shared) (Q : Value -> Shared -> Prop) (E : Value -> Shared -> Prop), C i j -> Q (.int (g i j) s.toks) { s with toks := s.toks + 1 } -> wpAny (model X.prog X.w) X.A (f (.int i t) (.int j u)) Q E s) :
  OpR X f (rI C fun i j => .int (g i j)) := by
 intro pins s σ H x y v u Q I rx ry h
 obtain ⟨i, j, rfl, rfl, hc, q⟩ := h
 obtain ⟨t, rfl⟩ := rx
 obtain ⟨t', rfl⟩ := ry
 exact rule i j t t' s _ _ hc ⟨.int (g i j), H, I.tok _, ⟨_, rfl⟩, q⟩
theorem opI0 {f : Value -> Value -> Sem Value} {g : Int -> Int -> Int}
  (rule : ∀ (i j : Int) (t u : Tok) (s : Shared) (Q : Value -> Shared -> Prop) (E : Value -> Shared -> Prop), Q (.int (g i j) s.toks) { s with toks := s.toks + 1 } -> wpAny (model X.prog X.w) X.A (f (.int i t) (.int j u)) Q E s) :
  OpR X f (rI0 fun i j => .int (g i j)) := by
 intro pins s σ H x y v u Q I rx ry h
 obtain ⟨i, j, rfl, rfl, q⟩ := h
 obtain ⟨t, rfl⟩ := rx
 obtain ⟨t', rfl⟩ := ry
 exact rule i j t t' s _ _ ⟨.int (g i j), H, I.tok _, ⟨_, rfl⟩, q⟩
theorem opB0 {f : Value -> Value -> Sem Value} {g : Int -> Int -> Bool}
  (rule : ∀ (i j : Int) (t u : Tok) (s : Shared) (Q : Value -> Shared -> Prop) (E : Value -> Shared -> Prop), Q (.bool (g i j)) s -> wpAny (model X.prog X.w) X.A (f (.int i t) (.int j u)) Q E s) :
  OpR X f (rI0 fun i j => .bl (g i j)) := by
 intro pins s σ H x y v u Q I rx ry h
 obtain ⟨i, j, rfl, rfl, q⟩ := h
 obtain ⟨t, rfl⟩ := rx
 obtain ⟨t', rfl⟩ := ry
 exact rule i j t t' s _ _ ⟨.bl (g i j), H, I, rfl, q⟩
theorem op_add : OpR X (binaryOp .Add) (rI0 fun i j => .int (i + j)) := opI0 fun _ _ _ _ _ _ _ q => add_int q
theorem op_sub : OpR X (binaryOp .Sub) (rI0 fun i j => .int (i - j)) := opI0 fun _ _ _ _ _ _ _ q => sub_int q
theorem op_modN : OpR X (binaryOp .Mod) (rI (fun _ j => j ≠ 0) fun i j => .int (i.fmod j)) := opI fun _ _ _ _ _ _ _ hc q => mod_int' hc q
theorem unI {f : Value -> Sem Value} {g : Int -> Int}
  (rule : ∀ (i : Int) (t : Tok) (s : Shared) (Q : Value -> Shared -> Prop) (E : Value -> Shared -> Prop), Q (.int (g i) s.toks) { s with toks := s.toks + 1 } -> wpAny (model X.prog X.w) X.A (f (.int i t)) Q E s) :
  UnR X f (rU fun i => .int (g i)) := by
 intro pins s σ H x v Q I rx h
 obtain ⟨i, rfl, q⟩ := h
 obtain ⟨t, rfl⟩ := rx
 exact rule i t s _ _ ⟨.int (g i), H, I.tok _, ⟨_, rfl⟩, q⟩
theorem un_neg : UnR X (unaryOp .USub) (rU fun i => .int (-i)) := unI fun _ _ _ _ _ q => neg_int q
end
section
variable {X : Cx} {a b c : Expr} {ta tb tc : TE} {pos : Pos}
theorem op_lt : OpR X (compareOp .Lt) (rI0 fun i j => .bl (decide (i < j))) := opB0 fun _ _ _ _ _ _ _ q => lt_int q
theorem op_gt : OpR X (compareOp .Gt) (rI0 fun i j => .bl (decide (j < i))) := opB0 fun _ _ _ _ _ _ _ q => gt_int q
theorem op_ge : OpR X (compareOp .GtE) (rI0 fun i j => .bl (decide (j <= i))) := opB0 fun _ _ _ _ _ _ _ q => ge_int q
theorem OpR.or {f : Value -> Value -> Sem Value} {r r' : R2} (h : OpR X f r) (h' : OpR X f r') : OpR X f (fun x y H Q => r x y H Q \/ r' x y H Q) := by
 intro pins s σ H x y v u Q I rx ry q
 rcases q with q | q
 ·exact h pins s σ H x y v u Q I rx ry q
 ·exact h' pins s σ H x y v u Q I rx ry q
theorem Zy (b : Expr) {op : CmpOp} (h : op ≠ .In := by decide) (h2 : op ≠ .NotIn := by decide) : behindInMarks op b = false := by
 have e1 : (op == CmpOp.In) = false := by cases op <;> first | rfl | exact absurd rfl h
 have e2 : (op == CmpOp.NotIn) = false := by cases op <;> first | rfl | exact absurd rfl h2
 cases b <;> simp [behindInMarks, e1, e2]
theorem pe_cmpR {op : CmpOp} {r : R2} (ho : OpR X (compareOp op) r) (ha : PE X a ta) (hb : PE X b tb) (hm : behindInMarks op b = false) : PE X (.Compare a [op] [b] pos) (tOp r ta tb) := by
 intro pins s σ H Q I h
 exact wpAny_Compare1 (binT ha hb I h fun v u s2 x y H2 I2 rx ry q => ho pins s2 σ H2 x y v u Q I2 rx ry q) hm
def tTest (t : TE) : TT := fun σ H Q => t σ H fun x H' => ∃ k, x = .bl k /\ Q k H'
theorem pt_cmpR {op : CmpOp} {r : R2} (ho : OpR X (compareOp op) r) (ha : PE X a ta) (hb : PE X b tb) (hm : behindInMarks op b = false) : PT X (.Compare a [op] [b] pos) (tTest (tOp r ta tb)) := by
 intro pins s σ H Q I h
 refine wpAny_isTrue_Compare1 (thn (ha pins s σ H _ I h) fun v s1 ⟨x, H1, I1, r1, q1⟩ => thn (hb pins s1 σ H1 _ I1 q1) fun u s2 ⟨y, H2, I2, r2, q2⟩ =>
  thn (ho pins s2 σ H2 x y v u _ I2 r1 r2 q2) fun c s3 ⟨z, H3, I3, r3, k, e, q3⟩ => ?_) hm
 subst e
 cases r3
 exact wpAny_truthy_bool ⟨H3, I3, q3⟩
def TruV (K : PySem.W.Frag) (x : V) (H : Hp) (k : Bool) : Prop :=
 match x with
 | .non => k = false
 | .bl b => k = b
 | .int i => k = (i != 0)
 | .str y => y.length <= sizeLine /\ k = ((y.length : Int) != 0)
 | .byt y => y.size <= sizeLine /\ k = ((y.size : Int) != 0)
 | .ref p => (∃ xs, SqL K H p xs /\ k = !xs.isEmpty) \/ (∃ xs, SqT K H p xs /\ k = !xs.isEmpty) \/ ∃ kvs, H p = some (.dK kvs) /\ k = !kvs.isEmpty
 | _ => False
theorem zeg {κ : Type} {kvs : List (κ × V)} {vs : List (κ × Value)} (r : KV kvs vs) : (!vs.isEmpty) = !kvs.isEmpty := by
 cases r <;> rfl
theorem JR {xs : List V} {its : List Value} (r : Vals xs its) : (!its.toArray.isEmpty) = !xs.isEmpty := by
 cases r <;> simp
theorem zbP : (sizeLine : Nat) < 2 ^ 63 := by rw [sizeLine_eq]; decide
theorem tru_ok : TruR X (fun x H Q => ∃ k, TruV X.K x H k /\ Q k H) := by
 intro pins s σ H x v Q I rx h
 obtain ⟨k, e, q⟩ := h
 have hl := zbP
 have hs : sizeLine = 16777216 := sizeLine_eq
 cases x with
 | non =>
  cases rx
  have e' : k = false := e
  subst e'
  exact truthy_none ⟨H, I, q⟩
 | bl b =>
  cases rx
  have e' : k = b := e
  subst e'
  exact wpAny_truthy_bool ⟨H, I, q⟩
 | int i =>
  obtain ⟨t, rfl⟩ := rx
  have e' : k = (i != 0) := e
  subst e'
  exact PySem.P.truthy_int ⟨H, I, q⟩
 | str y =>
  obtain ⟨t, rfl⟩ := rx
  obtain ⟨hy, e'⟩ : y.length <= sizeLine /\ k = ((y.length : Int) != 0) := e
  subst e'
  exact PySem.P.truthy_str (by omega) ⟨H, I.tok _, q⟩
 | byt y =>
  obtain ⟨t, rfl⟩ := rx
  obtain ⟨hy, e'⟩ : y.size <= sizeLine /\ k = ((y.size : Int) != 0) := e
  subst e'
  exact PySem.W.truthy_bytes (by omega) ⟨H, I.tok _, q⟩
 | ref p =>
  cases rx
  have e' : (∃ xs, SqL X.K H p xs /\ k = !xs.isEmpty) \/ (∃ xs, SqT X.K H p xs /\ k = !xs.isEmpty) \/ ∃ kvs, H p = some (.dK kvs) /\ k = !kvs.isEmpty := e
  rcases e' with ⟨xs, hx, e'⟩ | ⟨xs, hx, e'⟩ | ⟨kvs, hx, e'⟩
  ·subst e'
   obtain ⟨its, r, pl, hz⟩ := I.list hx
   have hlen := r.length
   exact wpAny_truthy_list pl.isList (by simp only [List.size_toArray]; omega) ⟨H, I.tok _, by rw [JR r]; exact q⟩
  ·subst e'
   obtain ⟨its, r, pl, hz⟩ := I.tuple hx
   have hlen := r.length
   exact truthy_tuple pl (by simp only [List.size_toArray]; omega) ⟨H, I.tok _, by rw [JR r]; exact q⟩
  ·subst e'
   obtain ⟨hz, hS, vs, r, m⟩ : kvs.length <= sizeLine /\ (p == sysModules) = false /\ ∃ vs, KV kvs vs /\ s.heap.DictOf (zaN X.prog X.w) p vs := I.hok p _ hx
   have hlen : kvs.length = vs.length := Paired.length r
   exact wpAny_truthy_dict hS m (by omega) ⟨H, I.tok _, by rw [zeg r]; exact q⟩
 | _ => exact (show False from e).elim
theorem pt_truth (ha : PE X a ta) (he : ∀ whole, isTrue a X.env whole = (do let v <- whole; standAt a.pos; holding [v] (truthy v))) :
  PT X a (fun σ H Q => ta σ H fun x H' => ∃ k, TruV X.K x H' k /\ Q k H') := by
 intro pins s σ H Q I h
 exact isTrue_plain (thn (ha pins s σ H _ I h) fun v s1 ⟨x, H1, I1, r1, q1⟩ => tru_ok pins s1 σ H1 x v Q I1 r1 q1) (he _)
theorem zaj {x : V} {us : List Value} (r : Vals [x] us) : ∃ u, us = [u] /\ RelV x u := by
 cases r with
 | cons r1 r2 => cases r2; exact ⟨_, rfl, r1⟩
theorem vals2 {x y : V} {us : List Value} (r : Vals [x, y] us) : ∃ u w', us = [u, w'] /\ RelV x u /\ RelV y w' := by
 cases r with
 | cons r1 r2 =>
  cases r2 with
  | cons r3 r4 => cases r4; exact ⟨_, _, rfl, r1, r3⟩
theorem call_abs : Jr X (.builtin "abs") (fun xs H Q => ∃ i, xs = [.int i] /\ Q (.int (if i < 0 then -i else i)) H) := by
 intro pins s σ H xs us Q I r h
 obtain ⟨i, rfl, q⟩ := h
 obtain ⟨u, rfl, t, rfl⟩ := zaj r
 exact call_abs_int fun u tk => ⟨.int (if i < 0 then -i else i), H, I.tok _, ⟨_, rfl⟩, q⟩
end
end L2
namespace L2
open PySem PySem.Spec PyProof.Rows
structure ObjM (h : Heap) (x dx C : Addr) (mA : Str -> Option Value) : Prop where
 obj : h.get? x = some (PySem.W.instObj C dx)
 ns : h.Ns1 dx mA
 ne : dx ≠ x
theorem zfy {h : Heap} {dx : Addr} {mA : Str -> Option Value} (n : h.Ns1 dx mA) : ∃ od, h.get? dx = some od /\ ∀ name, PySem.W.lookIn name od = some (mA name) := by
 obtain ⟨o, es, ep, ho, hd, hk, _, hm⟩ := n
 refine ⟨o, ho, fun name => ?_⟩
 have e := hm name
 unfold nsFind findBy at e
 rw [<- Array.find?_toList] at e
 unfold PySem.W.lookIn
 rw [hd]
 dsimp only
 split
 ·rename_i y q
  rw [q] at e
  exact congrArg some e
 ·rename_i q
  rw [q] at e
  have a : es.toList.any (·.refKey) = false := by
   rw [List.any_eq_false]
   intro y hy
   obtain ⟨z, t, hkey⟩ := hk y (Array.mem_toList_iff.mp hy)
   simp [DictEntry.refKey, hkey]
  have a' : ¬ es.toList.any (·.refKey) = true := by rw [a]; exact Bool.false_ne_true
  rw [if_neg a']
  exact congrArg some e
theorem ObjM.look {h : Heap} {x dx C : Addr} {mA : Str -> Option Value} (I : ObjM h x dx C mA) : ∃ od, PySem.W.InstAt h x (PySem.W.instObj C dx) C (some od) /\ ∀ name, PySem.W.lookIn name od = some (mA name) :=
 let ⟨od, ho, hl⟩ := zfy I.ns
 ⟨od, ⟨I.obj, rfl, rfl, ho⟩, hl⟩
section
variable {prog : Program} {w : World} {A : Around} {E : Value -> Shared -> Prop} {s : Shared} {K : PySem.W.Frag} {x dx C f : Addr} {mA : Str -> Option Value} {name : Str} {v : Value}
theorem get_map {expr : Bool} {Q : Value -> Shared -> Prop} (X : K.In s.heap) (I : ObjM s.heap x dx C mA) (hg : PySem.W.plainGet K C name = true) (hh : PySem.W.hasDictIn K C = true)
  (ha : PySem.W.findIn K (.ref C) name = some none) (hv : mA name = some v) (hv' : PySem.W.handedIn v = true) (h : Q v { s with toks := s.toks + 1 }) :
  wpAny (model prog w) A (getAttr (.ref x) name expr) Q E s := by
 obtain ⟨od, J, hl⟩ := I.look
 exact PySem.W.get_value X J (PySem.W.plainGet_of hg).1 (PySem.W.findObj_own hh ha rfl (by rw [hl, hv])) hv' h
theorem set_map {ns : List Str} {Q : Unit -> Shared -> Prop} (X : K.In s.heap) (I : ObjM s.heap x dx C mA)
  (hs : PySem.W.findIn K (.ref C) "__setattr__" = some (some (.builtin "object.__setattr__"))) (hp : PySem.W.plainOver K C = true) (ht : PySem.W.takerIn K C name = some none) (hh : PySem.W.hasDictIn K C = true)
  (hw : PySem.Within mA ns) (hsz : ns.length <= sizeLine)
  (h : ∀ h', ObjM h' x dx C (fun y => if y = name then some v else mA y) -> Heap.SameBut dx s.heap h' -> Q () { s with heap := h', toks := s.toks + 2 }) :
  wpAny (model prog w) A (setAttr (.ref x) name v) Q E s := by
 obtain ⟨od, J, hl⟩ := I.look
 refine PySem.W.set_plain X J hs (PySem.W.osa_open (s := { s with toks := s.toks + 1 }) (r := none) X J hp ht fun b => ?_)
 obtain ⟨cd, hc, hd'⟩ := PySem.W.any_some hh
 have hx : s.heap.get? x = some ⟨.ref C, some dx, .plain, #[]⟩ := I.obj
 refine wpAny_bind (wpAny_pure (wpAny_bind (wpAny_bind (wpAny_loadPart hx (wpAny_bind (PySem.W.Looks.here (s := { s with toks := s.toks + 1 }) (PySem.W.looks_clsIn X hc) ?_))))))
 rw [hd']
 refine wpAny_pure (a := some dx) (wpAny_bind (wpAny_pure (wpAny_bind ?_)))
 refine wpAny_nsSet1 (s := { s with toks := s.toks + 1 }) I.ns fun h' hn2 hs2 => ?_
 obtain ⟨oD, esD, epD, hoD, hdD, hcD⟩ := hn2.count (PySem.Within.cons name v hw)
 refine wpAny_bind (wpAny_lookBehind hoD (by rw [hdD]; exact pastItsLine_dict (Nat.le_trans hcD (by rw [List.length_cons]; omega))) ?_)
 exact wpAny_pure (h _ ⟨(hs2.2 _ (Ne.symm I.ne)).trans I.obj, hn2, I.ne⟩ hs2)
theorem make_map {R : Result -> Shared -> Prop} {vs : List Value} {kw : List (Str × Value)} (X : K.In s.heap) (hm : PySem.W.makesIn K C = true)
  (hi : PySem.W.findIn K (.ref C) "__init__" = some (some (.ref f))) (hf : PySem.W.typeIn K (.ref f) = some (.type "function"))
  (h : codeAny (model prog w) (A.under (.builtin "type.__call__" ⟨.ref C :: vs, kw⟩)) (.call (.ref f) ⟨.ref (s.heap.objs.size + 1) :: vs, kw⟩) (PySem.W.InitBack (s.heap.objs.size + 1) R)
   { s with heap := (s.heap.push PySem.W.emptyDict).push (PySem.W.instObj C s.heap.objs.size) }) :
  codeAny (model prog w) A (.call (.ref C) ⟨vs, kw⟩) R s := by
 obtain ⟨hh, g, d, t, os⟩ := s
 exact PySem.W.make_core (PySem.W.makes_of X hm) (PySem.W.looks_findIn X hi) (fun self => PySem.W.bind_fn X self hf) (.inl rfl) h
end
def putF (f : Str) (v : V) : List (Str × V) -> List (Str × V)
 | [] => [(f, v)]
 | (g, x) :: r => if g = f then (g, v) :: r else (g, x) :: putF f v r
theorem QI (f g : Str) (v : V) : ∀ fs : List (Str × V), (putF f v fs).lookup g = if g = f then some v else fs.lookup g
 | [] => by
  show List.lookup g [(f, v)] = _
  by_cases h : g = f
  ·have hb : (g == f) = true := beq_iff_eq.mpr h
   simp only [List.lookup, hb, if_pos h]
  ·have hb : (g == f) = false := beq_eq_false_iff_ne.mpr h
   simp only [List.lookup, hb, if_neg h]
 | (k, x) :: r => by
  have ih := QI f g v r
  rw [show putF f v ((k, x) :: r) = (if k = f then (k, v) :: r else (k, x) :: putF f v r) from rfl]
  by_cases hk : k = f
  ·rw [if_pos hk]
   by_cases h : g = k
   ·have hb : (g == k) = true := beq_iff_eq.mpr h
    simp only [List.lookup, hb, if_pos (h.trans hk)]
   ·have hb : (g == k) = false := beq_eq_false_iff_ne.mpr h
    simp only [List.lookup, hb, if_neg (fun e : g = f => h (e.trans hk.symm))]
  ·rw [if_neg hk]
   by_cases h : g = k
   ·have hb : (g == k) = true := beq_iff_eq.mpr h
    simp only [List.lookup, hb, if_neg (fun e : g = f => hk (h.symm.trans e))]
   ·have hb : (g == k) = false := beq_eq_false_iff_ne.mpr h
    simp only [List.lookup, hb]
    exact ih
theorem QL (f : Str) (v : V) : ∀ fs : List (Str × V), f ∈ (putF f v fs).map (·.1) /\ ∀ g, g ∈ fs.map (·.1) -> g ∈ (putF f v fs).map (·.1)
 | [] => ⟨by simp [putF], fun g h => by simp at h⟩
 | (k, x) :: r => by
  obtain ⟨i1, i2⟩ := QL f v r
  rw [show putF f v ((k, x) :: r) = (if k = f then (k, v) :: r else (k, x) :: putF f v r) from rfl]
  by_cases hk : k = f
  ·rw [if_pos hk]
   subst hk
   exact ⟨by simp, fun g h => by simpa using h⟩
  ·rw [if_neg hk]
   refine ⟨?_, fun g h => ?_⟩
   ·rw [List.map_cons]
    exact List.mem_cons_of_mem _ i1
   ·rw [List.map_cons] at h ⊢
    rcases List.mem_cons.mp h with e | e
    ·exact List.mem_cons.mpr (.inl e)
    ·exact List.mem_cons_of_mem _ (i2 g e)
theorem QJ (f : Str) (v : V) : ∀ fs : List (Str × V), (putF f v fs).length <= fs.length + 1
 | [] => by simp [putF]
 | (k, x) :: r => by
  have ih := QJ f v r
  rw [show putF f v ((k, x) :: r) = (if k = f then (k, v) :: r else (k, x) :: putF f v r) from rfl]
  by_cases hk : k = f
  ·rw [if_pos hk, List.length_cons, List.length_cons]; omega
  ·rw [if_neg hk, List.length_cons, List.length_cons]; omega
theorem RelO.some_of {v : V} {o : Option Value} (r : RelO (some v) o) : ∃ u, o = some u /\ RelV v u := by
 cases o with
 | none => exact (show False from r).elim
 | some u => exact ⟨u, rfl, r⟩
theorem zfS {v : V} {u : Value} (r : RelV v u) : PySem.W.handedIn u = true := by
 cases v with
 | non => cases (show u = Value.none from r); rfl
 | bl b => cases (show u = Value.bool b from r); rfl
 | int i => obtain ⟨t, e⟩ := (show ∃ t, u = Value.int i t from r); cases e; rfl
 | str x => obtain ⟨t, e⟩ := (show ∃ t, u = Value.str x t from r); cases e; rfl
 | byt b => obtain ⟨t, e⟩ := (show ∃ t, u = Value.bytes b t from r); cases e; rfl
 | flt b => obtain ⟨t, e⟩ := (show ∃ t, u = Value.float b t from r); cases e; rfl
 | ref a => cases (show u = Value.ref a from r); rfl
 | ty n => cases (show u = Value.type n from r); rfl
section
variable {P : Program} {w : World} {H H' : Hp} {h h' : Heap} {a C dx : Addr} {fs fs' : List (Str × V)}
theorem zfP (hok : HOk P w H h) (e : H a = some (.ins C dx fs)) : ∃ mA, ObjM h a dx C mA /\ (∀ f, RelO (fs.lookup f) (mA f)) /\ PySem.Within mA (fs.map (·.1)) /\ fs.length <= 1000 /\ H dx = some (.own a) := by
 obtain ⟨d, z, ne, ob, mA, n, r, q⟩ := (show Vc P w H h a (.ins C dx fs) from hok a _ e)
 exact ⟨mA, ⟨ob, n, ne⟩, r, q, z, d⟩
end
structure Cls (K : PySem.W.Frag) (C : Addr) : Prop where
 pg : PySem.W.plainGet K C Str.empty = true
 hd : PySem.W.hasDictIn K C = true
 po : PySem.W.plainOver K C = true
 sa : PySem.W.findIn K (.ref C) "__setattr__" = some (some (.builtin "object.__setattr__"))
theorem Cls.get {K : PySem.W.Frag} {C : Addr} (c : Cls K C) (f : Str) : PySem.W.plainGet K C f = true := c.pg
def Wl (K : PySem.W.Frag) (C : Addr) (f : Str) : Prop := PySem.W.findIn K (.ref C) f = some none
theorem Wl.taker {K : PySem.W.Frag} {C : Addr} {f : Str} (n : Wl K C f) : PySem.W.takerIn K C f = some none := by
 unfold PySem.W.takerIn
 rw [show PySem.W.findIn K (.ref C) f = some none from n]
 rfl
section
variable {X : Cx} {pins : List (Addr × Obj)} {σ : St} {H : Hp} {s : Shared} {a C dx : Addr} {fs : List (Str × V)} {f : Str} {v : V} {A : Around} {E : Value -> Shared -> Prop}
theorem zej {b : Bool} {Q : Value -> Shared -> Prop} (I : Inv X pins σ H s) (e : H a = some (.ins C dx fs)) (c : Cls X.K C) (n : Wl X.K C f) (l : fs.lookup f = some v)
  (h : ∀ u s', Inv X pins σ H s' -> RelV v u -> Q u s') : wpAny (model X.prog X.w) A (getAttr (.ref a) f b) Q E s := by
 obtain ⟨mA, O, r, _, _, _⟩ := zfP I.hok e
 obtain ⟨u, hu, ru⟩ := RelO.some_of (v := v) (o := mA f) (by rw [<- l]; exact r f)
 exact get_map I.kIn O (c.get f) c.hd n hu (zfS ru) (h u _ (I.tok _) ru)
theorem zd2 {y : V} {u : Value} {Q : Unit -> Shared -> Prop} (I : Inv X pins σ H s) (e : H a = some (.ins C dx fs)) (c : Cls X.K C) (n : Wl X.K C f) (hl : fs.length < 1000) (ry : RelV y u)
  (h : ∀ s', Inv X pins σ (upd H a (.ins C dx (putF f y fs))) s' -> Q () s') : wpAny (model X.prog X.w) A (setAttr (.ref a) f u) Q E s := by
 obtain ⟨mA, O, r, wi, _, ho⟩ := zfP I.hok e
 have hz : (fs.map (·.1)).length <= sizeLine := by rw [List.length_map, sizeLine_eq]; omega
 refine set_map I.kIn O c.sa c.po n.taker c.hd wi hz fun h' O' sb => h _ ?_
 have hd : ∃ o, h'.get? dx = some o := let ⟨o, _, _, e', _⟩ := O'.ns; ⟨o, e'⟩
 refine I.write (x := a) (e := dx) (by rw [e]; exact True.intro) (.inr ho) (fun b q hb z => (sb.2 b hb).trans z) hd ?_
 refine ⟨by rw [Zs O.ne]; exact ho, ?_, O.ne, O'.obj, _, O'.ns, fun g => ?_, fun g hg => ?_⟩
 ·have := QJ f y fs; omega
 ·show RelO ((putF f y fs).lookup g) (if g = f then some u else mA g)
  rw [QI]
  by_cases q : g = f
  ·rw [if_pos q, if_pos q]; exact ry
  ·rw [if_neg q, if_neg q]; exact r g
 ·by_cases q : g = f
  ·rw [q]; exact (QL f y fs).1
  ·refine (QL f y fs).2 g (wi g fun z => hg ?_)
   show (if g = f then some u else mA g) = none
   rw [if_neg q]; exact z
theorem Inv.made (I : Inv X pins σ H s) : Inv X pins σ (upd (upd H s.heap.objs.size (.own (s.heap.objs.size + 1))) (s.heap.objs.size + 1) (.ins C s.heap.objs.size []))
  { s with heap := (s.heap.push PySem.W.emptyDict).push (PySem.W.instObj C s.heap.objs.size) } := by
 have e1 : (s.heap.push PySem.W.emptyDict).get? s.heap.objs.size = some PySem.W.emptyDict := Heap.get?_push_size s.heap rfl
 have e2 : ((s.heap.push PySem.W.emptyDict).push (PySem.W.instObj C s.heap.objs.size)).get? (s.heap.objs.size + 1) = some (PySem.W.instObj C s.heap.objs.size) := by
  have := Heap.get?_push_size (s.heap.push PySem.W.emptyDict) (o := PySem.W.instObj C s.heap.objs.size) rfl
  rwa [Heap.size_push] at this
 have e3 : (s.heap.push PySem.W.emptyDict).Ns s.heap.objs.size (fun _ => none) := ⟨PySem.W.emptyDict, #[], _, e1, rfl, (fun e he => absurd he (by simp)), fun _ => rfl⟩
 have I1 := I.laid (a := s.heap.objs.size) (o := .own (s.heap.objs.size + 1)) (h' := s.heap.push PySem.W.emptyDict) (t' := s.toks) (fun b u q => Heap.get?_push_of_some _ q) (Nat.le_refl _) ⟨_, e1⟩
 refine I1.laid (a := s.heap.objs.size + 1) (o := .ins C s.heap.objs.size []) (t' := s.toks) (fun b u q => Heap.get?_push_of_some _ q) (Nat.le_of_eq (Heap.size_push _ _)) ?_
 have ne : s.heap.objs.size ≠ s.heap.objs.size + 1 := Nat.ne_of_lt (Nat.lt_succ_self _)
 refine ⟨by rw [Zs ne, Zp], Nat.zero_le _, ne, e2, fun _ => none, (Heap.Ns1.of_empty e3).at fun o q => Heap.get?_push_of_some _ q, fun _ => True.intro, fun y hy => absurd rfl hy⟩
theorem attr_of {prog : Program} {w : World} {env : Env} {e : Expr} {f : Str} {pos : Pos} {s : Shared} {Q : Value -> Shared -> Prop} (hb : attributeBase e f env (eval e env) = eval e env)
  (h : wpAny (model prog w) A (eval e env) (fun o s₁ => wpAny (model prog w) A (getAttr o f true) Q E s₁) E s) : wpAny (model prog w) A (eval (.Attribute e f pos) env) Q E s :=
 Attribute_any_ h (by rw [arm_eval_Attribute, hb])
end
def tFld (K : PySem.W.Frag) (ta : TE) (f : Str) : TE := fun σ H Q => ta σ H fun x H1 => ∃ a C dx fs v, x = .ref a /\ H1 a = some (.ins C dx fs) /\ Cls K C /\ Wl K C f /\ fs.lookup f = some v /\ Q v H1
def sFld (K : PySem.W.Frag) (ta tv : TE) (f : Str) : TS := fun D σ H => tv σ H fun y H1 => ta σ H1 fun x H2 => ∃ a C dx fs, x = .ref a /\ H2 a = some (.ins C dx fs) /\ Cls K C /\ Wl K C f /\ fs.length < 1000 /\
 D.nx σ (upd H2 a (.ins C dx (putF f y fs)))
section
variable {X : Cx} {o e value : Expr} {f : Str} {pos pos' tpos : Pos} {ta tv : TE}
theorem pe_fld (he : PE X e ta) (hb : attributeBase e f X.env (eval e X.env) = eval e X.env) : PE X (.Attribute e f pos) (tFld X.K ta f) := by
 intro pins s σ H Q I h
 refine attr_of hb (thn (he pins s σ H _ I h) fun u s1 ⟨x, H1, I1, rx, a, C, dx, fs, v, ex, ea, c, n, l, q⟩ => ?_)
 subst ex
 obtain rfl : u = Value.ref a := rx
 exact zej I1 ea c n l fun u' s2 I2 ru => ⟨v, H1, I2, ru, q⟩
theorem zfi (ha : PE X o ta) (hv : PE X value tv) (hs : swapsWith value (some (.Attribute o f pos')) pos.line X.env = pure false) : PS X (.Assign [.Attribute o f pos'] value pos) (sFld X.K ta tv f) := by
 intro pins s σ H D I h
 refine plainObj_wpAny_Assign_Attribute (thn (hv pins s σ H _ I h) fun u s1 ⟨y, H1, I1, ry, q⟩ => thn (ha pins s1 σ H1 _ I1 q) fun ov s2 ⟨x, H2, I2, rx, a, C, dx, fs, ex, ea, c, n, l, q2⟩ => ?_) hs
 subst ex
 obtain rfl : ov = Value.ref a := rx
 exact zd2 I2 ea c n l ry fun s3 I3 => ⟨σ, _, I3, q2⟩
end
end L2
namespace L2
open PySem PySem.Spec PyProof.Rows
structure Room (k : Nat) (A : Around) : Prop where
 hd : A.handled = none
 dp : A.depth + 3 * k + 5 < recursionLimit
 un : A.units + 16 * k + 200 < cLine
theorem Room.mono {j k : Nat} {A : Around} (r : Room k A) (h : j <= k) : Room j A := ⟨r.hd, by have := r.dp; omega, by have := r.un; omega⟩
theorem Room.deeper {k : Nat} {A : Around} (r : Room (k + 1) A) (env : Env) : Room k (A.deeper env) :=
 ⟨r.hd, by have := r.dp; show A.depth + 1 + 3 * k + 5 < _; omega, by have := r.un; show A.units + 3 + 16 * k + 200 < _; omega⟩
theorem Room.in1 {k : Nat} {A : Around} (r : Room (k + 1) A) : Room k A.in1 :=
 ⟨r.hd, by have := r.dp; show A.depth + 3 * k + 5 < _; omega, by have := r.un; show A.units + 1 + 16 * k + 200 < _; omega⟩
theorem zee {A : Around} {C : Addr} {us : List Value} {kw : List (Str × Value)} : (A.under (.builtin "type.__call__" ⟨.ref C :: us, kw⟩)).depth = A.depth + 1 := by
 first | rfl | simp [Around.under, Code.weight, Code.isCreation, Code.isGuard, Code.isCaller, Code.frames, Code.isFrame, guardIds]
theorem zed {A : Around} {C : Addr} {us : List Value} {kw : List (Str × Value)} : (A.under (.builtin "type.__call__" ⟨.ref C :: us, kw⟩)).units = A.units + 1 := by
 first | rfl | simp [Around.under, Code.cUnits, Code.frames, Code.isFrame]
theorem Room.make {k : Nat} {A : Around} (r : Room (k + 1) A) (C : Addr) (us : List Value) (kw : List (Str × Value)) : Room k (A.under (.builtin "type.__call__" ⟨.ref C :: us, kw⟩)) :=
 ⟨r.hd, by have := r.dp; rw [zee]; omega, by have := r.un; rw [zed]; omega⟩
theorem Room.depth {k : Nat} {A : Around} (r : Room k A) : A.depth < recursionLimit := by have := r.dp; omega
theorem Room.units {k : Nat} {A : Around} (r : Room k A) : A.units + 64 < cLine := by have := r.un; omega
def tNil : TA := fun _ H Q => Q [] H
def tCons (ta : TE) (tr : TA) : TA := fun σ H Q => ta σ H fun x H1 => tr σ H1 fun xs H2 => Q (x :: xs) H2
section
variable {X : Cx} {e : Expr} {es : List Expr} {te : TE} {t : TA} {pos : Pos}
theorem XM : PA X [] tNil := fun _ _ _ _ H Q I h => Calls.spliced_nil ⟨[], H, I, .nil, h⟩
theorem Yk (ha : PE X e te) (hr : PA X es t) (hs : starEach (e :: es) X.env = (false, eval e X.env) :: starEach es X.env := by rfl) : PA X (e :: es) (tCons te t) := by
 intro pos pins s σ H Q I h
 rw [hs]
 show wpAny _ _ (spliced ((false, eval e X.env) :: backTo pos (starEach es X.env))) _ _ s
 refine Calls.spliced_cons (thn (ha pins s σ H _ I h) fun u s1 ⟨x, H1, I1, r1, q1⟩ => ?_)
 exact thn (hr pos pins s1 σ H1 _ I1 q1) fun us s2 ⟨xs, H2, I2, r2, q2⟩ => ⟨x :: xs, H2, I2, .cons r1 r2, q2⟩
def tTup (t : TA) : TE := fun σ H Q => t σ H fun xs H1 => xs.length <= sizeLine /\ ∀ p, H1 p = none -> Q (.ref p) (upd H1 p (.tup xs))
def tLst (t : TA) : TE := fun σ H Q => t σ H fun xs H1 => xs.length <= sizeLine /\ ∀ p, H1 p = none -> Q (.ref p) (upd H1 p (.lst xs))
theorem pe_tup {x1} (h : PA X es t) : PE X (.Tuple es x1 pos) (tTup t) := by
 intro pins s σ H Q I hq
 refine wpAny_Tuple_spliced (thn (h pos pins s σ H _ I hq) fun us s1 ⟨xs, H1, I1, r, z, q⟩ => ⟨by rw [<- r.length]; exact z, ?_⟩)
 have hf : H1 s1.heap.objs.size = none := I1.hok.fresh (Nat.le_refl _)
 refine ⟨.ref s1.heap.objs.size, upd H1 s1.heap.objs.size (.tup xs), I1.laid (t' := s1.toks) (fun b u e => Heap.get?_push_of_some _ e) (Nat.le_refl _) ?_, rfl, q _ hf⟩
 exact ⟨z, us, r, ⟨_, Heap.get?_push_size _ rfl, rfl, _, rfl⟩⟩
theorem pe_lst (h : PA X es t) : PE X (.List es pos) (tLst t) := by
 intro pins s σ H Q I hq
 refine wpAny_List_spliced (thn (h pos pins s σ H _ I hq) fun us s1 ⟨xs, H1, I1, r, z, q⟩ => ⟨by rw [<- r.length]; exact z, ?_⟩)
 have hf : H1 s1.heap.objs.size = none := I1.hok.fresh (Nat.le_refl _)
 refine ⟨.ref s1.heap.objs.size, upd H1 s1.heap.objs.size (.lst xs), I1.laid (t' := s1.toks) (fun b u e => Heap.get?_push_of_some _ e) (Nat.le_refl _) ?_, rfl, q _ hf⟩
 exact ⟨z, us, 0, r, Heap.get?_push_size _ rfl⟩
end
abbrev Sp := List V -> Hp -> VK -> XK -> Prop
abbrev CXT := List Env -> Hp -> Shared -> XK -> Value -> Shared -> Prop
structure Env0 (P : Program) (w : World) (K : PySem.W.Frag) (mg : Str -> Option Value) (base : Heap) (A : Around) (outer : List Env) (s : Shared) (H : Hp) : Prop where
 frames : A.frames = some outer
 mod : Mod K mg base
 bs : ∀ b o, base.get? b = some o -> s.heap.get? b = some o /\ H b = none
 bsz : base.objs.size <= s.heap.objs.size
 funs : s.heap.FunFrames base outer
 frf : ∀ b ∈ frs outer, H b = none
 hok : HOk P w H s.heap
 bare : AllBare s.gens
def CE (outer : List Env) (P : Program) (w : World) (H : Hp) (s : Shared) (Q : VK) (u : Value) (s' : Shared) : Prop :=
 ∃ v H', s'.os = s.os /\ AllBare s'.gens /\ Un (frs outer) [] H H' s.heap s'.heap /\ HOk P w H' s'.heap /\ RelV v u /\ Q v H'
def CR (CX : CXT) (outer : List Env) (P : Program) (w : World) (H : Hp) (s : Shared) (Q : VK) (E : XK) (r : Result) (s' : Shared) : Prop :=
 match r with
 | .ok (.ret u) => CE outer P w H s Q u s'
 | .ok _ => False
 | .error e => CX outer H s E e s'
structure FnOk (P : Program) (w : World) (K : PySem.W.Frag) (mg : Str -> Option Value) (base : Heap) (CX : CXT) (k : Nat) (f : Addr) (fd : FuncData) (ps : List Str) (sp : Sp) : Prop where
 len : ∀ vs H Q E, sp vs H Q E -> vs.length = ps.length
 run : ∀ (A : Around) (outer : List Env) (s : Shared) (H : Hp) (args : Args) (us : List Value) (vs : List V) (Q : VK) (E : XK), Room k A -> Env0 P w K mg base A outer s H -> BindsTo s fd args (ps.zip us) -> Vals vs us -> sp vs H Q E ->
  codeAny (model P w) A (.call (.ref f) args) (CR CX outer P w H s Q E) s
theorem FnOk.mono {P : Program} {w : World} {K : PySem.W.Frag} {mg : Str -> Option Value} {base : Heap} {CX : CXT} {j k : Nat} {f : Addr} {fd : FuncData} {ps : List Str} {sp : Sp} (F : FnOk P w K mg base CX j f fd ps sp) (h : j <= k) :
  FnOk P w K mg base CX k f fd ps sp := ⟨F.len, fun A outer s H args us vs Q E hr => F.run A outer s H args us vs Q E (hr.mono h)⟩
theorem FnOk.imp {P : Program} {w : World} {K : PySem.W.Frag} {mg : Str -> Option Value} {base : Heap} {CX : CXT} {k : Nat} {f : Addr} {fd : FuncData} {ps : List Str} {sp sp' : Sp} (F : FnOk P w K mg base CX k f fd ps sp)
  (h : ∀ vs H Q E, sp' vs H Q E -> sp vs H Q E) : FnOk P w K mg base CX k f fd ps sp' :=
 ⟨fun vs H Q E q => F.len vs H Q E (h _ _ _ _ q), fun A outer s H args us vs Q E hr he hb hv hs => F.run A outer s H args us vs Q E hr he hb hv (h _ _ _ _ hs)⟩
theorem Env0.make {P : Program} {w : World} {K : PySem.W.Frag} {mg : Str -> Option Value} {base : Heap} {A : Around} {outer : List Env} {s : Shared} {H : Hp} (e : Env0 P w K mg base A outer s H) (C : Addr) (us : List Value) (kw : List (Str × Value)) :
  Env0 P w K mg base (A.under (.builtin "type.__call__" ⟨.ref C :: us, kw⟩)) outer s H := ⟨by first | exact e.frames | (simpa [Around.under, Code.envs, Code.isFrame, pushEnvs] using e.frames), e.mod, e.bs, e.bsz, e.funs, e.frf, e.hok, e.bare⟩
section
variable {X : Cx} {pins : List (Addr × Obj)} {σ : St} {H : Hp} {s s' : Shared}
theorem Inv.env0 (I : Inv X pins σ H s) : Env0 X.prog X.w X.K X.mg X.base X.A X.stack s H :=
 ⟨I.ok.frames, I.ok.mod, I.bs, Nat.le_trans I.ok.bsz I.sz, I.stack, I.stkFree, I.hok, I.bare⟩
theorem Inv.after {Q : VK} {u : Value} (I : Inv X pins σ H s) (h : CE X.stack X.prog X.w H s Q u s') : EP X pins σ Q u s' := by
 obtain ⟨v, H', os, bare, un, hok, r, q⟩ := h
 obtain ⟨hh, g, d, t, os'⟩ := s'
 obtain rfl : os' = s.os := os
 exact ⟨v, H', I.call (h' := hh) (g' := g) (d' := d) (t' := t) (ch := []) un hok bare (fun b z => absurd z (by simp)), r, q⟩
end
def tCall (sp : Sp) (dvs : List V) (E : XK) (t : TA) : TE := fun σ H Q => t σ H fun vs H1 => sp (vs ++ dvs) H1 Q E
def tMake (C : Addr) (sp : Sp) (dvs : List V) (E : XK) (t : TA) : TE := fun σ H Q => t σ H fun vs H1 => ∀ x dx, H1 x = none -> H1 dx = none -> dx ≠ x ->
 sp (.ref x :: (vs ++ dvs)) (upd (upd H1 dx (.own x)) x (.ins C dx [])) (fun v H2 => v = .non /\ Q (.ref x) H2) E
def ZF (K : PySem.W.Frag) (fd : FuncData) (ps : List Str) (ds : List Value) : Prop :=
 ∀ (s : Shared) (us : List Value), K.In s.heap -> (us ++ ds).length = ps.length -> BindsTo s fd ⟨us, []⟩ (ps.zip (us ++ ds))
theorem ZF.all {K : PySem.W.Frag} {fd : FuncData} {ps : List Str} (h : ∀ us : List Value, us.length = ps.length -> bindArgs fd ⟨us, []⟩ = pure (ps.zip us)) : ZF K fd ps [] := fun s us _ hl => by
 rw [List.append_nil] at hl ⊢
 exact .of_eq (h us hl)
def Jq (CX : CXT) (X : Cx) (E : XK) : Prop := ∀ (pins : List (Addr × Obj)) (σ : St) (H : Hp) (s : Shared) (e : Value) (s' : Shared), Inv X pins σ H s -> CX X.stack H s E e s' -> X.xe e s'
section
variable {X : Cx} {CX : CXT} {k : Nat} {f C : Addr} {fd : FuncData} {ps : List Str} {sp : Sp} {dvs : List V} {ds : List Value} {E : XK} {x m : Str} {p pos apos : Pos} {e o : Expr} {es : List Expr} {ta : TE} {t : TA}
theorem run_fn {pins : List (Addr × Obj)} {σ : St} {H : Hp} {s : Shared} {Q : VK} {us : List Value} {vs : List V} (F : FnOk X.prog X.w X.K X.mg X.base CX k f fd ps sp) (hr : Room k X.A) (hb : ZF X.K fd ps ds) (hd : Vals dvs ds) (hx : Jq CX X E)
  (I : Inv X pins σ H s) (r : Vals vs us) (h : sp (vs ++ dvs) H Q E) : wpAny (model X.prog X.w) X.A (call (.ref f) us) (EP X pins σ Q) X.xe s := by
 have r2 : Vals (vs ++ dvs) (us ++ ds) := r.append hd
 have hl : (us ++ ds).length = ps.length := by rw [<- r2.length]; exact F.len _ _ _ _ h
 refine wpAny_call (codeAny_mono (F.run X.A X.stack s H ⟨us, []⟩ (us ++ ds) (vs ++ dvs) Q E hr I.env0 (hb s us I.kIn hl) r2 h) fun r s' hq => ?_)
 cases r with
 | error e => exact hx pins σ H s e s' I hq
 | ok fl =>
  cases fl with
  | ret u => exact I.after hq
  | next => exact False.elim hq
  | brk => exact False.elim hq
  | cont => exact False.elim hq
theorem zfo (F : FnOk X.prog X.w X.K X.mg X.base CX k f fd ps sp) (hr : Room k X.A) (hg : Gl X x) (hm : X.mg x = some (.ref f)) (hk : PySem.W.keepIn X.K (.ref f) = true) (hb : ZF X.K fd ps ds) (hd : Vals dvs ds) (hx : Jq CX X E)
  (ha : PA X (e :: es) t) (hdb : (x == ("__debug__" : Str)) = false := by decide) (he : starEach (e :: es) X.env = (false, eval e X.env) :: starEach es X.env := by rfl) (hpl : (backTo pos (starEach es X.env)).any (·.1) = false := by rfl) :
  PE X (.Call (.Name x p) (e :: es) [] pos) (tCall sp dvs E t) := by
 intro pins s σ H Q I h
 refine wpAny_Call_Name_kw (zcw I hg hm ?_ hdb)
 refine PySem.W.callWith_K (h₀ := X.base) I.ok.mod.kin hk (thn (ha pos pins s σ H _ I h) fun us s1 ⟨vs, H1, I1, r, q⟩ => ⟨I1.kIn, ?_⟩) he hpl
 exact run_fn F hr hb hd hx I1 r q
structure Mk (K : PySem.W.Frag) (C f : Addr) : Prop where
 makes : PySem.W.makesIn K C = true
 init : PySem.W.findIn K (.ref C) "__init__" = some (some (.ref f))
 fn : PySem.W.isFn K (.ref f) = true
 kp : PySem.W.keepIn K (.ref C) = true
theorem run_make {pins : List (Addr × Obj)} {σ : St} {H : Hp} {s : Shared} {Q : VK} {us : List Value} {vs : List V} (M : Mk X.K C f) (F : FnOk X.prog X.w X.K X.mg X.base CX k f fd ps sp) (hr : Room (k + 1) X.A) (hb : ZF X.K fd ps ds) (hd : Vals dvs ds)
  (hx : Jq CX X E) (I : Inv X pins σ H s) (r : Vals vs us)
  (h : ∀ x dx, H x = none -> H dx = none -> dx ≠ x -> sp (.ref x :: (vs ++ dvs)) (upd (upd H dx (.own x)) x (.ins C dx [])) (fun v H2 => v = .non /\ Q (.ref x) H2) E) :
  wpAny (model X.prog X.w) X.A (call (.ref C) us) (EP X pins σ Q) X.xe s := by
 have hq := h (s.heap.objs.size + 1) s.heap.objs.size (I.hok.fresh (Nat.le_succ _)) (I.hok.fresh (Nat.le_refl _)) (Nat.ne_of_lt (Nat.lt_succ_self _))
 have I2 := Inv.made (C := C) I
 have r2 : Vals (V.ref (s.heap.objs.size + 1) :: (vs ++ dvs)) (Value.ref (s.heap.objs.size + 1) :: (us ++ ds)) := .cons rfl (r.append hd)
 have hl : (Value.ref (s.heap.objs.size + 1) :: us ++ ds).length = ps.length := by
  have e := r2.length
  rw [F.len _ _ _ _ hq] at e
  exact e.symm
 refine wpAny_call (make_map (f := f) I.kIn M.makes M.init (beq_iff_eq.mp M.fn) (codeAny_mono (F.run _ X.stack _ _ ⟨Value.ref (s.heap.objs.size + 1) :: us, []⟩ (Value.ref (s.heap.objs.size + 1) :: (us ++ ds)) _ _ E (hr.make C us [])
  (I2.env0.make C us []) (hb _ (Value.ref (s.heap.objs.size + 1) :: us) I2.kIn hl) r2 hq) fun r s' hq' => ?_))
 cases r with
 | error e => exact hx pins σ _ _ e s' I2 hq'
 | ok fl =>
  cases fl with
  | ret u =>
   obtain ⟨v, H', I3, rv, ev, q3⟩ := I2.after hq'
   subst ev
   exact ⟨rv, ⟨V.ref (s.heap.objs.size + 1), H', I3, rfl, q3⟩⟩
  | next => exact False.elim hq'
  | brk => exact False.elim hq'
  | cont => exact False.elim hq'
theorem pe_make (M : Mk X.K C f) (F : FnOk X.prog X.w X.K X.mg X.base CX k f fd ps sp) (hr : Room (k + 1) X.A) (hg : Gl X x) (hm : X.mg x = some (.ref C)) (hb : ZF X.K fd ps ds) (hd : Vals dvs ds) (hx : Jq CX X E)
  (ha : PA X (e :: es) t) (hdb : (x == ("__debug__" : Str)) = false := by decide) (he : starEach (e :: es) X.env = (false, eval e X.env) :: starEach es X.env := by rfl) (hpl : (backTo pos (starEach es X.env)).any (·.1) = false := by rfl) :
  PE X (.Call (.Name x p) (e :: es) [] pos) (tMake C sp dvs E t) := by
 intro pins s σ H Q I h
 refine wpAny_Call_Name_kw (zcw I hg hm ?_ hdb)
 refine PySem.W.callWith_K (h₀ := X.base) I.ok.mod.kin M.kp (thn (ha pos pins s σ H _ I h) fun us s1 ⟨vs, H1, I1, r, q⟩ => ⟨I1.kIn, ?_⟩) he hpl
 exact run_make M F hr hb hd hx I1 r q
end
def PK (X : Cx) (kws : List Keyword) (t : TA) : Prop :=
 ∀ (pos : Pos) (pins : List (Addr × Obj)) (s : Shared) (σ : St) (H : Hp) (Q : List V -> Hp -> Prop), Inv X pins σ H s -> t σ H Q -> wpAny (model X.prog X.w) X.A (evalAll ((backToKw pos (keywordEach kws X.env)).map (·.2))) (AP X pins σ Q) X.xe s
section
variable {X : Cx} {CX : CXT} {k : Nat} {f C : Addr} {fd : FuncData} {ps ks : List Str} {sp : Sp} {E : XK} {x m : Str} {p pos apos kpos : Pos} {e o : Expr} {es : List Expr} {kws : List Keyword} {te ta : TE} {t tk : TA} {nm : Option Str}
theorem pk_nil : PK X [] tNil := fun _ _ _ _ H Q I h => wpAny_evalAll_nil ⟨[], H, I, .nil, h⟩
theorem zfl (ha : PE X e te) (hr : PK X kws t) : PK X (⟨nm, e, kpos⟩ :: kws) (tCons te t) := by
 intro pos pins s σ H Q I h
 show wpAny _ _ (evalAll ((do let v <- eval e X.env; standAt pos; pure v) :: (backToKw pos (keywordEach kws X.env)).map (·.2))) _ _ s
 refine wpAny_evalAll_cons (wpAny_bind (thn (ha pins s σ H _ I h) fun u s1 ⟨x, H1, I1, r1, q1⟩ => wpAny_bind (wpAny_standAt (wpAny_pure ?_))))
 exact thn (hr pos pins s1 σ H1 _ I1 q1) fun us s2 ⟨xs, H2, I2, r2, q2⟩ => ⟨x :: xs, H2, I2, .cons r1 r2, q2⟩
variable {g : List Value -> List Value -> List Value} {gV : List V -> List V -> List V}
end
structure FnScope (N P : List Str) (sc : Scope) : Prop where
 kind : sc.kind = .function
 co : sc.isCoroutine = false
 gen : sc.isGenerator = false
 nd : N.Nodup
 pre : N.take P.length = P
 par : ∀ x ∈ P, sc.names.lookup x = some .local \/ sc.names.lookup x = some .cell
 nofree : ∀ y ∈ sc.names, y.2 ≠ .free
theorem zbZ {kindOf : Str -> Option NameKind} {x : Str} : ∀ {binds : List (Str × Value)} {m : Str -> Option Value}, (∀ v, (x, v) ∉ binds) -> bindL kindOf binds m x = m x
 | [], _, _ => rfl
 | (n, v) :: r, m, h => by
  unfold bindL
  rw [zbZ fun w hw => h w (List.mem_cons_of_mem _ hw)]
  split
  ·have : x ≠ n := by rintro rfl; exact h v List.mem_cons_self
   simp [this]
  ·rfl
theorem zb1 {kindOf : Str -> Option NameKind} {x : Str} : ∀ {binds : List (Str × Value)} {m : Str -> Option Value}, (∀ v, (x, v) ∉ binds) -> bindC kindOf binds m x = m x
 | [], _, _ => rfl
 | (n, v) :: r, m, h => by
  unfold bindC
  rw [zb1 fun w hw => h w (List.mem_cons_of_mem _ hw)]
  split
  ·rfl
  ·have : x ≠ n := by rintro rfl; exact h v List.mem_cons_self
   simp [this]
theorem zb0 {kindOf : Str -> Option NameKind} {x : Str} {v : Value} : ∀ {P : List Str} {vs : List Value} {i : Nat} {m : Str -> Option Value}, P.Nodup -> P[i]? = some x -> vs[i]? = some v -> kindOf x = some .local ->
  bindL kindOf (P.zip vs) m x = some v
 | [], _, _, _, _, h, _, _ => by simp at h
 | _ :: _, [], _, _, _, _, h, _ => by simp at h
 | p :: P, w :: vs, 0, m, nd, h1, h2, hk => by
  simp at h1 h2; subst h1; subst h2
  show bindL kindOf ((p, w) :: P.zip vs) m p = _
  unfold bindL
  rw [zbZ fun v hv => (List.nodup_cons.mp nd).1 (List.of_mem_zip hv).1, if_pos hk]
  simp
 | p :: P, w :: vs, i + 1, m, nd, h1, h2, hk => by
  show bindL kindOf ((p, w) :: P.zip vs) m x = _
  unfold bindL
  exact zb0 (i := i) (List.nodup_cons.mp nd).2 (by simpa using h1) (by simpa using h2) hk
theorem zb2 {kindOf : Str -> Option NameKind} {x : Str} {v : Value} : ∀ {P : List Str} {vs : List Value} {i : Nat} {m : Str -> Option Value}, P.Nodup -> P[i]? = some x -> vs[i]? = some v -> kindOf x ≠ some .local ->
  bindC kindOf (P.zip vs) m x = some v
 | [], _, _, _, _, h, _, _ => by simp at h
 | _ :: _, [], _, _, _, _, h, _ => by simp at h
 | p :: P, w :: vs, 0, m, nd, h1, h2, hk => by
  simp at h1 h2; subst h1; subst h2
  show bindC kindOf ((p, w) :: P.zip vs) m p = _
  unfold bindC
  rw [zb1 fun v hv => (List.nodup_cons.mp nd).1 (List.of_mem_zip hv).1, if_neg hk]
  simp
 | p :: P, w :: vs, i + 1, m, nd, h1, h2, hk => by
  show bindC kindOf ((p, w) :: P.zip vs) m x = _
  unfold bindC
  exact zb2 (i := i) (List.nodup_cons.mp nd).2 (by simpa using h1) (by simpa using h2) hk
def start (N : List Str) (vs : List V) : St := vs.map some ++ List.replicate (N.length - vs.length) none
def cxOf (CX : CXT) (P : Program) (w : World) (K : PySem.W.Frag) (mg : Str -> Option Value) (base : Heap) (N : List Str) (qual : Str) (scope : Scope) (f : Addr) (cd : Value) (A : Around) (outer : List Env) (s : Shared) (H : Hp) (E : XK) : Cx where
 prog := P
 w := w
 K := K
 mg := mg
 base := base
 A := A.deeper (envOfC qual scope s.heap.objs.size f cd)
 N := N
 s₀ := s
 H₀ := H
 env := envOfC qual scope s.heap.objs.size f cd
 outer := outer
 stack := envOfC qual scope s.heap.objs.size f cd :: outer
 ex := []
 calm := true
 fn := fun _ => true
 pn := []
 xe := fun e s' => wpAny (model P w) (A.deeper (envOfC qual scope s.heap.objs.size f cd)) (leaving (envOfC qual scope s.heap.objs.size f cd) e) (fun _ s'' => CX outer H s E e s'') (fun e' s'' => CX outer H s E e' s'') s'
theorem zdR {sc : Scope} {n : Nat} {x : Str} (h : sc.names.lookup x = some .cell) : ∃ c, (cellsFrom n sc.names []).lookup x = some c := by
 have q := PySem.W.cellsFrom_some sc.names n [] (.inl h)
 exact Option.isSome_iff_exists.mp q
theorem zfO {CX : CXT} {P : Program} {w : World} {K : PySem.W.Frag} {mg : Str -> Option Value} {base : Heap} {N ps : List Str} {qual : Str} {scope : Scope} {f : Addr} {cd : Value} {A : Around} {outer : List Env} {s s1 : Shared} {H : Hp} {E : XK} {us : List Value} {vs : List V}
  (S : FnScope N ps scope) (hd : A.handled = none) (e0 : Env0 P w K mg base A outer s H) (hl : vs.length = ps.length) (r : Vals vs us)
  (x : InCallC s s.heap.objs.size (bindL (envOfC qual scope s.heap.objs.size f cd).kindOf (ps.zip us) fun _ => none) (cellsFrom (s.heap.objs.size + 1) scope.names []) (bindC (envOfC qual scope s.heap.objs.size f cd).kindOf (ps.zip us) fun _ => none) s1) :
  Inv (cxOf CX P w K mg base N qual scope f cd A outer s H E) [] (start N vs) H s1 := by
 have hpl : ps.length <= N.length := by have := congrArg List.length S.pre; rw [List.length_take] at this; omega
 obtain ⟨h1, tk, rfl, hk⟩ := x.done
 have noA : ∀ b : Addr, b ∉ (cxOf CX P w K mg base N qual scope f cd A outer s H E).ex := fun b z => absurd (show b ∈ ([] : List Addr) from z) (by simp)
 refine ⟨⟨e0.mod, S.kind, rfl, rfl, Nat.le_refl _, fun y z c h1 h2 => ?_, fun y hy => ?_, fun y c _ h => ?_, fun _ => hd, Around.frames_deeper e0.frames, .inr ⟨rfl, rfl⟩, fun b z => absurd z (noA b), e0.bs, e0.bsz, fun b _ _ => noA b, fun b z => absurd z (noA b), e0.funs, e0.frf⟩,
  rfl, e0.bare, Un.kept hk, ⟨_, x.toInCall.ns, fun i y v h1 h2 h3 => ?_⟩, fun y c h => ⟨_, x.cell y c h⟩, e0.hok.fresh (Nat.le_refl _), fun y c h => ?_, fun p hp => absurd (show p ∈ ([] : List (Addr × Obj)) from hp) (by simp), e0.hok.kept hk, ?_⟩
 ·exact name_of_addr x.apart (PySem.mem_of_lookup h1) (PySem.mem_of_lookup h2)
 ·have hy : scope.names.lookup y = some .cell \/ scope.names.lookup y = some .free := hy
  rcases hy with hy | hy
  ·exact zdR hy
  ·exact absurd rfl (S.nofree _ (PySem.mem_of_lookup hy))
 ·exact Nat.le_of_lt (x.above y c (PySem.mem_of_lookup h))
 ·have hi : i < vs.length := by
   unfold start at h2
   by_cases hi : i < vs.length
   ·exact hi
   ·rw [List.getElem?_append_right (by simpa using hi)] at h2
    rw [List.getElem?_replicate] at h2
    split at h2 <;> cases h2
  have ha : vs[i]? = some v := by
   unfold start at h2
   rw [List.getElem?_append_left (by simpa using hi), List.getElem?_map] at h2
   cases e : vs[i]? with
   | none => rw [e] at h2; cases h2
   | some a => rw [e] at h2; cases h2; rfl
  obtain ⟨u, hu, rv⟩ := r.get ha
  have hp : ps[i]? = some y := by
   rw [<- S.pre, List.getElem?_take_of_lt (by omega)]; exact h1
  have ndP : ps.Nodup := by rw [<- S.pre]; exact S.nd.sublist (List.take_sublist _ _)
  refine ⟨u, rv, ?_⟩
  rcases S.par y (List.mem_of_getElem? hp) with k | k
  ·exact .inl ⟨k, zb0 ndP hp hu k⟩
  ·obtain ⟨c, e⟩ := zdR (n := s.heap.objs.size + 1) k
   refine .inr ⟨.inl k, c, e, ?_⟩
   have q := x.cell y c e
   rw [zb2 ndP hp hu (by show scope.names.lookup y ≠ _; rw [k]; decide)] at q
   exact q
 ·exact e0.hok.fresh (Nat.le_of_lt (x.above y c (PySem.mem_of_lookup h)))
 ·unfold start
  show _ = N.length
  rw [List.length_append, List.length_map, List.length_replicate]
  omega
theorem fn_of {CX : CXT} {P : Program} {w : World} {K : PySem.W.Frag} {mg : Str -> Option Value} {base : Heap} {k : Nat} {f : Addr} {name qual : Str} {params : Arguments} {body : List Stmt} {scope : Scope} {dV kV doc pm cdv ct oc : Value} {an od : Option Addr}
  {osl : Array (Option Value)} {N ps : List Str} {sp : Sp} (lk : K.lookup f = some ⟨oc, od, .func (PySem.W.fnOf name qual params body scope dV kV doc pm an cdv ct), osl⟩) (hcd : PySem.W.codeIn K cdv qual = true) (S : FnScope N ps scope)
  (len : ∀ vs H Q E, sp vs H Q E -> vs.length = ps.length)
  (hbody : ∀ (A : Around) (outer : List Env) (s : Shared) (H : Hp) (vs : List V) (Q : VK) (E : XK), Room k (A.deeper (envOfC qual scope s.heap.objs.size f cdv)) -> sp vs H Q E ->
   ∃ t, PSs (cxOf CX P w K mg base N qual scope f cdv A outer s H E) body t /\ t { nx := fun _ H' => Q .non H', rt := Q } (start N vs) H) :
  FnOk P w K mg base CX (k + 1) f (PySem.W.fnOf name qual params body scope dV kV doc pm an cdv ct) ps sp := by
 refine ⟨len, fun A outer s H args us vs Q E hr e0 hb r hsp => ?_⟩
 have hl := len _ _ _ _ hsp
 have KX : K.In s.heap := e0.mod.kin.keeps fun b o e => (e0.bs b o e).1
 have lim : s.heap.NoLimit := e0.mod.nolimit.keeps fun b o e => (e0.bs b o e).1
 have hkind : ∀ y ∈ ps.zip us, scope.names.lookup y.1 = some .local \/ (scope.names.lookup y.1 = some .cell /\ ((cellsFrom (s.heap.objs.size + 1) scope.names []).lookup y.1).isSome = true) := fun ⟨n, v⟩ hy => by
  rcases S.par n (List.of_mem_zip hy).1 with q | q
  ·exact .inl q
  ·exact .inr ⟨q, PySem.W.cellsFrom_some _ _ _ (.inl q)⟩
 refine codeAny_call_function hr.depth (KX _ _ lk) rfl S.co S.gen rfl (PySem.W.codeRec_of KX hcd) (hb _ _ _ _ ?_)
 refine wpAny_newFunctionEnv_cells S.kind hkind fun env he s1 x => ?_
 subst he
 refine ⟨lim.keeps x.toInCall.keep, codeAny_func ?_⟩
 obtain ⟨t, ht, hq⟩ := hbody A outer s H vs Q E (hr.deeper _) hsp
 have I : Inv (cxOf CX P w K mg base N qual scope f cdv A outer s H E) [] (start N vs) H s1 := zfO S hr.hd e0 hl r x
 refine wpAny_mono (ht [] s1 (start N vs) H _ I hq) (fun fl s' hs => ?_) fun e s' hs => hs
 have fin : ∀ {σ' : St} {H' : Hp} {v : V} {u : Value}, Inv (cxOf CX P w K mg base N qual scope f cdv A outer s H E) [] σ' H' s' -> RelV v u -> Q v H' -> CE outer P w H s Q u s' :=
  fun {σ' H' v u} J rv q => ⟨v, H', J.os, J.bare, J.base, J.hok, rv, q⟩
 cases fl with
 | ret u =>
  obtain ⟨v, σ', H', J, rv, q⟩ := hs
  exact fin J rv q
 | next =>
  obtain ⟨σ', H', J, q⟩ := hs
  exact fin (v := V.non) (u := Value.none) J rfl q
 | brk =>
  obtain ⟨_, _, _, q⟩ := hs
  exact False.elim q
 | cont =>
  obtain ⟨_, _, _, q⟩ := hs
  exact False.elim q
end L2
namespace L2
open PySem PySem.Spec PyProof.Rows
section
variable {X : Cx} {x : Str} {p pos : Pos} {e : Expr} {es : List Expr} {t : TA} {id T : String} {r : List V -> Hp -> VK -> Prop}
def tCB (r : List V -> Hp -> VK -> Prop) (t : TA) : TE := fun σ H Q => t σ H fun vs H1 => r vs H1 Q
theorem Uq (hc : Jr X (.builtin id) r) (hg : Gl X x) (hm : X.mg x = none) (hv : bootBuiltins x = some (.builtin id)) (ha : PA X (e :: es) t) (hn : x ≠ "__name__" := by decide) (hdb : (x == ("__debug__" : Str)) = false := by decide)
  (he : starEach (e :: es) X.env = (false, eval e X.env) :: starEach es X.env := by rfl) (hpl : (backTo pos (starEach es X.env)).any (·.1) = false := by rfl) : PE X (.Call (.Name x p) (e :: es) [] pos) (tCB r t) := by
 intro pins s σ H Q I h
 refine wpAny_Call_Name_kw (JQ I hg hm hv ?_ hn hdb)
 exact PyProof.Rows.callWith_builtin1 (thn (ha pos pins s σ H _ I h) fun us s1 ⟨vs, H1, I1, r1, q1⟩ => hc pins s1 σ H1 vs us Q I1 r1 q1) he hpl
theorem WA (hc : Jr X (.type T) r) (hg : Gl X x) (hm : X.mg x = none) (hv : bootBuiltins x = some (.type T)) (ha : PA X (e :: es) t) (hn : x ≠ "__name__" := by decide) (hdb : (x == ("__debug__" : Str)) = false := by decide)
  (he : starEach (e :: es) X.env = (false, eval e X.env) :: starEach es X.env := by rfl) (hpl : (backTo pos (starEach es X.env)).any (·.1) = false := by rfl) : PE X (.Call (.Name x p) (e :: es) [] pos) (tCB r t) := by
 intro pins s σ H Q I h
 refine wpAny_Call_Name_kw (JQ I hg hm hv ?_ hn hdb)
 exact PyProof.Rows.callWith_type1 (thn (ha pos pins s σ H _ I h) fun us s1 ⟨vs, H1, I1, r1, q1⟩ => hc pins s1 σ H1 vs us Q I1 r1 q1) he hpl
end
end L2
namespace HT
open PySem PyProof.Rows
def zef : List Int -> List Int -> Bool
 | [], [] => false
 | [], _ :: _ => true
 | _ :: _, [] => false
 | x :: xs, y :: ys => if x = y then zef xs ys else decide (x < y)
theorem lexLt_cons (x y : Int) (xs ys : List Int) : zef (x :: xs) (y :: ys) = if x = y then zef xs ys else decide (x < y) := rfl
theorem lexLt_nil_nil : zef [] [] = false := rfl
theorem lexLt_nil_cons (y : Int) (ys : List Int) : zef [] (y :: ys) = true := rfl
theorem lexLt_cons_nil (x : Int) (xs : List Int) : zef (x :: xs) [] = false := rfl
section
open PySem.SeqAt
open PySem.AutoSeq1 (wpAny_loadPart')
open PySem.MeetsSeq PySem.MeetsSeq2 PySem.MeetsSeq3
end
section
variable {prog : Program} {w : World} {A : Around} {E : Value -> Shared -> Prop} {s : Shared}
def sIx (n d : Nat) : Option Int -> Nat
 | none => d
 | some v => if v < 0 then (v + (n : Int)).toNat else min v.toNat n
theorem sIx_none (n d : Nat) : sIx n d none = d := rfl
end
end HT
namespace L2
open PySem PySem.Spec PyProof.Rows
abbrev TO := St -> Hp -> (Option Int -> Hp -> Prop) -> Prop
def PO (X : Cx) (e : Option Expr) (t : TO) : Prop :=
 ∀ (pins : List (Addr × Obj)) (s : Shared) (σ : St) (H : Hp) (Q : Option Int -> Hp -> Prop), Inv X pins σ H s -> t σ H Q ->
  wpAny (model X.prog X.w) X.A (evalPart e X.env) (fun u s' => ∃ o H', Inv X pins σ H' s' /\ IsPart u o /\ Q o H') X.xe s
def tNoPart : TO := fun _ H Q => Q none H
def tPart (t : TE) : TO := fun σ H Q => t σ H fun x H1 => ∃ i, x = .int i /\ Q (some i) H1
section
variable {X : Cx} {e : Expr} {te : TE} {lo hi : Option Expr} {tl th : TO} {pos p2 : Pos}
theorem po_none : PO X none tNoPart := by
 intro pins s σ H Q I h
 rw [evalPart_none]
 exact wpAny_pure ⟨none, H, I, .none, h⟩
theorem po_some (h : PE X e te) : PO X (some e) (tPart te) := by
 intro pins s σ H Q I hw
 rw [evalPart_some]
 refine thn (h pins s σ H _ I hw) fun u s1 ⟨x, H1, I1, r1, q1⟩ => ?_
 obtain ⟨i, rfl, q⟩ := q1
 obtain ⟨t, rfl⟩ := r1
 exact ⟨some i, H1, I1, .int i t, q⟩
def SlR (X : Cx) (r : V -> Option Int -> Option Int -> Hp -> VK -> Prop) : Prop :=
 ∀ (pins : List (Addr × Obj)) (s : Shared) (σ : St) (H : Hp) (x : V) (v vl vu : Value) (lo hi : Option Int) (sl : Addr) (Q : VK), Inv X pins σ H s -> RelV x v -> s.heap.IsSliceOf sl vl vu .none -> IsPart vl lo -> IsPart vu hi -> r x lo hi H Q ->
  ∃ T id, typeLookup (.type T) "__getitem__" = pure (some (.builtin id)) /\ s.TypeIs v T /\ wpAny (model X.prog X.w) X.A (getItem v (.ref sl)) (EP X pins σ Q) X.xe s
def tSl (r : V -> Option Int -> Option Int -> Hp -> VK -> Prop) (te : TE) (tl th : TO) : TE := fun σ H Q => te σ H fun x H1 => tl σ H1 fun l H2 => th σ H2 fun u H3 => r x l u H3 Q
theorem pe_slice {r : V -> Option Int -> Option Int -> Hp -> VK -> Prop} (hr : SlR X r) (he : PE X e te) (hl : PO X lo tl) (hu : PO X hi th) : PE X (.Subscript e (.Slice lo hi none p2) pos) (tSl r te tl th) := by
 intro pins s σ H Q I h
 refine Subscript_ (thn (he pins s σ H _ I h) fun v s1 ⟨x, H1, I1, r1, q1⟩ => ?_)
 refine wpAny_Slice (thn (hl pins s1 σ H1 _ I1 q1) fun vl s2 ⟨l, H2, I2, pl, q2⟩ => thn (hu pins s2 σ H2 _ I2 q2) fun vu s3 ⟨u, H3, I3, pu, q3⟩ => ?_)
 rw [evalPart_none]
 refine wpAny_pure ?_
 have I4 : Inv X pins σ H3 { s3 with heap := s3.heap.push { cls := .type "slice", data := .fields #[vl, vu, .none] } } := I3.kept (t' := s3.toks) fun b ob q => Heap.get?_push_of_some _ q
 obtain ⟨T, id, hT, ht, hg⟩ := hr pins { s3 with heap := s3.heap.push { cls := .type "slice", data := .fields #[vl, vu, .none] } } σ H3 x v vl vu l u s3.heap.objs.size Q I4 r1 (Heap.IsSliceOf.new ..) pl pu q3
 show wpAny (model X.prog X.w) X.A (subscriptTail e (.Slice lo hi none p2) v (.ref s3.heap.objs.size)) (EP X pins σ Q) X.xe { s3 with heap := s3.heap.push { cls := .type "slice", data := .fields #[vl, vu, .none] } }
 exact tail_any (ops := [.ref s3.heap.objs.size, v]) ht hT hg (by with_unfolding_all rfl)
def cutV (xs : List V) (lo hi : Option Int) : List V := (xs.drop (HT.sIx xs.length 0 lo)).take (HT.sIx xs.length xs.length hi - HT.sIx xs.length 0 lo)
theorem zcP (xs : List V) (lo hi : Option Int) : (cutV xs lo hi).length <= xs.length := by
 unfold cutV
 rw [List.length_take, List.length_drop]
 omega
end
end L2
namespace L2
open PySem PySem.Spec PyProof.Rows
def ixN (n : Nat) (i : Int) : Option Nat := if 0 <= i then (if i < n then some i.toNat else none) else if -(n : Int) <= i then some (i + n).toNat else none
def atI {α : Type} (xs : List α) (i : Int) : Option α := (ixN xs.length i).bind fun j => xs[j]?
theorem zfI {n : Nat} {i : Int} {j : Nat} (h : ixN n i = some j) : seqIndex? i n = some j /\ j < n /\ -(n : Int) <= i /\ i < n := by
 unfold ixN at h
 by_cases h0 : 0 <= i
 ·rw [if_pos h0] at h
  by_cases h1 : i < n
  ·rw [if_pos h1] at h
   have e : i.toNat = j := Option.some.inj h
   exact ⟨by rw [seqIndex_of h0 h1, e], by omega, by omega, h1⟩
  ·rw [if_neg h1] at h; cases h
 ·rw [if_neg h0] at h
  by_cases h1 : -(n : Int) <= i
  ·rw [if_pos h1] at h
   have e : (i + n).toNat = j := Option.some.inj h
   exact ⟨by rw [seqIndex_neg (by omega) h1, e], by omega, h1, by omega⟩
  ·rw [if_neg h1] at h; cases h
theorem zgh {α : Type} {xs : List α} {i : Int} {v : α} (h : atI xs i = some v) : ∃ j, seqIndex? i xs.length = some j /\ xs[j]? = some v /\ j < xs.length /\ -(xs.length : Int) <= i /\ i < xs.length := by
 unfold atI at h
 cases e : ixN xs.length i with
 | none => rw [e] at h; cases h
 | some j =>
  rw [e] at h
  obtain ⟨h1, h2, h3, h4⟩ := zfI e
  exact ⟨j, h1, h, h2, h3, h4⟩
def zgl (b : Expr) : Prop := ∀ o i, subscripted b false o i = operate [o, i] (getItem o i)
def IxR (X : Cx) (r : R2) : Prop :=
 ∀ (value slice : Expr) (pins : List (Addr × Obj)) (s : Shared) (σ : St) (H : Hp) (x y : V) (v u : Value) (Q : VK), Inv X pins σ H s -> RelV x v -> RelV y u -> r x y H Q ->
  subscripted slice false v u = operate [v, u] (getItem v u) -> wpAny (model X.prog X.w) X.A (subscriptTail value slice v u) (EP X pins σ Q) X.xe s
def MtR (X : Cx) (id : String) (r : V -> List V -> Hp -> VK -> Prop) : Prop :=
 ∀ (pins : List (Addr × Obj)) (s : Shared) (σ : St) (H : Hp) (x : V) (xs : List V) (v : Value) (us : List Value) (Q : VK), Inv X pins σ H s -> RelV x v -> Vals xs us -> r x xs H Q ->
  wpAny (model X.prog X.w) X.A (call (.builtin id) (v :: us)) (EP X pins σ Q) X.xe s
section
variable {X : Cx} {a b : Expr} {ta tb : TE} {pos : Pos}
theorem IxR.or {r r' : R2} (h : IxR X r) (h' : IxR X r') : IxR X (fun x y H Q => r x y H Q \/ r' x y H Q) := by
 intro value slice pins s σ H x y v u Q I rx ry q hs
 rcases q with q | q
 ·exact h value slice pins s σ H x y v u Q I rx ry q hs
 ·exact h' value slice pins s σ H x y v u Q I rx ry q hs
theorem pe_ix {r : R2} (hr : IxR X r) (ha : PE X a ta) (hb : PE X b tb) (hs : zgl b) : PE X (.Subscript a b pos) (tOp r ta tb) := by
 intro pins s σ H Q I h
 exact Subscript_ (binT ha hb I h fun v u s2 x y H2 I2 rx ry q => hr a b pins s2 σ H2 x y v u Q I2 rx ry q (hs _ _))
def rIxL (K : PySem.W.Frag) : R2 := fun x y H Q => ∃ p xs i v, x = .ref p /\ y = .int i /\ SqL K H p xs /\ atI xs i = some v /\ Q v H
def rIxT (K : PySem.W.Frag) : R2 := fun x y H Q => ∃ p xs i v, x = .ref p /\ y = .int i /\ SqT K H p xs /\ atI xs i = some v /\ Q v H
theorem ix_list : IxR X (rIxL X.K) := by
 intro value slice pins s σ H x y v u Q I rx ry h hs
 obtain ⟨p, xs, i, z, rfl, rfl, hq, he, q⟩ := h
 cases rx
 obtain ⟨t, rfl⟩ := ry
 obtain ⟨its, r, pl, hz⟩ := I.list hq
 obtain ⟨j, h1, h2, h3, h4, h5⟩ := zgh he
 obtain ⟨w, ew, rw'⟩ := r.get h2
 have hl := r.length
 have hn := zbP
 have fin : EP X pins σ Q w s := ⟨z, H, I, rw', q⟩
 by_cases h0 : 0 <= i
 ·have hj : i.toNat = j := by
   rw [seqIndex_of h0 h5] at h1
   exact Option.some.inj h1
  exact item_listR pl.isList h0 (by omega) (by rw [hj]; simpa using ew) fin hs
 ·have hj : (i + (its.toArray.size : Int)).toNat = j := by
   rw [seqIndex_neg (by omega) h4] at h1
   rw [List.size_toArray, <- hl]
   exact Option.some.inj h1
  exact subscriptTail_builtinR (x := w) pl.isList.typeIs slot_list_getitem.lookup
   (wpAny_getItem_list_neg (Q := fun r s' => r = w /\ EP X pins σ Q r s') pl.isList (by omega) (by rw [List.size_toArray] <;> omega) (by omega) (by rw [hj]; simpa using ew) ⟨rfl, fin⟩) hs
theorem ix_tup : IxR X (rIxT X.K) := by
 intro value slice pins s σ H x y v u Q I rx ry h hs
 obtain ⟨p, xs, i, z, rfl, rfl, hq, he, q⟩ := h
 cases rx
 obtain ⟨t, rfl⟩ := ry
 obtain ⟨its, r, pl, hz⟩ := I.tuple hq
 obtain ⟨j, h1, h2, h3, h4, h5⟩ := zgh he
 obtain ⟨w, ew, rw'⟩ := r.get h2
 have hl := r.length
 have hn := zbP
 have fin : EP X pins σ Q w s := ⟨z, H, I, rw', q⟩
 exact subscriptTail_builtinR (x := w) pl.typeIs slot_tuple_getitem.lookup
  (getItem_tuple (j := j) (Q := fun r s' => r = w /\ EP X pins σ Q r s') pl (by omega) (by omega) (by rw [List.size_toArray, <- hl]; exact h1) (by simpa using ew) ⟨rfl, fin⟩) hs
theorem zec (its : List Value) (n j : Nat) (u : Value) : Obj.mapSeq (·.setIfInBounds j u) { cls := .type "list", data := .seq its.toArray n } = { cls := .type "list", data := .seq (its.set j u).toArray n } := by
 simp [Obj.mapSeq]
theorem Inv.lst {pins : List (Addr × Obj)} {σ : St} {H : Hp} {s : Shared} {p : Addr} {xs : List V} (I : Inv X pins σ H s) (h : H p = some (.lst xs)) :
  ∃ (its : List Value) (n : Nat), Vals xs its /\ s.heap.get? p = some { cls := .type "list", data := .seq its.toArray n } /\ xs.length <= sizeLine := by
 obtain ⟨z, its, n, r, e⟩ := I.hok p _ h
 exact ⟨its, n, r, e, z⟩
theorem Inv.lstUpd {pins : List (Addr × Obj)} {σ : St} {H : Hp} {s : Shared} {p : Addr} {xs ys : List V} {its its' : List Value} {n n' : Nat} {f : Obj -> Obj} (I : Inv X pins σ H s) (h : H p = some (.lst xs))
  (ho : s.heap.get? p = some { cls := .type "list", data := .seq its.toArray n }) (hf : f { cls := .type "list", data := .seq its.toArray n } = { cls := .type "list", data := .seq its'.toArray n' }) (r : Vals ys its') (hz : ys.length <= sizeLine) (t : Nat) :
  Inv X pins σ (upd H p (.lst ys)) { s with heap := s.heap.update p f, toks := t } := by
 have e : (s.heap.update p f).get? p = some { cls := .type "list", data := .seq its'.toArray n' } := by
  rw [Heap.get?_update_self f ho (by rw [hf] <;> rfl), hf]
 refine I.write (x := p) (e := p) (by rw [h]; trivial) (.inl rfl) (fun b u hb q => (Heap.get?_update_other _ _ (Ne.symm hb)).trans q) ⟨_, e⟩ ?_
 exact ⟨hz, its', n', r, e⟩
def rSetL : V -> V -> V -> Hp -> (Hp -> Prop) -> Prop := fun o i v H Q => ∃ p xs k j, o = .ref p /\ i = .int k /\ H p = some (.lst xs) /\ ixN xs.length k = some j /\ Q (upd H p (.lst (xs.set j v)))
theorem set_list : PSet X rSetL := by
 intro pins s σ H o i v ov iv u Q I ro ri rv h
 obtain ⟨p, xs, k, j, rfl, rfl, hp, hj, q⟩ := h
 cases ro
 obtain ⟨t, rfl⟩ := ri
 obtain ⟨its, n, r, ho, hz⟩ := I.lst hp
 obtain ⟨h1, h2, h3, h4⟩ := zfI hj
 have hl := r.length
 have hn := zbP
 have I' : Inv X pins σ (upd H p (.lst (xs.set j v))) { s with heap := s.heap.update p (Obj.mapSeq (·.setIfInBounds j u)) } :=
  I.lstUpd hp ho (zec its n j u) (r.set rv j) (by rw [List.length_set]; exact hz) s.toks
 by_cases h0 : 0 <= k
 ·have hk : k.toNat = j := by
   rw [seqIndex_of h0 h4] at h1
   exact Option.some.inj h1
  exact PySem.W.ki_setAt ho h0 (by omega) (by rw [List.size_toArray, <- hl]; exact h4) (by rw [hk]; exact ⟨_, I', q⟩)
 ·have hk : (k + (its.toArray.size : Int)).toNat = j := by
   rw [seqIndex_neg (by omega) h3] at h1
   rw [List.size_toArray, <- hl]
   exact Option.some.inj h1
  exact PySem.W.ki_setBack ho (by omega) (by rw [List.size_toArray, <- hl]; exact h3) (by omega) (by rw [hk]; exact ⟨_, I', q⟩)
theorem zbo (lo hi : Option Int) (n : Nat) : (sliceBounds lo hi none n).1 = ((HT.sIx n 0 lo : Nat) : Int) /\ (sliceBounds lo hi none n).2.1 = ((HT.sIx n n hi : Nat) : Int) /\ (sliceBounds lo hi none n).2.2 = 1 := by
 refine ⟨?_, ?_, rfl⟩
 ·cases lo with
  | none => simp [sliceBounds, HT.sIx]
  | some i =>
   simp only [sliceBounds, HT.sIx, Option.getD_none, show (1 : Int) > 0 by decide, if_true]
   by_cases h : i < 0
   ·simp only [h, if_true] <;> omega
   ·simp only [h, if_false] <;> omega
 ·cases hi with
  | none => simp [sliceBounds, HT.sIx]
  | some i =>
   simp only [sliceBounds, HT.sIx, Option.getD_none, show (1 : Int) > 0 by decide, if_true]
   by_cases h : i < 0
   ·simp only [h, if_true] <;> omega
   ·simp only [h, if_false] <;> omega
theorem zao (its : List Value) (lo hi : Option Int) : slicePick its.toArray lo hi none = ((its.drop (HT.sIx its.length 0 lo)).take (HT.sIx its.length its.length hi - HT.sIx its.length 0 lo)).toArray := by
 obtain ⟨h1, h2, h3⟩ := zbo lo hi its.toArray.size
 unfold slicePick
 rw [h1, h2, h3]
 simp only [sliceRange_one, pick_run, List.size_toArray] <;> rfl
def rSlL (K : PySem.W.Frag) : V -> Option Int -> Option Int -> Hp -> VK -> Prop := fun x lo hi H Q => ∃ a xs, x = .ref a /\ SqL K H a xs /\ ∀ p, H p = none -> Q (.ref p) (upd H p (.lst (cutV xs lo hi)))
theorem sl_list : SlR X (rSlL X.K) := by
 intro pins s σ H x v vl vu lo hi sl Q I rx hs pl pu h
 obtain ⟨a, xs, rfl, hx, q⟩ := h
 cases rx
 obtain ⟨its, r, ht, hz⟩ := I.list hx
 have hlen := r.length
 refine ⟨"list", _, slot_list_getitem.lookup, ht.isList.typeIs, ?_⟩
 refine wpAny_getItem_list_slice ht.isList hs pl pu .none (by simp) ?_ (by rw [List.size_toArray] <;> omega)
 rw [zao, <- hlen]
 refine ⟨.ref s.heap.objs.size, _, I.laid (t' := s.toks) (o := .lst (cutV xs lo hi)) (fun b ob q => Heap.get?_push_of_some _ q) (Nat.le_refl _) ?_, rfl, q _ (I.hok.fresh (Nat.le_refl _))⟩
 exact ⟨Nat.le_trans (zcP xs lo hi) hz, _, 0, (r.drop (HT.sIx xs.length 0 lo)).take (HT.sIx xs.length xs.length hi - HT.sIx xs.length 0 lo), Heap.get?_push_size _ rfl⟩
theorem zbY : Jr X (.builtin "len") (fun xs H Q => ∃ p ys, xs = [.ref p] /\ (SqL X.K H p ys \/ SqT X.K H p ys) /\ Q (.int ys.length) H) := by
 intro pins s σ H xs us Q I r h
 obtain ⟨p, ys, rfl, hq, q⟩ := h
 obtain ⟨u, rfl, rx⟩ := zaj r
 cases rx
 have hn := zbP
 rcases hq with hq | hq
 ·obtain ⟨its, r', pl, hz⟩ := I.list hq
  have hlen := r'.length
  exact Calls.call_len_list pl.isList (by simp only [List.size_toArray] <;> omega) ⟨.int ys.length, H, I.tok _, ⟨s.toks + 1, by rw [List.size_toArray, hlen]⟩, q⟩
 ·obtain ⟨its, r', pl, hz⟩ := I.tuple hq
  have hlen := r'.length
  exact len_tuple pl (by simp only [List.size_toArray] <;> omega) ⟨.int ys.length, H, I.tok _, ⟨s.toks + 1, by rw [List.size_toArray, hlen]⟩, q⟩
theorem zbX : Jr X (.type "list") (fun xs H Q => ∃ p ys, xs = [.ref p] /\ (SqL X.K H p ys \/ SqT X.K H p ys) /\ ∀ l, H l = none -> Q (.ref l) (upd H l (.lst ys))) := by
 intro pins s σ H xs us Q I r h
 obtain ⟨p, ys, rfl, hq, q⟩ := h
 obtain ⟨u, rfl, rx⟩ := zaj r
 cases rx
 have fin : ∀ (its : List Value), Vals ys its -> ys.length <= sizeLine -> ∀ (h' : Heap) (c' : Nat), (∀ b o', s.heap.get? b = some o' -> h'.get? b = some o') ->
   h'.get? s.heap.objs.size = some { cls := .type "list", dict := none, data := .seq its.toArray c', slots := #[] } -> EP X pins σ Q (.ref s.heap.objs.size) { s with heap := h' } := fun its r' hz h' c' kp e =>
  ⟨.ref s.heap.objs.size, _, I.laid (t' := s.toks) kp (Nat.le_refl _) (show Vc X.prog X.w _ h' _ (.lst ys) from ⟨hz, its, c', r', e⟩), rfl, q _ (I.hok.fresh (Nat.le_refl _))⟩
 rcases hq with hq | hq
 ·obtain ⟨its, r', pl, hz⟩ := I.list hq
  have hlen := r'.length
  obtain ⟨o, ho, hc, n, hd⟩ := pl.isList
  exact call_list_seq p (.inl rfl) ho hc hd (fun h' c' kp e => fin its r' hz h' c' kp e) (by simp only [List.size_toArray] <;> omega)
 ·obtain ⟨its, r', pl, hz⟩ := I.tuple hq
  have hlen := r'.length
  obtain ⟨o, ho, hc, n, hd⟩ := pl
  exact call_list_seq p (.inr rfl) ho hc hd (fun h' c' kp e => fin its r' hz h' c' kp e) (by simp only [List.size_toArray] <;> omega)
theorem zbb : Jr X (.type "tuple") (fun xs H Q => ∃ p ys, xs = [.ref p] /\ ((SqL X.K H p ys /\ ∀ l, H l = none -> Q (.ref l) (upd H l (.tup ys))) \/ (SqT X.K H p ys /\ Q (.ref p) H))) := by
 intro pins s σ H xs us Q I r h
 obtain ⟨p, ys, rfl, h⟩ := h
 obtain ⟨u, rfl, rx⟩ := zaj r
 cases rx
 rcases h with ⟨hq, q⟩ | ⟨hq, q⟩
 ·obtain ⟨its, r', pl, hz⟩ := I.list hq
  have hlen := r'.length
  refine call_tuple_list pl.isList (fun h' kp => ?_) (by simp only [List.size_toArray] <;> omega)
  have I1 : Inv X pins σ H { s with heap := h' } := I.kept (t' := s.toks) kp
  have I2 : Inv X pins σ (upd H h'.objs.size (.tup ys)) { s with heap := h'.push { cls := .type "tuple", data := .seq its.toArray } } :=
   I1.laid (t' := s.toks) (fun b o e => Heap.get?_push_of_some _ e) (Nat.le_refl _) (show Vc X.prog X.w _ _ _ (.tup ys) from ⟨hz, its, r', IsTup.new _ _⟩)
  exact ⟨.ref h'.objs.size, _, I2, rfl, q _ (I1.hok.fresh (Nat.le_refl _))⟩
 ·obtain ⟨its, r', pl, hz⟩ := I.tuple hq
  exact call_tuple_same pl ⟨.ref p, H, I, rfl, q⟩
def tyV (K : PySem.W.Frag) (T : String) (x : V) (H : Hp) : Prop := match x with
 | .str _ => T = "str"
 | .int _ => T = "int"
 | .ref p => (T = "list" /\ ∃ xs, SqL K H p xs) \/ (T = "tuple" /\ ∃ o, K.lookup p = some o /\ o.cls = .type "tuple" /\ o.dict = none) \/
   (T = "dict" /\ ((∃ kvs, H p = some (.dK kvs)) \/ ∃ kvs, H p = some (.dT kvs))) \/ (T = "set" /\ ∃ S n, H p = some (.set S n))
 | _ => False
theorem tyV_is {pins : List (Addr × Obj)} {σ : St} {H : Hp} {s : Shared} {T : String} {x : V} {v : Value} (I : Inv X pins σ H s) (r : RelV x v) (ty : tyV X.K T x H) :
  s.TypeIs v T /\ ∀ a, v = .ref a -> ∃ ob, s.heap.get? a = some ob /\ ob.dict = none := by
 cases x with
 | str z =>
  obtain ⟨t, rfl⟩ := r
  cases (show T = "str" from ty)
  exact ⟨typeIs_str s z t, fun _ e => nomatch e⟩
 | int i =>
  obtain ⟨t, rfl⟩ := r
  cases (show T = "int" from ty)
  exact ⟨typeIs_int s i t, fun _ e => nomatch e⟩
 | ref p =>
  cases r
  rcases ty with ⟨rfl, xs, hq⟩ | ⟨rfl, o, hk, hc, hd⟩ | ⟨rfl, hk⟩ | ⟨rfl, S, n, hk⟩
  ·obtain ⟨its, _, pl, _⟩ := I.list hq
   refine ⟨pl.isList.typeIs, fun a e => ?_⟩
   cases e
   obtain ⟨o, n, e, c, hd, _⟩ := pl
   exact ⟨o, e, hd⟩
  ·refine ⟨⟨o, I.kIn p o hk, hc⟩, fun a e => ?_⟩
   cases e
   exact ⟨o, I.kIn _ o hk, hd⟩
  ·have z : ∃ o, s.heap.get? p = some o /\ o.ExactDict := by
    rcases hk with ⟨kvs, hk⟩ | ⟨kvs, hk⟩
    ·obtain ⟨_, _, _, _, o, _, _, e, ex, _⟩ := I.hok p _ hk
     exact ⟨o, e, ex⟩
    ·obtain ⟨_, _, _, _, o, _, _, e, ex, _⟩ := I.hok p _ hk
     exact ⟨o, e, ex⟩
   obtain ⟨o, e, ex⟩ := z
   refine ⟨⟨o, e, ex.1⟩, fun a e2 => ?_⟩
   cases e2
   exact ⟨o, e, ex.2.1⟩
  ·obtain ⟨o, _, _, _, e, ex, _⟩ := I.hok p _ hk
   refine ⟨⟨o, e, ex.1⟩, fun a e2 => ?_⟩
   cases e2
   exact ⟨o, e, ex.2.1⟩
 | _ => exact False.elim ty
def tBM (K : PySem.W.Frag) (T : String) (r : V -> List V -> Hp -> VK -> Prop) (to : TE) (t : TA) : TE := fun σ H Q => to σ H fun x H1 => tyV K T x H1 /\ t σ H1 fun xs H2 => r x xs H2 Q
variable {o e : Expr} {es : List Expr} {to : TE} {t : TA} {name : Str} {apos cpos : Pos} {T id : String} {r : V -> List V -> Hp -> VK -> Prop}
theorem pe_bm (pa : PlainAttrs T) (slot : Slot T name id) (hty : typeOf (.builtin id) = pure (.type "method_descriptor")) (hm : MtR X id r) (ho : PE X o to) (ha : PA X (e :: es) t)
  (hbase : attributeBase o name X.env (eval o X.env) = eval o X.env := by rfl)
  (hfew : ((backTo cpos (starEach (e :: es) X.env)).all (fun x => !x.1) && (backToKw cpos (keywordEach [] X.env)).all (fun x => x.1.isSome)
   && decide ((e :: es).length + ([] : List Keyword).length + (if ([] : List Keyword).isEmpty then 0 else 1) < 30)) = true := by rfl)
  (hline : (apos.endLine == cpos.line) = true := by rfl) (hs : starEach (e :: es) X.env = (false, eval e X.env) :: starEach es X.env := by rfl) (hplain : (backTo cpos (starEach es X.env)).any (·.1) = false := by rfl) :
  PE X (.Call (.Attribute o name apos) (e :: es) [] cpos) (tBM X.K T r to t) := by
 intro pins s σ H Q I h
 refine wpAny_Call_method_late hbase hfew hline rfl (thn (ho pins s σ H _ I h) fun v s1 ⟨x, H1, I1, r1, ty, q1⟩ => ?_)
 obtain ⟨h1, h2⟩ := tyV_is I1 r1 ty
 refine ⟨T, id, pa, slot, hty, h1, h2, ?_⟩
 have hA := ha cpos pins s1 σ H1 _ I1 q1
 rw [hs] at hA ⊢
 refine Calls.callWith_builtin (by show (false || (backTo cpos (starEach es X.env)).any (·.1)) = false; rw [hplain] <;> rfl) (Calls.evalArgs_plain ?_)
 exact thn hA fun us s2 ⟨vs, H2, I2, r2, q2⟩ => hm pins s2 σ H2 x vs v us Q I2 r1 r2 q2
end
end L2
namespace L2
open PySem PySem.Spec PyProof.Rows
def MtM (X : Cx) (id : String) (r : V -> List V -> Hp -> VK -> Prop) : Prop :=
 ∀ (pins : List (Addr × Obj)) (s : Shared) (σ : St) (H : Hp) (x : V) (xs : List V) (v : Value) (us : List Value) (Q : VK), Inv X pins σ H s -> RelV x v -> Vals xs us -> r x xs H Q ->
  wpAny (model X.prog X.w) X.A (call (.builtin id) (v :: us)) (EP X pins σ Q) X.xe s
theorem Vals.one : ∀ {x : V} {us : List Value}, Vals [x] us -> ∃ u, us = [u] /\ RelV x u
 | _, _, .cons r .nil => ⟨_, rfl, r⟩
theorem Vals.rep {xs : List V} {us : List Value} (h : Vals xs us) : ∀ k : Nat, Vals (List.replicate k xs).flatten (List.replicate k us).flatten
 | 0 => .nil
 | k + 1 => by
  rw [List.replicate_succ, List.replicate_succ, List.flatten_cons, List.flatten_cons]
  exact Vals.append h (Vals.rep h k)
theorem zbS (its : List Value) : ∀ (k : Nat) (acc : List Value),
  List.foldl (fun x1 x2 => x1 ++ x2) acc.toArray (List.replicate k its.toArray) = (acc ++ (List.replicate k its).flatten).toArray
 | 0, acc => by simp
 | k + 1, acc => by
  have e : acc.toArray ++ its.toArray = (acc ++ its).toArray := by simp
  have e2 : (acc ++ its) ++ (List.replicate k its).flatten = acc ++ (List.replicate (k + 1) its).flatten := by
   rw [List.replicate_succ, List.flatten_cons, List.append_assoc]
  rw [<- e2, <- zbS its k (acc ++ its), <- e, List.replicate_succ, List.foldl_cons]
section
variable {X : Cx} {pins : List (Addr × Obj)} {σ : St} {H : Hp} {s : Shared} {l b : Addr} {xs ys zs : List V}
theorem Inv.lset {its its' : List Value} {n : Nat} {f : Array Value -> Array Value} {t' : Nat} (I : Inv X pins σ H s) (hH : H l = some (.lst xs))
  (e : s.heap.get? l = some { cls := .type "list", data := .seq its.toArray n }) (hf : f its.toArray = its'.toArray) (hv : Vals ys its') (hz : ys.length <= sizeLine) :
  Inv X pins σ (upd H l (.lst ys)) { s with heap := s.heap.update l (Obj.mapSeq f), toks := t' } := by
 have q := PySem.IsL.update e f
 rw [hf] at q
 refine I.write (x := l) (e := l) (by rw [hH]; exact trivial) (.inl rfl) (fun b' u hb hu => (Heap.get?_update_other s.heap (Obj.mapSeq f) (Ne.symm hb)).trans hu) ⟨_, q⟩ ?_
 exact ⟨hz, its', _, hv, q⟩
theorem Inv.lnew {its : List Value} {t' : Nat} (I : Inv X pins σ H s) (hv : Vals ys its) (hz : ys.length <= sizeLine) :
  Inv X pins σ (upd H s.heap.objs.size (.lst ys)) { s with heap := s.heap.push { cls := .type "list", data := .seq its.toArray }, toks := t' } :=
 I.laid (fun _ _ q => Heap.get?_push_of_some _ q) (Nat.le_refl _) ⟨hz, its, 0, hv, Heap.get?_push_size _ rfl⟩
theorem Inv.fresh (I : Inv X pins σ H s) : H s.heap.objs.size = none := I.hok.fresh (Nat.le_refl _)
theorem Inv.lstM (I : Inv X pins σ H s) (hH : H l = some (.lst xs)) : xs.length <= sizeLine /\ ∃ (its : List Value) (n : Nat), Vals xs its /\ xs.length = its.length /\ s.heap.get? l = some { cls := .type "list", data := .seq its.toArray n } := by
 obtain ⟨z, its, n, r, e⟩ := I.hok l _ hH
 exact ⟨z, its, n, r, r.length, e⟩
theorem notLongL {n : Nat} (h : n <= sizeLine) : Builtin.List.listTooLong n = false := by
 unfold Builtin.List.listTooLong
 exact decide_eq_false (by omega)
end
section
variable {X : Cx}
def rAppend : V -> List V -> Hp -> VK -> Prop := fun x vs H Q => ∃ l xs y, x = .ref l /\ vs = [y] /\ H l = some (.lst xs) /\ xs.length < sizeLine /\ Q .non (upd H l (.lst (xs ++ [y])))
theorem zbN : MtM X "list.append" rAppend := by
 intro pins s σ H x vs v us Q I rx rv h
 obtain ⟨l, xs, y, rfl, rfl, hH, hz, q⟩ := h
 cases rx
 obtain ⟨u, rfl, ru⟩ := rv.one
 obtain ⟨z, its, n, r, hl, e⟩ := I.lstM hH
 refine call_meets F.slot_list_append ⟨_, e, rfl⟩ F.entry_list_append (F.args_list_append_2 _ _) (PySem.list_append l its.toArray n u (by rw [List.size_toArray]; omega)) ⟨e, ?_⟩
 refine ⟨.non, _, I.lset (its' := its ++ [u]) hH e (by simp) (r.append (.cons ru .nil)) ?_, rfl, q⟩
 rw [List.length_append, List.length_singleton]
 omega
def rRep : R2 := fun x y H Q => ∃ l k xs, x = .ref l /\ y = .int k /\ H l = some (.lst xs) /\ -(2 ^ 63) <= k /\ k < 2 ^ 63 /\ xs.length * k.toNat <= sizeLine /\
 ∀ p, H p = none -> Q (.ref p) (upd H p (.lst (List.replicate k.toNat xs).flatten))
theorem len_rep {α : Type} (xs : List α) (k : Nat) : (List.replicate k xs).flatten.length = k * xs.length := by
 induction k with
 | zero => simp
 | succ k ih => rw [List.replicate_succ, List.flatten_cons, List.length_append, ih, Nat.succ_mul, Nat.add_comm]
theorem op_rep : OpR X (binaryOp .Mult) rRep := by
 intro pins s σ H x y v u Q I rx ry h
 obtain ⟨l, k, xs, rfl, rfl, hH, h1, h2, hz, q⟩ := h
 cases rx
 obtain ⟨t, rfl⟩ := ry
 obtain ⟨z, its, n, r, hl, e⟩ := I.lstM hH
 have hlen : its.toArray.size * k.toNat <= sizeLine := by rw [List.size_toArray, <- hl]; exact hz
 have hcap : ¬ its.toArray.size * k.toNat > (2 ^ 63 - 1) / 8 := by
  have : (sizeLine : Nat) <= (2 ^ 63 - 1) / 8 := by decide
  omega
 have hfit : ¬ (!Builtin.List.listFitsIndex k) = true := by
  rw [fitsIndex_both h1 h2]
  exact Bool.false_ne_true
 have hlong : ¬ Builtin.List.listTooLong (its.toArray.size * k.toNat) = true := by
  rw [notLongL hlen]
  exact Bool.false_ne_true
 have hnew : List.foldl (fun x1 x2 => x1 ++ x2) #[] (List.replicate (if its.toArray.isEmpty = true then 0 else k.toNat) its.toArray) = (List.replicate k.toNat its).flatten.toArray := by
  have f0 : ∀ m : Nat, List.foldl (fun x1 x2 => x1 ++ x2) #[] (List.replicate m its.toArray) = (List.replicate m its).flatten.toArray := fun m => by
   have := zbS its m []
   rw [List.nil_append] at this
   exact this
  rw [f0]
  cases its with
  | nil => simp
  | cons a r' => rw [if_neg (by simp)]
 refine wpAny_binaryOp_repeat_ref (T := "list") (U := "int") (by decide) ⟨_, e, rfl⟩ (fun s' => typeIs_int s' k t) noFill_list_mul F.fills_int_mul F.slot_int_rmul repeat_list F.slot_int_index.lookup
  (call_meets F.slot_int_rmul (typeIs_int s k t) F.entry_int_rmul (F.args_int_rmul_2 _ _) (int___rmul___int_list k t l its.toArray n)
   ⟨e, rfl, ⟨_, e, rfl⟩, call_meets F.slot_list_mul ⟨_, e, rfl⟩ F.entry_list_mul (F.args_list_mul_2 _ _) (AutoListH.list___mul___list_int_3 l its.toArray n k t hfit hcap hlong) ⟨e, ?_⟩⟩)
 rw [hnew]
 exact ⟨.ref _, _, I.lnew (t' := s.toks) (r.rep k.toNat) (by rw [len_rep, Nat.mul_comm]; exact hz), rfl, q _ I.fresh⟩
end
end L2
namespace Att
open PySem PySem.W PySem.Calls PyProof.Rows
theorem QO {P : Params} {h : Heap} : ∀ (ns : List Int) (vs : List Value), WellAll P h vs (ns.map WData.int) -> IntsAre vs ns := by
 intro ns
 induction ns with
 | nil =>
  intro vs w
  rw [List.map_nil] at w
  cases w
  exact .nil
 | cons n ns ih =>
  intro vs w
  rw [List.map_cons] at w
  cases w with
  | cons a b =>
   cases a
   exact .cons _ _ (ih _ b)
theorem ze1 {l : OpenLaw} {n : Nat} (hn : l.most = some n) {P : Params} {h : Heap} {args : List WData} {vals : List Value}
  (hpre : l.row.toRowW.claim.pre args = true) (hwl : WellAll P h vals args) :
  ∃ a vs ns, vals = [Value.ref a] /\ args = [WData.list (ns.map WData.int)] /\ h.get? a = some { cls := .type "list", data := .seq vs.toArray } /\ IntsAre vs ns /\ ns.length <= n := by
 have hsh : WShape.hasAll [] args [.list .int] = true := (pre_splitW hpre).1
 have hc : l.pre.holds [] { args := args } = true := (pre_splitW hpre).2
 obtain ⟨d, r, rfl, h1, h2⟩ := hasAllW_cons hsh
 obtain rfl := hasAllW_nil h2
 obtain ⟨xs, rfl, h3⟩ := hasW_list h1
 obtain ⟨ns, rfl⟩ := items_int h3
 have hlen : ns.length <= n := by
  unfold OpenLaw.pre at hc
  have h4 : (WTm.not (.lt (.lit (.int (n : Int))) (.len (.arg 0)))).holds [] { args := [.list (ns.map .int)] } = true := by
   have h4 := (holds_andW hc).1
   rw [hn] at h4
   exact h4
  have h5 := condW_of h4 (w_not (w_lt w_lit (w_len_list (w_arg rfl))))
  rw [List.length_map] at h5
  refine Nat.le_of_not_lt fun q => ?_
  have q' : (n : Int) < ((ns.length : Nat) : Int) := by omega
  first
   | (rw [decide_eq_true q'] at h5; exact absurd h5 (by decide))
   | (simp at h5; omega)
 cases hwl with
 | cons w1 w2 =>
  cases w2
  cases w1 with
  | list ho hall => exact ⟨_, _, ns, rfl, rfl, ho, QO ns _ hall, hlen⟩
theorem zfk (l : OpenLaw) (args : List WData) : l.row.toRowW.claim.post args (.bool true) args = true :=
 postW_of (r := l.row.toRowW) (X := (true == true))
  (show WShape.has [] (.bool true) .bool = true by first | rfl | decide | simp [WShape.has, WShape.arms, WShape.armsAll])
  (show (WTm.eq .res (.lit (.bool true))).value [] { args := args, res := some (.bool true), after := args } = some (.bool (true == true)) from w_eq_bool (w_res rfl) w_lit) rfl
theorem attach_call {l : OpenLaw} {n : Nat} {q : Program} {loose : List Str} {XP : (Str -> Option Value) -> Heap -> Prop} {YP : World -> Heap -> Prop} {d : DefRec}
  (hn : l.most = some n) (hdf : d.params.defaults = [])
  (call : ∀ (w : World) (s₀ s₁ : Shared) (mg mb : Str -> Option Value) (fa : Addr) (o : Obj) (pm cd doc : Value) (a : Addr) (vs : List Value) (ns : List Int),
   Ground q loose [] XP w s₀ mg mb s₁.heap -> YP w s₁.heap ->
   s₁.heap.get? fa = some o -> o.data = .func (docDef d.name d.params d.body d.scope pm cd doc) -> s₁.heap.CodeRec cd d.name -> mg d.name = some (.ref fa) ->
   s₁.heap.get? a = some { cls := .type "list", data := .seq vs.toArray } -> IntsAre vs ns -> ns.length <= n -> s₁.gens = #[] ->
   codeAny (model l.prog w) callerA (.call (.ref fa) ⟨[.ref a], []⟩) (fun r s' => r = .ok (.ret (.bool true)) /\ OldK s₁.heap s'.heap /\ s'.os = s₁.os /\ AllBare s'.gens) s₁) :
  WalkO q loose XP YP l.row.toRowW d [] (fun f vs => PySem.call f vs) := by
 intro w s₀ s₁ mg mb G Y fa o pm cd doc dV kV ho hd hcd hD hmg hg args vals as hpre hlay hrd hwl hlo
 obtain rfl : dV = .none := Dflts.none hD hdf
 obtain rfl : kV = .none := Dflts.noKw hD
 obtain ⟨a, vs, ns, rfl, rfl, hobj, hints, hlen⟩ := ze1 hn hpre hwl
 refine enter_call (codeAny_mono (call w s₀ s₁ mg mb fa o pm cd doc a vs ns G Y ho (fd_plain hd) hcd hmg hobj hints hlen hg) fun r s' hq => ?_)
 obtain ⟨rfl, h2, h3, h4⟩ := hq
 exact ⟨.inl ⟨.bool true, .bool true, [], rfl, fun _ => rfl, .bool true, zfk l _, fun _ => ⟨List.Pairwise.nil, fun _ hm => (nomatch hm)⟩⟩, h2, h3, h4⟩
end Att
namespace L2
open PySem PySem.Spec PyProof.Rows
theorem zbi : ∀ {vs : List Value} {ns : List Int}, IntsAre vs ns -> Vals (ns.map V.int) vs
 | _, _, .nil => .nil
 | _, _, .cons n t h => .cons ⟨t, rfl⟩ (zbi h)
end L2
namespace L2
open PySem PySem.Spec PyProof.Rows
def Zm (s : Stmt) : Arguments := match s with
 | .FunctionDef _ a _ _ _ _ _ _ _ _ => a
 | _ => { posonlyargs := [], args := [], vararg := none, kwonlyargs := [], kw_defaults := [], kwarg := none, defaults := [] }
def Zl (s : Stmt) : List Stmt := match s with
 | .FunctionDef _ _ b _ _ _ _ _ _ _ => b
 | _ => []
def Zd (s : Stmt) : Scope := match s with
 | .FunctionDef _ _ _ _ _ _ sc _ _ _ => sc
 | _ => { kind := .function, names := [], isGenerator := false, isCoroutine := false }
abbrev CX0 : CXT := fun _ _ _ _ _ _ => False
abbrev E0 : XK := fun _ _ _ => False
theorem pass0 {X : Cx} : Jq CX0 X E0 := fun _ _ _ _ _ _ _ h => h.elim
structure Fun (K : PySem.W.Frag) (x qual : Str) (st : Stmt) (f : Addr) (fd : FuncData) : Prop where
 ex : ∃ (oc : Value) (od : Option Addr) (kV doc pm : Value) (an : Option Addr) (cdv ct : Value) (osl : Array (Option Value)),
  fd = PySem.W.fnOf x qual (Zm st) (Zl st) (Zd st) .none kV doc pm an cdv ct /\ K.lookup f = some ⟨oc, od, .func fd, osl⟩ /\ PySem.W.codeIn K cdv qual = true
 kp : PySem.W.keepIn K (.ref f) = true
section
variable {P : Program} {w : World} {K : PySem.W.Frag} {mg : Str -> Option Value} {base : Heap}
theorem Fun.ok {x qual : Str} {st : Stmt} {f : Addr} {fd : FuncData} {N ps : List Str} {k : Nat} {sp : Sp} (F : Fun K x qual st f fd) (S : FnScope N ps (Zd st)) (len : ∀ vs H Q E, sp vs H Q E -> vs.length = ps.length)
  (hbody : ∀ (cdv : Value) (A : Around) (outer : List Env) (s : Shared) (H : Hp) (vs : List V) (Q : VK) (E : XK), Room k (A.deeper (envOfC qual (Zd st) s.heap.objs.size f cdv)) -> sp vs H Q E ->
   ∃ t, PSs (cxOf CX0 P w K mg base N qual (Zd st) f cdv A outer s H E).nox (Zl st) t /\ t { nx := fun _ H' => Q .non H', rt := Q } (start N vs) H) : FnOk P w K mg base CX0 (k + 1) f fd ps sp := by
 obtain ⟨oc, od, kV, doc, pm, an, cdv, ct, osl, rfl, lk, hcd⟩ := F.ex
 refine fn_of lk hcd S len fun A outer s H vs Q E hr hsp => ?_
 obtain ⟨t, h, q⟩ := hbody cdv A outer s H vs Q E hr hsp
 exact ⟨t, h.nox, q⟩
theorem Fun.binds {x qual : Str} {st : Stmt} {f : Addr} {fd : FuncData} {ps : List Str} (F : Fun K x qual st f fd)
  (h : ∀ (kV doc pm : Value) (an : Option Addr) (cdv ct : Value) (us : List Value), us.length = ps.length -> bindArgs (PySem.W.fnOf x qual (Zm st) (Zl st) (Zd st) .none kV doc pm an cdv ct) ⟨us, []⟩ = pure (ps.zip us)) : ZF K fd ps [] := by
 obtain ⟨oc, od, kV, doc, pm, an, cdv, ct, osl, rfl, lk, hcd⟩ := F.ex
 exact .all (h kV doc pm an cdv ct)
theorem Zu {x qual : Str} {st : Stmt} {f : Addr} {oc : Value} {od an : Option Addr} {osl : Array (Option Value)} {kV doc pm cdv ct : Value} (l : K.lookup f = some ⟨oc, od, .func (PySem.W.fnOf x qual (Zm st) (Zl st) (Zd st) .none kV doc pm an cdv ct), osl⟩)
  (c : PySem.W.codeIn K cdv qual = true) (k : PySem.W.keepIn K (.ref f) = true) : Fun K x qual st f (PySem.W.fnOf x qual (Zm st) (Zl st) (Zd st) .none kV doc pm an cdv ct) := ⟨⟨oc, od, kV, doc, pm, an, cdv, ct, osl, rfl, l, c⟩, k⟩
end
section
variable {X : Cx}
theorem pv (i : Nat) {x : Str} {pos : Pos} (hN : X.N[i]? = some x := by rfl) (hv : Vis X.env.scope x := by first | exact Or.inl rfl | exact Or.inr (Or.inl rfl) | exact Or.inr (Or.inr rfl)) (hd : (x == ("__debug__" : Str)) = false := by decide)
  (hcd : (x == ("__classdict__" : Str)) = false := by decide) : PE X (.Name x pos) (tVar i) := zbD hN hv hd hcd
end
theorem iteF {A B : Prop} (h : B) : if false = true then A else B := by
 rw [if_neg Bool.false_ne_true]
 exact h
theorem iteT {A B : Prop} (h : A) : if true = true then A else B := by
 rw [if_pos rfl]
 exact h
end L2
namespace Fx
open PySem
inductive Sl where
 | emp | val (t : PyData) | own (xs : List PyData) | dct (es : List (PyData × PyData))
inductive Res (α : Type) where
 | ok (a : α) | exc (c : Str) | stuck
def Res.bind {α β : Type} (r : Res α) (f : α -> Res β) : Res β :=
 match r with
 | .ok a => f a
 | .exc c => .exc c
 | .stuck => .stuck
@[simp] theorem Res.bind_ok {α β : Type} (a : α) (f : α -> Res β) : Res.bind (.ok a) f = f a := rfl
@[simp] theorem Res.bind_exc {α β : Type} (c : Str) (f : α -> Res β) : Res.bind (.exc c) f = .exc c := rfl
@[simp] theorem Res.bind_stuck {α β : Type} (f : α -> Res β) : Res.bind .stuck f = .stuck := rfl
abbrev DE := List Sl -> Res PyData
abbrev DT := List Sl -> Res Bool
abbrev DA := List Sl -> Res (List PyData)
inductive Out where
 | nx (G : List Sl) | rt (t : PyData) | bk (G : List Sl) | ct (G : List Sl)
abbrev DS := List Sl -> Res Out
abbrev DF := List PyData -> Res PyData
@[simp] def frz1 (G : List Sl) (i : Nat) : List Sl :=
 match G[i]? with
 | some (.own xs) => G.set i (.val (.list xs))
 | _ => G
@[simp] def frz (is : List Nat) (G : List Sl) : List Sl := is.foldl frz1 G
@[simp] def frzA : List Sl -> List Sl
 | [] => []
 | .own xs :: r => .val (.list xs) :: frzA r
 | .emp :: r => .emp :: frzA r
 | .val t :: r => .val t :: frzA r
 | .dct _ :: r => .emp :: frzA r
@[simp] def frzS : Sl -> Sl
 | .own xs => .val (.list xs)
 | .emp => .emp
 | .val t => .val t
 | .dct _ => .emp
@[simp] theorem frzA_cons (s : Sl) (G : List Sl) : frzA (s :: G) = frzS s :: frzA G := by cases s <;> simp
mutual
def Xl : PyData -> Bool
 | .none | .bool _ | .int _ | .str _ => true
 | .tuple xs => WK xs
 | .list _ => false
 | .dict _ => false
def WK : List PyData -> Bool
 | [] => true
 | x :: xs => Xl x && WK xs
end
@[simp] theorem scalT_tuple (xs : List PyData) : Xl (.tuple xs) = WK xs := by simp [Xl]
@[simp] theorem scalT_dict (xs : List (PyData × PyData)) : Xl (.dict xs) = false := by simp [Xl]
@[simp] theorem scalT_list (xs : List PyData) : Xl (.list xs) = false := by simp [Xl]
@[simp] theorem zbt (x : PyData) (xs : List PyData) : WK (x :: xs) = (Xl x && WK xs) := by simp [WK]
@[simp] def dC (t : PyData) : DE := fun _ => .ok t
@[simp] def dVar (i : Nat) : DE := fun G => match G[i]? with
 | some (.val t) => .ok t
 | _ => .stuck
@[simp] def d1 (f : PyData -> Res PyData) (a : DE) : DE := fun G => (a G).bind f
@[simp] def d2 (f : PyData -> PyData -> Res PyData) (a b : DE) : DE := fun G => (a G).bind fun x => (b G).bind fun y => f x y
@[simp] def dNil : DA := fun _ => .ok []
@[simp] def Zc (a : DE) (r : DA) : DA := fun G => (a G).bind fun x => (r G).bind fun xs => .ok (x :: xs)
@[simp] def lenOk (xs : List PyData) : Bool := decide (xs.length <= 16777216)
@[simp] def dTup (a : DA) : DE := fun G => (a G).bind fun xs => if lenOk xs then .ok (.tuple xs) else .stuck
@[simp] def dLst (a : DA) : DE := fun G => (a G).bind fun xs => if lenOk xs then .ok (.list xs) else .stuck
@[simp] def Zk (f : DF) (a : DA) : DE := fun G => (a G).bind f
@[simp] def dIfE (c : DT) (a b : DE) : DE := fun G => (c G).bind fun k => if k then a G else b G
@[simp] def za8 (a b : DE) : DE := fun G => (a G).bind fun x => match x with
 | .bool k => if k then b G else .ok (.bool false)
 | _ => .stuck
@[simp] def dOrV (a b : DE) : DE := fun G => (a G).bind fun x => match x with
 | .bool k => if k then .ok (.bool true) else b G
 | _ => .stuck
@[simp] def dNotV (a : DE) : DE := fun G => (a G).bind fun x => match x with
 | .bool k => .ok (.bool (!k))
 | _ => .stuck
def YN (i j : Int) : Bool := decide (i.natAbs.log2 + j.natAbs.log2 + 2 <= 134217728) || decide (i.natAbs < 18446744073709551616) || decide (j.natAbs < 18446744073709551616)
def UZ (j : Int) : Bool := decide (j ≠ 0) && decide (j.natAbs.log2 < 9000)
@[simp] def fAdd : PyData -> PyData -> Res PyData
 | .int i, .int j => .ok (.int (i + j))
 | .list xs, .list ys => if xs.length + ys.length <= 16777216 then .ok (.list (xs ++ ys)) else .stuck
 | _, _ => .stuck
@[simp] def fSub : PyData -> PyData -> Res PyData
 | .int i, .int j => .ok (.int (i - j))
 | _, _ => .stuck
@[simp] def fMul : PyData -> PyData -> Res PyData
 | .int i, .int j => if YN i j then .ok (.int (i * j)) else .stuck
 | _, _ => .stuck
@[simp] def fDiv : PyData -> PyData -> Res PyData
 | .int i, .int j => if UZ j then .ok (.int (i.fdiv j)) else .stuck
 | _, _ => .stuck
@[simp] def fMod : PyData -> PyData -> Res PyData
 | .int i, .int j => if j = 0 then .stuck else .ok (.int (i.fmod j))
 | _, _ => .stuck
@[simp] def fNeg : PyData -> Res PyData
 | .int i => .ok (.int (-i))
 | _ => .stuck
@[simp] def fLt : PyData -> PyData -> Res PyData
 | .int i, .int j => .ok (.bool (decide (i < j)))
 | _, _ => .stuck
@[simp] def fGt : PyData -> PyData -> Res PyData
 | .int i, .int j => .ok (.bool (decide (j < i)))
 | _, _ => .stuck
@[simp] def fGe : PyData -> PyData -> Res PyData
 | .int i, .int j => .ok (.bool (decide (j <= i)))
 | _, _ => .stuck
def Xb (d : PyData) : Bool := d.canLay0 && decide (d.depth <= 64)
def fEq : PyData -> PyData -> Res PyData
 | .int i, .int j => .ok (.bool (decide (i = j)))
 | x, y => if Xb x && Xb y then .ok (.bool (x.eqv y)) else .stuck
def fNe : PyData -> PyData -> Res PyData
 | .int i, .int j => .ok (.bool (!decide (i = j)))
 | x, y => if Xb x && Xb y then .ok (.bool (!x.eqv y)) else .stuck
@[simp] def fIsN : PyData -> Res PyData
 | .none => .ok (.bool true)
 | _ => .ok (.bool false)
@[simp] def JD : PyData -> Res PyData
 | .none => .ok (.bool false)
 | _ => .ok (.bool true)
@[simp] def fLen : PyData -> Res PyData
 | .list xs => .ok (.int xs.length)
 | .tuple xs => .ok (.int xs.length)
 | _ => .stuck
@[simp] def fAbs : PyData -> Res PyData
 | .int i => .ok (.int (if i < 0 then -i else i))
 | _ => .stuck
def ixP (n : Nat) (i : Int) : Option Nat := if 0 <= i then (if i < n then some i.toNat else none) else if -(n : Int) <= i then some (i + n).toNat else none
def atP (xs : List PyData) (i : Int) : Option PyData := (ixP xs.length i).bind fun j => xs[j]?
@[simp] def ofO {α : Type} : Option α -> Res α
 | some a => .ok a
 | none => .stuck
@[simp] def fIx : PyData -> PyData -> Res PyData
 | .list xs, .int i => ofO (atP xs i)
 | .tuple xs, .int i => ofO (atP xs i)
 | _, _ => .stuck
@[simp] def isInt : PyData -> Bool
 | .int _ => true
 | .bool _ => true
 | _ => false
@[simp] def zfN : PyData -> Bool
 | .bool _ => true
 | _ => false
@[simp] def zaT : PyData -> Bool
 | .tuple _ => true
 | _ => false
@[simp] def isList : PyData -> Bool
 | .list _ => true
 | _ => false
@[simp] def fIs (p : PyData -> Bool) : PyData -> Res PyData
 | .dict _ => .stuck
 | .none => .ok (.bool (p .none))
 | .bool b => .ok (.bool (p (.bool b)))
 | .int b => .ok (.bool (p (.int b)))
 | .str b => .ok (.bool (p (.str b)))
 | .list b => .ok (.bool (p (.list b)))
 | .tuple b => .ok (.bool (p (.tuple b)))
@[simp] def fList : PyData -> Res (List PyData)
 | .list xs => .ok xs
 | .tuple xs => .ok xs
 | _ => .stuck
@[simp] def zdx : PyData -> Res PyData
 | .list xs => .ok (.tuple xs)
 | .tuple xs => .ok (.tuple xs)
 | _ => .stuck
@[simp] def truth : PyData -> Res Bool
 | .none => .ok false
 | .bool b => .ok b
 | .int i => .ok (i != 0)
 | .list xs => .ok (!xs.isEmpty)
 | .tuple xs => .ok (!xs.isEmpty)
 | _ => .stuck
@[simp] def tV (a : DE) : DT := fun G => (a G).bind truth
@[simp] def tAnd (a b : DT) : DT := fun G => (a G).bind fun k => if k then b G else .ok false
@[simp] def tOr (a b : DT) : DT := fun G => (a G).bind fun k => if k then .ok true else b G
@[simp] def tNot (a : DT) : DT := fun G => (a G).bind fun k => .ok (!k)
@[simp] def dSeq (a b : DS) : DS := fun G => (a G).bind fun o => match o with
 | .nx G' => b G'
 | .rt t => .ok (.rt t)
 | .bk G' => .ok (.bk G')
 | .ct G' => .ok (.ct G')
@[simp] def Z1 : DS := fun G => .ok (.nx G)
@[simp] def dNev : DS := fun _ => .stuck
def dSet (i : Nat) (is : List Nat) (e : DE) : DS := fun G => (e (frz is G)).bind fun t => .ok (.nx ((if Xl t then G else frz is G).set i (.val t)))
@[simp] theorem dSet_nil (i : Nat) (e : DE) (G : List Sl) : dSet i [] e G = (e G).bind fun t => .ok (.nx (G.set i (.val t))) := by
 unfold dSet
 show (e G).bind _ = _
 congr 1
 funext t
 show Res.ok (Out.nx ((if Xl t = true then G else G).set i (.val t))) = _
 rw [ite_self]
@[simp] theorem dSet_cons (i j : Nat) (is : List Nat) (e : DE) (G : List Sl) : dSet i (j :: is) e G = (e (frz (j :: is) G)).bind fun t => .ok (.nx ((if Xl t then G else frz (j :: is) G).set i (.val t))) := rfl
@[simp] def Qj (i : Nat) (is : List Nat) (e : DA) : DS := fun G => (e (frz is G)).bind fun xs => if i < G.length then .ok (.nx ((frz is G).set i (.own xs))) else .stuck
@[simp] def dRet (e : DE) : DS := fun G => (e (frzA G)).bind fun t => .ok (.rt t)
@[simp] def dIf (c : DT) (a b : DS) : DS := fun G => (c (frzA G)).bind fun k => if k then a G else b G
@[simp] def zcO (e : DE) : DS := fun G => (e (frzA G)).bind fun _ => .ok (.nx G)
@[simp] def zb5 (i : Nat) (G' : List Sl) (t : PyData) : Res Out :=
 match G'[i]? with
 | some (.own xs) => if xs.length < 16777216 then .ok (.nx (G'.set i (.own (xs ++ [t])))) else .stuck
 | _ => .stuck
@[simp] def zaU (G : List Sl) (i : Nat) : Bool := match G[i]? with
 | some (.own _) => true
 | _ => false
def dApp (i : Nat) (is : List Nat) (e : DE) : DS := fun G => if zaU G i then (e (frz is G)).bind fun t => zb5 i (if Xl t then G else frz is G) t else .stuck
@[simp] theorem dApp_nil (i : Nat) (e : DE) (G : List Sl) : dApp i [] e G = if zaU G i then (e G).bind fun t => zb5 i G t else .stuck := by
 unfold dApp
 congr 1
 show (e G).bind _ = _
 congr 1
 funext t
 show zb5 i (if Xl t = true then G else G) t = _
 rw [ite_self]
@[simp] theorem dApp_cons (i j : Nat) (is : List Nat) (e : DE) (G : List Sl) : dApp i (j :: is) e G = if zaU G i then (e (frz (j :: is) G)).bind fun t => zb5 i (if Xl t then G else frz (j :: is) G) t else .stuck := rfl
def forL (st : PyData -> List Sl -> Res (List Sl)) (b : DS) : List PyData -> List Sl -> Res Out
 | [], G => .ok (.nx G)
 | t :: ts, G => (st t G).bind fun G1 => (b G1).bind fun o => match o with
  | .nx G' => forL st b ts G'
  | .ct G' => forL st b ts G'
  | .bk G' => .ok (.nx G')
  | .rt t => .ok (.rt t)
@[simp] def dFor (st : PyData -> List Sl -> Res (List Sl)) (is : List Nat) (it : DA) (b : DS) : DS := fun G => (it (frz is G)).bind fun ts => forL st b ts (frz is G)
@[simp] def Zt (i : Nat) : PyData -> List Sl -> Res (List Sl) := fun t G => .ok (G.set i (.val t))
def Ye (c : DT) (b : DS) : Nat -> List Sl -> Res Out
 | 0, _ => .stuck
 | n + 1, G => (c (frzA G)).bind fun k => if k then (b G).bind fun o => match o with
   | .nx G' => Ye c b n G'
   | .ct G' => Ye c b n G'
   | .bk G' => .ok (.nx G')
   | .rt t => .ok (.rt t)
  else .ok (.nx G)
@[simp] def Qg (fuel : List Sl -> Nat) (c : DT) (b : DS) : DS := fun G => Ye c b (fuel G) G
@[simp] def noX {α : Type} : Res α -> Res α
 | .ok a => .ok a
 | _ => .stuck
def runF (n np : Nat) (b : DS) : DF := fun ts => if ts.length = np then (b (ts.map .val ++ List.replicate (n - np) .emp)).bind fun o => match o with
  | .rt t => .ok t
  | .nx _ => .ok .none
  | _ => .stuck
 else .stuck
theorem zbM {α : Type} (r : Res α) : (∃ a, noX r = .ok a) \/ noX r = .stuck := by
 cases r
 ·exact .inl ⟨_, rfl⟩
 ·exact .inr rfl
 ·exact .inr rfl
theorem noX_ok {α : Type} {r : Res α} {a : α} (h : noX r = .ok a) : r = .ok a := by
 cases r <;> simp at h
 rw [h]
def runQ (n np : Nat) (b : DS) : DF := fun ts => noX (runF n np b ts)
theorem zav (n np : Nat) (b : DS) (ts : List PyData) (c : Str) : runQ n np b ts ≠ .exc c := by
 unfold runQ
 cases runF n np b ts <;> simp
def rngT (lo : Int) (n : Nat) : List PyData := (List.range n).map fun (k : Nat) => .int (lo + (k : Int))
def Xz (j : Int) : Bool := decide (j.natAbs <= 1000000000000)
theorem ZP {n : Nat} (h : n <= 1000000000) : Xz (n : Int) = true := by
 unfold Xz
 exact decide_eq_true (by omega)
theorem VC {j : Int} (h : Xz j = true) : -(2 ^ 62) <= j /\ j < 2 ^ 62 := by
 have h' : j.natAbs <= 1000000000000 := of_decide_eq_true h
 omega
@[simp] def iRng (a : DE) : DA := fun G => (a G).bind fun x => match x with
 | .int j => if Xz j = true then .ok (rngT 0 j.toNat) else .stuck
 | _ => .stuck
@[simp] def iRng2 (a b : DE) : DA := fun G => (a G).bind fun x => (b G).bind fun y => match x, y with
 | .int i, .int j => if Xz i = true /\ Xz j = true then .ok (rngT i (j - i).toNat) else .stuck
 | _, _ => .stuck
theorem fLt_b : ∀ x y, (∃ k, fLt x y = .ok (.bool k)) \/ fLt x y = .stuck := by intro x y; cases x <;> cases y <;> simp
theorem fGt_b : ∀ x y, (∃ k, fGt x y = .ok (.bool k)) \/ fGt x y = .stuck := by intro x y; cases x <;> cases y <;> simp
theorem fGe_b : ∀ x y, (∃ k, fGe x y = .ok (.bool k)) \/ fGe x y = .stuck := by intro x y; cases x <;> cases y <;> simp
theorem fEq_b : ∀ x y, (∃ k, fEq x y = .ok (.bool k)) \/ fEq x y = .stuck := by
 intro x y
 unfold fEq
 split
 ·exact .inl ⟨_, rfl⟩
 ·split
  ·exact .inl ⟨_, rfl⟩
  ·exact .inr rfl
theorem fNe_b : ∀ x y, (∃ k, fNe x y = .ok (.bool k)) \/ fNe x y = .stuck := by
 intro x y
 unfold fNe
 split
 ·exact .inl ⟨_, rfl⟩
 ·split
  ·exact .inl ⟨_, rfl⟩
  ·exact .inr rfl
@[simp] def iSeq (a : DE) : DA := fun G => (a G).bind fun x => match x with
 | .list xs => .ok xs
 | .tuple xs => .ok xs
 | _ => .stuck
def zipT : List PyData -> List PyData -> List PyData
 | x :: xs, y :: ys => .tuple [x, y] :: zipT xs ys
 | _, _ => []
@[simp] def iZip (a b : DA) : DA := fun G => (a G).bind fun xs => (b G).bind fun ys => .ok (zipT xs ys)
@[simp] def WL (i j : Nat) : PyData -> List Sl -> Res (List Sl)
 | .tuple [x, y], G => .ok ((G.set i (.val x)).set j (.val y))
 | _, _ => .stuck
@[simp] def capS (cap : List Nat) (G : List Sl) : List Sl := cap.map fun i => match (G[i]? : Option Sl) with
 | some (.val t) => .val t
 | _ => .emp
def Yx (st : PyData -> List Sl -> Res (List Sl)) (c : DT) (e : DE) (C : List Sl) : List PyData -> Res (List PyData)
 | [] => .ok []
 | t :: ts => (noX (st t C)).bind fun G1 => (c G1).bind fun k => if k then (e G1).bind fun y => (Yx st c e C ts).bind fun ys => .ok (y :: ys) else Yx st c e C ts
@[simp] def Xk (nv : Nat) (cap : List Nat) (st : PyData -> List Sl -> Res (List Sl)) (it : DA) (c : DT) (e : DE) : DA := fun G => (it G).bind fun ts => if ts.length <= 16777216 then Yx st c e (List.replicate nv .emp ++ capS cap G) ts else .stuck
@[simp] def tT : DT := fun _ => .ok true
def sIxT (n d : Nat) : Option Int -> Nat
 | none => d
 | some i => if i < 0 then (i + n).toNat else min i.toNat n
def cutT (xs : List PyData) (lo hi : Option Int) : List PyData := (xs.drop (sIxT xs.length 0 lo)).take (sIxT xs.length xs.length hi - sIxT xs.length 0 lo)
abbrev DP := List Sl -> Res (Option Int)
@[simp] def pNo : DP := fun _ => .ok none
@[simp] def pAt (a : DE) : DP := fun G => (a G).bind fun x => match x with
 | .int i => .ok (some i)
 | _ => .stuck
@[simp] def oCut (a : DE) (lo hi : DP) : DA := fun G => (a G).bind fun x => (lo G).bind fun l => (hi G).bind fun h => match x with
 | .list xs => .ok (cutT xs l h)
 | _ => .stuck
@[simp] def dL (a : DA) : DE := fun G => (a G).bind fun xs => .ok (.list xs)
@[simp] def oLst (a : DA) : DA := fun G => (a G).bind fun xs => if lenOk xs then .ok xs else .stuck
@[simp] def zaI (a : DE) : DA := fun G => (a G).bind fList
def allT : List PyData -> Res Bool
 | [] => .ok true
 | .bool k :: r => (allT r).bind fun m => .ok (k && m)
 | _ => .stuck
theorem zgi : ∀ {xs : List PyData} {k : Bool}, allT xs = .ok k -> ∃ bs : List Bool, xs = bs.map .bool /\ k = bs.all id
 | [], k, h => by simp [allT] at h; exact ⟨[], rfl, by simp [<- h]⟩
 | x :: r, k, h => by
  cases x with
  | bool b =>
   simp only [allT] at h
   cases e : allT r with
   | ok m =>
    rw [e] at h
    simp at h
    obtain ⟨bs, h1, h2⟩ := zgi e
    exact ⟨b :: bs, by simp [h1], by simp [<- h, h2]⟩
   | exc c => rw [e] at h; cases h
   | stuck => rw [e] at h; cases h
  | none => simp [allT] at h
  | int _ => simp [allT] at h
  | str _ => simp [allT] at h
  | list _ => simp [allT] at h
  | tuple _ => simp [allT] at h
  | dict _ => simp [allT] at h
theorem zdV : ∀ (xs : List PyData) (c : Str), allT xs ≠ .exc c
 | [], c => by simp [allT]
 | x :: r, c => by
  cases x with
  | bool b =>
   simp only [allT]
   cases e : allT r with
   | ok m => simp
   | exc c' => exact absurd e (zdV r c')
   | stuck => simp
  | none => simp [allT]
  | int _ => simp [allT]
  | str _ => simp [allT]
  | list _ => simp [allT]
  | tuple _ => simp [allT]
  | dict _ => simp [allT]
@[simp] def fAll : PyData -> Res PyData
 | .list xs => (allT xs).bind fun k => .ok (.bool k)
 | _ => .stuck
@[simp] def zbr (i : Nat) (G' : List Sl) (t kt : PyData) : Res Out :=
 match G'[i]?, kt with
 | some (.own xs), .int j => match ixP xs.length j with
  | some m => .ok (.nx (G'.set i (.own (xs.set m t))))
  | none => .stuck
 | _, _ => .stuck
def Vv (i : Nat) (is : List Nat) (k e : DE) : DS := fun G => (e (frz is G)).bind fun t => if zaU (if Xl t then G else frz is G) i then (k (frz is G)).bind fun kt => zbr i (if Xl t then G else frz is G) t kt else .stuck
@[simp] theorem dSetIt_nil (i : Nat) (k e : DE) (G : List Sl) : Vv i [] k e G = (e G).bind fun t => if zaU G i then (k G).bind fun kt => zbr i G t kt else .stuck := by
 unfold Vv
 show (e G).bind _ = _
 congr 1
 funext t
 show (if zaU (if Xl t = true then G else G) i = true then (k G).bind fun kt => zbr i (if Xl t = true then G else G) t kt else .stuck) = _
 rw [ite_self]
@[simp] theorem dSetIt_cons (i j : Nat) (is : List Nat) (k e : DE) (G : List Sl) : Vv i (j :: is) k e G = (e (frz (j :: is) G)).bind fun t => if zaU (if Xl t then G else frz (j :: is) G) i then (k (frz (j :: is) G)).bind fun kt => zbr i (if Xl t then G else frz (j :: is) G) t kt else .stuck := rfl
theorem ze6 {i : Nat} : ∀ t G c, Zt i t G ≠ .exc c := by intro t G c; simp
theorem ze5 {i j : Nat} : ∀ t G c, WL i j t G ≠ .exc c := by
 intro t G c
 unfold WL
 split <;> simp
def zb6 (nv : Nat) (st : PyData -> List Sl -> Res (List Sl)) : Prop := ∀ t G G1, st t G = .ok G1 -> G1.length = G.length /\ ∀ i, nv <= i -> G1[i]? = G[i]?
theorem ZN {nv i : Nat} (h : i < nv) : zb6 nv (Zt i) := by
 intro t G G1 e
 simp at e
 subst e
 refine ⟨by simp, fun j hj => ?_⟩
 rw [List.getElem?_set_ne (by omega)]
theorem QM {nv i j : Nat} (h : i < nv) (h2 : j < nv) : zb6 nv (WL i j) := by
 intro t G G1 e
 unfold WL at e
 split at e
 ·cases e
  refine ⟨by simp, fun k hk => ?_⟩
  rw [List.getElem?_set_ne (by omega), List.getElem?_set_ne (by omega)]
 ·cases e
end Fx
namespace Fx
open PySem
theorem zcv {x m : Nat} (h : x < 2 ^ m) : x.log2 <= m := by
 by_cases hx : x = 0
 ·subst hx; simp
 ·exact Nat.le_of_lt ((Nat.log2_lt hx).mpr h)
theorem Z9 {i j : Int} {m n : Nat} (hi : i.natAbs < 2 ^ m) (hj : j.natAbs < 2 ^ n) (h : m + n + 2 <= 134217728) : YN i j = true := by
 have h1 := zcv hi
 have h2 := zcv hj
 simp only [YN, Bool.or_eq_true, decide_eq_true_eq]
 omega
theorem zfw {i j : Int} (hj : j.natAbs < 18446744073709551616) : YN i j = true := by
 simp only [YN, Bool.or_eq_true, decide_eq_true_eq]
 exact .inr hj
theorem zaL {i j : Int} (hi : i.natAbs < 18446744073709551616) : YN i j = true := by
 simp only [YN, Bool.or_eq_true, decide_eq_true_eq]
 exact .inl (.inr hi)
theorem Uv {j : Int} {m : Nat} (h0 : j ≠ 0) (hj : j.natAbs < 2 ^ m) (h : m < 9000) : UZ j = true := by
 have h2 := zcv hj
 simp only [UZ, Bool.and_eq_true, decide_eq_true_eq]
 exact ⟨h0, by omega⟩
theorem ZD {i j : Int} {m n : Nat} (hi : i.natAbs < 2 ^ m) (hj : j.natAbs < 2 ^ n) : (i * j).natAbs < 2 ^ (m + n) := by
 rw [Int.natAbs_mul, Nat.pow_add]
 exact Nat.mul_lt_mul'' hi hj
theorem zaK {i j : Int} {m : Nat} (hi : i.natAbs < 2 ^ m) (hj : j.natAbs < 2 ^ m) : (i + j).natAbs < 2 ^ (m + 1) := by
 have := Int.natAbs_add_le i j
 rw [Nat.pow_succ]; omega
theorem zdc {m n : Nat} (h : m <= n) : 2 ^ m <= 2 ^ n := Nat.pow_le_pow_right (by decide) h
def fr (q : Rat) : PyData := .tuple [.int q.num, .int (q.den : Int)]
structure Sz (n : Nat) (q : Rat) : Prop where
 num : q.num.natAbs < 2 ^ n
 den : q.den < 2 ^ n
theorem Sz.mono {m n : Nat} {q : Rat} (h : Sz m q) (l : m <= n) : Sz n q := ⟨Nat.lt_of_lt_of_le h.num (zdc l), Nat.lt_of_lt_of_le h.den (zdc l)⟩
theorem Sz.denI {n : Nat} {q : Rat} (h : Sz n q) : ((q.den : Int)).natAbs < 2 ^ n := by rw [Int.natAbs_natCast]; exact h.den
theorem Xg (q : Rat) : (q.den : Int) ≠ 0 := by have := q.den_nz; omega
theorem XE {u l : Int} {n : Nat} (hl : l ≠ 0) (h1 : u.natAbs < 2 ^ n) (h2 : l.natAbs < 2 ^ n) : Sz n (Rat.divInt u l) := by
 constructor
 ·rw [Rat.num_divInt]
  refine Nat.lt_of_le_of_lt ?_ h1
  have e : (l.sign * u / (l.gcd u : Int)).natAbs <= (l.sign * u).natAbs := Int.natAbs_ediv_le_natAbs _ _
  refine Nat.le_trans e ?_
  rw [Int.natAbs_mul, Int.natAbs_sign_of_ne_zero hl, Nat.one_mul]
  exact Nat.le_refl _
 ·rw [Rat.den_divInt, if_neg hl]
  exact Nat.lt_of_le_of_lt (Nat.div_le_self _ _) h2
theorem zel {u l : Int} (hl : l ≠ 0) {q : Rat} (e : q = Rat.divInt u l) : q.num * l = u * q.den := by
 have h : Rat.divInt q.num q.den = Rat.divInt u l := by rw [Rat.num_divInt_den]; exact e
 exact (Rat.divInt_eq_divInt_iff (Xg q) hl).mp h
theorem QS (q : Rat) : Int.gcd q.num q.den = 1 := q.reduced
def uGcd : List Sl -> Nat := fun G => match (G[1]? : Option Sl) with
 | some (.val (.int b)) => b.natAbs + 1
 | _ => 0
def gcdC : DT := tV (d2 fNe (dVar 1) (dC (.int 0)))
def gcdB : DS := dSeq (dSet 2 [] (d2 fMod (dVar 0) (dVar 1))) (dSeq (dSet 0 [] (dVar 1)) (dSet 1 [] (dVar 2)))
theorem gcd_step {a b : Int} (ha : 0 <= a) (hb : 0 <= b) : Int.gcd b (a % b) = Int.gcd a b := by
 obtain ⟨m, rfl⟩ := Int.eq_ofNat_of_zero_le ha
 obtain ⟨n, rfl⟩ := Int.eq_ofNat_of_zero_le hb
 rw [<- Int.natCast_emod, Int.gcd_natCast_natCast, Int.gcd_natCast_natCast, Nat.gcd_comm n, <- Nat.gcd_rec, Nat.gcd_comm]
theorem zdu : ∀ (n : Nat) (a b : Int) (s : Sl), 0 <= a -> 0 <= b -> b.natAbs < n ->
  ∃ s', Ye gcdC gcdB n [.val (.int a), .val (.int b), s] = .ok (.nx [.val (.int (Int.gcd a b)), .val (.int 0), s'])
 | 0, a, b, s, ha, hb, h => by omega
 | n + 1, a, b, s, ha, hb, h => by
  unfold Ye
  by_cases hz : b = 0
  ·subst hz
   refine ⟨s, ?_⟩
   simp [gcdC, fNe, Int.natAbs_of_nonneg ha]
  ·have hf : Int.fmod a b = a % b := Int.fmod_eq_emod_of_nonneg a hb
   have h1 : 0 <= a % b := Int.emod_nonneg a hz
   have h2 : a % b < b := Int.emod_lt_of_pos a (by omega)
   obtain ⟨s', e⟩ := zdu n b (a % b) (.val (.int (a % b))) hb h1 (by omega)
   refine ⟨s', ?_⟩
   rw [gcd_step ha hb] at e
   simpa [gcdC, gcdB, fNe, hz, hf] using e
def dGcd : DS := dSeq (dSet 0 [] (d1 fAbs (dVar 0))) (dSeq (dSet 1 [] (d1 fAbs (dVar 1))) (dSeq (Qg uGcd gcdC gcdB) (dRet (dVar 0))))
theorem abs_if (a : Int) : (if a < 0 then -a else a) = (a.natAbs : Int) := by split <;> omega
theorem gcd_ok (a b : Int) : runF 3 2 dGcd [.int a, .int b] = .ok (.int (Int.gcd a b)) := by
 obtain ⟨s', e⟩ := zdu (b.natAbs + 1) a.natAbs b.natAbs .emp (Int.natCast_nonneg _) (Int.natCast_nonneg _) (by simp)
 have g : Int.gcd (a.natAbs : Int) (b.natAbs : Int) = Int.gcd a b := by simp [Int.gcd]
 rw [g] at e
 simp [runF, dGcd, abs_if, uGcd, e]
end Fx
namespace Fx
open PySem
theorem WR {st : PyData -> List Sl -> Res (List Sl)} {b : DS} (Inv : Nat -> List Sl -> Prop) : ∀ (ts : List PyData) (k : Nat) (G : List Sl), Inv k G ->
  (∀ i t G, ts[i]? = some t -> Inv (k + i) G -> ∃ G1, st t G = .ok G1 /\ ∃ G2, (b G1 = .ok (.nx G2) \/ b G1 = .ok (.ct G2)) /\ Inv (k + i + 1) G2) ->
  ∃ G', forL st b ts G = .ok (.nx G') /\ Inv (k + ts.length) G'
 | [], k, G, h0, _ => ⟨G, rfl, h0⟩
 | t :: ts, k, G, h0, hs => by
  obtain ⟨G1, e1, G2, e2, h2⟩ := hs 0 t G rfl h0
  obtain ⟨G', e3, h3⟩ := WR Inv ts (k + 1) G2 h2 fun i t' G' ht hi => by
   have := hs (i + 1) t' G' (by simpa using ht) (by rw [<- Nat.add_assoc, Nat.add_right_comm]; exact hi)
   simpa [Nat.add_assoc, Nat.add_comm, Nat.add_left_comm] using this
  refine ⟨G', ?_, by simpa [Nat.add_assoc, Nat.add_comm, Nat.add_left_comm] using h3⟩
  rw [forL, e1, Res.bind_ok]
  rcases e2 with e2 | e2 <;> rw [e2, Res.bind_ok] <;> exact e3
theorem Xd (lo : Int) (n : Nat) : (rngT lo n).length = n := by simp [rngT]
theorem zfb {lo : Int} {n i : Nat} {t : PyData} (h : (rngT lo n)[i]? = some t) : i < n /\ t = .int (lo + (i : Int)) := by
 unfold rngT at h
 rw [List.getElem?_map] at h
 by_cases hi : i < n
 ·rw [List.getElem?_eq_getElem (by simpa using hi)] at h
  simp at h
  exact ⟨hi, h.symm⟩
 ·rw [List.getElem?_eq_none (by simpa using hi)] at h
  cases h
theorem QU {st : PyData -> List Sl -> Res (List Sl)} {b : DS} {n : Nat} {G : List Sl} (Inv : Nat -> List Sl -> Prop) (h0 : Inv 0 G)
  (hs : ∀ i G, i < n -> Inv i G -> ∃ G1, st (.int (i : Int)) G = .ok G1 /\ ∃ G2, (b G1 = .ok (.nx G2) \/ b G1 = .ok (.ct G2)) /\ Inv (i + 1) G2) :
  ∃ G', forL st b (rngT 0 n) G = .ok (.nx G') /\ Inv n G' := by
 obtain ⟨G', e, h⟩ := WR Inv (rngT 0 n) 0 G h0 fun i t G ht hi => by
  obtain ⟨hl, rfl⟩ := zfb ht
  simpa using hs i G hl (by simpa using hi)
 refine ⟨G', e, ?_⟩
 rw [Xd] at h
 simpa using h
theorem ZX {α : Type} {st : PyData -> List Sl -> Res (List Sl)} {e : DE} {C : List Sl} (inj f : α -> PyData) : ∀ (xs : List α), (∀ x ∈ xs, ∃ G1, st (inj x) C = .ok G1 /\ e G1 = .ok (f x)) -> Yx st tT e C (xs.map inj) = .ok (xs.map f)
 | [], _ => rfl
 | t :: ts, h => by
  obtain ⟨G1, e1, e2⟩ := h t List.mem_cons_self
  have ih := ZX inj f ts fun t' ht => h t' (List.mem_cons_of_mem _ ht)
  rw [List.map_cons]
  unfold Yx
  simp [e1, e2, ih]
theorem zae {α : Type} {st : PyData -> List Sl -> Res (List Sl)} {c : DT} {e : DE} {C : List Sl} (inj f : α -> PyData) (p : α -> Bool) : ∀ (xs : List α), (∀ x ∈ xs, ∃ G1, st (inj x) C = .ok G1 /\ c G1 = .ok (p x) /\ (p x = true -> e G1 = .ok (f x))) ->
  Yx st c e C (xs.map inj) = .ok ((xs.filter p).map f)
 | [], _ => rfl
 | t :: ts, h => by
  obtain ⟨G1, e1, e2, e3⟩ := h t List.mem_cons_self
  have ih := zae inj f p ts fun t' ht => h t' (List.mem_cons_of_mem _ ht)
  rw [List.map_cons]
  unfold Yx
  cases hp : p t with
  | false => simp [e1, e2, ih, hp]
  | true => simp [e1, e2, e3 hp, ih, hp]
theorem We (n : Nat) : rngT 0 n = (List.range n).map fun (k : Nat) => PyData.int (k : Int) := by simp [rngT]
theorem Sz.zero : Sz 1 0 := ⟨by decide, by decide⟩
theorem zeu (a b : Rat) : a + b = Rat.divInt (a.num * b.den + b.num * a.den) (a.den * b.den) := by
 have := Rat.divInt_add_divInt a.num b.num (Xg a) (Xg b)
 rw [Rat.num_divInt_den, Rat.num_divInt_den] at this
 exact this
theorem JO (a b : Rat) : a * b = Rat.divInt (a.num * b.num) (a.den * b.den) := by
 have := Rat.divInt_mul_divInt a.num b.num (d₁ := a.den) (d₂ := b.den)
 rw [Rat.num_divInt_den, Rat.num_divInt_den] at this
 exact this
theorem Sz.add {m n : Nat} {a b : Rat} (ha : Sz m a) (hb : Sz n b) : Sz (m + n + 1) (a + b) := by
 rw [zeu]
 have h1 := ZD ha.num hb.denI
 have h2 := ZD hb.num ha.denI
 rw [Nat.add_comm n m] at h2
 exact XE (Int.mul_ne_zero (Xg a) (Xg b)) (zaK h1 h2) (Nat.lt_of_lt_of_le (ZD ha.denI hb.denI) (zdc (Nat.le_succ _)))
theorem Sz.mul {m n : Nat} {a b : Rat} (ha : Sz m a) (hb : Sz n b) : Sz (m + n) (a * b) := by
 rw [JO]
 exact XE (Int.mul_ne_zero (Xg a) (Xg b)) (ZD ha.num hb.num) (ZD ha.denI hb.denI)
theorem U2 {α : Type} {f : α -> PyData} : ∀ (xs : List α), (∀ x ∈ xs, (f x).canLay0 = true) -> PyData.canLayAll0 (xs.map f) = true
 | [], _ => by simp [PyData.canLayAll0]
 | x :: xs, h => by simp [PyData.canLayAll0, h x List.mem_cons_self, U2 xs fun y hy => h y (List.mem_cons_of_mem _ hy)]
theorem QZ {α : Type} {f : α -> PyData} {n : Nat} : ∀ (xs : List α), (∀ x ∈ xs, (f x).depth <= n) -> PyData.depthAll (xs.map f) <= n
 | [], _ => by simp [PyData.depthAll]
 | x :: xs, h => by
  have h1 := h x List.mem_cons_self
  have h2 := QZ (f := f) (n := n) xs fun y hy => h y (List.mem_cons_of_mem _ hy)
  simp only [List.map_cons, PyData.depthAll]
  omega
def Shp (n : Nat) (t : PyData) : Prop := t.canLay0 = true /\ t.depth <= n
theorem Shp.ok {n : Nat} {t : PyData} (h : Shp n t) (hn : n <= 64) : Xb t = true := by
 simp [Xb, h.1]; exact Nat.le_trans h.2 hn
theorem zeV (i : Int) : Shp 0 (.int i) := ⟨by simp [PyData.canLay0], by simp [PyData.depth]⟩
theorem zaq {α : Type} {f : α -> PyData} {n : Nat} {xs : List α} (h : ∀ x ∈ xs, Shp n (f x)) : Shp (n + 1) (.list (xs.map f)) := by
 refine ⟨by simp [PyData.canLay0, U2 xs fun x hx => (h x hx).1], ?_⟩
 have := QZ (f := f) (n := n) xs fun x hx => (h x hx).2
 simp [PyData.depth]; omega
theorem zeU {α : Type} {f : α -> PyData} {n : Nat} {xs : List α} (h : ∀ x ∈ xs, Shp n (f x)) : Shp (n + 1) (.tuple (xs.map f)) := by
 refine ⟨by simp [PyData.canLay0, U2 xs fun x hx => (h x hx).1], ?_⟩
 have := QZ (f := f) (n := n) xs fun x hx => (h x hx).2
 simp [PyData.depth]; omega
theorem shp_pair {n : Nat} {a b : PyData} (ha : Shp n a) (hb : Shp n b) : Shp (n + 1) (.tuple [a, b]) := by
 have := zeU (f := id) (n := n) (xs := [a, b]) (by intro x hx; simp at hx; rcases hx with rfl | rfl <;> assumption)
 simpa using this
theorem zbp (q : Rat) : Shp 1 (fr q) := shp_pair (zeV _) (zeV _)
mutual
theorem Uu : ∀ (t : PyData), t.canLay0 = true -> t.eqv t = true
 | .none, _ => by simp [PyData.eqv]
 | .bool b, _ => by simp [PyData.eqv]
 | .int i, _ => by simp [PyData.eqv]
 | .str x, _ => by simp [PyData.eqv]
 | .list xs, h => by simp only [PyData.eqv]; exact V7 xs (by simpa [PyData.canLay0] using h)
 | .tuple xs, h => by simp only [PyData.eqv]; exact V7 xs (by simpa [PyData.canLay0] using h)
 | .dict _, h => by simp [PyData.canLay0] at h
theorem V7 : ∀ (ts : List PyData), PyData.canLayAll0 ts = true -> PyData.eqvAll ts ts = true
 | [], _ => by simp [PyData.eqvAll]
 | t :: ts, h => by
  simp only [PyData.canLayAll0, Bool.and_eq_true] at h
  simp [PyData.eqvAll, Uu t h.1, V7 ts h.2]
end
theorem eqv_fr (a b : Rat) : PyData.eqv (fr a) (fr b) = decide (a = b) := by
 have : (a = b) ↔ (a.num = b.num /\ (a.den : Int) = b.den) := ⟨fun h => by subst h; exact ⟨rfl, rfl⟩, fun ⟨h1, h2⟩ => Rat.ext h1 (by exact_mod_cast h2)⟩
 by_cases h : a = b
 ·subst h; rw [Uu _ (zbp a).1]; simp
 ·simp only [fr, PyData.eqv, PyData.eqvAll, Bool.and_true]
  rw [decide_eq_false h]
  have := fun z => h (this.mpr z)
  by_cases h1 : a.num = b.num
  ·have h2 : (a.den : Int) ≠ b.den := fun z => this ⟨h1, z⟩
   simp [h1]; exact_mod_cast h2
  ·simp [h1]
theorem fEq_fr (a b : Rat) : fEq (fr a) (fr b) = .ok (.bool (decide (a = b))) := by
 unfold fEq
 split
 ·rename_i e1 e2; cases e1
 ·simp [(zbp a).ok (by decide), (zbp b).ok (by decide), eqv_fr]
end Fx
namespace Lw
open PySem Fx
abbrev Uj : List Sl -> Nat := uGcd
abbrev Qu : List Sl -> Nat := uGcd
def zac : DS :=
  (dRet (za8 (d1 (fIs isInt) (dVar 0)) (dNotV (d1 (fIs zfN) (dVar 0)))))
def Yu : DF := runQ 1 1 zac
def UF : DS :=
  (dRet (dVar 0))
def UG : DS :=
  dSeq (Qg Uj (tV (d2 fNe (dVar 1) (dC (.int 0))))
  (dSeq (dSet 2 [] (d2 fMod (dVar 0) (dVar 1)))
  (dSeq (dSet 0 [] (dVar 1))
  (dSet 1 [] (dVar 2)))))
  UF
def UH : DS :=
  dSeq (dSet 1 [] (d1 fAbs (dVar 1)))
  UG
def Qi : DS :=
  dSeq (dSet 0 [] (d1 fAbs (dVar 0)))
  UH
def ZE : DF := runQ 3 2 Qi
def Vp : DS :=
  (dRet (za8 (d2 fGe (d2 fIx (dVar 0) (dC (.int 1))) (dC (.int 1))) (d2 fEq (Zk ZE (Zc (d2 fIx (dVar 0) (dC (.int 0))) (Zc (d2 fIx (dVar 0) (dC (.int 1))) dNil))) (dC (.int 1)))))
def Vq : DS :=
  dSeq (dIf (tOr (tNot (tV (Zk Yu (Zc (d2 fIx (dVar 0) (dC (.int 0))) dNil)))) (tNot (tV (Zk Yu (Zc (d2 fIx (dVar 0) (dC (.int 1))) dNil)))))
  (dRet (dC (.bool false)))
  Z1)
  Vp
def UD : DS :=
  dSeq (dIf (tOr (tNot (tV (d1 (fIs zaT) (dVar 0)))) (tV (d2 fNe (d1 fLen (dVar 0)) (dC (.int 2)))))
  (dRet (dC (.bool false)))
  Z1)
  Vq
def YH : DF := runQ 1 1 UD
def Qq : DS :=
  (dRet (dTup (Zc (d2 fDiv (dVar 0) (dVar 2)) (Zc (d2 fDiv (dVar 1) (dVar 2)) dNil))))
def Qr : DS :=
  dSeq (dIf (tV (d2 fLt (dVar 1) (dC (.int 0))))
  (dSet 2 [] (d1 fNeg (dVar 2)))
  Z1)
  Qq
def Qs : DS :=
  dSeq (dSet 2 [] (Zk ZE (Zc (dVar 0) (Zc (dVar 1) dNil))))
  Qr
def zdN : DS :=
  dSeq (dIf (tV (d2 fEq (dVar 1) (dC (.int 0))))
  dNev
  Z1)
  Qs
def YJ : DF := runQ 3 2 zdN
def d_plus : DS :=
  (dRet (Zk YJ (Zc (d2 fAdd (d2 fMul (d2 fIx (dVar 0) (dC (.int 0))) (d2 fIx (dVar 1) (dC (.int 1)))) (d2 fMul (d2 fIx (dVar 1) (dC (.int 0))) (d2 fIx (dVar 0) (dC (.int 1))))) (Zc (d2 fMul (d2 fIx (dVar 0) (dC (.int 1))) (d2 fIx (dVar 1) (dC (.int 1)))) dNil))))
def JT : DF := runQ 2 2 d_plus
def zf4 : DS :=
  (dRet (Zk YJ (Zc (d2 fMul (d2 fIx (dVar 0) (dC (.int 0))) (d2 fIx (dVar 1) (dC (.int 0)))) (Zc (d2 fMul (d2 fIx (dVar 0) (dC (.int 1))) (d2 fIx (dVar 1) (dC (.int 1)))) dNil))))
def WS : DF := runQ 2 2 zf4
def zga : DS :=
  (dRet (d2 fLt (d2 fMul (d2 fIx (dVar 0) (dC (.int 0))) (d2 fIx (dVar 1) (dC (.int 1)))) (d2 fMul (d2 fIx (dVar 1) (dC (.int 0))) (d2 fIx (dVar 0) (dC (.int 1))))))
def zfY : DF := runQ 2 2 zga
def Vu : DS :=
  (dIf (tNot (tV (d1 fAll (dL (Xk 1 [] (Zt 0) (iSeq (dVar 1)) tT (Zk YH (Zc (dVar 0) dNil)))))))
  dNev
  Z1)
def UI : DS :=
  dSeq (dIf (tOr (tNot (tV (d1 (fIs isList) (dVar 1)))) (tV (d2 fNe (d1 fLen (dVar 1)) (dVar 0))))
  dNev
  Z1)
  Vu
def Z0 : DF := runQ 2 2 UI
def X8 : DS :=
  (dRet (d2 fAdd (d2 fMul (d2 fIx (dVar 0) (d2 fMod (dVar 1) (d1 fLen (dVar 0)))) (dC (.int 31))) (dVar 1)))
def Xj : DS :=
  dSeq (dIf (tV (d2 fEq (dVar 0) (dLst dNil)))
  (dRet (dC (.int 0)))
  Z1)
  X8
def XR : DS :=
  dSeq (dIf (tV (d2 fLt (dVar 1) (d1 fLen (dVar 0))))
  (dRet (d2 fIx (dVar 0) (dVar 1)))
  Z1)
  Xj
def Zr : DF := runQ 2 2 XR
def Wn : DS :=
  (dRet (dVar 2))
def Wo : DS :=
  dSeq (dIf (tV (d2 fGt (dVar 2) (dVar 1)))
  (dRet (d2 fSub (d2 fSub (dVar 2) (d2 fMul (dC (.int 2)) (dVar 1))) (dC (.int 1))))
  Z1)
  Wn
def Vo : DS :=
  dSeq (dSet 2 [] (d2 fMod (dVar 0) (d2 fAdd (d2 fMul (dC (.int 2)) (dVar 1)) (dC (.int 1)))))
  Wo
def Ya : DF := runQ 3 2 Vo
def Je : DS :=
  (dRet (dVar 0))
def Jf : DS :=
  dSeq (Qg Qu (tV (d2 fNe (dVar 1) (dC (.int 0))))
  (dSeq (dSet 2 [] (d2 fMod (dVar 0) (dVar 1)))
  (dSeq (dSet 0 [] (dVar 1))
  (dSet 1 [] (dVar 2)))))
  Je
def Jg : DS :=
  dSeq (dSet 1 [] (d1 fAbs (dVar 1)))
  Jf
def za1 : DS :=
  dSeq (dSet 0 [] (d1 fAbs (dVar 0)))
  Jg
def YG : DF := runQ 3 2 za1
def Qa : DS :=
  (dRet (dTup (Zc (d2 fDiv (dVar 0) (dVar 2)) (Zc (d2 fDiv (dVar 1) (dVar 2)) dNil))))
def Qb : DS :=
  dSeq (dIf (tV (d2 fLt (dVar 1) (dC (.int 0))))
  (dSet 2 [] (d1 fNeg (dVar 2)))
  Z1)
  Qa
def zab : DS :=
  dSeq (dSet 2 [] (Zk YG (Zc (dVar 0) (Zc (dVar 1) dNil))))
  Qb
def Yg : DF := runQ 3 2 zab
def zbV : DS :=
  (dRet (Zk Yg (Zc (d2 fAdd (d2 fMul (d2 fMul (d2 fIx (dVar 0) (dC (.int 0))) (d2 fIx (dVar 1) (dC (.int 1)))) (d2 fIx (dVar 2) (dC (.int 1)))) (d2 fMul (d2 fMul (d2 fIx (dVar 2) (dC (.int 0))) (d2 fIx (dVar 1) (dC (.int 0)))) (d2 fIx (dVar 0) (dC (.int 1))))) (Zc (d2 fMul (d2 fMul (d2 fIx (dVar 0) (dC (.int 1))) (d2 fIx (dVar 1) (dC (.int 1)))) (d2 fIx (dVar 2) (dC (.int 1)))) dNil))))
def Yh : DF := runQ 3 3 zbV
def zcH : DS :=
  (dRet (d2 fLt (d2 fMul (d2 fIx (dVar 0) (dC (.int 0))) (d2 fIx (dVar 1) (dC (.int 1)))) (d2 fMul (d2 fIx (dVar 1) (dC (.int 0))) (d2 fIx (dVar 0) (dC (.int 1))))))
def Xw : DF := runQ 2 2 zcH
def Jb : DS :=
  (dRet (za8 (d1 (fIs isInt) (dVar 0)) (dNotV (d1 (fIs zfN) (dVar 0)))))
def Xv : DF := runQ 1 1 Jb
def X6 : DS :=
  (dRet (d2 fEq (Zk YG (Zc (d2 fIx (dVar 0) (dC (.int 0))) (Zc (d2 fIx (dVar 0) (dC (.int 1))) dNil))) (dC (.int 1))))
def X7 : DS :=
  dSeq (dIf (tOr (tNot (tV (Zk Xv (Zc (d2 fIx (dVar 0) (dC (.int 0))) dNil)))) (tOr (tNot (tV (Zk Xv (Zc (d2 fIx (dVar 0) (dC (.int 1))) dNil)))) (tV (d2 fLt (d2 fIx (dVar 0) (dC (.int 1))) (dC (.int 1))))))
  (dRet (dC (.bool false)))
  Z1)
  X6
def WD : DS :=
  dSeq (dIf (tOr (tNot (tV (d1 (fIs zaT) (dVar 0)))) (tV (d2 fNe (d1 fLen (dVar 0)) (dC (.int 2)))))
  (dRet (dC (.bool false)))
  Z1)
  X7
def ZG : DF := runQ 1 1 WD
end Lw
namespace Lw
open PySem Fx
theorem zgd (a b : Int) : ZE [.int a, .int b] = .ok (.int (Int.gcd a b)) := by show noX (runF 3 2 dGcd [.int a, .int b]) = _; rw [gcd_ok]; rfl
theorem ld_ok (a b : Int) : YG [.int a, .int b] = .ok (.int (Int.gcd a b)) := by show noX (runF 3 2 dGcd [.int a, .int b]) = _; rw [gcd_ok]; rfl
theorem Qo {u : Int} {g : Nat} : u.fdiv (g : Int) = u / (g : Int) := Int.fdiv_eq_ediv_of_nonneg _ (Int.natCast_nonneg _)
theorem V5 {u l : Int} {n : Nat} (hl : l ≠ 0) (h2 : l.natAbs < 2 ^ n) (hn : n < 9000) : YJ [.int u, .int l] = .ok (fr (Rat.divInt u l)) := by
 have hg : 0 < Int.gcd u l := Nat.pos_of_ne_zero (by simp [hl])
 have hgl : Int.gcd u l <= l.natAbs := Nat.le_of_dvd (by omega) (Int.gcd_dvd_natAbs_right u l)
 have d1 : UZ (Int.gcd u l : Int) = true := Uv (m := n) (by omega) (by rw [Int.natAbs_natCast]; omega) hn
 have d2 : UZ (-(Int.gcd u l : Int)) = true := Uv (m := n) (by omega) (by rw [Int.natAbs_neg, Int.natAbs_natCast]; omega) hn
 have hd1 : (Int.gcd u l : Int) ∣ u := Int.gcd_dvd_left ..
 have hd2 : (Int.gcd u l : Int) ∣ l := Int.gcd_dvd_right ..
 by_cases c : l < 0
 ·have e1 : u.fdiv (-(Int.gcd u l : Int)) = (Rat.divInt u l).num := by
   rw [Rat.num_divInt, Int.sign_eq_neg_one_of_neg c, Int.gcd_comm l u, Int.neg_one_mul]
   obtain ⟨k, hk⟩ := hd1
   generalize hG : (Int.gcd u l : Int) = G at *
   have hG0 : 0 < G := by omega
   rw [hk, Int.fdiv_eq_ediv_of_dvd ⟨-k, by rw [Int.neg_mul_neg]⟩]
   rw [Int.ediv_neg, <- Int.mul_neg, Int.mul_ediv_cancel_left _ (by omega), Int.mul_ediv_cancel_left _ (by omega)]
  have e2 : l.fdiv (-(Int.gcd u l : Int)) = ((Rat.divInt u l).den : Int) := by
   rw [Rat.den_divInt, if_neg hl, Int.gcd_comm l u]
   obtain ⟨k, hk⟩ := hd2
   have hna : ((l.natAbs / Int.gcd u l : Nat) : Int) = -l / (Int.gcd u l : Int) := by
    rw [Int.natCast_ediv]
    have : (l.natAbs : Int) = -l := by omega
    rw [this]
   rw [hna]
   generalize hG : (Int.gcd u l : Int) = G at *
   have hG0 : 0 < G := by omega
   rw [hk, Int.fdiv_eq_ediv_of_dvd ⟨-k, by rw [Int.neg_mul_neg]⟩]
   rw [Int.ediv_neg, <- Int.mul_neg, Int.mul_ediv_cancel_left _ (by omega), Int.mul_ediv_cancel_left _ (by omega)]
  simp [YJ, runQ, runF, zdN, Qs, Qr, Qq, fEq, zgd, hl, c, d2, e1, e2, fr]
 ·have e1 : u.fdiv (Int.gcd u l : Int) = (Rat.divInt u l).num := by
   rw [Rat.num_divInt, Int.sign_eq_one_of_pos (by omega), Int.gcd_comm l u, Int.one_mul, Qo]
  have e2 : l.fdiv (Int.gcd u l : Int) = ((Rat.divInt u l).den : Int) := by
   rw [Rat.den_divInt, if_neg hl, Int.gcd_comm l u, Qo, Int.natCast_ediv]
   have : (l.natAbs : Int) = l := by omega
   rw [this]
  simp [YJ, runQ, runF, zdN, Qs, Qr, Qq, fEq, zgd, hl, c, d1, e1, e2, fr]
theorem at0 (x y : PyData) : atP [x, y] 0 = some x := rfl
theorem at1 (x y : PyData) : atP [x, y] 1 = some y := rfl
section
variable {a b : Rat} {m n : Nat}
theorem plus_ok (ha : Sz m a) (hb : Sz n b) (h : m + n < 8999) : JT [fr a, fr b] = .ok (fr (a + b)) := by
 have o1 : YN a.num b.den = true := Z9 ha.num hb.denI (by omega)
 have o2 : YN b.num a.den = true := Z9 hb.num ha.denI (by omega)
 have o3 : YN a.den b.den = true := Z9 ha.denI hb.denI (by omega)
 have z : (a.den : Int) * b.den ≠ 0 := Int.mul_ne_zero (Xg a) (Xg b)
 have e := V5 (u := a.num * b.den + b.num * a.den) (n := m + n) z (ZD ha.denI hb.denI) (by omega)
 have q : a + b = Rat.divInt (a.num * b.den + b.num * a.den) (a.den * b.den) := by
  have := Rat.divInt_add_divInt a.num b.num (Xg a) (Xg b)
  rw [Rat.num_divInt_den, Rat.num_divInt_den] at this
  exact this
 rw [q]
 simp [JT, runQ, runF, d_plus, at0, at1, o1, o2, o3, e, fr]
theorem zcW (ha : Sz m a) (hb : Sz n b) (h : m + n < 8999) : WS [fr a, fr b] = .ok (fr (a * b)) := by
 have o1 : YN a.num b.num = true := Z9 ha.num hb.num (by omega)
 have o3 : YN a.den b.den = true := Z9 ha.denI hb.denI (by omega)
 have z : (a.den : Int) * b.den ≠ 0 := Int.mul_ne_zero (Xg a) (Xg b)
 have e := V5 (u := a.num * b.num) (n := m + n) z (ZD ha.denI hb.denI) (by omega)
 have q : a * b = Rat.divInt (a.num * b.num) (a.den * b.den) := by
  have := Rat.divInt_mul_divInt a.num b.num (d₁ := a.den) (d₂ := b.den)
  rw [Rat.num_divInt_den, Rat.num_divInt_den] at this
  exact this
 rw [q]
 simp [WS, runQ, runF, zf4, at0, at1, o1, o3, e, fr]
theorem below_ok (ha : Sz m a) (hb : Sz n b) (h : m + n < 8999) : zfY [fr a, fr b] = .ok (.bool (decide (a < b))) := by
 have o1 : YN a.num b.den = true := Z9 ha.num hb.denI (by omega)
 have o2 : YN b.num a.den = true := Z9 hb.num ha.denI (by omega)
 simp [zfY, runQ, runF, zga, at0, at1, o1, o2, fr, Rat.lt_iff]
end
theorem zfL (q : Rat) : ZG [fr q] = .ok (.bool true) := by
 have w : ∀ i : Int, Xv [.int i] = .ok (.bool true) := fun i => by simp [Xv, runQ, runF, Jb]
 have hd : ¬ ((q.den : Int) < 1) := by have := q.den_nz; omega
 simp [ZG, runQ, runF, WD, X7, X6, fr, at0, at1, w, ld_ok, hd, fNe, fEq, QS]
theorem at_lt {ns : List Int} {k : Int} (h0 : 0 <= k) (h : k < ns.length) : ∃ c : Int, atP (ns.map .int) k = some (.int c) := by
 have hk : k.toNat < ns.length := by omega
 refine ⟨ns[k.toNat], ?_⟩
 simp [atP, ixP, h0, h, hk]
theorem Qw : ∀ ns : List Int, Xb (.list (ns.map .int)) = true := by
 intro ns
 have h1 : ∀ ns : List Int, PyData.canLayAll0 (ns.map .int) = true := by
  intro ns
  induction ns with
  | nil => simp [PyData.canLayAll0]
  | cons n ns ih => simp [PyData.canLayAll0, PyData.canLay0, ih]
 have h2 : ∀ ns : List Int, PyData.depthAll (ns.map .int) = 0 := by
  intro ns
  induction ns with
  | nil => simp [PyData.depthAll]
  | cons n ns ih => simp [PyData.depthAll, PyData.depth, ih]
 simp [Xb, PyData.canLay0, PyData.depth, h1, h2]
theorem eqv_nil (ns : List Int) : PyData.eqv (.list (ns.map .int)) (.list []) = ns.isEmpty := by
 cases ns <;> simp [PyData.eqv, PyData.eqvAll]
theorem JF : Xb (.list []) = true := Qw []
theorem Uh (ns : List Int) (k : Int) (h0 : 0 <= k) : ∃ c : Int, Zr [.list (ns.map .int), .int k] = .ok (.int c) := by
 by_cases h : k < ns.length
 ·obtain ⟨c, e⟩ := at_lt h0 h
  exact ⟨c, by simp [Zr, runQ, runF, XR, Xj, X8, h, e]⟩
 ·by_cases hz : ns = []
  ·subst hz
   exact ⟨0, by
    have z := JF
    have hk : ¬ k < 0 := by omega
    simp [Zr, runQ, runF, XR, Xj, fEq, z, hk, PyData.eqv, PyData.eqvAll]⟩
  ·have hl : (0 : Int) < ns.length := by
    have : ns.length ≠ 0 := by simpa using hz
    omega
   have hf : Int.fmod k ns.length = k % ns.length := Int.fmod_eq_emod_of_nonneg _ (by omega)
   obtain ⟨c, e⟩ := at_lt (ns := ns) (k := k % ns.length) (Int.emod_nonneg _ (by omega)) (Int.emod_lt_of_pos _ hl)
   have hE : ns.isEmpty = false := by simpa using hz
   have o : YN c 31 = true := zfw (by decide)
   refine ⟨c * 31 + k, ?_⟩
   simp [Zr, runQ, runF, XR, Xj, X8, h, fEq, Qw, JF, eqv_nil, hE, hz, hf, e, o]
theorem zbL (c w : Int) (hw : 0 <= w) (hs : w.natAbs < 2 ^ 67) : ∃ r : Int, Ya [.int c, .int w] = .ok (.int r) /\ -w <= r /\ r <= w := by
 have o : YN 2 w = true := zaL (by decide)
 have hm : 2 * w + 1 ≠ 0 := by omega
 have hf : Int.fmod c (2 * w + 1) = c % (2 * w + 1) := Int.fmod_eq_emod_of_nonneg _ (by omega)
 have h1 : 0 <= c % (2 * w + 1) := Int.emod_nonneg _ hm
 have h2 : c % (2 * w + 1) < 2 * w + 1 := Int.emod_lt_of_pos _ (by omega)
 by_cases h : w < c % (2 * w + 1)
 ·refine ⟨c % (2 * w + 1) - 2 * w - 1, ?_, by omega, by omega⟩
  simp [Ya, runQ, runF, Vo, Wo, Wn, o, hm, hf, h]
 ·refine ⟨c % (2 * w + 1), ?_, by omega, by omega⟩
  simp [Ya, runQ, runF, Vo, Wo, Wn, o, hm, hf, h]
theorem zaQ {u l : Int} {n : Nat} (hl : l ≠ 0) (h2 : l.natAbs < 2 ^ n) (hn : n < 9000) : Yg [.int u, .int l] = .ok (fr (Rat.divInt u l)) := by
 have e := V5 (u := u) hl h2 hn
 rw [<- e]
 by_cases c : l < 0 <;> simp [Yg, YJ, runQ, runF, zab, Qb, Qa, zdN, Qs, Qr, Qq, fEq, hl, c, zgd, ld_ok]
@[simp] def noD : PyData -> Bool
 | .dict _ => false
 | _ => true
theorem whole_ok (t : PyData) (h : noD t = true) : Yu [t] = .ok (.bool (match t with | .int _ => true | _ => false)) := by
 cases t <;> simp [Yu, runQ, runF, zac] at h ⊢
theorem zbh (i : Int) : Yu [.int i] = .ok (.bool true) := whole_ok (.int i) rfl
theorem zfK (q : Rat) : YH [fr q] = .ok (.bool true) := by
 have hd : (1 : Int) <= (q.den : Int) := by have := q.den_nz; omega
 simp [YH, runQ, runF, UD, Vq, Vp, fr, at0, at1, zbh, zgd, hd, fNe, fEq, QS]
theorem zfU (w : Int) : (PyData.tuple [.int w, .int 1]) = fr (w : Rat) := by simp [fr]
theorem QT : (PyData.tuple [.int 0, .int 1]) = fr 0 := by simp [fr]
theorem zbQ {a b : Rat} {m n : Nat} (ha : Sz m a) (hb : Sz n b) (h : m + n < 8999) : Xw [fr a, fr b] = .ok (.bool (decide (a < b))) := below_ok ha hb h
theorem zgj {a b c : Rat} {m n k : Nat} (ha : Sz m a) (hb : Sz n b) (hc : Sz k c) (h : m + n + k < 8999) : Yh [fr a, fr b, fr c] = .ok (fr (a + c * b)) := by
 have o1 : YN a.num b.den = true := Z9 ha.num hb.denI (by omega)
 have o2 : YN (a.num * b.den) c.den = true := Z9 (ZD ha.num hb.denI) hc.denI (by omega)
 have o3 : YN c.num b.num = true := Z9 hc.num hb.num (by omega)
 have o4 : YN (c.num * b.num) a.den = true := Z9 (ZD hc.num hb.num) ha.denI (by omega)
 have o5 : YN a.den b.den = true := Z9 ha.denI hb.denI (by omega)
 have o6 : YN (a.den * b.den) c.den = true := Z9 (ZD ha.denI hb.denI) hc.denI (by omega)
 have z : (a.den : Int) * b.den * c.den ≠ 0 := Int.mul_ne_zero (Int.mul_ne_zero (Xg a) (Xg b)) (Xg c)
 have e := zaQ (u := a.num * b.den * c.den + c.num * b.num * a.den) (n := m + n + k) z (ZD (ZD ha.denI hb.denI) hc.denI) (by omega)
 have q : a + c * b = Rat.divInt (a.num * b.den * c.den + c.num * b.num * a.den) (a.den * b.den * c.den) := by
  have e1 : c * b = Rat.divInt (c.num * b.num) (c.den * b.den) := JO c b
  have e2 : a = Rat.divInt a.num a.den := (Rat.num_divInt_den a).symm
  have e3 := Rat.divInt_add_divInt a.num (c.num * b.num) (Xg a) (Int.mul_ne_zero (Xg c) (Xg b))
  rw [e1]
  conv => lhs; rw [e2]
  rw [e3]
  congr 1
  ·rw [Int.mul_assoc a.num, Int.mul_comm (b.den : Int)]
  ·rw [Int.mul_assoc, Int.mul_comm (b.den : Int)]
 rw [q]
 simp [Yh, runQ, runF, zbV, at0, at1, atP, ixP, o1, o2, o3, o4, o5, o6, e, fr]
def dot : List Int -> List Rat -> Rat
 | w :: ws, p :: ps => (w : Rat) * p + dot ws ps
 | _, _ => 0
theorem Ui {α : Type} {f : α -> PyData} {xs : List α} {i : Nat} (h : i < xs.length) : atP (xs.map f) (i : Int) = some (f xs[i]) := by
 simp [atP, ixP, h]
theorem Y9 {α β : Type} {f : α -> PyData} {g : β -> PyData} : ∀ (xs : List α) (ys : List β), zipT (xs.map f) (ys.map g) = (xs.zip ys).map fun p => .tuple [f p.1, g p.2]
 | [], ys => by simp [zipT]
 | x :: xs, [] => by simp [zipT]
 | x :: xs, y :: ys => by simp [zipT, Y9 xs ys]
end Lw
namespace Lw
open PySem Fx
abbrev Lim := List Int × Int
def limT (l : Lim) : PyData := .tuple [.tuple (l.1.map .int), .int l.2]
theorem zdk {c : Int} {n : Nat} (h : 0 < n) : ∃ r : Nat, Int.fmod c (n : Int) = (r : Int) /\ r < n := by
 rw [Int.fmod_eq_emod_of_nonneg _ (by omega)]
 have h1 := Int.emod_nonneg c (b := (n : Int)) (by omega)
 have h2 := Int.emod_lt_of_pos c (b := (n : Int)) (by omega)
 exact ⟨(c % n).toNat, by omega, by omega⟩
end Lw
namespace Lw
open PySem Fx
theorem Jo {α : Type} : ∀ (xs : List α), allT (xs.map fun _ => PyData.bool true) = .ok true
 | [] => rfl
 | _ :: xs => by simp [allT, Jo xs]
theorem zdQ {k : Nat} {ps : List Rat} (h : ps.length = k) (hk : k <= 1000) : Z0 [.int k, .list (ps.map fr)] = .ok .none := by
 have e := ZX (st := Zt 0) (e := (Zk YH (Zc (dVar 0) dNil))) (C := [.emp]) fr (fun _ => PyData.bool true) ps fun x hx => ⟨[.val (fr x)], rfl, by simp [zfK]⟩
 have hl : ps.length <= 16777216 := by omega
 have a := Jo ps
 subst h
 simp [Z0, runQ, runF, UI, Vu, fNe, hl, e, a]
end Lw
namespace Fx
open PySem PySem.Spec PyProof.Rows L2
def LD (o : HO) : Prop := (∃ vs, o = .lst vs) \/ ∃ kvs, o = .dT kvs
def CO (c : Addr) (q : Str) : HO := .ext fun h => ∃ oc vs t, h.get? c = some oc /\ oc.data = .fields vs /\ vs[1]? = some (.str q t)
def Wi : List Str := ["raising_column"]
def lamQ (x : Str) : Str := x ++ ".<locals>." ++ "<lambda>"
def WZ (K : PySem.W.Frag) (H : Hp) : Prop := ∀ x c T, x ∈ Wi -> PySem.W.tabIn K x = some (c, T) ->
 ∃ ps, H T = some (.tbl ps) /\ TriplesOk ps.toList /\ ∀ pos cv, codeAmong pos ps.toList = some cv -> ∃ c', cv = .ref c' /\ H c' = some (CO c' (lamQ x))
def Nt (o : HO) : Prop := ∀ ps, o ≠ .tbl ps
theorem not_nt {o : HO} (h : ¬ Nt o) : ∃ ps, o = .tbl ps := Classical.byContradiction fun z => h fun ps e => z ⟨ps, e⟩
theorem QH {xs : List V} : Nt (.lst xs) := fun _ z => by cases z
theorem nt_tup {xs : List V} : Nt (.tup xs) := fun _ z => by cases z
theorem nt_ins {C dx : Addr} {fs : List (Str × V)} : Nt (.ins C dx fs) := fun _ z => by cases z
theorem zdh {o : Obj} {u : HO} : Nt (.frz o u) := fun _ z => by cases z
theorem zfu {φ : Heap -> Prop} : Nt (.ext φ) := fun _ z => by cases z
theorem nt_dT {kvs : List (List Key × V)} : Nt (.dT kvs) := fun _ z => by cases z
theorem LD.nt {o : HO} (h : LD o) : Nt o := by rcases h with ⟨_, rfl⟩ | ⟨_, rfl⟩ <;> exact fun _ z => by cases z
structure Same (H H' : Hp) : Prop where
 kp : ∀ b o, H b = some o -> Nt o -> H' b = some o
 free : ∀ {b}, H' b = none -> H b = none
 tab : ∀ K, WZ K H -> WZ K H'
 tbk : ∀ b ps, H b = some (.tbl ps) -> ∃ qs, H' b = some (.tbl qs)
theorem Same.refl (H : Hp) : Same H H := ⟨fun _ _ h _ => h, fun h => h, fun _ h => h, fun _ ps h => ⟨ps, h⟩⟩
theorem Same.trans {H H1 H2 : Hp} (a : Same H H1) (b : Same H1 H2) : Same H H2 := ⟨fun c o h n => b.kp c o (a.kp c o h n) n, fun h => a.free (b.free h), fun K h => b.tab K (a.tab K h), fun c ps h => let ⟨qs, h1⟩ := a.tbk c ps h; b.tbk c qs h1⟩
theorem WZ.mono {K : PySem.W.Frag} {H H' : Hp} (h : WZ K H) (e : ∀ b o, H b = some o -> ¬ LD o -> H' b = some o) : WZ K H' := fun x c T hx ht => by
 obtain ⟨ps, h1, h2, h3⟩ := h x c T hx ht
 refine ⟨ps, e _ _ h1 (fun z => by rcases z with ⟨_, z⟩ | ⟨_, z⟩ <;> cases z), h2, fun pos cv hc => ?_⟩
 obtain ⟨c', e1, e2⟩ := h3 pos cv hc
 exact ⟨c', e1, e _ _ e2 (fun z => by rcases z with ⟨_, z⟩ | ⟨_, z⟩ <;> cases z)⟩
theorem Same.of {H H' : Hp} (e : ∀ b o, H b = some o -> H' b = some o) : Same H H' where
 kp := fun b o h _ => e b o h
 free := fun {b} h => by
  cases q : H b with
  | none => rfl
  | some o => rw [e b o q] at h; cases h
 tab := fun K h => WZ.mono h fun b o q _ => e b o q
 tbk := fun b ps h => ⟨ps, e b _ h⟩
structure Pv where
 own : Nat -> Option Addr
 fb : Addr -> Prop
def Off (P : Pv) (a : Addr) : Prop := (∀ i, P.own i ≠ some a) /\ ¬ P.fb a
def Tr (H : Hp) (P : Pv) (H' : Hp) (P' : Pv) : Prop := ∀ a o, H a = some o -> Nt o -> Off P a -> H' a = some o /\ Off P' a
theorem Tr.refl (H : Hp) (P : Pv) : Tr H P H P := fun _ _ h _ o => ⟨h, o⟩
theorem Tr.same {H H' : Hp} {P : Pv} (e : Same H H') : Tr H P H' P := fun a o h n q => ⟨e.kp a o h n, q⟩
structure Go (H : Hp) (P : Pv) (H' : Hp) (P' : Pv) : Prop where
 mv : ∀ a o, H a = some o -> Nt o -> (∀ i, P.own i ≠ some a) -> H' a = some o /\ ∀ i, P'.own i ≠ some a
 fbe : P'.fb = P.fb
 free : ∀ {b}, H' b = none -> H b = none
 tab : ∀ K, WZ K H -> WZ K H'
 tbk : ∀ b ps, H b = some (.tbl ps) -> ∃ qs, H' b = some (.tbl qs)
theorem Go.refl (H : Hp) (P : Pv) : Go H P H P := ⟨fun _ _ h _ o => ⟨h, o⟩, rfl, fun h => h, fun _ h => h, fun _ ps h => ⟨ps, h⟩⟩
theorem Go.trans {H H1 H2 : Hp} {P P1 P2 : Pv} (a : Go H P H1 P1) (b : Go H1 P1 H2 P2) : Go H P H2 P2 := ⟨fun c o h n q =>
 let ⟨h1, q1⟩ := a.mv c o h n q
 b.mv c o h1 n q1, b.fbe.trans a.fbe, fun h => a.free (b.free h), fun K h => b.tab K (a.tab K h), fun c ps h => let ⟨qs, h1⟩ := a.tbk c ps h; b.tbk c qs h1⟩
theorem Go.same {H H' : Hp} {P : Pv} (e : Same H H') : Go H P H' P := ⟨fun a o h n q => ⟨e.kp a o h n, q⟩, rfl, fun h => e.free h, e.tab, e.tbk⟩
theorem Go.tr {H H' : Hp} {P P' : Pv} (g : Go H P H' P') : Tr H P H' P' := fun a o h n q => ⟨(g.mv a o h n q.1).1, (g.mv a o h n q.1).2, by rw [g.fbe]; exact q.2⟩
theorem Go.all {H H' : Hp} {P P' : Pv} (g : Go H P H' P') (ho : ∀ i, P.own i = none) : Same H H' := ⟨fun b o e n => (g.mv b o e n fun i => by rw [ho i]; exact fun z => by cases z).1, fun h => g.free h, g.tab, g.tbk⟩
def ModL (K : PySem.W.Frag) (a : Addr) (xs : List V) : Prop :=
 ∃ (o : Obj) (its : Array Value) (n : Nat), K.lookup a = some o /\ o.cls = .type "list" /\ o.dict = none /\ o.data = .seq its n /\ its.size <= sizeLine /\ Vals xs its.toList
def SL (K : PySem.W.Frag) (H : Hp) (P : Pv) (a : Addr) (xs : List V) : Prop := (Rd H a (.lst xs) /\ Off P a) \/ ModL K a xs
def ST (K : PySem.W.Frag) (H : Hp) (P : Pv) (a : Addr) (xs : List V) : Prop := H a = some (.tup xs) /\ Off P a
theorem SL.sq {K : PySem.W.Frag} {H : Hp} {P : Pv} {a : Addr} {xs : List V} (h : SL K H P a xs) : SqL K H a xs := by
 rcases h with ⟨h, _⟩ | h
 ·exact .inl h
 ·exact .inr h
theorem ST.sq {K : PySem.W.Frag} {H : Hp} {P : Pv} {a : Addr} {xs : List V} (h : ST K H P a xs) : SqT K H a xs := .inl (.inl h.1)
theorem Rd.go {H H' : Hp} {P P' : Pv} {a : Addr} {u : HO} (g : Tr H P H' P') (n : Nt u) (h : Rd H a u) (o : Off P a) : Rd H' a u /\ Off P' a := by
 rcases h with h | ⟨ob, h⟩
 ·exact ⟨.inl (g _ _ h n o).1, (g _ _ h n o).2⟩
 ·exact ⟨.inr ⟨ob, (g _ _ h zdh o).1⟩, (g _ _ h zdh o).2⟩
theorem SL.go {K : PySem.W.Frag} {H H' : Hp} {P P' : Pv} {a : Addr} {xs : List V} (g : Tr H P H' P') (h : SL K H P a xs) : SL K H' P' a xs := by
 rcases h with ⟨h, o⟩ | h
 ·exact .inl (Fx.Rd.go g QH h o)
 ·exact .inr h
theorem ST.go {K : PySem.W.Frag} {H H' : Hp} {P P' : Pv} {a : Addr} {xs : List V} (g : Tr H P H' P') (h : ST K H P a xs) : ST K H' P' a xs := g _ _ h.1 nt_tup h.2
def XO (K : PySem.W.Frag) (a : Addr) : HO := .ext fun h => ∃ ob C, h.get? a = some ob /\ ob.cls = .ref C /\ PySem.W.subIn K (.ref C) (.type "ValueError") = some true
mutual
def Rl (K : PySem.W.Frag) (H : Hp) (P : Pv) : PyData -> V -> Prop
 | .none, v => v = .non
 | .bool b, v => v = .bl b
 | .int i, v => v = .int i
 | .str x, v => v = .str x
 | .list xs, v => ∃ a vs, v = .ref a /\ SL K H P a vs /\ Rls K H P xs vs
 | .tuple xs, v => ∃ a vs, v = .ref a /\ ST K H P a vs /\ Rls K H P xs vs
 | .dict xs, v => (xs = [] /\ ∃ a, v = .ref a /\ H a = some (XO K a) /\ Off P a) \/ (xs ≠ [] /\ ∃ a C dx fs, v = .ref a /\ H a = some (.ins C dx fs) /\ Off P a /\ Cls K C /\ Rlp K H P C xs fs) \/
   ∃ a ob kvs, v = .ref a /\ H a = some (.frz ob (.dT kvs)) /\ Off P a /\ Rld K H P xs kvs
def Rls (K : PySem.W.Frag) (H : Hp) (P : Pv) : List PyData -> List V -> Prop
 | [], vs => vs = []
 | x :: xs, vs => ∃ v r, vs = v :: r /\ Rl K H P x v /\ Rls K H P xs r
def Rlp (K : PySem.W.Frag) (H : Hp) (P : Pv) (C : Addr) : List (PyData × PyData) -> List (Str × V) -> Prop
 | [], fs => fs = []
 | (k, t) :: xs, fs => ∃ n v r, fs = (n, v) :: r /\ k = .str n /\ Wl K C n /\ Rl K H P t v /\ Rlp K H P C xs r
def Rld (K : PySem.W.Frag) (H : Hp) (P : Pv) : List (PyData × PyData) -> List (List Key × V) -> Prop
 | [], _ => False
 | (k, t) :: xs, kvs => k = .none /\ t = .none /\ Rlk K H P xs kvs
def Rlk (K : PySem.W.Frag) (H : Hp) (P : Pv) : List (PyData × PyData) -> List (List Key × V) -> Prop
 | [], kvs => kvs = []
 | (k, t) :: xs, kvs => ∃ ns v r, kvs = (List.map Sum.inl ns, v) :: r /\ k = .tuple (List.map .int ns) /\ Rl K H P t v /\ Rlk K H P xs r
end
mutual
theorem Rl.go {K : PySem.W.Frag} {H H' : Hp} {P P' : Pv} (g : Tr H P H' P') : ∀ (t : PyData) (v : V), Rl K H P t v -> Rl K H' P' t v
 | .none, v, h => by simpa only [Rl] using h
 | .bool b, v, h => by simpa only [Rl] using h
 | .int i, v, h => by simpa only [Rl] using h
 | .str x, v, h => by simpa only [Rl] using h
 | .list xs, v, h => by
  simp only [Rl] at h ⊢
  obtain ⟨a, vs, e, s, r⟩ := h
  exact ⟨a, vs, e, s.go g, Rls.go g xs vs r⟩
 | .tuple xs, v, h => by
  simp only [Rl] at h ⊢
  obtain ⟨a, vs, e, s, r⟩ := h
  exact ⟨a, vs, e, s.go g, Rls.go g xs vs r⟩
 | .dict xs, v, h => by
  simp only [Rl] at h ⊢
  rcases h with ⟨e, a, e2, s, o⟩ | ⟨e, a, C, dx, fs, e2, s, o, c, r⟩ | ⟨a, ob, kvs, e2, s, o, r⟩
  ·exact .inl ⟨e, a, e2, g a _ s zfu o⟩
  ·exact .inr (.inl ⟨e, a, C, dx, fs, e2, (g a _ s nt_ins o).1, (g a _ s nt_ins o).2, c, Rlp.go g xs fs r⟩)
  ·exact .inr (.inr ⟨a, ob, kvs, e2, (g a _ s zdh o).1, (g a _ s zdh o).2, Rld.go g xs kvs r⟩)
theorem Rls.go {K : PySem.W.Frag} {H H' : Hp} {P P' : Pv} (g : Tr H P H' P') : ∀ (ts : List PyData) (vs : List V), Rls K H P ts vs -> Rls K H' P' ts vs
 | [], vs, h => by simpa only [Rls] using h
 | x :: xs, vs, h => by
  simp only [Rls] at h ⊢
  obtain ⟨v, r, e, q, t⟩ := h
  exact ⟨v, r, e, Rl.go g x v q, Rls.go g xs r t⟩
theorem Rlp.go {K : PySem.W.Frag} {H H' : Hp} {P P' : Pv} {C : Addr} (g : Tr H P H' P') : ∀ (ts : List (PyData × PyData)) (fs : List (Str × V)), Rlp K H P C ts fs -> Rlp K H' P' C ts fs
 | [], vs, h => by simpa only [Rlp] using h
 | (k, t) :: xs, vs, h => by
  simp only [Rlp] at h ⊢
  obtain ⟨n, v, r, e, e2, na, q, z⟩ := h
  exact ⟨n, v, r, e, e2, na, Rl.go g t v q, Rlp.go g xs r z⟩
theorem Rld.go {K : PySem.W.Frag} {H H' : Hp} {P P' : Pv} (g : Tr H P H' P') : ∀ (ts : List (PyData × PyData)) (kvs : List (List Key × V)), Rld K H P ts kvs -> Rld K H' P' ts kvs
 | [], kvs, h => by simp only [Rld] at h
 | (k, t) :: xs, kvs, h => by
  simp only [Rld] at h ⊢
  exact ⟨h.1, h.2.1, Rlk.go g xs kvs h.2.2⟩
theorem Rlk.go {K : PySem.W.Frag} {H H' : Hp} {P P' : Pv} (g : Tr H P H' P') : ∀ (ts : List (PyData × PyData)) (kvs : List (List Key × V)), Rlk K H P ts kvs -> Rlk K H' P' ts kvs
 | [], kvs, h => by simpa only [Rlk] using h
 | (k, t) :: xs, kvs, h => by
  simp only [Rlk] at h ⊢
  obtain ⟨ns, v, r, e, e2, q, z⟩ := h
  exact ⟨ns, v, r, e, e2, Rl.go g t v q, Rlk.go g xs r z⟩
end
section
variable {K : PySem.W.Frag} {H H' : Hp} {P P' : Pv}
theorem XG {v : V} : Rl K H P .none v ↔ v = .non := by simp only [Rl]
theorem YL {b : Bool} {v : V} : Rl K H P (.bool b) v ↔ v = .bl b := by simp only [Rl]
theorem ZM {i : Int} {v : V} : Rl K H P (.int i) v ↔ v = .int i := by simp only [Rl]
theorem Qz {x : Str} {v : V} : Rl K H P (.str x) v ↔ v = .str x := by simp only [Rl]
theorem ZY {xs : List PyData} {v : V} : Rl K H P (.list xs) v ↔ ∃ a vs, v = .ref a /\ SL K H P a vs /\ Rls K H P xs vs := by simp only [Rl]
theorem Z8 {xs : List PyData} {v : V} : Rl K H P (.tuple xs) v ↔ ∃ a vs, v = .ref a /\ ST K H P a vs /\ Rls K H P xs vs := by simp only [Rl]
theorem zcj {xs : List (PyData × PyData)} {v : V} : Rl K H P (.dict xs) v ↔ (xs = [] /\ ∃ a, v = .ref a /\ H a = some (XO K a) /\ Off P a) \/ (xs ≠ [] /\ ∃ a C dx fs, v = .ref a /\ H a = some (.ins C dx fs) /\ Off P a /\ Cls K C /\ Rlp K H P C xs fs) \/ ∃ a ob kvs, v = .ref a /\ H a = some (.frz ob (.dT kvs)) /\ Off P a /\ Rld K H P xs kvs := by simp only [Rl]
theorem rld_cons {k t : PyData} {xs : List (PyData × PyData)} {kvs : List (List Key × V)} : Rld K H P ((k, t) :: xs) kvs ↔ k = .none /\ t = .none /\ Rlk K H P xs kvs := by simp only [Rld]
theorem rl_obj {n : Str} {t : PyData} {xs : List (PyData × PyData)} {v : V} : Rl K H P (.dict ((.str n, t) :: xs)) v ↔ ∃ a C dx fs, v = .ref a /\ H a = some (.ins C dx fs) /\ Off P a /\ Cls K C /\ Rlp K H P C ((.str n, t) :: xs) fs := by
 rw [zcj]
 refine ⟨fun h => ?_, fun h => .inr (.inl ⟨by simp, h⟩)⟩
 rcases h with ⟨z, _⟩ | ⟨_, h⟩ | ⟨a, ob, kvs, _, _, _, r⟩
 ·cases z
 ·exact h
 ·cases (rld_cons.mp r).1
theorem zfd {C : Addr} {fs : List (Str × V)} : Rlp K H P C [] fs ↔ fs = [] := by simp only [Rlp]
theorem zc8 {C : Addr} {k t : PyData} {xs : List (PyData × PyData)} {fs : List (Str × V)} : Rlp K H P C ((k, t) :: xs) fs ↔ ∃ n v r, fs = (n, v) :: r /\ k = .str n /\ Wl K C n /\ Rl K H P t v /\ Rlp K H P C xs r := by simp only [Rlp]
theorem ZQ {vs : List V} : Rls K H P [] vs ↔ vs = [] := by simp only [Rls]
theorem Zv {x : PyData} {xs : List PyData} {vs : List V} : Rls K H P (x :: xs) vs ↔ ∃ v r, vs = v :: r /\ Rl K H P x v /\ Rls K H P xs r := by simp only [Rls]
theorem Rls.length : ∀ {ts : List PyData} {vs : List V}, Rls K H P ts vs -> ts.length = vs.length
 | [], vs, h => by rw [ZQ.mp h]; rfl
 | t :: ts, vs, h => by
  obtain ⟨v, r, rfl, _, q⟩ := Zv.mp h
  simp only [List.length_cons, Rls.length q]
theorem Rls.get : ∀ {ts : List PyData} {vs : List V} {i : Nat} {v : V}, Rls K H P ts vs -> vs[i]? = some v -> ∃ t, ts[i]? = some t /\ Rl K H P t v
 | [], vs, i, v, h, e => by rw [ZQ.mp h] at e; simp at e
 | t :: ts, vs, 0, v, h, e => by
  obtain ⟨v', r, rfl, q, _⟩ := Zv.mp h
  simp at e; subst e
  exact ⟨t, rfl, q⟩
 | t :: ts, vs, i + 1, v, h, e => by
  obtain ⟨v', r, rfl, _, q⟩ := Zv.mp h
  exact Rls.get (i := i) q (by simpa using e)
theorem Rls.getT : ∀ {ts : List PyData} {vs : List V} {i : Nat} {t : PyData}, Rls K H P ts vs -> ts[i]? = some t -> ∃ v, vs[i]? = some v /\ Rl K H P t v
 | [], vs, i, v, h, e => by simp at e
 | t :: ts, vs, 0, t', h, e => by
  obtain ⟨v', r, rfl, q, _⟩ := Zv.mp h
  simp at e; subst e
  exact ⟨v', rfl, q⟩
 | t :: ts, vs, i + 1, t', h, e => by
  obtain ⟨v', r, rfl, _, q⟩ := Zv.mp h
  exact Rls.getT (i := i) q (by simpa using e)
theorem Rls.append : ∀ {ts us : List PyData} {vs ws : List V}, Rls K H P ts vs -> Rls K H P us ws -> Rls K H P (ts ++ us) (vs ++ ws)
 | [], us, vs, ws, h, q => by rw [ZQ.mp h]; exact q
 | t :: ts, us, vs, ws, h, q => by
  obtain ⟨v, r, rfl, a, b⟩ := Zv.mp h
  exact Zv.mpr ⟨v, r ++ ws, rfl, a, Rls.append b q⟩
theorem Rls.set : ∀ {ts : List PyData} {vs : List V} {t : PyData} {v : V} (i : Nat), Rls K H P ts vs -> Rl K H P t v -> Rls K H P (ts.set i t) (vs.set i v)
 | [], vs, t, v, i, h, q => by rw [ZQ.mp h]; exact ZQ.mpr rfl
 | t' :: ts, vs, t, v, 0, h, q => by
  obtain ⟨v', r, rfl, a, b⟩ := Zv.mp h
  exact Zv.mpr ⟨v, r, rfl, q, b⟩
 | t' :: ts, vs, t, v, i + 1, h, q => by
  obtain ⟨v', r, rfl, a, b⟩ := Zv.mp h
  exact Zv.mpr ⟨v', r.set i v, rfl, a, Rls.set i b q⟩
theorem Rls.drop : ∀ {ts : List PyData} {vs : List V} (n : Nat), Rls K H P ts vs -> Rls K H P (ts.drop n) (vs.drop n)
 | ts, vs, 0, h => h
 | [], vs, n + 1, h => by rw [ZQ.mp h]; exact ZQ.mpr rfl
 | t :: ts, vs, n + 1, h => by
  obtain ⟨v', r, rfl, a, b⟩ := Zv.mp h
  exact Rls.drop n b
theorem Rls.take : ∀ {ts : List PyData} {vs : List V} (n : Nat), Rls K H P ts vs -> Rls K H P (ts.take n) (vs.take n)
 | ts, vs, 0, h => ZQ.mpr rfl
 | [], vs, n + 1, h => by rw [ZQ.mp h]; exact ZQ.mpr rfl
 | t :: ts, vs, n + 1, h => by
  obtain ⟨v', r, rfl, a, b⟩ := Zv.mp h
  exact Zv.mpr ⟨v', r.take n, rfl, a, Rls.take n b⟩
theorem rls_ints (ns : List Int) : Rls K H P (ns.map .int) (ns.map V.int) := by
 induction ns with
 | nil => exact ZQ.mpr rfl
 | cons n ns ih => exact Zv.mpr ⟨.int n, _, rfl, ZM.mpr rfl, ih⟩
end
def SlOk (K : PySem.W.Frag) (H : Hp) (P : Pv) (i : Nat) (x : Option V) : Sl -> Prop
 | .emp => True
 | .val t => ∃ v, x = some v /\ Rl K H P t v
 | .own xs => ∃ p vs, x = some (.ref p) /\ P.own i = some p /\ H p = some (.lst vs) /\ Rls K H P xs vs
 | .dct es => ∃ p kvs, x = some (.ref p) /\ P.own i = some p /\ H p = some (.dT kvs) /\ Rlk K H P es kvs
def Sl.mine : Sl -> Prop
 | .own _ | .dct _ => True
 | _ => False
structure Hol (K : PySem.W.Frag) (H : Hp) (P : Pv) (σ : L2.St) (G : List Sl) : Prop where
 sl : ∀ i s, G[i]? = some s -> SlOk K H P i (σ.getD i none) s
 inj : ∀ i j a, P.own i = some a -> P.own j = some a -> i = j
 only : ∀ i a, P.own i = some a -> ∃ s, G[i]? = some s /\ s.mine
 fbd : ∀ a, P.fb a -> ∃ o, H a = some o /\ LD o
 nfb : ∀ i a, P.own i = some a -> ¬ P.fb a
 len : σ.length = G.length
 tab : WZ K H
theorem getD_some {σ : L2.St} {i : Nat} {v : V} (h : σ.getD i none = some v) : σ[i]? = some (some v) := by
 rw [List.getD_eq_getElem?_getD] at h
 cases e : σ[i]? with
 | none => rw [e] at h; cases h
 | some x => rw [e] at h; simp at h; rw [h]
section
variable {K : PySem.W.Frag} {H H' : Hp} {P P' : Pv} {σ : L2.St} {G : List Sl}
theorem Hol.dom (h : Hol K H P σ G) {i : Nat} {a : Addr} (e : P.own i = some a) : ∃ o, H a = some o /\ LD o := by
 obtain ⟨s, q, m⟩ := h.only i a e
 have z := h.sl i _ q
 cases s with
 | emp => exact m.elim
 | val t => exact m.elim
 | own xs =>
  obtain ⟨p, vs, _, e', q', _⟩ := z
  rw [e] at e'; cases e'
  exact ⟨_, q', .inl ⟨vs, rfl⟩⟩
 | dct es =>
  obtain ⟨p, vs, _, e', q', _⟩ := z
  rw [e] at e'; cases e'
  exact ⟨_, q', .inr ⟨vs, rfl⟩⟩
theorem Hol.nofb (h : Hol K H P σ G) {p : Addr} (e : H p = none) : ¬ P.fb p := fun z => by obtain ⟨o, q, _⟩ := h.fbd p z; rw [e] at q; cases q
theorem Hol.off_new (h : Hol K H P σ G) {p : Addr} (e : H p = none) : Off P p := by
 refine ⟨fun i z => ?_, h.nofb e⟩
 obtain ⟨vs, q, _⟩ := h.dom z
 rw [e] at q
 cases q
theorem Hol.ld (h : Hol K H P σ G) {a : Addr} (z : ¬ Off P a) : ∃ o, H a = some o /\ LD o := by
 by_cases q : ∃ i, P.own i = some a
 ·obtain ⟨i, q⟩ := q; exact h.dom q
 ·by_cases w : P.fb a
  ·exact h.fbd a w
  ·exact (z ⟨fun i e => q ⟨i, e⟩, w⟩).elim
theorem Hol.same (h : Hol K H P σ G) (e : Same H H') : Hol K H' P σ G where
 sl := fun i s q => by
  have z := h.sl i s q
  cases s with
  | emp => trivial
  | val t => obtain ⟨v, e1, r⟩ := z; exact ⟨v, e1, Rl.go (.same e) t v r⟩
  | own xs => obtain ⟨p, vs, e1, e2, e3, r⟩ := z; exact ⟨p, vs, e1, e2, e.kp _ _ e3 QH, Rls.go (.same e) xs vs r⟩
  | dct es => obtain ⟨p, vs, e1, e2, e3, r⟩ := z; exact ⟨p, vs, e1, e2, e.kp _ _ e3 nt_dT, Rlk.go (.same e) es vs r⟩
 inj := h.inj
 only := h.only
 fbd := fun a z => let ⟨o, q, m⟩ := h.fbd a z; ⟨o, e.kp _ _ q m.nt, m⟩
 nfb := h.nfb
 len := h.len
 tab := e.tab K h.tab
def Pv.del (P : Pv) (i : Nat) : Pv := ⟨fun j => if j = i then none else P.own j, P.fb⟩
def Pv.put (P : Pv) (i : Nat) (p : Addr) : Pv := ⟨fun j => if j = i then some p else P.own j, P.fb⟩
theorem Tr.del {i : Nat} : Tr H P H (P.del i) := fun a o h _ q => ⟨h, fun j z => by
 have z' : (if j = i then none else P.own j) = some a := z
 split at z'
 ·cases z'
 ·exact q.1 j z', q.2⟩
theorem Go.del {i : Nat} : Go H P H (P.del i) := ⟨fun a o h _ q => ⟨h, fun j z => by
 have z' : (if j = i then none else P.own j) = some a := z
 split at z'
 ·cases z'
 ·exact q j z'⟩, rfl, fun h => h, fun _ h => h, fun _ ps h => ⟨ps, h⟩⟩
theorem Go.put {i : Nat} {p : Addr} (hp : H p = none) : Go H P H (P.put i p) := ⟨fun a o h _ q => ⟨h, fun j z => by
 have z' : (if j = i then some p else P.own j) = some a := z
 split at z'
 ·cases z'; rw [hp] at h; cases h
 ·exact q j z'⟩, rfl, fun h => h, fun _ h => h, fun _ ps h => ⟨ps, h⟩⟩
theorem Ut {σ : L2.St} {i : Nat} {x : Option V} (h : i < σ.length) : (σ.set i x).getD i none = x := by
 rw [List.getD_eq_getElem?_getD, List.getElem?_set_self h]; rfl
theorem QR {σ : L2.St} {i j : Nat} {x : Option V} (h : j ≠ i) : (σ.set i x).getD j none = σ.getD j none := by
 rw [List.getD_eq_getElem?_getD, List.getD_eq_getElem?_getD, List.getElem?_set_ne (Ne.symm h)]
theorem Hol.setVal (h : Hol K H P σ G) (i : Nat) {t : PyData} {v : V} (r : Rl K H P t v) : Hol K H (P.del i) (σ.set i (some v)) (G.set i (.val t)) where
 sl := fun j s q => by
  by_cases e : j = i
  ·subst e
   have hl : j < G.length := by
    have := (List.getElem?_eq_some_iff.mp q).1
    simpa using this
   rw [List.getElem?_set_self hl] at q
   cases q
   refine ⟨v, ?_, Rl.go .del t v r⟩
   exact Ut (by rw [h.len]; exact hl)
  ·rw [List.getElem?_set_ne (Ne.symm e)] at q
   have z := h.sl j s q
   rw [QR e]
   cases s with
   | emp => trivial
   | val t' => obtain ⟨v', e1, r'⟩ := z; exact ⟨v', e1, Rl.go .del t' v' r'⟩
   | own xs => obtain ⟨p, vs, e1, e2, e3, r'⟩ := z; exact ⟨p, vs, e1, (by show (if j = i then none else P.own j) = _; rw [if_neg e]; exact e2), e3, Rls.go .del xs vs r'⟩
   | dct es => obtain ⟨p, vs, e1, e2, e3, r'⟩ := z; exact ⟨p, vs, e1, (by show (if j = i then none else P.own j) = _; rw [if_neg e]; exact e2), e3, Rlk.go .del es vs r'⟩
 inj := fun a b c h1 h2 => by
  have h1' : (if a = i then none else P.own a) = some c := h1
  have h2' : (if b = i then none else P.own b) = some c := h2
  split at h1'
  ·cases h1'
  ·split at h2'
   ·cases h2'
   ·exact h.inj a b c h1' h2'
 only := fun j a z => by
  have z' : (if j = i then none else P.own j) = some a := z
  split at z'
  ·cases z'
  ·rename_i ne
   obtain ⟨xs, q, m⟩ := h.only j a z'
   exact ⟨xs, by rw [List.getElem?_set_ne (Ne.symm ne)]; exact q, m⟩
 fbd := h.fbd
 nfb := fun j a z => by
  have z' : (if j = i then none else P.own j) = some a := z
  split at z'
  ·cases z'
  ·exact h.nfb j a z'
 len := by rw [List.length_set, List.length_set]; exact h.len
 tab := h.tab
theorem ZH {p : Addr} {o : HO} (h : H p = none) : Same H (upd H p o) := .of fun b u q => by rw [Zs (Zw q h)]; exact q
theorem Hol.upOwn (h : Hol K H P σ G) {i : Nat} {ys xs : List PyData} {vs : List V} {p : Addr} (hi : G[i]? = some (.own ys)) (hp : P.own i = some p) (r : Rls K H P xs vs) : Hol K (upd H p (.lst vs)) P σ (G.set i (.own xs)) /\ Go H P (upd H p (.lst vs)) P := by
 have hpl := h.dom hp
 have g0 : Go H P (upd H p (.lst vs)) P := ⟨fun a o e _ q => ⟨by rw [Zs (fun z => q i (by rw [z]; exact hp))]; exact e, q⟩, rfl, fun {b} w => by
  by_cases z : b = p
  ·rw [z, Zp] at w; cases w
  ·rw [Zs z] at w; exact w, fun K t => WZ.mono t fun b o e nl => by
  rw [Zs (fun z => by obtain ⟨us, w, m⟩ := hpl; rw [z, w] at e; cases e; exact nl m)]; exact e, fun b ps e => ⟨ps, by rw [Zs (fun z => by obtain ⟨us, w, m⟩ := hpl; rw [z, w] at e; cases e; rcases m with ⟨_, m⟩ | ⟨_, m⟩ <;> cases m)]; exact e⟩⟩
 have gg := g0.tr
 have hl : i < G.length := (List.getElem?_eq_some_iff.mp hi).1
 refine ⟨⟨fun j s q => ?_, h.inj, fun j a z => ?_, fun a z => ?_, h.nfb, by rw [List.length_set]; exact h.len, g0.tab K h.tab⟩, g0⟩
 ·by_cases e : j = i
  ·subst e
   rw [List.getElem?_set_self hl] at q
   cases q
   obtain ⟨p', vs', e1, e2, _, _⟩ := h.sl j _ hi
   rw [hp] at e2; cases e2
   exact ⟨p, vs, e1, hp, Zp, Rls.go gg xs vs r⟩
  ·rw [List.getElem?_set_ne (Ne.symm e)] at q
   have z := h.sl j s q
   cases s with
   | emp => trivial
   | val t' => obtain ⟨v', e1, r'⟩ := z; exact ⟨v', e1, Rl.go gg t' v' r'⟩
   | own xs' =>
    obtain ⟨p', vs', e1, e2, e3, r'⟩ := z
    refine ⟨p', vs', e1, e2, ?_, Rls.go gg xs' vs' r'⟩
    rw [Zs (fun z => e (h.inj j i p' e2 (by rw [z]; exact hp)))]
    exact e3
   | dct xs' =>
    obtain ⟨p', vs', e1, e2, e3, r'⟩ := z
    refine ⟨p', vs', e1, e2, ?_, Rlk.go gg xs' vs' r'⟩
    rw [Zs (fun z => e (h.inj j i p' e2 (by rw [z]; exact hp)))]
    exact e3
 ·by_cases e : j = i
  ·subst e; exact ⟨_, List.getElem?_set_self hl, trivial⟩
  ·obtain ⟨xs', q, m⟩ := h.only j a z
   exact ⟨xs', by rw [List.getElem?_set_ne (Ne.symm e)]; exact q, m⟩
 ·rw [Zs (fun e => h.nfb i p hp (by rw [<- e]; exact z))]
  exact h.fbd a z
end
section
variable {K : PySem.W.Frag} {H H' : Hp} {P P' : Pv} {σ : L2.St} {G : List Sl}
theorem Hol.frz1 (h : Hol K H P σ G) (i : Nat) : ∃ P', Hol K H P' σ (Fx.frz1 G i) /\ Go H P H P' := by
 unfold Fx.frz1
 split
 ·rename_i xs q
  obtain ⟨p, vs, e1, e2, e3, r⟩ := h.sl i _ q
  have off : Off (P.del i) p := ⟨fun j z => by
   have z' : (if j = i then none else P.own j) = some p := z
   split at z'
   ·cases z'
   ·rename_i ne; exact ne (h.inj j i p z' e2), h.nfb i p e2⟩
  have r0 : Rl K H (P.del i) (.list xs) (.ref p) := ZY.mpr ⟨p, vs, rfl, .inl ⟨.inl e3, off⟩, Rls.go .del xs vs r⟩
  refine ⟨P.del i, ⟨fun j s z => ?_, ?_, ?_, h.fbd, ?_, by rw [List.length_set]; exact h.len, h.tab⟩, .del⟩
  ·by_cases e : j = i
   ·subst e
    rw [List.getElem?_set_self (List.getElem?_eq_some_iff.mp q).1] at z
    cases z
    exact ⟨.ref p, e1, r0⟩
   ·rw [List.getElem?_set_ne (Ne.symm e)] at z
    have z := h.sl j s z
    cases s with
    | emp => trivial
    | val t' => obtain ⟨v', e1, r'⟩ := z; exact ⟨v', e1, Rl.go .del t' v' r'⟩
    | own xs => obtain ⟨p, vs, e1, e2, e3, r'⟩ := z; exact ⟨p, vs, e1, (by show (if j = i then none else P.own j) = _; rw [if_neg e]; exact e2), e3, Rls.go .del xs vs r'⟩
    | dct es => obtain ⟨p, vs, e1, e2, e3, r'⟩ := z; exact ⟨p, vs, e1, (by show (if j = i then none else P.own j) = _; rw [if_neg e]; exact e2), e3, Rlk.go .del es vs r'⟩
  ·intro a b c h1 h2
   have h1' : (if a = i then none else P.own a) = some c := h1
   have h2' : (if b = i then none else P.own b) = some c := h2
   split at h1'
   ·cases h1'
   ·split at h2'
    ·cases h2'
    ·exact h.inj a b c h1' h2'
  ·intro j a z
   have z' : (if j = i then none else P.own j) = some a := z
   split at z'
   ·cases z'
   ·rename_i ne
    obtain ⟨xs, q, m⟩ := h.only j a z'
    exact ⟨xs, by rw [List.getElem?_set_ne (Ne.symm ne)]; exact q, m⟩
  ·intro j a z
   have z' : (if j = i then none else P.own j) = some a := z
   split at z'
   ·cases z'
   ·exact h.nfb j a z'
 ·exact ⟨P, h, .refl _ _⟩
theorem Hol.frz (is : List Nat) : ∀ {P : Pv} {G : List Sl}, Hol K H P σ G -> ∃ P', Hol K H P' σ (Fx.frz is G) /\ Go H P H P' := by
 induction is with
 | nil => exact fun {P G} h => ⟨P, h, .refl _ _⟩
 | cons i is ih =>
  intro P G h
  obtain ⟨P1, h1, g1⟩ := h.frz1 i
  obtain ⟨P2, h2, g2⟩ := ih h1
  exact ⟨P2, h2, g1.trans g2⟩
theorem WQ : ∀ (G : List Sl) (i : Nat), (frzA G)[i]? = (G[i]?).map fun s => match s with | .own xs => .val (.list xs) | .dct _ => .emp | s => s
 | [], i => by simp [frzA]
 | .own xs :: r, 0 => by simp [frzA]
 | .emp :: r, 0 => by simp [frzA]
 | .val t :: r, 0 => by simp [frzA]
 | .dct t :: r, 0 => by simp [frzA]
 | .own xs :: r, i + 1 => by simp [frzA, WQ r i]
 | .emp :: r, i + 1 => by simp [frzA, WQ r i]
 | .val t :: r, i + 1 => by simp [frzA, WQ r i]
 | .dct t :: r, i + 1 => by simp [frzA, WQ r i]
theorem X5 : ∀ (G : List Sl), (frzA G).length = G.length
 | [] => rfl
 | .own xs :: r => by simp [frzA, X5 r]
 | .emp :: r => by simp [frzA, X5 r]
 | .val t :: r => by simp [frzA, X5 r]
 | .dct t :: r => by simp [frzA, X5 r]
def Pv.bare (P : Pv) : Pv := ⟨fun _ => none, P.fb⟩
theorem Hol.frzA (h : Hol K H P σ G) : Hol K H P.bare σ (Fx.frzA G) /\ Go H P H P.bare := by
 have g0 : Go H P H P.bare := ⟨fun a o e _ q => ⟨e, fun _ z => (by cases z)⟩, rfl, fun h => h, fun _ h => h, fun _ ps h => ⟨ps, h⟩⟩
 have gg := g0.tr
 refine ⟨⟨fun j s z => ?_, fun _ _ _ z => (by cases z), fun _ _ z => (by cases z), h.fbd, fun _ _ z => (by cases z), by rw [X5]; exact h.len, h.tab⟩, g0⟩
 rw [WQ] at z
 cases q : G[j]? with
 | none => rw [q] at z; cases z
 | some s' =>
  rw [q] at z
  have w := h.sl j s' q
  cases s' with
  | emp => cases z; trivial
  | val t => cases z; obtain ⟨v, e, r⟩ := w; exact ⟨v, e, Rl.go gg t v r⟩
  | dct t => cases z; trivial
  | own xs =>
   cases z
   obtain ⟨p, vs, e1, e2, e3, r⟩ := w
   exact ⟨.ref p, e1, ZY.mpr ⟨p, vs, rfl, .inl ⟨.inl e3, fun _ z => (by cases z), h.nfb j p e2⟩, Rls.go gg xs vs r⟩⟩
end
end Fx
namespace Fx
open PySem PySem.Spec PyProof.Rows L2
def YY (K : PySem.W.Frag) (W : Str -> Hp -> Prop) (H : Hp) (P : Pv) (r : Res PyData) (Q : VK) : Prop :=
 match r with
 | .ok t => ∀ v H', Same H H' -> Rl K H' P t v -> Q v H'
 | .exc c => ∀ H', Same H H' -> W c H'
 | .stuck => False
def tF (K : PySem.W.Frag) (W : Str -> Hp -> Prop) (d : DE) : TE := fun σ H Q => ∃ G P, Hol K H P σ G /\ YY K W H P (d G) Q
def zev (K : PySem.W.Frag) (W : Str -> Hp -> Prop) (H : Hp) (P : Pv) (r : Res (List PyData)) (Q : List V -> Hp -> Prop) : Prop :=
 match r with
 | .ok ts => ∀ vs H', Same H H' -> Rls K H' P ts vs -> Q vs H'
 | .exc c => ∀ H', Same H H' -> W c H'
 | .stuck => False
def tFA (K : PySem.W.Frag) (W : Str -> Hp -> Prop) (d : DA) : TA := fun σ H Q => ∃ G P, Hol K H P σ G /\ zev K W H P (d G) Q
def Jp (W : Str -> Hp -> Prop) (H : Hp) (r : Res Bool) (Q : Bool -> Hp -> Prop) : Prop :=
 match r with
 | .ok b => ∀ H', Same H H' -> Q b H'
 | .exc c => ∀ H', Same H H' -> W c H'
 | .stuck => False
def tFT (K : PySem.W.Frag) (W : Str -> Hp -> Prop) (d : DT) : TT := fun σ H Q => ∃ G P, Hol K H P σ G /\ Jp W H (d G) Q
def Pv.fbd (P : Pv) (p : Addr) : Pv := ⟨P.own, fun a => P.fb a \/ a = p⟩
def NewL (K : PySem.W.Frag) (H : Hp) (P : Pv) (H' : Hp) (P' : Pv) (t : PyData) (v : V) : Prop :=
 ∃ p us xs, v = .ref p /\ t = .list xs /\ H' p = some (.lst us) /\ Rls K H' (P'.fbd p) xs us /\ ∀ o, H p = some o -> Nt o -> ∃ i, P.own i = some p
theorem NewL.back {K : PySem.W.Frag} {H H1 H' : Hp} {P P1 P' : Pv} {t : PyData} {v : V} (g : Go H P H1 P1) (n : NewL K H1 P1 H' P' t v) : NewL K H P H' P' t v := by
 obtain ⟨p, us, xs, e1, e2, e3, r, q⟩ := n
 refine ⟨p, us, xs, e1, e2, e3, r, fun o e nt => Classical.byContradiction fun z => ?_⟩
 have := g.mv p o e nt fun i w => z ⟨i, w⟩
 obtain ⟨i, w⟩ := q o this.1 nt
 exact this.2 i w
def WG (K : PySem.W.Frag) (W : Str -> Hp -> Prop) (fl : Bool) (H : Hp) (P : Pv) (r : Res Out) (D : Ends) : Prop :=
 match r with
 | .ok (.nx G') => ∀ σ' H' P', Go H P H' P' -> Hol K H' P' σ' G' -> D.nx σ' H'
 | .ok (.bk G') => ∀ σ' H' P', Go H P H' P' -> Hol K H' P' σ' G' -> D.bk σ' H'
 | .ok (.ct G') => ∀ σ' H' P', Go H P H' P' -> Hol K H' P' σ' G' -> D.ct σ' H'
 | .ok (.rt t) => ∀ v H' P', Go H P H' P' -> Rl K H' P' t v -> (fl = true -> NewL K H P H' P' t v) -> D.rt v H'
 | .exc c => ∀ H' P', Go H P H' P' -> W c H'
 | .stuck => False
def tFS (K : PySem.W.Frag) (W : Str -> Hp -> Prop) (fl : Bool) (d : DS) : TS := fun D σ H => ∃ G P, Hol K H P σ G /\ WG K W fl H P (d G) D
def EV (X : Cx) (W : Str -> Hp -> Prop) (e : Expr) (d : DE) : Prop := PE X e (tF X.K W d)
def AV (X : Cx) (W : Str -> Hp -> Prop) (es : List Expr) (d : DA) : Prop := PA X es (tFA X.K W d)
def TV (X : Cx) (W : Str -> Hp -> Prop) (e : Expr) (d : DT) : Prop := PT X e (tFT X.K W d)
def TW (X : Cx) (W : Str -> Hp -> Prop) (e : Expr) (d : DT) : Prop := PW X e (tFT X.K W d)
def SV (X : Cx) (W : Str -> Hp -> Prop) (fl : Bool) (st : Stmt) (d : DS) : Prop := PS X st (tFS X.K W fl d)
def SVs (X : Cx) (W : Str -> Hp -> Prop) (fl : Bool) (st : List Stmt) (d : DS) : Prop := PSs X st (tFS X.K W fl d)
theorem ZA {X : Cx} {e : Expr} {t t' : TE} (h : PE X e t) (w : ∀ σ H Q, t' σ H Q -> t σ H Q) : PE X e t' := fun pins s σ H Q I q => h pins s σ H Q I (w σ H Q q)
theorem zfp {X : Cx} {e : List Expr} {t t' : TA} (h : PA X e t) (w : ∀ σ H Q, t' σ H Q -> t σ H Q) : PA X e t' := fun pos pins s σ H Q I q => h pos pins s σ H Q I (w σ H Q q)
theorem zck {X : Cx} {e : Expr} {t t' : TT} (h : PT X e t) (w : ∀ σ H Q, t' σ H Q -> t σ H Q) : PT X e t' := fun pins s σ H Q I q => h pins s σ H Q I (w σ H Q q)
theorem zfg {X : Cx} {e : Expr} {t t' : TT} (h : PW X e t) (w : ∀ σ H Q, t' σ H Q -> t σ H Q) : PW X e t' := fun wh pins s σ H Q I q => h wh pins s σ H Q I (w σ H Q q)
theorem X3 {X : Cx} {e : Stmt} {t t' : TS} (h : PS X e t) (w : ∀ D σ H, t' D σ H -> t D σ H) : PS X e t' := fun pins s σ H D I q => h pins s σ H D I (w D σ H q)
theorem zdb {X : Cx} {e : List Stmt} {t t' : TS} (h : PSs X e t) (w : ∀ D σ H, t' D σ H -> t D σ H) : PSs X e t' := fun pins s σ H D I q => h pins s σ H D I (w D σ H q)
theorem ZK {K : PySem.W.Frag} {W : Str -> Hp -> Prop} {σ : L2.St} {G : List Sl} {H : Hp} {P : Pv} {a : DE} (h : Hol K H P σ G) {Q : VK}
  (hx : ∀ c, a G = .exc c -> ∀ H', Same H H' -> W c H') (hs : a G ≠ .stuck)
  (q : ∀ t v H', a G = .ok t -> Same H H' -> Hol K H' P σ G -> Rl K H' P t v -> Q v H') : tF K W a σ H Q := by
 refine ⟨G, P, h, ?_⟩
 unfold YY
 cases e : a G with
 | ok t => exact fun v H' s r => q t v H' e s (h.same s) r
 | exc c => exact hx c e
 | stuck => exact hs e
theorem Vw {K : PySem.W.Frag} {W : Str -> Hp -> Prop} {σ : L2.St} {G : List Sl} {H : Hp} {P : Pv} {a : DT} (h : Hol K H P σ G) {Q : Bool -> Hp -> Prop}
  (hx : ∀ c, a G = .exc c -> ∀ H', Same H H' -> W c H') (hs : a G ≠ .stuck)
  (q : ∀ t H', a G = .ok t -> Same H H' -> Hol K H' P σ G -> Q t H') : tFT K W a σ H Q := by
 refine ⟨G, P, h, ?_⟩
 unfold Jp
 cases e : a G with
 | ok t => exact fun H' s => q t H' e s (h.same s)
 | exc c => exact hx c e
 | stuck => exact hs e
theorem WI {K : PySem.W.Frag} {W : Str -> Hp -> Prop} {σ : L2.St} {G : List Sl} {H : Hp} {P : Pv} {a : DA} (h : Hol K H P σ G) {Q : List V -> Hp -> Prop}
  (hx : ∀ c, a G = .exc c -> ∀ H', Same H H' -> W c H') (hs : a G ≠ .stuck)
  (q : ∀ t v H', a G = .ok t -> Same H H' -> Hol K H' P σ G -> Rls K H' P t v -> Q v H') : tFA K W a σ H Q := by
 refine ⟨G, P, h, ?_⟩
 unfold zev
 cases e : a G with
 | ok t => exact fun v H' s r => q t v H' e s (h.same s) r
 | exc c => exact hx c e
 | stuck => exact hs e
section
variable {X : Cx} {W : Str -> Hp -> Prop} {a b c e : Expr} {es : List Expr} {da db : DE} {pos : Pos}
theorem Za (i : Nat) {x : Str} {pos : Pos} (hN : X.N[i]? = some x := by rfl) (hv : Vis X.env.scope x := by first | exact Or.inl rfl | exact Or.inr (Or.inl rfl) | exact Or.inr (Or.inr rfl)) (hd : (x == ("__debug__" : Str)) = false := by decide)
  (hcd : (x == ("__classdict__" : Str)) = false := by decide) : EV X W (.Name x pos) (dVar i) :=
 ZA (zbD hN hv hd hcd) fun σ H Q ⟨G, P, h, q⟩ => by
  unfold dVar at q
  cases e : G[i]? with
  | none => rw [e] at q; exact q.elim
  | some s =>
   rw [e] at q
   cases s with
   | emp => exact q.elim
   | own xs => exact q.elim
   | dct xs => exact q.elim
   | val t =>
    obtain ⟨v, e1, r⟩ := h.sl i _ e
    exact ⟨v, getD_some e1, q v H (Same.refl H) r⟩
theorem Ze {i j pos} : EV X W (.Constant (.int i) j pos) (dC (.int i)) := ZA pe_int fun σ H Q ⟨G, P, h, q⟩ => q _ H (Same.refl H) (ZM.mpr rfl)
theorem VI {b j pos} : EV X W (.Constant (.bool b) j pos) (dC (.bool b)) := ZA pe_bl fun σ H Q ⟨G, P, h, q⟩ => q _ H (Same.refl H) (YL.mpr rfl)
theorem zdz {j pos} : EV X W (.Constant .none j pos) (dC .none) := ZA pe_non fun σ H Q ⟨G, P, h, q⟩ => q _ H (Same.refl H) (XG.mpr rfl)
theorem U6 {x j pos} : EV X W (.Constant (.str x) j pos) (dC (.str x)) := ZA pe_str fun σ H Q ⟨G, P, h, q⟩ => q _ H (Same.refl H) (Qz.mpr rfl)
theorem zdB {x : Str} {i : Int} {t : Tok} {pos : Pos} (hg : Gl X x) (hm : X.mg x = some (.int i t)) (hd : (x == ("__debug__" : Str)) = false := by decide) : EV X W (.Name x pos) (dC (.int i)) :=
 ZA (pe_glob (v := .int i) hg hm ⟨t, rfl⟩ hd) fun σ H Q ⟨G, P, h, q⟩ => q _ H (Same.refl H) (ZM.mpr rfl)
def Fop (X : Cx) (W : Str -> Hp -> Prop) (r : R2) (f : PyData -> PyData -> Res PyData) : Prop :=
 ∀ (H : Hp) (P : Pv) (σ : L2.St) (G : List Sl) (x y : V) (tx ty : PyData) (Q : VK), Hol X.K H P σ G -> Rl X.K H P tx x -> Rl X.K H P ty y -> YY X.K W H P (f tx ty) Q -> r x y H Q
theorem Qk {a : Res PyData} {f : PyData -> Res PyData} {K : PySem.W.Frag} {H : Hp} {P : Pv} {Q : VK} (q : YY K W H P (a.bind f) Q) :
  (∀ c, a = .exc c -> ∀ H', Same H H' -> W c H') /\ a ≠ .stuck /\ ∀ t, a = .ok t -> YY K W H P (f t) Q := by
 cases a with
 | ok t => exact ⟨fun c e => (by cases e), (by intro e; cases e), fun t' e => by cases e; exact q⟩
 | exc c => exact ⟨fun c' e => by cases e; exact q, (by intro e; cases e), fun t e => by cases e⟩
 | stuck => exact q.elim
theorem YY.up {K : PySem.W.Frag} {H H' : Hp} {P : Pv} {r : Res PyData} {Q : VK} (q : YY K W H P r Q) (s : Same H H') : YY K W H' P r Q := by
 cases r with
 | ok t => exact fun v H2 s2 r2 => q v H2 (s.trans s2) r2
 | exc c => exact fun H2 s2 => q H2 (s.trans s2)
 | stuck => exact q
theorem zcY {r : R2} {f : PyData -> PyData -> Res PyData} (hf : Fop X W r f) {σ : L2.St} {H : Hp} {Q : VK} (h : tF X.K W (d2 f da db) σ H Q) : tOp r (tF X.K W da) (tF X.K W db) σ H Q := by
 obtain ⟨G, P, h, q⟩ := h
 unfold d2 at q
 obtain ⟨q1, q2, q3⟩ := Qk q
 refine ZK h q1 q2 fun tx x H1 ex s1 h1 rx => ?_
 obtain ⟨q4, q5, q6⟩ := Qk (q3 tx ex)
 refine ZK h1 (fun c e H' s => q4 c e H' (s1.trans s)) q5 fun ty y H2 ey s2 h2 ry => ?_
 exact hf H2 P σ G x y tx ty Q h2 (Rl.go (.same s2) tx x rx) ry ((q6 ty ey).up (s1.trans s2))
theorem ZB {op : Operator} {r : R2} {f : PyData -> PyData -> Res PyData} (ho : OpR X (binaryOp op) r /\ Fop X W r f) (ha : EV X W a da) (hb : EV X W b db) : EV X W (.BinOp a op b pos) (d2 f da db) :=
 ZA (pe_op ho.1 ha hb) fun σ H Q h => zcY ho.2 h
theorem WC {op : CmpOp} {r : R2} {f : PyData -> PyData -> Res PyData} (ho : OpR X (compareOp op) r /\ Fop X W r f) (ha : EV X W a da) (hb : EV X W b db) (hm : behindInMarks op b = false) : EV X W (.Compare a [op] [b] pos) (d2 f da db) :=
 ZA (pe_cmpR ho.1 ha hb hm) fun σ H Q h => zcY ho.2 h
theorem zfV {C : Int -> Int -> Prop} {g : Int -> Int -> V} {f : PyData -> PyData -> Res PyData}
  (h : ∀ (H : Hp) (P : Pv) (tx ty : PyData) (Q : VK), YY X.K W H P (f tx ty) Q -> ∃ i j, tx = .int i /\ ty = .int j /\ C i j /\ Q (g i j) H) : Fop X W (rI C g) f := fun H P σ G x y tx ty Q hh rx ry q => by
 obtain ⟨i, j, rfl, rfl, c, q'⟩ := h H P tx ty Q q
 exact ⟨i, j, ZM.mp rx, ZM.mp ry, c, q'⟩
theorem zaV {g : Int -> Int -> V} {f : PyData -> PyData -> Res PyData}
  (h : ∀ (H : Hp) (P : Pv) (tx ty : PyData) (Q : VK), YY X.K W H P (f tx ty) Q -> ∃ i j, tx = .int i /\ ty = .int j /\ Q (g i j) H) : Fop X W (rI0 g) f := fun H P σ G x y tx ty Q hh rx ry q => by
 obtain ⟨i, j, rfl, rfl, q'⟩ := h H P tx ty Q q
 exact ⟨i, j, ZM.mp rx, ZM.mp ry, q'⟩
theorem XQ {K : PySem.W.Frag} {H : Hp} {P : Pv} {Q : VK} {i : Int} (q : YY K W H P (.ok (.int i)) Q) : Q (.int i) H := q _ H (Same.refl H) (ZM.mpr rfl)
theorem ZR {K : PySem.W.Frag} {H : Hp} {P : Pv} {Q : VK} {i : Bool} (q : YY K W H P (.ok (.bool i)) Q) : Q (.bl i) H := q _ H (Same.refl H) (YL.mpr rfl)
theorem SL.off {K : PySem.W.Frag} {H : Hp} {P : Pv} {a : Addr} {xs : List V} (h : H a = some (.lst xs)) (o : Off P a) : SL K H P a xs := .inl ⟨.inl h, o⟩
def rCatS (K : PySem.W.Frag) : R2 := fun x y H Q => ∃ l b xs zs, x = .ref l /\ y = .ref b /\ SqL K H l xs /\ SqL K H b zs /\ xs.length + zs.length <= sizeLine /\ ∀ p, H p = none -> Q (.ref p) (upd H p (.lst (xs ++ zs)))
theorem op_catS : OpR X (binaryOp .Add) (rCatS X.K) := by
 intro pins s σ H x y v u Q I rx ry h
 obtain ⟨l, b, xs, zs, rfl, rfl, hH, hB, hz, q⟩ := h
 cases rx
 cases ry
 obtain ⟨its, r, ⟨o, n, e, hc, hd, hs⟩, z⟩ := I.list hH
 obtain ⟨its2, r2, ⟨o2, n2, e2, hc2, hd2, hs2⟩, z2⟩ := I.list hB
 obtain ⟨c1, c2, c3, c4⟩ := o
 obtain ⟨k1, k2, k3, k4⟩ := o2
 simp only at hc hd hs hc2 hd2 hs2
 subst hc hd hs hc2 hd2 hs2
 have l1 := r.length
 have l2 := r2.length
 refine concat_meets ⟨_, e, rfl⟩ ⟨_, e2, rfl⟩ noFill_list_add seq_list_add PySem.F.slot_list_add PySem.F.entry_list_add (PySem.F.args_list_add_2 _ _) (list_addW l b its.toArray its2.toArray n n2 none none c4 k4 (by simp; omega)) ⟨e, e2, ?_⟩
 have ea : its.toArray ++ its2.toArray = (its ++ its2).toArray := by simp
 rw [ea]
 exact ⟨.ref _, _, I.lnew (t' := s.toks) (r.append r2) (by rw [List.length_append]; omega), rfl, q _ I.fresh⟩
theorem YM : OpR X (binaryOp .Add) (fun x y H Q => rI0 (fun i j => .int (i + j)) x y H Q \/ rCatS X.K x y H Q) /\ Fop X W (fun x y H Q => rI0 (fun i j => .int (i + j)) x y H Q \/ rCatS X.K x y H Q) fAdd :=
 ⟨op_add.or op_catS, fun H P σ G x y tx ty Q h rx ry q => by
  cases tx <;> cases ty <;> try exact q.elim
  ·exact .inl ⟨_, _, ZM.mp rx, ZM.mp ry, XQ q⟩
  ·rename_i xs ys
   refine .inr ?_
   obtain ⟨l, us, rfl, s1, r1⟩ := ZY.mp rx
   obtain ⟨m, ws, rfl, s2, r2⟩ := ZY.mp ry
   simp only [fAdd] at q
   split at q
   ·rename_i hz
    have e1 := r1.length
    have e2 := r2.length
    refine ⟨l, m, us, ws, rfl, rfl, s1.sq, s2.sq, by rw [sizeLine_eq]; omega, fun p hp => q _ _ (ZH hp) (ZY.mpr ⟨p, us ++ ws, rfl, .off Zp (h.off_new hp), ?_⟩)⟩
    exact (Rls.go (.same (ZH hp)) xs us r1).append (Rls.go (.same (ZH hp)) ys ws r2)
   ·exact q.elim⟩
theorem V3 : OpR X (binaryOp .Sub) (rI0 fun i j => .int (i - j)) /\ Fop X W (rI0 fun i j => .int (i - j)) fSub :=
 ⟨op_sub, zaV fun H P tx ty Q q => by
  cases tx <;> cases ty <;> try exact q.elim
  exact ⟨_, _, rfl, rfl, XQ q⟩⟩
theorem mulOk_ok {i j : Int} (h : YN i j = true) : IntMulOk i j := by
 have bits : ∀ k : Int, Builtin.Int.intBits k <= k.natAbs.log2 + 1 := fun k => by
  unfold Builtin.Int.intBits
  split <;> omega
 simp only [YN, Bool.or_eq_true, decide_eq_true_eq] at h
 rcases h with (h | h) | h
 ·have h1 := bits i
  have h2 := bits j
  unfold IntMulOk
  intro z
  simp only [Bool.and_eq_true, decide_eq_true_eq, Builtin.Int.intTooBig] at z
  have := z.2
  simp only [bitsLine] at this
  omega
 ·exact .of_left (intBits_le_64 (by omega) (by omega))
 ·exact .of_right (intBits_le_64 (by omega) (by omega))
theorem ZZ : OpR X (binaryOp .Mult) (rI (fun i j => YN i j = true) fun i j => .int (i * j)) /\ Fop X W (rI (fun i j => YN i j = true) fun i j => .int (i * j)) fMul :=
 ⟨opI fun _ _ _ _ _ _ _ hc q => mul_int q (mulOk_ok hc), zfV fun H P tx ty Q q => by
  cases tx <;> cases ty <;> try exact q.elim
  simp only [fMul] at q
  split at q
  ·rename_i hc; exact ⟨_, _, rfl, rfl, hc, XQ q⟩
  ·exact q.elim⟩
theorem zdF {i j : Int} (h : UZ j = true) : j ≠ 0 /\ Builtin.divisionGoesByPylong i j = false := by
 simp only [UZ, Bool.and_eq_true, decide_eq_true_eq] at h
 refine ⟨h.1, ?_⟩
 unfold Builtin.divisionGoesByPylong
 have e : (j == 0) = false := by simpa using h.1
 simp only [e]
 have : ¬ (j.natAbs.log2 / 30 + 1 > 300) := by omega
 simp [this]
theorem Vg : OpR X (binaryOp .FloorDiv) (rI (fun _ j => UZ j = true) fun i j => .int (i.fdiv j)) /\ Fop X W (rI (fun _ j => UZ j = true) fun i j => .int (i.fdiv j)) fDiv :=
 ⟨opI fun _ _ _ _ _ _ _ hc q => floordiv_int (zdF (i := 0) hc).1 q (.inl (zdF hc).2), zfV fun H P tx ty Q q => by
  cases tx <;> cases ty <;> try exact q.elim
  simp only [fDiv] at q
  split at q
  ·rename_i hc; exact ⟨_, _, rfl, rfl, hc, XQ q⟩
  ·exact q.elim⟩
theorem X4 : OpR X (binaryOp .Mod) (rI (fun _ j => j ≠ 0) fun i j => .int (i.fmod j)) /\ Fop X W (rI (fun _ j => j ≠ 0) fun i j => .int (i.fmod j)) fMod :=
 ⟨op_modN, zfV fun H P tx ty Q q => by
  cases tx <;> cases ty <;> try exact q.elim
  simp only [fMod] at q
  split at q
  ·exact q.elim
  ·rename_i hc; exact ⟨_, _, rfl, rfl, hc, XQ q⟩⟩
theorem Wh : OpR X (compareOp .Lt) (rI0 fun i j => .bl (decide (i < j))) /\ Fop X W (rI0 fun i j => .bl (decide (i < j))) fLt :=
 ⟨op_lt, zaV fun H P tx ty Q q => by
  cases tx <;> cases ty <;> try exact q.elim
  exact ⟨_, _, rfl, rfl, ZR q⟩⟩
theorem QD : OpR X (compareOp .Gt) (rI0 fun i j => .bl (decide (j < i))) /\ Fop X W (rI0 fun i j => .bl (decide (j < i))) fGt :=
 ⟨op_gt, zaV fun H P tx ty Q q => by
  cases tx <;> cases ty <;> try exact q.elim
  exact ⟨_, _, rfl, rfl, ZR q⟩⟩
theorem op_geF : OpR X (compareOp .GtE) (rI0 fun i j => .bl (decide (j <= i))) /\ Fop X W (rI0 fun i j => .bl (decide (j <= i))) fGe :=
 ⟨op_ge, zaV fun H P tx ty Q q => by
  cases tx <;> cases ty <;> try exact q.elim
  exact ⟨_, _, rfl, rfl, ZR q⟩⟩
mutual
theorem Rl.reads {pins : List (Addr × Obj)} {σ : L2.St} {H : Hp} {s : Shared} {P : Pv} (I : Inv X pins σ H s) : ∀ (t : PyData) (v : V) (u : Value), t.canLay0 = true -> Rl X.K H P t v -> RelV v u -> ∃ as, Reads s.heap u t as
 | .none, v, u, _, h, r => by rw [XG.mp h] at r; cases r; exact ⟨_, .none⟩
 | .bool b, v, u, hl, h, r => by rw [YL.mp h] at r; cases r; exact ⟨_, .bool b⟩
 | .int i, v, u, hl, h, r => by rw [ZM.mp h] at r; obtain ⟨t, rfl⟩ := r; exact ⟨_, .int i t⟩
 | .str x, v, u, hl, h, r => by rw [Qz.mp h] at r; obtain ⟨t, rfl⟩ := r; exact ⟨_, .str x t⟩
 | .list xs, v, u, hl, h, r => by
  obtain ⟨a, vs, rfl, sl, rs⟩ := ZY.mp h
  cases r
  obtain ⟨its, rv, ⟨o, n, e, hc, hd, hs⟩, z⟩ := I.list sl.sq
  obtain ⟨as, ra⟩ := Rls.reads I xs vs its (by simpa [PyData.canLay0] using hl) rs rv
  exact ⟨_, .list e hc hs (by simpa using ra)⟩
 | .tuple xs, v, u, hl, h, r => by
  obtain ⟨a, vs, rfl, sl, rs⟩ := Z8.mp h
  cases r
  obtain ⟨its, rv, ⟨o, e, hc, n, hs⟩, z⟩ := I.tuple sl.sq
  obtain ⟨as, ra⟩ := Rls.reads I xs vs its (by simpa [PyData.canLay0] using hl) rs rv
  exact ⟨_, .tuple e hc hs (by simpa using ra)⟩
 | .dict _, v, u, hl, h, r => by simp [PyData.canLay0] at hl
theorem Rls.reads {pins : List (Addr × Obj)} {σ : L2.St} {H : Hp} {s : Shared} {P : Pv} (I : Inv X pins σ H s) : ∀ (ts : List PyData) (vs : List V) (us : List Value), PyData.canLayAll0 ts = true -> Rls X.K H P ts vs -> Vals vs us -> ∃ as, ReadsAll s.heap us ts as
 | [], vs, us, _, h, r => by rw [ZQ.mp h] at r; cases r; exact ⟨_, .nil⟩
 | t :: ts, vs, us, hl, h, r => by
  simp only [PyData.canLayAll0, Bool.and_eq_true] at hl
  obtain ⟨v, vs', rfl, h1, h2⟩ := Zv.mp h
  cases r with
  | cons r1 r2 =>
   obtain ⟨as, ra⟩ := Rl.reads I t v _ hl.1 h1 r1
   obtain ⟨bs, rb⟩ := Rls.reads I ts vs' _ hl.2 h2 r2
   exact ⟨_, .cons ra rb⟩
end
theorem Vx {t : PyData} (h : Xb t = true) : t.canLay0 = true := by
 unfold Xb at h
 rw [Bool.and_eq_true] at h
 exact h.1
def rEqD (K : PySem.W.Frag) (k : Bool -> Bool) : R2 := fun x y H Q => ∃ P tx ty, Rl K H P tx x /\ Rl K H P ty y /\ Xb tx = true /\ Xb ty = true /\ Q (.bl (k (tx.eqv ty))) H
theorem op_eqD (hu : X.A.units + 64 < cLine) : OpR X (compareOp .Eq) (rEqD X.K fun k => k) := by
 intro pins s σ H x y v u Q I rx ry h
 obtain ⟨P, tx, ty, hx, hy, sx, sy, q⟩ := h
 obtain ⟨as, ra⟩ := Rl.reads I tx x v (Vx sx) hx rx
 obtain ⟨bs, rb⟩ := Rl.reads I ty y u (Vx sy) hy ry
 exact SeqAt.compareEq_shaped ra rb sx sy hu ⟨.bl _, H, I, rfl, q⟩
theorem op_neD (hu : X.A.units + 64 < cLine) : OpR X (compareOp .NotEq) (rEqD X.K fun k => !k) := by
 intro pins s σ H x y v u Q I rx ry h
 obtain ⟨P, tx, ty, hx, hy, sx, sy, q⟩ := h
 obtain ⟨as, ra⟩ := Rl.reads I tx x v (Vx sx) hx rx
 obtain ⟨bs, rb⟩ := Rl.reads I ty y u (Vx sy) hy ry
 exact SeqAt.compareNe_shaped ra rb sx sy hu ⟨.bl _, H, I, rfl, q⟩
def rEqI (k : Bool -> Bool) : R2 := rI0 fun i j => .bl (k (decide (i = j)))
theorem op_eqI : OpR X (compareOp .Eq) (rEqI fun k => k) := opB0 fun i j _ _ _ _ _ q => eq_int (by rw [Bool.beq_eq_decide_eq]; exact q)
theorem op_neI : OpR X (compareOp .NotEq) (rEqI fun k => !k) := opB0 fun i j _ _ _ _ _ q => ne_int (by rw [bne, Bool.beq_eq_decide_eq]; exact q)
theorem W3 (hu : X.A.units + 64 < cLine) : OpR X (compareOp .Eq) (fun x y H Q => rEqI (fun k => k) x y H Q \/ rEqD X.K (fun k => k) x y H Q) /\ Fop X W (fun x y H Q => rEqI (fun k => k) x y H Q \/ rEqD X.K (fun k => k) x y H Q) fEq :=
 ⟨op_eqI.or (op_eqD hu), fun H P σ G x y tx ty Q h rx ry q => by
  unfold fEq at q
  split at q
  ·exact .inl ⟨_, _, ZM.mp rx, ZM.mp ry, ZR q⟩
  ·split at q
   ·rename_i hc
    rw [Bool.and_eq_true] at hc
    exact .inr ⟨P, tx, ty, rx, ry, hc.1, hc.2, ZR q⟩
   ·exact q.elim⟩
theorem W2 (hu : X.A.units + 64 < cLine) : OpR X (compareOp .NotEq) (fun x y H Q => rEqI (fun k => !k) x y H Q \/ rEqD X.K (fun k => !k) x y H Q) /\ Fop X W (fun x y H Q => rEqI (fun k => !k) x y H Q \/ rEqD X.K (fun k => !k) x y H Q) fNe :=
 ⟨op_neI.or (op_neD hu), fun H P σ G x y tx ty Q h rx ry q => by
  unfold fNe at q
  split at q
  ·exact .inl ⟨_, _, ZM.mp rx, ZM.mp ry, ZR q⟩
  ·split at q
   ·rename_i hc
    rw [Bool.and_eq_true] at hc
    exact .inr ⟨P, tx, ty, rx, ry, hc.1, hc.2, ZR q⟩
   ·exact q.elim⟩
theorem tUn_of {r : V -> Hp -> VK -> Prop} {f : PyData -> Res PyData} (hf : ∀ (H : Hp) (P : Pv) (x : V) (tx : PyData) (Q : VK), Rl X.K H P tx x -> YY X.K W H P (f tx) Q -> r x H Q) {σ : L2.St} {H : Hp} {Q : VK} (h : tF X.K W (d1 f da) σ H Q) :
  tUn r (tF X.K W da) σ H Q := by
 obtain ⟨G, P, h, q⟩ := h
 unfold d1 at q
 obtain ⟨q1, q2, q3⟩ := Qk q
 exact ZK h q1 q2 fun tx x H1 ex s1 h1 rx => hf H1 P x tx Q rx ((q3 tx ex).up s1)
theorem XD (ha : EV X W a da) : EV X W (.UnaryOp .USub a pos) (d1 fNeg da) :=
 ZA (pe_un un_neg ha) fun σ H Q h => tUn_of (r := rU fun i => .int (-i)) (fun H P x tx Q rx q => by
  cases tx <;> try exact q.elim
  exact ⟨_, ZM.mp rx, XQ q⟩) h
theorem bindA {a : Res PyData} {f : PyData -> Res (List PyData)} {K : PySem.W.Frag} {H : Hp} {P : Pv} {Q : List V -> Hp -> Prop} (q : zev K W H P (a.bind f) Q) :
  (∀ c, a = .exc c -> ∀ H', Same H H' -> W c H') /\ a ≠ .stuck /\ ∀ t, a = .ok t -> zev K W H P (f t) Q := by
 cases a with
 | ok t => exact ⟨fun c e => (by cases e), (by intro e; cases e), fun t' e => by cases e; exact q⟩
 | exc c => exact ⟨fun c' e => by cases e; exact q, (by intro e; cases e), fun t e => by cases e⟩
 | stuck => exact q.elim
theorem bindAA {a : Res (List PyData)} {f : List PyData -> Res (List PyData)} {K : PySem.W.Frag} {H : Hp} {P : Pv} {Q : List V -> Hp -> Prop} (q : zev K W H P (a.bind f) Q) :
  (∀ c, a = .exc c -> ∀ H', Same H H' -> W c H') /\ a ≠ .stuck /\ ∀ t, a = .ok t -> zev K W H P (f t) Q := by
 cases a with
 | ok t => exact ⟨fun c e => (by cases e), (by intro e; cases e), fun t' e => by cases e; exact q⟩
 | exc c => exact ⟨fun c' e => by cases e; exact q, (by intro e; cases e), fun t e => by cases e⟩
 | stuck => exact q.elim
theorem zdU {a : Res (List PyData)} {f : List PyData -> Res PyData} {K : PySem.W.Frag} {H : Hp} {P : Pv} {Q : VK} (q : YY K W H P (a.bind f) Q) :
  (∀ c, a = .exc c -> ∀ H', Same H H' -> W c H') /\ a ≠ .stuck /\ ∀ t, a = .ok t -> YY K W H P (f t) Q := by
 cases a with
 | ok t => exact ⟨fun c e => (by cases e), (by intro e; cases e), fun t' e => by cases e; exact q⟩
 | exc c => exact ⟨fun c' e => by cases e; exact q, (by intro e; cases e), fun t e => by cases e⟩
 | stuck => exact q.elim
theorem bindTE {a : Res Bool} {f : Bool -> Res PyData} {K : PySem.W.Frag} {H : Hp} {P : Pv} {Q : VK} (q : YY K W H P (a.bind f) Q) :
  (∀ c, a = .exc c -> ∀ H', Same H H' -> W c H') /\ a ≠ .stuck /\ ∀ t, a = .ok t -> YY K W H P (f t) Q := by
 cases a with
 | ok t => exact ⟨fun c e => (by cases e), (by intro e; cases e), fun t' e => by cases e; exact q⟩
 | exc c => exact ⟨fun c' e => by cases e; exact q, (by intro e; cases e), fun t e => by cases e⟩
 | stuck => exact q.elim
theorem bindT {a : Res Bool} {f : Bool -> Res Bool} {H : Hp} {Q : Bool -> Hp -> Prop} (q : Jp W H (a.bind f) Q) :
  (∀ c, a = .exc c -> ∀ H', Same H H' -> W c H') /\ a ≠ .stuck /\ ∀ t, a = .ok t -> Jp W H (f t) Q := by
 cases a with
 | ok t => exact ⟨fun c e => (by cases e), (by intro e; cases e), fun t' e => by cases e; exact q⟩
 | exc c => exact ⟨fun c' e => by cases e; exact q, (by intro e; cases e), fun t e => by cases e⟩
 | stuck => exact q.elim
theorem bindET {a : Res PyData} {f : PyData -> Res Bool} {H : Hp} {Q : Bool -> Hp -> Prop} (q : Jp W H (a.bind f) Q) :
  (∀ c, a = .exc c -> ∀ H', Same H H' -> W c H') /\ a ≠ .stuck /\ ∀ t, a = .ok t -> Jp W H (f t) Q := by
 cases a with
 | ok t => exact ⟨fun c e => (by cases e), (by intro e; cases e), fun t' e => by cases e; exact q⟩
 | exc c => exact ⟨fun c' e => by cases e; exact q, (by intro e; cases e), fun t e => by cases e⟩
 | stuck => exact q.elim
theorem Jp.up {H H' : Hp} {r : Res Bool} {Q : Bool -> Hp -> Prop} (q : Jp W H r Q) (s : Same H H') : Jp W H' r Q := by
 cases r with
 | ok t => exact fun H2 s2 => q H2 (s.trans s2)
 | exc c => exact fun H2 s2 => q H2 (s.trans s2)
 | stuck => exact q
theorem Zg : AV X W [] dNil := zfp XM fun σ H Q ⟨G, P, h, q⟩ => q [] H (Same.refl H) (ZQ.mpr rfl)
theorem Zb {dr : DA} (ha : EV X W e da) (hr : AV X W es dr) (hs : starEach (e :: es) X.env = (false, eval e X.env) :: starEach es X.env := by rfl) : AV X W (e :: es) (Zc da dr) :=
 zfp (Yk ha hr hs) fun σ H Q ⟨G, P, h, q⟩ => by
  unfold Zc at q
  obtain ⟨q1, q2, q3⟩ := bindA q
  refine ZK h q1 q2 fun tx x H1 ex s1 h1 rx => ?_
  obtain ⟨q4, q5, q6⟩ := bindAA (q3 tx ex)
  refine WI h1 (fun c e H' s => q4 c e H' (s1.trans s)) q5 fun ts vs H2 es' s2 h2 rs => ?_
  exact (q6 ts es') (x :: vs) H2 (s1.trans s2) (Zv.mpr ⟨x, vs, rfl, Rl.go (.same s2) tx x rx, rs⟩)
theorem zaR {xs : List PyData} {vs : List V} {K : PySem.W.Frag} {H : Hp} {P : Pv} (h : lenOk xs = true) (r : Rls K H P xs vs) : vs.length <= sizeLine := by
 have := r.length
 have h' : xs.length <= 16777216 := of_decide_eq_true h
 rw [sizeLine_eq]; omega
theorem ST.off {K : PySem.W.Frag} {H : Hp} {P : Pv} {a : Addr} {xs : List V} (h : H a = some (.tup xs)) (o : Off P a) : ST K H P a xs := ⟨h, o⟩
theorem Y8 {da : DA} {x1} (h : AV X W es da) : EV X W (.Tuple es x1 pos) (dTup da) :=
 ZA (pe_tup h) fun σ H Q ⟨G, P, h, q⟩ => by
  unfold dTup at q
  obtain ⟨q1, q2, q3⟩ := zdU q
  refine WI h q1 q2 fun ts vs H1 es' s1 h1 rs => ?_
  have q4 := q3 ts es'
  split at q4
  ·rename_i hl
   exact ⟨zaR hl rs, fun p hp => q4 _ _ (s1.trans (ZH hp)) (Z8.mpr ⟨p, vs, rfl, .off Zp (h1.off_new hp), Rls.go (.same (ZH hp)) ts vs rs⟩)⟩
  ·exact q4.elim
theorem zbT {da : DA} (h : AV X W es da) : EV X W (.List es pos) (dLst da) :=
 ZA (pe_lst h) fun σ H Q ⟨G, P, h, q⟩ => by
  unfold dLst at q
  obtain ⟨q1, q2, q3⟩ := zdU q
  refine WI h q1 q2 fun ts vs H1 es' s1 h1 rs => ?_
  have q4 := q3 ts es'
  split at q4
  ·rename_i hl
   exact ⟨zaR hl rs, fun p hp => q4 _ _ (s1.trans (ZH hp)) (ZY.mpr ⟨p, vs, rfl, .off Zp (h1.off_new hp), Rls.go (.same (ZH hp)) ts vs rs⟩)⟩
  ·exact q4.elim
theorem ixP_eq (n : Nat) (i : Int) : ixP n i = ixN n i := rfl
theorem atP_rl {K : PySem.W.Frag} {H : Hp} {P : Pv} {ts : List PyData} {vs : List V} {i : Int} {t : PyData} (r : Rls K H P ts vs) (h : atP ts i = some t) : ∃ v, atI vs i = some v /\ Rl K H P t v := by
 unfold atP at h
 unfold atI
 rw [<- r.length, <- ixP_eq]
 cases e : ixP ts.length i with
 | none => rw [e] at h; cases h
 | some j =>
  rw [e] at h
  exact r.getT (i := j) h
theorem Zo (ha : EV X W a da) (hb : EV X W b db) (hs : zgl b) : EV X W (.Subscript a b pos) (d2 fIx da db) :=
 ZA (pe_ix (ix_list.or ix_tup) ha hb hs) fun σ H Q h => zcY (r := fun x y H Q => rIxL X.K x y H Q \/ rIxT X.K x y H Q) (fun H P σ G x y tx ty Q h rx ry q => by
  cases tx <;> cases ty <;> try exact q.elim
  ·rename_i xs i
   obtain ⟨l, us, rfl, s1, r1⟩ := ZY.mp rx
   simp only [fIx] at q
   cases e : atP xs i with
   | none => rw [e] at q; exact q.elim
   | some t =>
    rw [e] at q
    obtain ⟨v, e1, r⟩ := atP_rl r1 e
    exact .inl ⟨l, us, i, v, rfl, ZM.mp ry, s1.sq, e1, q v H (Same.refl H) r⟩
  ·rename_i xs i
   obtain ⟨l, us, rfl, s1, r1⟩ := Z8.mp rx
   simp only [fIx] at q
   cases e : atP xs i with
   | none => rw [e] at q; exact q.elim
   | some t =>
    rw [e] at q
    obtain ⟨v, e1, r⟩ := atP_rl r1 e
    exact .inr ⟨l, us, i, v, rfl, ZM.mp ry, s1.sq, e1, q v H (Same.refl H) r⟩) h
theorem zbk {r : List V -> Hp -> VK -> Prop} {f : PyData -> Res PyData} (hf : ∀ (H : Hp) (P : Pv) (σ : L2.St) (G : List Sl) (x : V) (tx : PyData) (Q : VK), Hol X.K H P σ G -> Rl X.K H P tx x -> YY X.K W H P (f tx) Q -> r [x] H Q) {σ : L2.St} {H : Hp} {Q : VK} (h : tF X.K W (d1 f da) σ H Q) :
  tCB r (tCons (tF X.K W da) tNil) σ H Q := by
 obtain ⟨G, P, h, q⟩ := h
 unfold d1 at q
 obtain ⟨q1, q2, q3⟩ := Qk q
 exact ZK h q1 q2 fun tx x H1 ex s1 h1 rx => hf H1 P σ G x tx Q h1 rx ((q3 tx ex).up s1)
theorem ZW {p : Pos} (hg : Gl X "len") (hm : X.mg "len" = none) (ha : EV X W a da) (hs : starEach [a] X.env = (false, eval a X.env) :: starEach [] X.env := by rfl) : EV X W (.Call (.Name "len" p) [a] [] pos) (d1 fLen da) :=
 ZA (Uq zbY hg hm PySem.boot_len (Yk ha XM hs) (he := hs)) fun σ H Q h => zbk (fun H P σ G x tx Q h rx q => by
  cases tx <;> try exact q.elim
  ·obtain ⟨l, us, rfl, s1, r1⟩ := ZY.mp rx
   have e := r1.length
   refine ⟨l, us, rfl, .inl s1.sq, ?_⟩
   rw [<- e]; exact XQ q
  ·obtain ⟨l, us, rfl, s1, r1⟩ := Z8.mp rx
   have e := r1.length
   refine ⟨l, us, rfl, .inr s1.sq, ?_⟩
   rw [<- e]; exact XQ q) h
theorem JV {p : Pos} (hg : Gl X "abs") (hm : X.mg "abs" = none) (ha : EV X W a da) (hs : starEach [a] X.env = (false, eval a X.env) :: starEach [] X.env := by rfl) : EV X W (.Call (.Name "abs" p) [a] [] pos) (d1 fAbs da) :=
 ZA (Uq call_abs hg hm (show bootBuiltins "abs" = some (.builtin "abs") by decide +kernel) (Yk ha XM hs) (he := hs)) fun σ H Q h => zbk (fun H P σ G x tx Q h rx q => by
  cases tx <;> try exact q.elim
  exact ⟨_, by rw [ZM.mp rx], XQ q⟩) h
def tyN : PyData -> String
 | .none => "NoneType"
 | .bool _ => "bool"
 | .int _ => "int"
 | .str _ => "str"
 | .list _ => "list"
 | .tuple _ => "tuple"
 | .dict _ => "dict"
def Kit (T : String) (p : PyData -> Bool) : Prop := ∀ (K : PySem.W.Frag) (t : PyData), PySem.W.kitOne K (.type (tyN t)) (.type T) = some (p t)
theorem zfG : Kit "int" isInt := fun K t => by cases t <;> rfl
theorem zdp : Kit "bool" zfN := fun K t => by cases t <;> rfl
theorem QK : Kit "tuple" zaT := fun K t => by cases t <;> rfl
theorem Us : Kit "list" isList := fun K t => by cases t <;> rfl
theorem call_isi {T : String} {p : PyData -> Bool} (hk : Kit T p) : Jr X (.builtin "isinstance") (fun xs H Q => ∃ x t P, xs = [x, .ty T] /\ (∀ ys, t ≠ .dict ys) /\ Rl X.K H P t x /\ Q (.bl (p t)) H) := by
 intro pins s σ H xs us Q I r h
 obtain ⟨x, t, P, rfl, nd, rx, q⟩ := h
 obtain ⟨u, w', rfl, ru, rw'⟩ := vals2 r
 cases rw'
 have e := hk X.K t
 have fin : ∀ tk, EP X pins σ Q (.bool (p t)) { s with toks := tk } := fun tk => ⟨.bl (p t), H, I.tok tk, rfl, q⟩
 cases t with
 | none => rw [XG.mp rx] at ru; cases ru; exact PySem.W.kia_one PySem.W.kitx_none I.kIn True.intro e (fun z => nomatch z) fin
 | bool b => rw [YL.mp rx] at ru; cases ru; exact PySem.W.kia_one PySem.W.kitx_bool I.kIn True.intro e (fun z => nomatch z) fin
 | int i => rw [ZM.mp rx] at ru; obtain ⟨t, rfl⟩ := ru; exact PySem.W.kia_one PySem.W.kitx_int I.kIn True.intro e (fun z => nomatch z) fin
 | str y => rw [Qz.mp rx] at ru; obtain ⟨t, rfl⟩ := ru; exact PySem.W.kia_one PySem.W.kitx_str I.kIn True.intro e (fun z => nomatch z) fin
 | list ys =>
  obtain ⟨l, vs, rfl, s1, r1⟩ := ZY.mp rx
  cases ru
  obtain ⟨its, rv, ⟨o, n, e1, hc, hd, hs⟩, z⟩ := I.list s1.sq
  exact PySem.W.kia_one PySem.W.kitx_list I.kIn ⟨o, e1, hc⟩ e (fun z => nomatch z) fin
 | tuple ys =>
  obtain ⟨l, vs, rfl, s1, r1⟩ := Z8.mp rx
  cases ru
  obtain ⟨its, rv, ⟨o, e1, hc, n, hs⟩, z⟩ := I.tuple s1.sq
  exact PySem.W.kia_one PySem.W.kitx_tuple I.kIn ⟨o, e1, hc⟩ e (fun z => nomatch z) fin
 | dict ys => exact absurd rfl (nd ys)
theorem Yo {T : String} {x : Str} {f : PyData -> Bool} {p p2 : Pos} (hk : Kit T f) (hv : bootBuiltins x = some (.type T)) (hg : Gl X "isinstance") (hm : X.mg "isinstance" = none) (hg2 : Gl X x) (hm2 : X.mg x = none) (ha : EV X W a da)
  (hs : starEach [a, .Name x p2] X.env = (false, eval a X.env) :: starEach [.Name x p2] X.env := by rfl) (hs2 : starEach [.Name x p2] X.env = (false, eval (.Name x p2) X.env) :: starEach [] X.env := by rfl)
  (hpl : (backTo pos (starEach [.Name x p2] X.env)).any (·.1) = false := by rfl) (hn : x ≠ "__name__" := by decide) (hdb : (x == ("__debug__" : Str)) = false := by decide) :
  EV X W (.Call (.Name "isinstance" p) [a, .Name x p2] [] pos) (d1 (fIs f) da) :=
 ZA (Uq (call_isi hk) hg hm (show bootBuiltins "isinstance" = some (.builtin "isinstance") by decide +kernel) (Yk ha (Yk (pe_bltn (v := .ty T) hg2 hm2 hv rfl hn hdb) XM hs2) hs) (he := hs) (hpl := hpl)) fun σ H Q ⟨G, P, h, q⟩ => by
  unfold d1 at q
  obtain ⟨q1, q2, q3⟩ := Qk q
  refine ZK h q1 q2 fun tx x H1 ex s1 h1 rx => ?_
  have q4 := YY.up (q3 tx ex) s1
  refine ⟨x, tx, P, rfl, fun ys z => (by subst z; exact q4.elim), rx, ?_⟩
  cases tx <;> first | exact ZR q4 | exact q4.elim
theorem U7 {op} (h : EV X W a da) : EV X W (.BoolOp op [a] pos) da := pe_one h
theorem QW {rest : List Expr} (ha : EV X W a da) (hb : EV X W (.BoolOp .And (b :: rest) pos) db) : EV X W (.BoolOp .And (a :: b :: rest) pos) (za8 da db) :=
 ZA (pe_and ha hb) fun σ H Q ⟨G, P, h, q⟩ => by
  unfold za8 at q
  obtain ⟨q1, q2, q3⟩ := Qk q
  refine ZK h q1 q2 fun tx x H1 ex s1 h1 rx => ?_
  have q4 := q3 tx ex
  cases tx <;> try exact q4.elim
  rename_i k
  refine ⟨k, YL.mp rx, ?_⟩
  cases k with
  | true => exact iteT ⟨G, P, h1, YY.up q4 s1⟩
  | false => exact iteF (ZR (YY.up q4 s1))
theorem ev_or {rest : List Expr} (ha : EV X W a da) (hb : EV X W (.BoolOp .Or (b :: rest) pos) db) : EV X W (.BoolOp .Or (a :: b :: rest) pos) (dOrV da db) :=
 ZA (pe_or ha hb) fun σ H Q ⟨G, P, h, q⟩ => by
  unfold dOrV at q
  obtain ⟨q1, q2, q3⟩ := Qk q
  refine ZK h q1 q2 fun tx x H1 ex s1 h1 rx => ?_
  have q4 := q3 tx ex
  cases tx <;> try exact q4.elim
  rename_i k
  refine ⟨k, YL.mp rx, ?_⟩
  cases k with
  | true => exact iteT (ZR (YY.up q4 s1))
  | false => exact iteF ⟨G, P, h1, YY.up q4 s1⟩
theorem ev_not (ha : EV X W a da) : EV X W (.UnaryOp .Not a pos) (dNotV da) :=
 ZA (pe_not ha) fun σ H Q ⟨G, P, h, q⟩ => by
  unfold dNotV at q
  obtain ⟨q1, q2, q3⟩ := Qk q
  refine ZK h q1 q2 fun tx x H1 ex s1 h1 rx => ?_
  have q4 := q3 tx ex
  cases tx <;> try exact q4.elim
  exact ⟨_, YL.mp rx, ZR (YY.up q4 s1)⟩
theorem zdA {dc : DT} (hc : TV X W c dc) (ha : EV X W a da) (hb : EV X W b db) : EV X W (.IfExp c a b pos) (dIfE dc da db) :=
 ZA (pe_ifExp hc ha hb) fun σ H Q ⟨G, P, h, q⟩ => by
  unfold dIfE at q
  obtain ⟨q1, q2, q3⟩ := bindTE q
  refine Vw h q1 q2 fun k H1 ek s1 h1 => ?_
  have q4 := q3 k ek
  cases k with
  | true => exact iteT ⟨G, P, h1, YY.up q4 s1⟩
  | false => exact iteF ⟨G, P, h1, YY.up q4 s1⟩
theorem truth_ok {H : Hp} {P : Pv} {x : V} {tx : PyData} {k : Bool} (r : Rl X.K H P tx x) (e : truth tx = .ok k) : TruV X.K x H k := by
 cases tx with
 | none => rw [XG.mp r]; cases e; rfl
 | bool b => rw [YL.mp r]; cases e; rfl
 | int i => rw [ZM.mp r]; cases e; rfl
 | str x => cases e
 | list xs =>
  obtain ⟨l, us, rfl, s1, r1⟩ := ZY.mp r
  cases e
  refine .inl ⟨us, s1.sq, ?_⟩
  have := r1.length
  cases xs <;> cases us <;> first | rfl | simp at this
 | tuple xs =>
  obtain ⟨l, us, rfl, s1, r1⟩ := Z8.mp r
  cases e
  refine .inr (.inl ⟨us, s1.sq, ?_⟩)
  have := r1.length
  cases xs <;> cases us <;> first | rfl | simp at this
 | dict _ => cases e
theorem Yv (ha : EV X W a da) (he : ∀ whole, isTrue a X.env whole = (do let v <- whole; standAt a.pos; holding [v] (truthy v))) : TV X W a (tV da) :=
 zck (pt_truth ha he) fun σ H Q ⟨G, P, h, q⟩ => by
  unfold Fx.tV at q
  obtain ⟨q1, q2, q3⟩ := bindET q
  refine ZK h q1 q2 fun tx x H1 ex s1 h1 rx => ?_
  have q4 := q3 tx ex
  cases e : truth tx with
  | stuck => rw [e] at q4; exact q4.elim
  | exc c => cases tx <;> cases e
  | ok k => rw [e] at q4; exact ⟨k, truth_ok rx e, q4 H1 s1⟩
theorem ZV {op : CmpOp} {r : R2} {f : PyData -> PyData -> Res PyData} (ho : OpR X (compareOp op) r /\ Fop X W r f) (ha : EV X W a da) (hb : EV X W b db) (hm : behindInMarks op b = false)
  (hf : ∀ x y, (∃ k, f x y = .ok (.bool k)) \/ f x y = .stuck := by first | exact fLt_b | exact fLe_b | exact fGt_b | exact fGe_b | exact fEq_b | exact fNe_b) : TV X W (.Compare a [op] [b] pos) (tV (d2 f da db)) :=
 zck (pt_cmpR ho.1 ha hb hm) fun σ H Q ⟨G, P, h, q⟩ => by
  refine zcY ho.2 ⟨G, P, h, ?_⟩
  unfold Fx.tV at q
  cases e : d2 f da db G with
  | stuck => rw [e] at q; exact q
  | exc c => rw [e] at q; exact q
  | ok t =>
   rw [e] at q
   have hb : ∃ k, t = .bool k := by
    unfold d2 at e
    cases e1 : da G with
    | stuck => rw [e1] at e; cases e
    | exc c => rw [e1] at e; cases e
    | ok tx =>
     rw [e1, Res.bind_ok] at e
     cases e2 : db G with
     | stuck => rw [e2] at e; cases e
     | exc c => rw [e2] at e; cases e
     | ok ty =>
      rw [e2, Res.bind_ok] at e
      rcases hf tx ty with ⟨k, e3⟩ | e3
      ·rw [e3] at e; cases e; exact ⟨k, rfl⟩
      ·rw [e3] at e; cases e
   obtain ⟨k, rfl⟩ := hb
   exact fun v H' s r => ⟨k, YL.mp r, q H' s⟩
theorem tw_and1 {dt : DT} (ha : TV X W a dt) : TW X W (.BoolOp .And [a] pos) dt := pw_and1 ha
theorem Wr {dt : DT} (ha : TV X W a dt) : TW X W (.BoolOp .Or [a] pos) dt := pw_or1 ha
theorem tw_and {dt du : DT} {rest : List Expr} (ha : TV X W a dt) (hb : TW X W (.BoolOp .And (b :: rest) pos) du) : TW X W (.BoolOp .And (a :: b :: rest) pos) (tAnd dt du) :=
 zfg (pw_and ha hb) fun σ H Q ⟨G, P, h, q⟩ => by
  unfold Fx.tAnd at q
  obtain ⟨q1, q2, q3⟩ := bindT q
  refine Vw h q1 q2 fun k H1 ek s1 h1 => ?_
  have q4 := q3 k ek
  cases k with
  | true => exact iteT ⟨G, P, h1, Jp.up q4 s1⟩
  | false => exact iteF (q4 H1 s1)
theorem Va {dt du : DT} {rest : List Expr} (ha : TV X W a dt) (hb : TW X W (.BoolOp .Or (b :: rest) pos) du) : TW X W (.BoolOp .Or (a :: b :: rest) pos) (tOr dt du) :=
 zfg (pw_or ha hb) fun σ H Q ⟨G, P, h, q⟩ => by
  unfold Fx.tOr at q
  obtain ⟨q1, q2, q3⟩ := bindT q
  refine Vw h q1 q2 fun k H1 ek s1 h1 => ?_
  have q4 := q3 k ek
  cases k with
  | true => exact iteT (q4 H1 s1)
  | false => exact iteF ⟨G, P, h1, Jp.up q4 s1⟩
theorem tv_w {dt : DT} (h : TW X W a dt) : TV X W a dt := PW.pt h
theorem Xa {dt : DT} (ha : TV X W a dt) : TV X W (.UnaryOp .Not a pos) (tNot dt) :=
 zck (pt_not ha) fun σ H Q ⟨G, P, h, q⟩ => by
  unfold Fx.tNot at q
  obtain ⟨q1, q2, q3⟩ := bindT q
  exact Vw h q1 q2 fun k H1 ek s1 h1 => (q3 k ek) H1 s1
end
end Fx
namespace Fx
open PySem PySem.Spec PyProof.Rows L2
section
variable {X : Cx} {W : Str -> Hp -> Prop} {fl : Bool} {a b c e : Expr} {es : List Expr} {da db : DE} {pos : Pos}
theorem WG.up {K : PySem.W.Frag} {H H' : Hp} {P P' : Pv} {r : Res Out} {D : Ends} (q : WG K W fl H P r D) (g : Go H P H' P') : WG K W fl H' P' r D := by
 cases r with
 | ok o =>
  cases o with
  | nx G => exact fun σ2 H2 P2 g2 h2 => q σ2 H2 P2 (g.trans g2) h2
  | bk G => exact fun σ2 H2 P2 g2 h2 => q σ2 H2 P2 (g.trans g2) h2
  | ct G => exact fun σ2 H2 P2 g2 h2 => q σ2 H2 P2 (g.trans g2) h2
  | rt t => exact fun v H2 P2 g2 h2 n2 => q v H2 P2 (g.trans g2) h2 fun z => (n2 z).back g
 | exc c => exact fun H2 P2 g2 => q H2 P2 (g.trans g2)
 | stuck => exact q
theorem zah {a : Res PyData} {f : PyData -> Res Out} {K : PySem.W.Frag} {H : Hp} {P : Pv} {D : Ends} (q : WG K W fl H P (a.bind f) D) :
  (∀ c, a = .exc c -> ∀ H' P', Go H P H' P' -> W c H') /\ a ≠ .stuck /\ ∀ t, a = .ok t -> WG K W fl H P (f t) D := by
 cases a with
 | ok t => exact ⟨fun c e => (by cases e), (by intro e; cases e), fun t' e => by cases e; exact q⟩
 | exc c => exact ⟨fun c' e => by cases e; exact q, (by intro e; cases e), fun t e => by cases e⟩
 | stuck => exact q.elim
theorem bindTS {a : Res Bool} {f : Bool -> Res Out} {K : PySem.W.Frag} {H : Hp} {P : Pv} {D : Ends} (q : WG K W fl H P (a.bind f) D) :
  (∀ c, a = .exc c -> ∀ H' P', Go H P H' P' -> W c H') /\ a ≠ .stuck /\ ∀ t, a = .ok t -> WG K W fl H P (f t) D := by
 cases a with
 | ok t => exact ⟨fun c e => (by cases e), (by intro e; cases e), fun t' e => by cases e; exact q⟩
 | exc c => exact ⟨fun c' e => by cases e; exact q, (by intro e; cases e), fun t e => by cases e⟩
 | stuck => exact q.elim
theorem bindAS {a : Res (List PyData)} {f : List PyData -> Res Out} {K : PySem.W.Frag} {H : Hp} {P : Pv} {D : Ends} (q : WG K W fl H P (a.bind f) D) :
  (∀ c, a = .exc c -> ∀ H' P', Go H P H' P' -> W c H') /\ a ≠ .stuck /\ ∀ t, a = .ok t -> WG K W fl H P (f t) D := by
 cases a with
 | ok t => exact ⟨fun c e => (by cases e), (by intro e; cases e), fun t' e => by cases e; exact q⟩
 | exc c => exact ⟨fun c' e => by cases e; exact q, (by intro e; cases e), fun t e => by cases e⟩
 | stuck => exact q.elim
theorem ZJ : SVs X W fl [] Z1 := zdb pss_nil fun D σ H ⟨G, P, h, q⟩ => q σ H P (.refl H P) h
theorem Zi {st : Stmt} {d : DS} (h : SV X W fl st d) : SVs X W fl [st] d := zfh h
theorem Zf {st : Stmt} {rest : List Stmt} {d1 d2 : DS} (h1 : SV X W fl st d1) (h2 : SVs X W fl rest d2) : SVs X W fl (st :: rest) (dSeq d1 d2) :=
 zdb (zay h1 h2) fun D σ H ⟨G, P, h, q⟩ => by
  refine ⟨G, P, h, ?_⟩
  unfold dSeq at q
  cases e : d1 G with
  | stuck => rw [e] at q; exact q.elim
  | exc c => rw [e] at q; exact q
  | ok o =>
   rw [e, Res.bind_ok] at q
   cases o with
   | nx G1 => exact fun σ' H' P' g h' => ⟨G1, P', h', WG.up q g⟩
   | rt t => exact q
   | bk G1 => exact q
   | ct G1 => exact q
theorem WJ {st : Stmt} : SV X W fl st dNev := X3 ps_never fun D σ H ⟨G, P, h, q⟩ => q
theorem Zn (he : EV X W e da) : SV X W false (.Return (some e) pos) (dRet da) :=
 X3 (ps_ret he) fun D σ H ⟨G, P, h, q⟩ => by
  unfold dRet at q
  obtain ⟨h', g⟩ := h.frzA
  obtain ⟨q1, q2, q3⟩ := zah q
  exact ZK h' (fun c e H' s => q1 c e H' P.bare (g.trans (.same s))) q2 fun t v H1 et s1 h1 r => (q3 t et) v H1 P.bare (g.trans (.same s1)) r fun z => by cases z
theorem Yj {x y : List Stmt} {dc : DT} {dx dy : DS} (hc : TV X W c dc) (hx : SVs X W fl x dx) (hy : SVs X W fl y dy) : SV X W fl (.If c x y pos) (dIf dc dx dy) :=
 X3 (ps_if hc hx hy) fun D σ H ⟨G, P, h, q⟩ => by
  unfold dIf at q
  obtain ⟨h', g⟩ := h.frzA
  obtain ⟨q1, q2, q3⟩ := bindTS q
  refine Vw h' (fun c e H' s => q1 c e H' P.bare (g.trans (.same s))) q2 fun k H1 ek s1 _ => ?_
  have q4 := q3 k ek
  cases k with
  | true => exact iteT ⟨G, P, h.same s1, WG.up q4 (.same s1)⟩
  | false => exact iteF ⟨G, P, h.same s1, WG.up q4 (.same s1)⟩
theorem zan (he : EV X W e da) (hs : swapsWith e none pos.line X.env = pure false := by rfl) : SV X W fl (.Expr e pos) (zcO da) :=
 X3 (zfj he hs) fun D σ H ⟨G, P, h, q⟩ => by
  unfold zcO at q
  obtain ⟨h', g⟩ := h.frzA
  obtain ⟨q1, q2, q3⟩ := zah q
  exact ZK h' (fun c e H' s => q1 c e H' P.bare (g.trans (.same s))) q2 fun t v H1 et s1 h1 r => (q3 t et) σ H1 P (.same s1) (h.same s1)
mutual
theorem zff {K : PySem.W.Frag} {H : Hp} {P P' : Pv} (hd : ∀ i a, P'.own i = some a -> ∃ o, H a = some o /\ LD o) (hf : P'.fb = P.fb) : ∀ (t : PyData) (v : V), Xl t = true -> Rl K H P t v -> Rl K H P' t v
 | .none, v, _, r => XG.mpr (XG.mp r)
 | .bool b, v, _, r => YL.mpr (YL.mp r)
 | .int i, v, _, r => ZM.mpr (ZM.mp r)
 | .str x, v, _, r => Qz.mpr (Qz.mp r)
 | .list _, v, h, r => by simp at h
 | .dict _, v, h, r => by simp at h
 | .tuple xs, v, h, r => by
  obtain ⟨a, vs, e, s, rs⟩ := Z8.mp r
  refine Z8.mpr ⟨a, vs, e, ?_, zc7 hd hf xs vs (by simpa using h) rs⟩
  refine ⟨s.1, fun i z => ?_, by rw [hf]; exact s.2.2⟩
  obtain ⟨ws, q, m⟩ := hd i a z
  rw [s.1] at q
  cases q
  rcases m with ⟨_, m⟩ | ⟨_, m⟩ <;> cases m
theorem zc7 {K : PySem.W.Frag} {H : Hp} {P P' : Pv} (hd : ∀ i a, P'.own i = some a -> ∃ o, H a = some o /\ LD o) (hf : P'.fb = P.fb) : ∀ (ts : List PyData) (vs : List V), WK ts = true -> Rls K H P ts vs -> Rls K H P' ts vs
 | [], vs, _, r => ZQ.mpr (ZQ.mp r)
 | t :: ts, vs, h, r => by
  obtain ⟨v, r', e, a, b⟩ := Zv.mp r
  simp only [zbt, Bool.and_eq_true] at h
  exact Zv.mpr ⟨v, r', e, zff hd hf t v h.1 a, zc7 hd hf ts r' h.2 b⟩
end
theorem after {K : PySem.W.Frag} {H H1 : Hp} {P P1 : Pv} {σ : L2.St} {G : List Sl} {is : List Nat} {t : PyData} {v : V} (h : Hol K H P σ G) (h1 : Hol K H P1 σ (frz is G)) (g : Go H P H P1) (s : Same H H1) (r : Rl K H1 P1 t v) :
  ∃ P2, Hol K H1 P2 σ (if Xl t then G else frz is G) /\ Rl K H1 P2 t v /\ Go H P H1 P2 := by
 cases e : Xl t with
 | true => exact ⟨P, by rw [if_pos rfl]; exact h.same s, zff (fun i a z => (h.same s).dom z) g.2.symm t v e r, .same s⟩
 | false => exact ⟨P1, by rw [if_neg Bool.false_ne_true]; exact h1.same s, r, g.trans (.same s)⟩
theorem Zq {i : Nat} {x : Str} {is : List Nat} {pos' : Pos} (hN : X.N.Nodup) (hi : X.N[i]? = some x) (hx : Loc X.env.scope x) (he : EV X W e da) (hs : swapsWith e (some (.Name x pos')) pos.line X.env = pure false := by rfl)
  (hf : X.fn x = true \/ X.env.scope.names.lookup x = some .local := by first | exact .inl rfl | exact .inr rfl | assumption) : SV X W fl (.Assign [.Name x pos'] e pos) (dSet i is da) :=
 X3 (ps_set hN hi hx he hs hf) fun D σ H ⟨G, P, h, q⟩ => by
  unfold dSet at q
  obtain ⟨P1, h1, g⟩ := h.frz is
  obtain ⟨q1, q2, q3⟩ := zah q
  refine ZK h1 (fun c e H' s => q1 c e H' P1 (g.trans (.same s))) q2 fun t v H1 et s1 h2 r => ?_
  obtain ⟨P2, h3, r3, g3⟩ := after h h1 g s1 r
  exact (q3 t et) _ H1 (P2.del i) (g3.trans .del) (h3.setVal i r3)
theorem Ql {body : List Stmt} {fuel : List Sl -> Nat} {dc : DT} {d : DS} (hp : PassesOwn (model X.prog X.w) X.A X.env X.xe) (hc : TV X W c dc) (hb : SVs X W fl body d) : SV X W fl (.While c body [] pos) (Qg fuel dc d) :=
 X3 (ps_while hp hc hb) fun D σ H ⟨G, P, h, q⟩ => by
  refine ⟨fun m σ' H' => ∃ G' P', Go H P H' P' /\ Hol X.K H' P' σ' G' /\ WG X.K W fl H P (Ye dc d m G') D, ⟨fuel G, G, P, .refl H P, h, q⟩, ?_⟩
  rintro m σ' H' ⟨G', P', g', h', q'⟩
  cases m with
  | zero => exact q'.elim
  | succ m =>
   unfold Ye at q'
   obtain ⟨h2, g2⟩ := h'.frzA
   obtain ⟨q1, q2, q3⟩ := bindTS q'
   refine Vw h2 (fun c e H1 s => q1 c e H1 P'.bare (g'.trans (g2.trans (.same s)))) q2 fun k H1 ek s1 _ => ?_
   have q4 := q3 k ek
   cases k with
   | false => exact iteF (q4 σ' H1 P' (g'.trans (.same s1)) (h'.same s1))
   | true =>
    refine iteT ⟨fun σ2 H2 => ∃ m', m' < m + 1 /\ ∃ G' P', Go H P H2 P' /\ Hol X.K H2 P' σ2 G' /\ WG X.K W fl H P (Ye dc d m' G') D, fun σ2 H2 z => z, ?_⟩
    refine ⟨G', P', h'.same s1, ?_⟩
    have q5 : WG X.K W fl H P ((d G').bind fun o => match o with
     | .nx G' => Ye dc d m G'
     | .ct G' => Ye dc d m G'
     | .bk G' => .ok (.nx G')
     | .rt t => .ok (.rt t)) D := q4
    cases e : d G' with
    | stuck => rw [e] at q5; exact q5.elim
    | exc c => rw [e] at q5; exact WG.up (r := .exc c) q5 (g'.trans (.same s1))
    | ok o =>
     rw [e, Res.bind_ok] at q5
     cases o with
     | nx G1 => exact fun σ2 H2 P2 g3 h3 => ⟨m, Nat.lt_succ_self m, G1, P2, g'.trans ((Go.same s1).trans g3), h3, q5⟩
     | ct G1 => exact fun σ2 H2 P2 g3 h3 => ⟨m, Nat.lt_succ_self m, G1, P2, g'.trans ((Go.same s1).trans g3), h3, q5⟩
     | bk G1 => exact fun σ2 H2 P2 g3 h3 => q5 σ2 H2 P2 (g'.trans ((Go.same s1).trans g3)) h3
     | rt t => exact fun v H2 P2 g3 h3 n3 => q5 v H2 P2 (g'.trans ((Go.same s1).trans g3)) h3 fun z => ((n3 z).back (.same s1)).back g'
end
theorem zfC {a : DE} : ∀ G ts, Zc a dNil G = .ok ts -> ts.length = 1 := fun G ts h => by
 unfold Zc dNil at h
 cases e : a G <;> rw [e] at h <;> first | (cases h; done) | (cases h; rfl)
theorem zfz {a : DE} {r : DA} {n : Nat} (hr : ∀ G ts, r G = .ok ts -> ts.length = n) : ∀ G ts, Zc a r G = .ok ts -> ts.length = n + 1 := fun G ts h => by
 unfold Zc at h
 cases e : a G with
 | stuck => rw [e] at h; cases h
 | exc c => rw [e] at h; cases h
 | ok x =>
  rw [e, Res.bind_ok] at h
  cases e2 : r G with
  | stuck => rw [e2] at h; cases h
  | exc c => rw [e2] at h; cases h
  | ok xs => rw [e2] at h; cases h; simp [hr G xs e2]
theorem zfB {a b : DE} : ∀ G ts, Zc a (Zc b dNil) G = .ok ts -> ts.length = 2 := zfz zfC
theorem zfA {a b c : DE} : ∀ G ts, Zc a (Zc b (Zc c dNil)) G = .ok ts -> ts.length = 3 := zfz zfB
theorem len_c4 {a b c d : DE} : ∀ G ts, Zc a (Zc b (Zc c (Zc d dNil))) G = .ok ts -> ts.length = 4 := zfz zfA
def spX (E : XK) (H : Hp) (c : Str) : Option (Str -> Value) -> Prop
 | none => False
 | some cl => ∀ dx H', Same H H' -> E (cl c) dx H'
def spF (K : PySem.W.Frag) (cl : Option (Str -> Value)) (np : Nat) (f : DF) : Sp := fun vs H Q E => vs.length = np /\ ∃ ts P, Rls K H P ts vs /\ (∀ i, P.own i = none) /\ ((∀ a, P.fb a -> ∃ o, H a = some o /\ LD o) /\ WZ K H) /\
 match f ts with
 | .ok t => ∀ v H', Same H H' -> Rl K H' P t v -> Q v H'
 | .exc c => spX E H c cl
 | .stuck => False
def EX (cl : Option (Str -> Value)) (W : Str -> Hp -> Prop) : XK := fun v _ H => ∃ c f, cl = some f /\ v = f c /\ W c H
structure Cal (X : Cx) (W : Str -> Hp -> Prop) (cl : Option (Str -> Value)) (k : Nat) (x : Str) (np : Nat) (f : DF) : Prop where
 ex : ∃ (CX : CXT) (fa : Addr) (fd : FuncData) (ps : List Str), FnOk X.prog X.w X.K X.mg X.base CX k fa fd ps (spF X.K cl np f) /\ X.mg x = some (.ref fa) /\ PySem.W.keepIn X.K (.ref fa) = true /\ ZF X.K fd ps [] /\ Jq CX X (EX cl W)
 nox : cl = none -> ∀ ts c, f ts ≠ .exc c
section
variable {X : Cx} {W : Str -> Hp -> Prop} {fl : Bool} {a b c e : Expr} {es : List Expr} {da db : DE} {pos : Pos}
theorem Zh {cl : Option (Str -> Value)} {k np : Nat} {x : Str} {f : DF} {d : DA} {p : Pos} (C : Cal X W cl k x np f) (hr : Room k X.A) (hg : Gl X x) (ha : AV X W (e :: es) d) (hL : ∀ G ts, d G = .ok ts -> ts.length = np := by first | exact zfC | exact zfB | exact zfA | exact len_c4) (hdb : (x == ("__debug__" : Str)) = false := by decide)
  (he : starEach (e :: es) X.env = (false, eval e X.env) :: starEach es X.env := by rfl) (hpl : (backTo pos (starEach es X.env)).any (·.1) = false := by rfl) : EV X W (.Call (.Name x p) (e :: es) [] pos) (Zk f d) := by
 obtain ⟨CX, fa, fd, ps, F, hm, hk, hb, hx⟩ := C.ex
 refine ZA (zfo (x := x) (p := p) F hr hg hm hk hb .nil hx ha (hdb := hdb) (he := he) (hpl := hpl)) fun σ H Q ⟨G, P, h, q⟩ => ?_
 unfold Zk at q
 obtain ⟨q1, q2, q3⟩ := zdU q
 refine WI h q1 q2 fun ts vs H1 es' s1 h1 rs => ?_
 have q4 := YY.up (q3 ts es') s1
 have el : (vs ++ []) = vs := List.append_nil vs
 rw [el]
 -- the callee sees all that the caller may not hand on as forbidden
 have gg : Tr H1 P H1 ⟨fun _ => none, fun a => ¬ Off P a⟩ := fun a o e1 _ o1 => ⟨e1, fun _ z => (by cases z), fun z => z o1⟩
 have back : ∀ H2, Tr H2 ⟨fun _ => none, fun a => ¬ Off P a⟩ H2 P := fun H2 a o e1 _ o1 => ⟨e1, Classical.byContradiction fun z => o1.2 z⟩
 refine ⟨by rw [<- rs.length]; exact hL G ts es', ts, ⟨fun _ => none, fun a => ¬ Off P a⟩, Rls.go gg ts vs rs, fun _ => rfl, ⟨fun a z => h1.ld z, h1.tab⟩, ?_⟩
 ·cases e : f ts with
  | ok t => rw [e] at q4; exact fun v H' s r => q4 v H' s (Rl.go (back H') t v r)
  | exc c =>
   rw [e] at q4
   cases ec : cl with
   | none => exact absurd e (C.nox ec ts c)
   | some g => exact fun dx H' s => ⟨c, g, rfl, rfl, q4 H' s⟩
  | stuck => rw [e] at q4; exact q4
end
theorem QP {K : PySem.W.Frag} {H : Hp} {P : Pv} {ts : List PyData} {vs : List V} {N : List Str} (r : Rls K H P ts vs) (ho : ∀ i, P.own i = none) (hf : (∀ a, P.fb a -> ∃ o, H a = some o /\ LD o) /\ WZ K H) :
  Hol K H P (L2.start N vs) (ts.map .val ++ List.replicate (N.length - ts.length) .emp) where
 sl := fun i s e => by
  by_cases hi : i < ts.length
  ·rw [List.getElem?_append_left (by simpa using hi), List.getElem?_map] at e
   cases et : ts[i]? with
   | none => rw [et] at e; cases e
   | some t =>
    rw [et] at e
    cases e
    obtain ⟨v, ev, rv⟩ := r.getT et
    refine ⟨v, ?_, rv⟩
    have hl := r.length
    unfold L2.start
    rw [List.getD_eq_getElem?_getD, List.getElem?_append_left (by simp; omega), List.getElem?_map, ev]
    rfl
  ·rw [List.getElem?_append_right (by simpa using hi)] at e
   rw [List.getElem?_replicate] at e
   split at e
   ·cases e; trivial
   ·cases e
 inj := fun i j a h _ => by rw [ho i] at h; cases h
 only := fun i a h => by rw [ho i] at h; cases h
 fbd := hf.1
 tab := hf.2
 nfb := fun i a h => by rw [ho i] at h; cases h
 len := by
  have hl := r.length
  unfold L2.start
  simp [hl]
theorem fn_ok {P : Program} {w : World} {K : PySem.W.Frag} {mg : Str -> Option Value} {base : Heap} {x qual : Str} {st : Stmt} {f : Addr} {fd : FuncData} {N ps : List Str} {k np : Nat} {d : DS} (F : Fun K x qual st f fd) (S : FnScope N ps (Zd st)) (hnp : ps.length = np)
  (hb : ∀ (cdv : Value) (A : Around) (outer : List Env) (s : Shared) (H : Hp) (E : XK), Room k (A.deeper (envOfC qual (Zd st) s.heap.objs.size f cdv)) ->
   SVs (cxOf CX0 P w K mg base N qual (Zd st) f cdv A outer s H E).nox (fun _ _ => False) false (Zl st) d) : FnOk P w K mg base CX0 (k + 1) f fd ps (spF K none np (runQ N.length np d)) := by
 refine F.ok S (fun vs H Q E h => by rw [hnp]; exact h.1) fun cdv A outer s H vs Q E hr h => ⟨_, hb cdv A outer s H E hr, ?_⟩
 obtain ⟨hl, ts, P', rs, ho, hf, q⟩ := h
 have hlt : ts.length = np := by rw [rs.length]; exact hl
 refine ⟨_, P', QP rs ho hf, ?_⟩
 unfold runQ runF at q
 rw [if_pos hlt] at q
 have en : N.length - np = N.length - ts.length := by rw [hlt]
 rw [en] at q
 have sm : ∀ H' P2, Go H P' H' P2 -> Same H H' := fun H' P2 g => g.all ho
 have bk : ∀ H' P2, Go H P' H' P2 -> Tr H' P2 H' P' := fun H' P2 g b o e _ z => ⟨e, fun i => by rw [ho i]; exact fun z => (by cases z), by rw [<- g.fbe]; exact z.2⟩
 cases e : d (ts.map .val ++ List.replicate (N.length - ts.length) .emp) with
 | stuck => rw [e] at q; exact q.elim
 | exc c => rw [e] at q; exact q.elim
 | ok o =>
  rw [e, Res.bind_ok] at q
  cases o with
  | nx G => exact fun σ' H' P2 g h' => q .non H' (sm H' P2 g) (XG.mpr rfl)
  | rt t => exact fun v H' P2 g r _ => q v H' (sm H' P2 g) (Rl.go (bk H' P2 g) t v r)
  | bk G => exact q.elim
  | ct G => exact q.elim
end Fx
namespace Fx
open PySem PySem.Spec PyProof.Rows L2
structure Cle (P : Program) (w : World) (K : PySem.W.Frag) (mg : Str -> Option Value) (base : Heap) (k : Nat) (x : Str) (np : Nat) (f : DF) : Prop where
 ex : ∃ (fa : Addr) (fd : FuncData) (ps : List Str), FnOk P w K mg base CX0 k fa fd ps (spF K none np f) /\ mg x = some (.ref fa) /\ PySem.W.keepIn K (.ref fa) = true /\ ZF K fd ps []
 nox : ∀ ts c, f ts ≠ .exc c
section
variable {P : Program} {w : World} {K : PySem.W.Frag} {mg : Str -> Option Value} {base : Heap}
theorem Cle.cal {X : Cx} {W : Str -> Hp -> Prop} {k np : Nat} {x : Str} {f : DF} (C : Cle X.prog X.w X.K X.mg X.base k x np f) : Cal X W none k x np f := by
 obtain ⟨fa, fd, ps, F, hm, hk, hb⟩ := C.ex
 exact ⟨⟨CX0, fa, fd, ps, F, hm, hk, hb, fun _ _ _ _ _ _ _ h => h.elim⟩, fun _ => C.nox⟩
theorem Cle.mono {j k np : Nat} {x : Str} {f : DF} (C : Cle P w K mg base j x np f) (h : j <= k) : Cle P w K mg base k x np f := by
 obtain ⟨fa, fd, ps, F, r⟩ := C.ex
 exact ⟨⟨fa, fd, ps, F.mono h, r⟩, C.nox⟩
theorem Zz {x : Str} {st : Stmt} {fa : Addr} {fd : FuncData} {N ps : List Str} {k n np : Nat} {d : DS} (F : Fun K x x st fa fd) (hm : mg x = some (.ref fa)) (b : ZF K fd ps []) (S : FnScope N ps (Zd st)) (hnp : ps.length = np) (hN : N.length = n)
  (hb : ∀ (cdv : Value) (A : Around) (outer : List Env) (s : Shared) (H : Hp) (E : XK), Room k (A.deeper (envOfC x (Zd st) s.heap.objs.size fa cdv)) ->
   SVs (cxOf CX0 P w K mg base N x (Zd st) fa cdv A outer s H E).nox (fun _ _ => False) false (Zl st) d) : Cle P w K mg base (k + 1) x np (runQ n np d) := by
 subst hN
 exact ⟨⟨fa, fd, ps, fn_ok F S hnp hb, hm, F.kp, b⟩, fun ts c => zav _ _ _ ts c⟩
theorem law_sp {f : DF} {ns : List Int} (h : f [.list (ns.map .int)] = .ok (.bool true)) {H : Hp} {a : Addr} (hT : WZ K H) (hS : SqL K H a (ns.map V.int)) : spF K none 1 f [.ref a] H (fun v _ => v = .bl true) (fun _ _ _ => False) := by
 refine ⟨rfl, [.list (ns.map .int)], ⟨fun _ => none, fun _ => False⟩, Zv.mpr ⟨.ref a, [], rfl, ZY.mpr ⟨a, ns.map V.int, rfl, ?_, rls_ints ns⟩, ZQ.mpr rfl⟩, fun _ => rfl, ⟨fun _ z => z.elim, hT⟩, ?_⟩
 ·rcases hS with h | h
  ·exact .inl ⟨h, fun _ z => (by cases z), fun z => z⟩
  ·exact .inr h
 ·rw [h]
  exact fun v H' _ r => YL.mp r
end
end Fx
namespace Fx
open PySem PySem.Spec PyProof.Rows L2
def Yld (K : PySem.W.Frag) (J : It) (ts : List PyData) (H : Hp) (P : Pv) : Prop := ∀ H' P', Tr H P H' P' -> (∀ p, H' p = none -> Off P' p) -> ∀ i,
 (∀ t, ts[i]? = some t -> J.go i H' /\ ∀ x H'', J.yld i H' x H'' -> Same H' H'' /\ Rl K H'' P' t x) /\ (ts.length <= i -> J.stop i H')
def PostI (K : PySem.W.Frag) (W : Str -> Hp -> Prop) (H : Hp) (P : Pv) (r : Res (List PyData)) (R : It -> Hp -> Prop) : Prop :=
 match r with
 | .ok ts => ∀ J H', Same H H' -> Yld K J ts H' P -> R J H'
 | .exc c => ∀ H', Same H H' -> W c H'
 | .stuck => False
def tFI (K : PySem.W.Frag) (W : Str -> Hp -> Prop) (d : DA) : TI := fun σ H R => ∃ G P, Hol K H P σ G /\ PostI K W H P (d G) R
def IV (X : Cx) (W : Str -> Hp -> Prop) (tg iter : Expr) (d : DA) : Prop := PI X tg iter (tFI X.K W d)
theorem zcl {X : Cx} {tg e : Expr} {t t' : TI} (h : PI X tg e t) (w : ∀ σ H Q, t' σ H Q -> t σ H Q) : PI X tg e t' := fun pins s σ H Q I q => h pins s σ H Q I (w σ H Q q)
theorem bindEI {a : Res PyData} {f : PyData -> Res (List PyData)} {K : PySem.W.Frag} {W : Str -> Hp -> Prop} {H : Hp} {P : Pv} {Q : It -> Hp -> Prop} (q : PostI K W H P (a.bind f) Q) :
  (∀ c, a = .exc c -> ∀ H', Same H H' -> W c H') /\ a ≠ .stuck /\ ∀ t, a = .ok t -> PostI K W H P (f t) Q := by
 cases a with
 | ok t => exact ⟨fun c e => (by cases e), (by intro e; cases e), fun t' e => by cases e; exact q⟩
 | exc c => exact ⟨fun c' e => by cases e; exact q, (by intro e; cases e), fun t e => by cases e⟩
 | stuck => exact q.elim
section
variable {X : Cx} {W : Str -> Hp -> Prop} {fl : Bool} {tg a b c e : Expr} {da db : DE} {pos : Pos}
def iSq (K : PySem.W.Frag) (tl : TE) : TI := fun σ H R => tl σ H fun x H1 => (∃ a, x = .ref a /\ (∃ xs, SqL K H1 a xs) /\ R (Itl K a) H1) \/ (∃ a, x = .ref a /\ (∃ xs, SqT K H1 a xs) /\ R (Itt K a) H1)
theorem pi_sq {l : Expr} {tl : TE} (hl : PE X l tl) : PI X tg l (iSq X.K tl) := by
 intro pins s σ H R I h
 refine thn (hl pins s σ H _ I h) fun v s1 ⟨x, H1, I1, r1, q1⟩ => ?_
 rcases q1 with ⟨a, e, ⟨xs, hq⟩, q⟩ | ⟨a, e, ⟨xs, hq⟩, q⟩
 ·subst e
  cases r1
  obtain ⟨its, rv, p, hz⟩ := I1.list hq
  refine wpAny_pyIter_list p.isList ?_
  refine ⟨s1.heap.objs.size, [s1.heap.objs.size], _, _, H1, rfl, I1.kept (t' := s1.toks) fun b o e => Heap.get?_push_of_some _ e, zeC a _, ⟨_, Heap.get?_push_size _ rfl, rfl, rfl⟩, fun b hb => ?_, q⟩
  have e : b = s1.heap.objs.size := by simpa using hb
  subst e
  exact I1.fpOk (Nat.le_refl _) (I1.hok.fresh (Nat.le_refl _))
 ·subst e
  cases r1
  obtain ⟨its, rv, p, hz⟩ := I1.tuple hq
  refine wpAny_pyIter_tuple (show s1.heap.IsTuple a its.toArray from p) ?_
  refine ⟨s1.heap.objs.size, [s1.heap.objs.size], _, _, H1, rfl, I1.kept (t' := s1.toks) fun b o e => Heap.get?_push_of_some _ e, zdW a _, ⟨_, Heap.get?_push_size _ rfl, rfl, rfl⟩, fun b hb => ?_, q⟩
  have e : b = s1.heap.objs.size := by simpa using hb
  subst e
  exact I1.fpOk (Nat.le_refl _) (I1.hok.fresh (Nat.le_refl _))
theorem yld_list {H : Hp} {P : Pv} {l : Addr} {xs : List PyData} {vs : List V} (s : SL X.K H P l vs) (r : Rls X.K H P xs vs) : Yld X.K (Itl X.K l) xs H P := fun H' P' tr nf i =>
 ⟨fun t e => by
  have r' := Rls.go tr xs vs r
  have s' := (s.go tr).sq
  obtain ⟨v, ev, rv⟩ := r'.getT e
  refine ⟨⟨vs, v, s', ev⟩, fun x H'' y => ?_⟩
  obtain ⟨rfl, y⟩ := y
  have := y vs s'
  rw [ev] at this
  cases this
  exact ⟨Same.refl _, rv⟩, fun hl => ⟨vs, (s.go tr).sq, by rw [<- r.length]; exact hl⟩⟩
theorem zex {H : Hp} {P : Pv} {l : Addr} {xs : List PyData} {vs : List V} (s : ST X.K H P l vs) (r : Rls X.K H P xs vs) : Yld X.K (Itt X.K l) xs H P := fun H' P' tr nf i =>
 ⟨fun t e => by
  have r' := Rls.go tr xs vs r
  have s' := (s.go tr).sq
  obtain ⟨v, ev, rv⟩ := r'.getT e
  refine ⟨⟨vs, v, s', ev⟩, fun x H'' y => ?_⟩
  obtain ⟨rfl, y⟩ := y
  have := y vs s'
  rw [ev] at this
  cases this
  exact ⟨Same.refl _, rv⟩, fun hl => ⟨vs, (s.go tr).sq, by rw [<- r.length]; exact hl⟩⟩
theorem Y6 (ha : EV X W a da) : IV X W tg a (iSeq da) :=
 zcl (pi_sq ha) fun σ H R ⟨G, P, h, q⟩ => by
  unfold iSeq at q
  obtain ⟨q1, q2, q3⟩ := bindEI q
  refine ZK h q1 q2 fun tx x H1 ex s1 h1 rx => ?_
  have q4 := q3 tx ex
  cases tx <;> try exact q4.elim
  ·obtain ⟨l, vs, rfl, sl, rs⟩ := ZY.mp rx
   exact .inl ⟨l, rfl, ⟨vs, sl.sq⟩, q4 _ H1 s1 (yld_list sl rs)⟩
  ·obtain ⟨l, vs, rfl, sl, rs⟩ := Z8.mp rx
   exact .inr ⟨l, rfl, ⟨vs, sl.sq⟩, q4 _ H1 s1 (zex sl rs)⟩
theorem rngT_get (lo : Int) (n i : Nat) : (rngT lo n)[i]? = if i < n then some (.int (lo + (i : Int))) else none := by
 unfold rngT
 rw [List.getElem?_map]
 by_cases h : i < n
 ·rw [if_pos h, List.getElem?_eq_getElem (by simpa using h)]
  simp
 ·rw [if_neg h, List.getElem?_eq_none (by simpa using h)]
  rfl
theorem zey {H : Hp} {P : Pv} (lo : Int) (n : Nat) : Yld X.K (Itr lo n) (rngT lo n) H P := by
 intro H' P' tr nf i
 refine ⟨fun t e => ?_, fun hl => ?_⟩
 ·rw [rngT_get] at e
  split at e
  ·rename_i hi
   cases e
   refine ⟨hi, fun x H'' y => ?_⟩
   obtain ⟨rfl, rfl⟩ := y
   exact ⟨Same.refl _, ZM.mpr rfl⟩
  ·cases e
 ·have : (rngT lo n).length = n := by simp [rngT]
  rw [this] at hl
  exact hl
theorem YT {p : Pos} (hg : Gl X "range") (hm : X.mg "range" = none) (ha : EV X W a da) (hs : starEach [a] X.env = [(false, eval a X.env)] := by rfl) (hs' : starEach [a] X.env = (false, eval a X.env) :: starEach [] X.env := by rfl) : IV X W tg (.Call (.Name "range" p) [a] [] pos) (iRng da) :=
 zcl (zfn hg hm (Yk ha XM hs') hs) fun σ H R ⟨G, P, h, q⟩ => by
  unfold Fx.iRng at q
  obtain ⟨q1, q2, q3⟩ := bindEI q
  refine ZK h q1 q2 fun tx x H1 ex s1 h1 rx => ?_
  have q4 := q3 tx ex
  cases tx <;> try exact q4.elim
  rename_i j
  simp only at q4
  split at q4
  ·rename_i hj
   exact ⟨j, by rw [ZM.mp rx], (VC hj).1, (VC hj).2, q4 _ H1 s1 (zey 0 j.toNat)⟩
  ·exact q4.elim
def GV (X : Cx) (tg : Expr) (st : PyData -> List Sl -> Res (List Sl)) : Prop :=
 ∃ g, PG X tg g /\ ∀ (t : PyData) (v : V) (σ : L2.St) (H : Hp) (P : Pv) (G : List Sl) (Q : L2.St -> Hp -> Prop), Hol X.K H P σ G -> Rl X.K H P t v ->
  (∃ G', st t G = .ok G' /\ ∀ σ' P', Go H P H P' -> Hol X.K H P' σ' G' -> Q σ' H) -> g v σ H Q
theorem ZC {i : Nat} {x : Str} (hN : X.N.Nodup) (hi : X.N[i]? = some x) (hx : Loc X.env.scope x) (hf : X.fn x = true \/ X.env.scope.names.lookup x = some .local := by first | exact .inl rfl | exact .inr rfl | assumption) : GV X (.Name x pos) (Zt i) :=
 ⟨gName i, zcm hN hi hx hf, fun t v σ H P G Q h r ⟨G', e, q⟩ => by
  cases e
  exact q _ (P.del i) .del (h.setVal i r)⟩
theorem QQ {i j : Nat} {x y : Str} {p1 p2 : Pos} {k : Nat} (hc : X.calm = true) (hN : X.N.Nodup) (hi : X.N[i]? = some x) (hx : Loc X.env.scope x) (hj : X.N[j]? = some y) (hy : Loc X.env.scope y)
  (hf : X.fn x = true \/ X.env.scope.names.lookup x = some .local := by first | exact .inl rfl | exact .inr rfl | assumption) (hf2 : X.fn y = true \/ X.env.scope.names.lookup y = some .local := by first | exact .inl rfl | exact .inr rfl | assumption)
  (hs : (assignEach [.Name x p1, .Name y p2] X.env).map (·.2) = assign (.Name x p1) X.env :: (assignEach [.Name y p2] X.env).map (·.2) := by rfl)
  (hs2 : (assignEach [.Name y p2] X.env).map (·.2) = assign (.Name y p2) X.env :: (assignEach [] X.env).map (·.2) := by rfl)
  (hn : (assignEach [.Name x p1, .Name y p2] X.env).length = 2 := by rfl) (hst : (assignEach [.Name x p1, .Name y p2] X.env).findIdx? (·.1) = none := by rfl) : GV X (.Tuple [.Name x p1, .Name y p2] k pos) (WL i j) :=
 ⟨_, pg_tup hc (zdd (zcm hN hi hx hf) (zdd (zcm hN hj hy hf2) pgs_nil hs2) hs) hn hst, fun t v σ H P G Q h r ⟨G', e, q⟩ => by
  unfold WL at e
  split at e
  ·rename_i tx ty G0
   cases e
   obtain ⟨l, vs, rfl, s1, rs⟩ := Z8.mp r
   obtain ⟨v1, r1, rfl, a1, b1⟩ := Zv.mp rs
   obtain ⟨v2, r2, rfl, a2, b2⟩ := Zv.mp b1
   cases ZQ.mp b2
   have h1 := h.setVal i a1
   have h2 := h1.setVal j (Rl.go .del ty v2 a2)
   exact ⟨l, [v1, v2], rfl, s1.sq, rfl, v1, [v2], rfl, v2, [], rfl, rfl, q _ _ (Go.del.trans .del) h2⟩
  ·cases e⟩
theorem Hol.offn {K : PySem.W.Frag} {H : Hp} {P : Pv} {σ : L2.St} {G : List Sl} (h : Hol K H P σ G) : ∀ p, H p = none -> Off P p := fun p e => h.off_new e
theorem XJ {body : List Stmt} {is : List Nat} {st : PyData -> List Sl -> Res (List Sl)} {it : DA} {d : DS} {iter : Expr} (hp : PassesOwn (model X.prog X.w) X.A X.env X.xe) (hc : X.calm = true) (hi : IV X W tg iter it) (hg : GV X tg st) (hb : SVs X W fl body d)
  (hst : ∀ t G c, st t G ≠ .exc c := by first | exact ze6 | exact ze5) (hs : ∀ x, foldedSetIterable iter X.env x = pure x := by intro _; rfl) : SV X W fl (.For tg iter body [] pos) (dFor st is it d) := by
 obtain ⟨g, pg, gp⟩ := hg
 refine X3 (ps_for hp hc hi pg hb hs) fun D σ H ⟨G, P, h, q⟩ => ?_
 unfold dFor at q
 obtain ⟨P1, h1, g1⟩ := h.frz is
 obtain ⟨q1, q2, q3⟩ := bindAS q
 refine ⟨frz is G, P1, h1, ?_⟩
 cases e : it (frz is G) with
 | stuck => exact absurd e q2
 | exc c => exact fun H' s => q1 c e H' P1 (g1.trans (.same s))
 | ok ts =>
  intro J H1 s1 y
  have q4 := q3 ts e
  have g2 : Go H P H1 P1 := g1.trans (.same s1)
  refine ⟨fun i m σ' H' => m = ts.length - i /\ i <= ts.length /\ ∃ G' P', Go H1 P1 H' P' /\ Hol X.K H' P' σ' G' /\ WG X.K W fl H P (forL st d (ts.drop i) G') D, ⟨ts.length, by simp, Nat.zero_le _, frz is G, P1, .refl _ _, h1.same s1, q4⟩, ?_⟩
  rintro i m σ' H' ⟨rfl, hi, G', P', g', h', q'⟩
  obtain ⟨y1, y2⟩ := y H' P' g'.tr h'.offn i
  by_cases hlt : i < ts.length
  ·have et : ts[i]? = some ts[i] := by simp [hlt]
   obtain ⟨go, yl⟩ := y1 _ et
   rw [List.drop_eq_getElem_cons hlt] at q'
   unfold forL at q'
   refine .inr ⟨go, fun σ2 H2 => ∃ G2 P2, Go H1 P1 H2 P2 /\ Hol X.K H2 P2 σ2 G2 /\ WG X.K W fl H P (forL st d (ts.drop (i + 1)) G2) D, fun σ2 H2 z => ⟨_, by omega, rfl, hlt, z⟩, fun x H2 yy => ?_⟩
   obtain ⟨s2, r2⟩ := yl x H2 yy
   have h2 := h'.same s2
   cases es : st ts[i] G' with
   | stuck => rw [es] at q'; exact q'.elim
   | exc c => exact absurd es (hst _ _ c)
   | ok G1 =>
    rw [es, Res.bind_ok] at q'
    refine gp ts[i] x σ' H2 P' G' _ h2 r2 ⟨G1, es, fun σ3 P3 g3 h3 => ⟨G1, P3, h3, ?_⟩⟩
    have gg : Go H1 P1 H2 P3 := g'.trans ((Go.same s2).trans g3)
    cases ed : d G1 with
    | stuck => rw [ed] at q'; exact q'.elim
    | exc c => rw [ed] at q'; exact WG.up (r := .exc c) q' (g2.trans gg)
    | ok o =>
     rw [ed, Res.bind_ok] at q'
     cases o with
     | nx G4 => exact fun σ4 H4 P4 g4 h4 => ⟨G4, P4, gg.trans g4, h4, q'⟩
     | ct G4 => exact fun σ4 H4 P4 g4 h4 => ⟨G4, P4, gg.trans g4, h4, q'⟩
     | bk G4 => exact fun σ4 H4 P4 g4 h4 => q' σ4 H4 P4 (g2.trans (gg.trans g4)) h4
     | rt t => exact fun v H4 P4 g4 h4 n4 => q' v H4 P4 (g2.trans (gg.trans g4)) h4 fun z => (n4 z).back (g2.trans gg)
  ·have ei : i = ts.length := by omega
   subst ei
   rw [List.drop_length] at q'
   exact .inl ⟨y2 (Nat.le_refl _), q' σ' H' P' (g2.trans g') h'⟩
end
end Fx
namespace Fx
open PySem PySem.Spec PyProof.Rows L2
theorem Same.updL {H H8 : Hp} {D : Addr} {vs ws : List V} (s : Same H H8) (hD : H D = none) (h8 : H8 D = some (.lst vs)) : Same H (upd H8 D (.lst ws)) where
 kp := fun b o e n => by rw [Zs (Zw e hD)]; exact s.kp b o e n
 free := fun {b} w => by
  by_cases z : b = D
  ·rw [z]; exact hD
  ·rw [Zs z] at w; exact s.free w
 tab := fun K t => WZ.mono (s.tab K t) fun b o e nl => by
  rw [Zs (fun z => by rw [z, h8] at e; cases e; exact nl (.inl ⟨_, rfl⟩))]; exact e
 tbk := fun b ps e => by rw [Zs (Zw e hD)]; exact s.tbk b ps e
def zcR (K : PySem.W.Frag) (W : Str -> Hp -> Prop) (H : Hp) (P : Pv) (r : Res (List PyData)) (Q : VK) : Prop :=
 match r with
 | .ok xs => ∀ p vs H', Same H H' -> H p = none -> H' p = some (.lst vs) -> Rls K H' (P.fbd p) xs vs -> Q (.ref p) H'
 | .exc c => ∀ H', Same H H' -> W c H'
 | .stuck => False
def tFO (K : PySem.W.Frag) (W : Str -> Hp -> Prop) (d : DA) : TE := fun σ H Q => ∃ G P, Hol K H P σ G /\ zcR K W H P (d G) Q
def OV (X : Cx) (W : Str -> Hp -> Prop) (e : Expr) (d : DA) : Prop := PE X e (tFO X.K W d)
theorem Tr.fbd {H : Hp} {P : Pv} {p : Addr} : Tr H (P.fbd p) H P := fun a o e _ q => ⟨e, q.1, fun z => q.2 (.inl z)⟩
theorem Tr.tofbd {H : Hp} {P : Pv} {p : Addr} (hp : H p = none) : Tr H P H (P.fbd p) := fun a o e _ q => ⟨e, q.1, fun z => z.elim q.2 fun z => by rw [z, hp] at e; cases e⟩
theorem rl_new {K : PySem.W.Frag} {H H' : Hp} {P : Pv} {σ : L2.St} {G : List Sl} {p : Addr} {vs : List V} {xs : List PyData} (h : Hol K H P σ G) (s : Same H H') (hp : H p = none) (hl : H' p = some (.lst vs)) (r : Rls K H' (P.fbd p) xs vs) : Rl K H' P (.list xs) (.ref p) :=
 ZY.mpr ⟨p, vs, rfl, .off hl (h.off_new hp), Rls.go .fbd xs vs r⟩
theorem Hol.own' {K : PySem.W.Frag} {H H' : Hp} {P : Pv} {σ : L2.St} {G : List Sl} {p : Addr} {vs : List V} {xs : List PyData} {i : Nat} (h : Hol K H P σ G) (hi : i < G.length) (s : Same H H') (hp : H p = none) (hl : H' p = some (.lst vs)) (r : Rls K H' (P.fbd p) xs vs) :
  Hol K H' (P.put i p) (σ.set i (some (.ref p))) (G.set i (.own xs)) /\ Go H P H' (P.put i p) := by
 have g0 : Go H P H' (P.put i p) := (Go.put hp).trans (.same s)
 have gg := g0.tr
 have tt : Tr H' (P.fbd p) H' (P.put i p) := fun a o e _ q => ⟨e, fun j z => by
  have z' : (if j = i then some p else P.own j) = some a := z
  split at z'
  ·cases z'; exact q.2 (Or.inr rfl)
  ·exact q.1 j z', fun z => q.2 (Or.inl z)⟩
 have rr : Rls K H' (P.put i p) xs vs := Rls.go tt xs vs r
 refine ⟨⟨fun j s' q => ?_, ?_, ?_, ?_, ?_, ?_, s.tab K h.tab⟩, g0⟩
 ·by_cases e : j = i
  ·subst e
   rw [List.getElem?_set_self hi] at q
   cases q
   exact ⟨p, vs, Ut (by rw [h.len]; exact hi), if_pos rfl, hl, rr⟩
  ·rw [List.getElem?_set_ne (Ne.symm e)] at q
   have z := h.sl j s' q
   rw [QR e]
   cases s' with
   | emp => trivial
   | val t' => obtain ⟨v', e1, r'⟩ := z; exact ⟨v', e1, Rl.go gg t' v' r'⟩
   | own xs' =>
    obtain ⟨p', vs', e1, e2, e3, r'⟩ := z
    exact ⟨p', vs', e1, (by show (if j = i then some p else P.own j) = _; rw [if_neg e]; exact e2), s.kp _ _ e3 QH, Rls.go gg xs' vs' r'⟩
   | dct xs' =>
    obtain ⟨p', vs', e1, e2, e3, r'⟩ := z
    exact ⟨p', vs', e1, (by show (if j = i then some p else P.own j) = _; rw [if_neg e]; exact e2), s.kp _ _ e3 nt_dT, Rlk.go gg xs' vs' r'⟩
 ·intro a b c h1 h2
  have h1' : (if a = i then some p else P.own a) = some c := h1
  have h2' : (if b = i then some p else P.own b) = some c := h2
  split at h1'
  ·split at h2'
   ·rename_i z1 z2; rw [z1, z2]
   ·cases h1'; obtain ⟨ws, q, _⟩ := h.dom h2'; rw [hp] at q; cases q
  ·split at h2'
   ·cases h2'; obtain ⟨ws, q, _⟩ := h.dom h1'; rw [hp] at q; cases q
   ·exact h.inj a b c h1' h2'
 ·intro j a z
  have z' : (if j = i then some p else P.own j) = some a := z
  split at z'
  ·rename_i e; subst e; exact ⟨_, List.getElem?_set_self hi, trivial⟩
  ·rename_i ne
   obtain ⟨xs, q, m⟩ := h.only j a z'
   exact ⟨xs, by rw [List.getElem?_set_ne (Ne.symm ne)]; exact q, m⟩
 ·intro a z
  obtain ⟨o, q, m⟩ := h.fbd a z
  refine ⟨o, ?_, m⟩
  exact s.kp _ _ q m.nt
 ·intro j a z
  have z' : (if j = i then some p else P.own j) = some a := z
  split at z'
  ·cases z'; exact h.nofb hp
  ·exact h.nfb j a z'
 ·rw [List.length_set, List.length_set]; exact h.len
def ZU (env : Env) : List (Str × NameKind) -> List (Str × Addr) -> List (Str × Addr)
 | [], cs => cs
 | (n, k) :: r, cs => ZU env r (if (k == NameKind.free) = true then (n, (env.cells.lookup n).getD 0) :: cs else cs)
theorem zbW (env : Env) (f : Str × NameKind -> List (Str × Addr) -> Sem (ForInStep (List (Str × Addr))))
  (hf : ∀ n k cs, f (n, k) cs = if (k == NameKind.free) = true then (cellOf env n >>= fun a => pure (.yield ((n, a) :: cs))) else pure (.yield cs)) :
  ∀ (names : List (Str × NameKind)) (cs : List (Str × Addr)), (∀ y ∈ names, y.2 = .free -> ∃ c, env.cells.lookup y.1 = some c) -> (forIn names cs f : Sem (List (Str × Addr))) = pure (ZU env names cs)
 | [], cs, h => rfl
 | (n, k) :: r, cs, h => by
  rw [List.forIn_cons, hf]
  have ih := fun cs => zbW env f hf r cs fun y hy => h y (List.mem_cons_of_mem _ hy)
  by_cases hk : (k == NameKind.free) = true
  ·obtain ⟨c, e⟩ := h (n, k) List.mem_cons_self (by simpa using hk)
   have e2 : cellOf env n = pure c := by unfold cellOf; rw [e]
   rw [if_pos hk, e2, pure_bind, pure_bind]
   show forIn r _ f = _
   rw [ih]
   have ec : ZU env ((n, k) :: r) cs = ZU env r (if (k == NameKind.free) = true then (n, (env.cells.lookup n).getD 0) :: cs else cs) := rfl
   rw [ec, if_pos hk, e]
   rfl
  ·rw [if_neg hk, pure_bind]
   show forIn r _ f = _
   rw [ih]
   have ec : ZU env ((n, k) :: r) cs = ZU env r (if (k == NameKind.free) = true then (n, (env.cells.lookup n).getD 0) :: cs else cs) := rfl
   rw [ec, if_neg hk]
theorem UJ {scope : Scope} {env : Env} (h : ∀ y ∈ scope.names, y.2 = .free -> ∃ c, env.cells.lookup y.1 = some c) : closureFor scope env = pure (ZU env scope.names []) := by
 unfold closureFor
 have := zbW env (fun x r => match x with
  | (name, kind) => if (kind == NameKind.free) = true then (cellOf env name >>= fun a => pure (.yield ((name, a) :: r))) else pure (.yield r)) (fun _ _ _ => rfl) scope.names [] h
 simp only [bind_pure]
 exact this
theorem VH (env : Env) : ∀ (names : List (Str × NameKind)) (cs : List (Str × Addr)), (∀ y ∈ names, y.2 = .free -> ∃ c, env.cells.lookup y.1 = some c) -> (∀ x c, cs.lookup x = some c -> env.cells.lookup x = some c) ->
  ∀ x c, (ZU env names cs).lookup x = some c -> env.cells.lookup x = some c
 | [], cs, h, hc, x, c, e => hc x c e
 | (n, k) :: r, cs, h, hc, x, c, e => by
  unfold ZU at e
  refine VH env r _ (fun y hy => h y (List.mem_cons_of_mem _ hy)) (fun y d ey => ?_) x c e
  by_cases hk : (k == NameKind.free) = true
  ·rw [if_pos hk] at ey
   obtain ⟨c', e'⟩ := h (n, k) List.mem_cons_self (by simpa using hk)
   rw [List.lookup_cons] at ey
   split at ey
   ·rename_i q
    have : y = n := by simpa using q
    subst this
    rw [e'] at ey ⊢
    exact ey
   ·exact hc y d ey
  ·rw [if_neg hk] at ey
   exact hc y d ey
theorem YO {α : Type} {x : Str} {a : α} : ∀ {cs : List (Str × α)}, (x, a) ∈ cs -> ∃ b, cs.lookup x = some b
 | (y, b) :: r, h => by
  rw [List.lookup_cons]
  split
  ·exact ⟨b, rfl⟩
  ·rename_i q
   rcases List.mem_cons.mp h with e | e
   ·cases e; simp at q
   ·exact YO e
theorem WF (env : Env) : ∀ (names : List (Str × NameKind)) (cs : List (Str × Addr)) (x : Str), ((∃ c, (x, c) ∈ cs) \/ (x, NameKind.free) ∈ names) -> ∃ c, (x, c) ∈ ZU env names cs
 | [], cs, x, h => by
  rcases h with h | h
  ·exact h
  ·cases h
 | (n, k) :: r, cs, x, h => by
  unfold ZU
  refine WF env r _ x ?_
  rcases h with ⟨c, h⟩ | h
  ·left
   split
   ·exact ⟨c, List.mem_cons_of_mem _ h⟩
   ·exact ⟨c, h⟩
  ·rcases List.mem_cons.mp h with e | e
   ·cases e
    left
    exact ⟨_, by rw [if_pos (by rfl)]; exact List.mem_cons_self⟩
   ·exact .inr e
theorem Yc {α : Type} {x : Str} {a : α} : ∀ {cs : List (Str × α)}, cs.lookup x = some a -> (x, a) ∈ cs
 | (y, b) :: r, h => by
  rw [List.lookup_cons] at h
  split at h
  ·rename_i q
   have : x = y := by simpa using q
   cases h; subst this
   exact List.mem_cons_self
  ·exact List.mem_cons_of_mem _ (Yc h)
theorem U5 {scope : Scope} {env : Env} {x : Str} (hcell : ∀ y ∈ scope.names, y.2 ≠ .cell) : (relabel scope env).names.lookup x = some .cell \/ (relabel scope env).names.lookup x = some .free -> (x, NameKind.free) ∈ scope.names := by
 intro h
 have : ∃ k, (x, k) ∈ (relabel scope env).names /\ (k = .cell \/ k = .free) := by
  rcases h with h | h
  ·exact ⟨_, Yc h, .inl rfl⟩
  ·exact ⟨_, Yc h, .inr rfl⟩
 obtain ⟨k, hm, hk⟩ := this
 unfold relabel at hm
 obtain ⟨⟨n, k0⟩, hm0, e⟩ := List.mem_map.mp hm
 simp only at e
 split at e
 ·rename_i q
  cases e
  simp only [Bool.and_eq_true, beq_iff_eq] at q
  rw [q.1.1] at hm0
  exact hm0
 ·cases e
  rcases hk with rfl | rfl
  ·exact absurd rfl (hcell _ hm0)
  ·exact hm0
def cxC (X : Cx) (scope : Scope) (N : List Str) (s₀ : Shared) (H₀ : Hp) (ex : List Addr) (pn : List (Addr × Obj) := []) : Cx :=
 { X with env := compEnvC scope (ZU X.env scope.names []) s₀.heap.objs.size X.env, N := N, s₀ := s₀, H₀ := H₀, outer := X.stack, ex := ex, fn := fun _ => false, pn := pn, xe := fun _ _ => False }
structure CompOk (X : Cx) (scope : Scope) (N : List Str) (nv : Nat) (cap : List Nat) : Prop where
 cell : ∀ y ∈ scope.names, y.2 ≠ .cell
 kind : scope.kind = .function
 names : ∀ y ∈ scope.names, y.2 = .local -> scope.names.lookup y.1 = some .local
 free : ∀ y ∈ scope.names, y.2 = .free -> X.env.kindOf y.1 = some .cell \/ X.env.kindOf y.1 = some .free
 len : N.length = nv + cap.length
 caps : ∀ (i j : Nat) (x : Str), cap[i]? = some j -> N[nv + i]? = some x -> X.N[j]? = some x /\ ((relabel scope X.env).names.lookup x = some .cell \/ (relabel scope X.env).names.lookup x = some .free) /\ (X.env.kindOf x = some .cell \/ X.env.kindOf x = some .free)
def sig (nv : Nat) (cap : List Nat) (σ : L2.St) : L2.St := List.replicate nv none ++ cap.map fun j => σ.getD j none
section
variable {X : Cx} {scope : Scope} {N : List Str} {nv : Nat} {cap : List Nat} {pins : List (Addr × Obj)} {σ : L2.St} {H : Hp} {s : Shared} {ex : List Addr}
theorem CompOk.has (C : CompOk X scope N nv cap) (ok : X.Ok) : ∀ y ∈ scope.names, y.2 = .free -> ∃ c, X.env.cells.lookup y.1 = some c := fun y hy e => ok.has y.1 (C.free y hy e)
theorem CompOk.start (C : CompOk X scope N nv cap) (I : Inv X pins σ H s) (hex : ∀ b ∈ ex, FpOk X pins H b /\ b < s.heap.objs.size) {h' : Heap} {t : Nat} {m : Str -> Option Value} (hn : h'.Ns s.heap.objs.size m) (hk : ∀ b o, s.heap.get? b = some o -> h'.get? b = some o) :
  Inv (cxC X scope N s H ex) [] (sig nv cap σ) H { s with heap := h', toks := t } := by
 have hh := C.has I.ok
 have sub := VH X.env scope.names [] hh (fun x c e => by cases e)
 have hL : s.heap.objs.size <= (cxC X scope N s H ex).env.locals := Nat.le_refl _
 have stk : ∀ b ∈ frs X.stack, b < s.heap.objs.size := fun b hb => by
  obtain ⟨_, o, ho, _⟩ := I.stack.mem hb
  exact Heap.lt_size ho
 refine ⟨⟨I.ok.mod, C.kind, I.ok.glob, I.ok.blt, hL, fun x y c h1 h2 => I.ok.inj x y c (sub x c h1) (sub y c h2), fun x hx => ?_, fun x c h => ?_, I.ok.hd, I.ok.frames, .inl rfl, fun b hb => ?_, fun b o e => I.bs b o e, ?_, fun b o e hb => ?_, fun b hb => ?_, I.stack, I.stkFree⟩,
  rfl, I.bare, Un.kept hk, ⟨m, hn, fun i x v e1 e2 e3 => ?_⟩, fun x c e => ?_, I.hok.fresh (Nat.le_refl _), fun x c e => I.freeC x c (sub x c e), fun p hp => ?_, I.hok.kept hk, ?_⟩
 ·have hx' : (relabel scope X.env).names.lookup x = some .cell \/ (relabel scope X.env).names.lookup x = some .free := hx
  obtain ⟨c, hc⟩ := WF X.env scope.names [] x (.inr (U5 C.cell hx'))
  exact YO hc
 ·cases h
 ·obtain ⟨f, lt⟩ := hex b hb
  refine ⟨Nat.ne_of_lt lt, fun x c e => f.2.2.2.2.1 x c (sub x c e)⟩
 ·exact Nat.le_trans I.ok.bsz I.sz
 ·obtain ⟨f, lt⟩ := hex b hb
  rcases f.2.2.2.1 with z | z
  ·exact I.ok.noex b o e z
  ·exact absurd (Nat.lt_of_lt_of_le (Heap.lt_size e) (Nat.le_trans I.ok.bsz z)) (Nat.lt_irrefl _)
 ·obtain ⟨f, lt⟩ := hex b hb
  intro z
  rcases List.mem_cons.mp (I.stkSub b z) with e | e
  ·exact f.2.1 e
  ·exact f.2.2.1 e
 ·-- the names
  have hi : nv <= i := by
   rcases Nat.lt_or_ge i nv with z | z
   ·unfold sig at e2
    rw [List.getElem?_append_left (by simpa using z), List.getElem?_replicate] at e2
    split at e2 <;> cases e2
   ·exact z
  obtain ⟨k, rfl⟩ := Nat.exists_eq_add_of_le hi
  unfold sig at e2
  rw [List.getElem?_append_right (by simp), List.getElem?_map] at e2
  have ek : nv + k - (List.replicate nv (none : Option V)).length = k := by simp
  rw [ek] at e2
  cases ec : cap[k]? with
  | none => rw [ec] at e2; cases e2
  | some j =>
   rw [ec] at e2
   have e2' : σ.getD j none = some v := by simpa using e2
   obtain ⟨c1, c2, c3⟩ := C.caps k j x ec e1
   obtain ⟨m0, _, hl⟩ := I.loc
   have vis : Vis X.env.scope x := c3.elim (fun z => .inr (.inl z)) fun z => .inr (.inr z)
   obtain ⟨u, ru, lk⟩ := hl j x v c1 (getD_some e2') vis
   refine ⟨u, ru, .inr ⟨c2, ?_⟩⟩
   rcases lk with ⟨z, _⟩ | ⟨_, c, ec', o, ho, hd⟩
   ·rcases c3 with c3 | c3 <;> (rw [c3] at z; cases z)
   ·obtain ⟨c', hc'⟩ := WF X.env scope.names [] x (.inr (U5 C.cell c2))
    obtain ⟨c'', hc''⟩ := YO hc'
    have := sub x c'' hc''
    rw [ec'] at this
    cases this
    exact ⟨c, hc'', o, hk c o ho, hd⟩
 ·obtain ⟨v, o, ho, hd⟩ := I.cell x c (sub x c e)
  exact ⟨v, o, hk c o ho, hd⟩
 ·exact absurd (show p ∈ ([] : List (Addr × Obj)) from hp) (by simp)
 ·show (sig nv cap σ).length = N.length
  unfold sig
  rw [C.len]
  simp
theorem CompOk.stop {H' : Hp} {s' : Shared} {σ' : L2.St} {pl : List (Addr × Obj)} (I : Inv X pins σ H s) (hex : ∀ b ∈ ex, FpOk X pins H b) (J : Inv (cxC X scope N s H ex) pl σ' H' s') : Inv X pins σ H' s' :=
 I.call' J.os J.base J.hok J.bare fun b hb => by
  obtain ⟨f0, f1, f2, f3, f4, f5⟩ := hex b hb
  exact ⟨f3, f1, f4, f5⟩
theorem inv_pn {s₀ : Shared} {H₀ : Hp} {E : Value -> Shared -> Prop} (I : Inv (cxC X scope N s₀ H₀ ex) pins σ H s) : Inv ((cxC X scope N s₀ H₀ ex pins).wish E) [] σ H s :=
 ⟨⟨I.ok.mod, I.ok.kind, I.ok.glob, I.ok.blt, I.ok.above, I.ok.inj, I.ok.has, I.ok.cab, I.ok.hd, I.ok.frames, I.ok.stk, I.ok.exf, I.ok.bs, I.ok.bsz, I.ok.noex, I.ok.exfs, I.ok.funs, I.ok.frf⟩, I.os, I.bare, I.base, I.loc, I.cell, I.free, I.freeC,
  fun p hp => I.pin p (show p ∈ [] ++ pins by simpa using (show p ∈ pins ++ [] from hp)), I.hok, I.len⟩
theorem inv_np {s₀ : Shared} {H₀ : Hp} {pn : List (Addr × Obj)} {E : Value -> Shared -> Prop} (I : Inv ((cxC X scope N s₀ H₀ ex pn).wish E) pins σ H s) : Inv (cxC X scope N s₀ H₀ ex) (pn ++ pins) σ H s :=
 ⟨⟨I.ok.mod, I.ok.kind, I.ok.glob, I.ok.blt, I.ok.above, I.ok.inj, I.ok.has, I.ok.cab, I.ok.hd, I.ok.frames, I.ok.stk, I.ok.exf, I.ok.bs, I.ok.bsz, I.ok.noex, I.ok.exfs, I.ok.funs, I.ok.frf⟩, I.os, I.bare, I.base, I.loc, I.cell, I.free, I.freeC,
  fun p hp => I.pin p (show p ∈ pn ++ pins from by simpa using (show p ∈ [] ++ (pn ++ pins) from hp)), I.hok, I.len⟩
end
end Fx
namespace Fx
open PySem PySem.Spec PyProof.Rows L2
theorem zeo {prog : Program} {w : World} {A : Around} {R : Result -> Shared -> Prop} {s : Shared} {elt target iter : Expr} {ifs : List Expr} {scope : Scope} {pos : Pos} {it acc : Value} {env : Env} (I : Nat -> Shared -> Prop)
  (turn : ∀ n s, I n s -> wpAny (model prog w) A (pyNext it) (fun r s₁ => match r with
   | none => R (.ok .next) s₁
   | some v => wpAny (model prog w) A (letOwnedTupleGo target it v) (fun _ s₀ => wpAny (model prog w) A (assign target env v) (fun _ s₂ =>
     wpAny (model prog w) A (forIn ifs true fun c r => if r = true then do let ok <- isTrue c env (eval c env); pure (ForInStep.yield ok) else pure (ForInStep.yield r)) (fun ok s₃ =>
      if ok = true then wpAny (model prog w) A (eval elt env) (fun x s₄ =>
       wpAny (model prog w) A (call (.builtin "list.append") [acc, x]) (fun _ s₅ => ∃ m, m < n /\ I m s₅) (notedBy (model prog w) A env fun e s' => R (.error e) s') s₄) (notedBy (model prog w) A env fun e s' => R (.error e) s') s₃
      else ∃ m, m < n /\ I m s₃) (notedBy (model prog w) A env fun e s' => R (.error e) s') s₂) (notedBy (model prog w) A env fun e s' => R (.error e) s') s₀) (notedBy (model prog w) A env fun e s' => R (.error e) s') s₁) (notedBy (model prog w) A env fun e s' => R (.error e) s') s)
  (n : Nat) (h : I n s) :
  codeAny (model prog w) A (.compLoop (.ListComp elt [⟨target, iter, ifs, 0⟩] scope pos) 0 it acc env) R s := by
 refine codeAny_loop rfl I (fun n s hI => ?_) n h
 show wpAny _ A ((compTurn (.ListComp elt [⟨target, iter, ifs, 0⟩] scope pos) 0 it acc env).onRaise (fun x => do noteFrame x env; theTreesLotGoes x)) _ _ s
 refine wpAny_noted ?_
 rw [compTurn_list]
 refine wpAny_bind (wpAny_standAt (wpAny_bind (wpAny_mono (turn n s hI) (fun r s₁ h₁ => ?_) fun _ _ h' => h')))
 cases r with
 | none => exact wpAny_pure h₁
 | some v =>
  refine wpAny_bind (wpAny_mono h₁ (fun _ s₀ h₀ => ?_) fun _ _ h' => h')
  refine wpAny_bind (wpAny_mono h₀ (fun _ s₂ h₂ => wpAny_bind (wpAny_mono h₂ (fun ok s₃ h₃ => ?_) fun _ _ h' => h')) fun _ _ h' => h')
  cases ok with
  | false => exact wpAny_pure ⟨rfl, h₃⟩
  | true =>
   exact wpAny_bind (wpAny_bind (wpAny_mono h₃ (fun x s₄ h₄ => wpAny_bind (wpAny_mono h₄ (fun _ s₅ h₅ => wpAny_pure (wpAny_pure ⟨rfl, h₅⟩)) fun _ _ h' => h')) fun _ _ h' => h'))
def CT (X : Cx) (W : Str -> Hp -> Prop) (ifs : List Expr) (dc : DT) : Prop := (ifs = [] /\ dc = tT) \/ ∃ c, ifs = [c] /\ TV X W c dc
theorem Yi {X : Cx} {W : Str -> Hp -> Prop} : CT X W [] tT := .inl ⟨rfl, rfl⟩
theorem ct_one {X : Cx} {W : Str -> Hp -> Prop} {c : Expr} {dc : DT} (h : TV X W c dc) : CT X W [c] dc := .inr ⟨c, rfl, h⟩
section
variable {X : Cx} {scope : Scope} {N : List Str} {nv : Nat} {cap : List Nat}
theorem zfQ {K : PySem.W.Frag} {H H' : Hp} {P P' : Pv} {σ : L2.St} {G : List Sl} (h : Hol K H P σ G) (tr : Tr H P H' P') (ho : ∀ i, P'.own i = none) (hf : ∀ a, P'.fb a -> ∃ o, H' a = some o /\ LD o) (htb : WZ K H') : Hol K H' P' (sig nv cap σ) (List.replicate nv .emp ++ capS cap G) where
 sl := fun i s e => by
  by_cases hi : i < nv
  ·rw [List.getElem?_append_left (by simpa using hi), List.getElem?_replicate, if_pos hi] at e
   cases e
   trivial
  ·rw [List.getElem?_append_right (by simpa using hi)] at e
   have el : i - (List.replicate nv Sl.emp).length = i - nv := by simp
   rw [el] at e
   unfold capS at e
   rw [List.getElem?_map] at e
   cases ec : cap[i - nv]? with
   | none => rw [ec] at e; cases e
   | some j =>
    rw [ec] at e
    have es : (sig nv cap σ).getD i none = σ.getD j none := by
     unfold sig
     rw [List.getD_eq_getElem?_getD, List.getElem?_append_right (by simpa using hi)]
     have el2 : i - (List.replicate nv (none : Option V)).length = i - nv := by simp
     rw [el2, List.getElem?_map, ec]
     rfl
    rw [es]
    simp only [Option.map_some, Option.some.injEq] at e
    cases eg : G[j]? with
    | none => rw [eg] at e; subst e; trivial
    | some x =>
     rw [eg] at e
     cases x with
     | emp => subst e; trivial
     | own xs => subst e; trivial
     | dct xs => subst e; trivial
     | val t =>
      subst e
      obtain ⟨v, ev, rv⟩ := h.sl j _ eg
      exact ⟨v, ev, Rl.go tr t v rv⟩
 inj := fun i j a z _ => by rw [ho i] at z; cases z
 only := fun i a z => by rw [ho i] at z; cases z
 fbd := hf
 nfb := fun i a z => by rw [ho i] at z; cases z
 len := by simp [sig]
 tab := htb
theorem zeh {K : PySem.W.Frag} {H : Hp} {P : Pv} {σ : L2.St} {G1 : List Sl} {C : List Sl} (hC : ∀ i, i < nv -> ∀ s, C[i]? = some s -> s = .emp) (hC2 : ∀ (i : Nat) (x : Sl), C[i]? = some x -> ¬ x.mine) (h : Hol K H P σ G1) (hl : G1.length = C.length) (he : ∀ i, nv <= i -> G1[i]? = C[i]?) :
  Hol K H P.bare σ C := by
 obtain ⟨h', g⟩ := h.frzA
 refine ⟨fun i s e => ?_, fun _ _ _ z => (by cases z), fun _ _ z => (by cases z), h'.fbd, fun _ _ z => (by cases z), by rw [h.len, hl], h'.tab⟩
 by_cases hi : i < nv
 ·rw [hC i hi s e]; trivial
 ·have e1 : G1[i]? = some s := by rw [he i (by omega)]; exact e
  cases s with
  | emp => trivial
  | own xs => exact (hC2 i _ e trivial).elim
  | dct xs => exact (hC2 i _ e trivial).elim
  | val t =>
   refine h'.sl i (.val t) ?_
   rw [WQ, e1]; rfl
abbrev cxT (xz : Cx -> Value -> Shared -> Prop) (X : Cx) (scope : Scope) (N : List Str) (s₀ : Shared) (H₀ : Hp) (ex : List Addr) (pn : List (Addr × Obj)) : Cx := (cxC X scope N s₀ H₀ ex pn).wish (xz (cxC X scope N s₀ H₀ ex pn))
theorem zen {xz : Cx -> Value -> Shared -> Prop} {W : Str -> Hp -> Prop} {tg elt iter : Expr} {ifs : List Expr} {pos : Pos} {st : PyData -> List Sl -> Res (List Sl)} {dc : DT} {de : DE} {pins : List (Addr × Obj)} {σ : L2.St} {H2 : Hp} {s3 s4 : Shared} {P : Pv} {G : List Sl} {J : It} {fp : List Addr} {itA D : Addr} {tn : Nat -> Heap -> Prop} {ts : List PyData} {r : Res (List PyData)} {R : Result -> Shared -> Prop} {m : Str -> Option Value}
  (C : CompOk X scope N nv cap) (hc : X.calm = true) (hk : zb6 nv st)
  (hg : ∀ s₀ H₀ ex pn, GV (cxT xz X scope N s₀ H₀ ex pn) tg st) (ht : ∀ s₀ H₀ ex pn, (∀ b ∈ ex, ∃ o, (b, o) ∈ pn) -> CT (cxT xz X scope N s₀ H₀ ex pn) W ifs dc) (he : ∀ s₀ H₀ ex pn, (∀ b ∈ ex, ∃ o, (b, o) ∈ pn) -> EV (cxT xz X scope N s₀ H₀ ex pn) W elt de)
  (h2 : Hol X.K H2 P σ G) (hD : H2 D = none) (I3 : Inv X pins σ (upd H2 D (.lst [])) s3) (T : Turn X.prog X.w X.K tg J fp itA tn) (hf : ∀ b ∈ fp, FpOk X pins (upd H2 D (.lst [])) b /\ b < s3.heap.objs.size) (y : Yld X.K J ts H2 P) (hlen : ts.length <= 16777216)
  (hall : Yx st dc de (List.replicate nv .emp ++ capS cap G) ts = r) (hr : r ≠ .stuck) (hW : ∀ c, r = .exc c -> ∀ H', Same H2 H' -> W c H')
  (hn : s4.heap.Ns s3.heap.objs.size m) (hkp : ∀ b o, s3.heap.get? b = some o -> s4.heap.get? b = some o) (e4 : ∃ h' t, s4 = { s3 with heap := h', toks := t }) (tn0 : tn 0 s4.heap)
  (fin : ∀ s' H' σ' vs all, r = .ok all -> Inv (cxC X scope N s3 (upd H2 D (.lst [])) fp) [] σ' H' s' -> H' D = some (.lst vs) -> Same H2 H' -> Rls X.K H' (P.fbd D) all vs -> R (.ok .next) s')
  (finx : ∀ pn e s', (∀ b ∈ fp, ∃ o, (b, o) ∈ pn) -> xz (cxC X scope N s3 (upd H2 D (.lst [])) fp pn) e s' -> notedBy (model X.prog X.w) X.A (compEnvC scope (ZU X.env scope.names []) s3.heap.objs.size X.env) (fun e s' => R (.error e) s') e s') :
  codeAny (model X.prog X.w) X.A (.compStart (.ListComp elt [⟨tg, iter, ifs, 0⟩] scope pos) 0 (.ref itA) (.ref D) (compEnvC scope (ZU X.env scope.names []) s3.heap.objs.size X.env)) R s4 := by
 obtain ⟨h4, t4, rfl⟩ := e4
 have J4 := C.start (t := t4) I3 hf hn hkp
 -- what no element may hold
 have trc : ∀ H', Same H2 H' -> (∃ vs, H' D = some (.lst vs)) -> Tr H2 P H' ⟨fun _ => none, fun a => ¬ Off P a \/ a = D⟩ := fun H' s _ a o e n q => ⟨s.kp a o e n, fun _ z => (by cases z), fun z => z.elim (fun z => z q) fun z => by rw [z, hD] at e; cases e⟩
 have offc : ∀ H', Same H2 H' -> (∃ vs, H' D = some (.lst vs)) -> ∀ p, H' p = none -> Off ⟨fun _ => none, fun a => ¬ Off P a \/ a = D⟩ p := fun H' s ⟨vs, hv⟩ p hp => ⟨fun _ z => (by cases z), fun z => z.elim (fun z => z (h2.off_new (s.free hp))) fun z => by rw [z, hv] at hp; cases hp⟩
 have fbc : ∀ H', Same H2 H' -> (∃ vs, H' D = some (.lst vs)) -> ∀ a, (¬ Off P a \/ a = D) -> ∃ o, H' a = some o /\ LD o := fun H' s ⟨vs, hv⟩ a z => z.elim (fun z => let ⟨o, q, m⟩ := h2.ld z; ⟨o, s.kp _ _ q m.nt, m⟩) fun z => by rw [z]; exact ⟨_, hv, .inl ⟨vs, rfl⟩⟩
 have hCe : ∀ i, i < nv -> ∀ x, (List.replicate nv Sl.emp ++ capS cap G)[i]? = some x -> x = .emp := fun i hi x e => by
  rw [List.getElem?_append_left (by simpa using hi), List.getElem?_replicate, if_pos hi] at e
  cases e
  rfl
 have hCo : ∀ (i : Nat) xs, (List.replicate nv Sl.emp ++ capS cap G)[i]? = some xs -> ¬ xs.mine := fun i xs e m => by
  by_cases hi : i < nv
  ·rw [hCe i hi _ e] at m; exact m
  ·rw [List.getElem?_append_right (by simpa using hi)] at e
   unfold capS at e
   rw [List.getElem?_map] at e
   cases ec : cap[i - (List.replicate nv Sl.emp).length]? with
   | none => rw [ec] at e; cases e
   | some j =>
    rw [ec] at e
    simp only [Option.map_some, Option.some.injEq] at e
    subst e
    revert m
    cases eg : G[j]? with
    | none => exact fun m => m
    | some x => cases x <;> exact fun m => m
 have fpo : ∀ H', (∀ b ∈ fp, H' b = none) -> ∀ b ∈ fp, FpOk (cxC X scope N s3 (upd H2 D (.lst [])) fp) [] H' b := fun H' hz b hb => by
  obtain ⟨f, lt⟩ := hf b hb
  refine ⟨hz b hb, Nat.ne_of_lt lt, fun z => ?_, .inl hb, fun x c e => f.2.2.2.2.1 x c (VH X.env scope.names [] (C.has I3.ok) (fun x c e => by cases e) x c e), fun p hp => absurd (show p ∈ ([] : List (Addr × Obj)) from hp) (by simp)⟩
  rcases List.mem_cons.mp (I3.stkSub b z) with e | e
  ·exact f.2.1 e
  ·exact f.2.2.1 e
 have up0 : Same H2 (upd H2 D (.lst [])) := ZH hD
 -- the loop
 have loop : ∀ s5 : Shared, s5 = { s3 with heap := h4, toks := t4 } -> codeAny (model X.prog X.w) X.A (.compLoop (.ListComp elt [⟨tg, iter, ifs, 0⟩] scope pos) 0 (.ref itA) (.ref D) (compEnvC scope (ZU X.env scope.names []) s3.heap.objs.size X.env)) R s5 := by
  rintro s5 rfl
  refine zeo (fun n s => ∃ i σ' H' vs ys, n = ts.length - i /\ i <= ts.length /\ Inv (cxC X scope N s3 (upd H2 D (.lst [])) fp) [] σ' H' s /\ tn i s.heap /\ (∀ b ∈ fp, H' b = none) /\ Same H2 H' /\ H' D = some (.lst vs) /\
   Rls X.K H' ⟨fun _ => none, fun a => ¬ Off P a \/ a = D⟩ ys vs /\ Hol X.K H' ⟨fun _ => none, fun a => ¬ Off P a \/ a = D⟩ σ' (List.replicate nv .emp ++ capS cap G) /\ ((Yx st dc de (List.replicate nv .emp ++ capS cap G) (ts.drop i)).bind fun zs => .ok (ys ++ zs)) = r /\ ys.length <= i) ?_ ts.length
   ⟨0, _, _, [], [], rfl, Nat.zero_le _, J4, tn0, fun b hb => (hf b hb).1.1, up0, Zp, ZQ.mpr rfl, zfQ h2 (trc _ up0 ⟨_, Zp⟩) (fun _ => rfl) (fbc _ up0 ⟨_, Zp⟩) (up0.tab _ h2.tab), by rw [List.drop_zero, hall]; cases r <;> rfl, Nat.le_refl _⟩
  rintro n s ⟨i, σ', H', vs, ys, rfl, hi, Ji, tni, fpn, sm, hDv, rys, hol, ecl, hyl⟩
  obtain ⟨y1, y2⟩ := y H' ⟨fun _ => none, fun a => ¬ Off P a \/ a = D⟩ (trc H' sm ⟨vs, hDv⟩) (offc H' sm ⟨vs, hDv⟩) i
  by_cases hlt : i < ts.length
  ·have et : ts[i]? = some ts[i] := by simp [hlt]
   obtain ⟨go, yl⟩ := y1 _ et
   rw [List.drop_eq_getElem_cons hlt] at ecl
   unfold Yx at ecl
   -- the turn's own data
   obtain ⟨G1, eG⟩ : ∃ G1, st ts[i] (List.replicate nv .emp ++ capS cap G) = .ok G1 := by
    rcases zbM (st ts[i] (List.replicate nv .emp ++ capS cap G)) with ⟨G1, h⟩ | h
    ·exact ⟨G1, noX_ok h⟩
    ·rw [h] at ecl; exact absurd ecl.symm hr
   rw [eG, show noX (Res.ok G1 : Res (List Sl)) = .ok G1 from rfl, Res.bind_ok] at ecl
   obtain ⟨kl, ke⟩ := hk _ _ _ eG
   refine wpAny_mono (T.item (cxC X scope N s3 (upd H2 D (.lst [])) fp) rfl rfl rfl hc i [] s σ' H' (fun _ _ => False) Ji (fpo H' fpn) tni go) (fun r' s1 hr' => ?_) fun _ _ z => z.elim
   obtain ⟨u, rfl, hr'⟩ := hr'
   refine wpAny_mono hr' (fun _ s2 hr2 => ?_) fun _ _ z => z.elim
   obtain ⟨x, H5, J5, r5, y5, tn5, fr5⟩ := hr2
   obtain ⟨sm5, rl5⟩ := yl x H5 y5
   have J5' : Inv (cxT xz X scope N s3 (upd H2 D (.lst [])) fp (XL fp s2.heap)) [] σ' H5 s2 := inv_pn (J5.pinned (fpo H5 fr5) (T.obj _ _ tn5))
   have pnn : ∀ b ∈ fp, ∃ o, (b, o) ∈ XL fp s2.heap := fun b hb => by
    obtain ⟨o, e, _⟩ := T.obj _ _ tn5 b hb
    exact ⟨o, VE hb e⟩
   have finx' := fun e s' => finx (XL fp s2.heap) e s' pnn
   obtain ⟨g, pg, gp⟩ := hg s3 (upd H2 D (.lst [])) fp (XL fp s2.heap)
   have hol5 := hol.same sm5
   refine wpAny_mono (pg _ s2 σ' H5 x u (fun σ6 H6 => H6 = H5 /\ ∃ P6, Go H5 ⟨fun _ => none, fun a => ¬ Off P a \/ a = D⟩ H5 P6 /\ Hol X.K H5 P6 σ6 G1) J5' r5 (gp ts[i] x σ' H5 _ _ _ hol5 rl5 ⟨G1, eG, fun σ6 P6 g6 h6 => ⟨rfl, P6, g6, h6⟩⟩)) (fun _ s6 h6 => ?_) finx'
   obtain ⟨σ6, H6, J6, rfl, P6, g6, hol6⟩ := h6
   -- on to the next turn
   have fr6 : ∀ {H8 : Hp} {s8 : Shared}, Inv (cxT xz X scope N s3 (upd H2 D (.lst [])) fp (XL fp s2.heap)) [] σ6 H8 s8 -> ∀ b ∈ fp, H8 b = none := fun {H8 s8} J8 b hb => by
    obtain ⟨o, e⟩ := pnn b hb
    exact (J8.pin (b, o) (List.mem_append_left _ e)).2.1
   have next : ∀ {H8 : Hp} {s8 : Shared} {ys' : List PyData} {vs' : List V}, Inv (cxT xz X scope N s3 (upd H2 D (.lst [])) fp (XL fp s2.heap)) [] σ6 H8 s8 -> Same H2 H8 -> H8 D = some (.lst vs') -> (∀ b, b ≠ D -> ∀ o, H6 b = some o -> Nt o -> H8 b = some o) ->
     Rls X.K H8 ⟨fun _ => none, fun a => ¬ Off P a \/ a = D⟩ ys' vs' -> ((Yx st dc de (List.replicate nv .emp ++ capS cap G) (ts.drop (i + 1))).bind fun zs => .ok (ys' ++ zs)) = r -> ys'.length <= i + 1 ->
     ∃ m, m < ts.length - i /\ ∃ i σ' H' vs ys, m = ts.length - i /\ i <= ts.length /\ Inv (cxC X scope N s3 (upd H2 D (.lst [])) fp) [] σ' H' s8 /\ tn i s8.heap /\ (∀ b ∈ fp, H' b = none) /\ Same H2 H' /\ H' D = some (.lst vs) /\
      Rls X.K H' ⟨fun _ => none, fun a => ¬ Off P a \/ a = D⟩ ys vs /\ Hol X.K H' ⟨fun _ => none, fun a => ¬ Off P a \/ a = D⟩ σ' (List.replicate nv .emp ++ capS cap G) /\ ((Yx st dc de (List.replicate nv .emp ++ capS cap G) (ts.drop i)).bind fun zs => .ok (ys ++ zs)) = r /\ ys.length <= i := by
    intro H8 s8 ys' vs' J8 sm8 hD8 kp8 rys8 ecl8 hyl8
    refine ⟨ts.length - (i + 1), by omega, i + 1, σ6, H8, vs', ys', rfl, hlt, Inv.unpinned (pins := []) (pl := XL fp s2.heap) (by simpa using inv_np J8), ?_, fr6 J8, sm8, hD8, rys8, ?_, ecl8, hyl8⟩
    ·exact T.keep _ _ _ tn5 fun b hb o e => (J8.pin (b, o) (List.mem_append_left _ (VE hb e))).1
    ·have hF : Hol X.K H6 P6.bare σ6 (List.replicate nv .emp ++ capS cap G) := zeh hCe hCo hol6 kl ke
     have ep : P6.bare = ⟨fun _ => none, fun a => ¬ Off P a \/ a = D⟩ := by
      unfold Pv.bare
      rw [g6.fbe]
     rw [ep] at hF
     have tr8 : Tr H6 ⟨fun _ => none, fun a => ¬ Off P a \/ a = D⟩ H8 ⟨fun _ => none, fun a => ¬ Off P a \/ a = D⟩ := fun a o e n q => ⟨kp8 a (fun z => q.2 (Or.inr z)) o e n, q⟩
     refine ⟨fun j x e => ?_, fun _ _ _ z => (by cases z), fun _ _ z => (by cases z), fbc H8 sm8 ⟨vs', hD8⟩, fun _ _ z => (by cases z), hF.len, sm8.tab _ h2.tab⟩
     have z := hF.sl j x e
     cases x with
     | emp => trivial
     | val t => obtain ⟨v, e1, r1⟩ := z; exact ⟨v, e1, Rl.go tr8 t v r1⟩
     | own xs => exact (hCo j _ e trivial).elim
     | dct xs => exact (hCo j _ e trivial).elim
   have sm6 : Same H2 H6 := sm.trans sm5
   -- behind the test
   have after : ∀ k s7 H7, Inv (cxT xz X scope N s3 (upd H2 D (.lst [])) fp (XL fp s2.heap)) [] σ6 H7 s7 -> Same H6 H7 -> dc G1 = .ok k -> (if k = true then wpAny (model X.prog X.w) X.A (eval elt (compEnvC scope (ZU X.env scope.names []) s3.heap.objs.size X.env)) (fun x s₄ =>
      wpAny (model X.prog X.w) X.A (call (.builtin "list.append") [.ref D, x]) (fun _ s₅ => ∃ m, m < ts.length - i /\ ∃ i σ' H' vs ys, m = ts.length - i /\ i <= ts.length /\ Inv (cxC X scope N s3 (upd H2 D (.lst [])) fp) [] σ' H' s₅ /\ tn i s₅.heap /\ (∀ b ∈ fp, H' b = none) /\ Same H2 H' /\ H' D = some (.lst vs) /\
      Rls X.K H' ⟨fun _ => none, fun a => ¬ Off P a \/ a = D⟩ ys vs /\ Hol X.K H' ⟨fun _ => none, fun a => ¬ Off P a \/ a = D⟩ σ' (List.replicate nv .emp ++ capS cap G) /\ ((Yx st dc de (List.replicate nv .emp ++ capS cap G) (ts.drop i)).bind fun zs => .ok (ys ++ zs)) = r /\ ys.length <= i) (notedBy (model X.prog X.w) X.A (compEnvC scope (ZU X.env scope.names []) s3.heap.objs.size X.env) fun e s' => R (.error e) s') s₄) (notedBy (model X.prog X.w) X.A (compEnvC scope (ZU X.env scope.names []) s3.heap.objs.size X.env) fun e s' => R (.error e) s') s7
     else ∃ m, m < ts.length - i /\ ∃ i σ' H' vs ys, m = ts.length - i /\ i <= ts.length /\ Inv (cxC X scope N s3 (upd H2 D (.lst [])) fp) [] σ' H' s7 /\ tn i s7.heap /\ (∀ b ∈ fp, H' b = none) /\ Same H2 H' /\ H' D = some (.lst vs) /\
      Rls X.K H' ⟨fun _ => none, fun a => ¬ Off P a \/ a = D⟩ ys vs /\ Hol X.K H' ⟨fun _ => none, fun a => ¬ Off P a \/ a = D⟩ σ' (List.replicate nv .emp ++ capS cap G) /\ ((Yx st dc de (List.replicate nv .emp ++ capS cap G) (ts.drop i)).bind fun zs => .ok (ys ++ zs)) = r /\ ys.length <= i) := by
    intro k s7 H7 J7 sm7 eK
    rw [eK, Res.bind_ok] at ecl
    have sm27 : Same H2 H7 := sm6.trans sm7
    have hD7 : H7 D = some (.lst vs) := sm7.kp _ _ (sm5.kp _ _ hDv QH) QH
    have r7 : Rls X.K H7 ⟨fun _ => none, fun a => ¬ Off P a \/ a = D⟩ ys vs := Rls.go (.same (sm5.trans sm7)) ys vs rys
    cases k with
    | false =>
     rw [if_neg Bool.false_ne_true] at ecl ⊢
     exact next J7 sm27 hD7 (fun b _ o e n => sm7.kp b o e n) r7 ecl (by omega)
    | true =>
     rw [if_pos rfl] at ecl ⊢
     cases eY : de G1 with
     | stuck => rw [eY] at ecl; exact absurd ecl.symm hr
     | exc c =>
      rw [eY] at ecl
      refine wpAny_mono (he s3 (upd H2 D (.lst [])) fp (XL fp s2.heap) pnn _ s7 σ6 H7 (fun _ _ => False) J7 ⟨G1, P6, hol6.same sm7, by rw [eY]; exact fun H8 s8 => hW c ecl.symm H8 (sm27.trans s8)⟩) (fun xv s8 h8 => ?_) finx'
      obtain ⟨_, _, _, _, z⟩ := h8
      exact z.elim
     | ok yv =>
      rw [eY, Res.bind_ok] at ecl
      refine wpAny_mono (he s3 (upd H2 D (.lst [])) fp (XL fp s2.heap) pnn _ s7 σ6 H7 (fun v H8 => Same H7 H8 /\ Rl X.K H8 P6 yv v) J7 ⟨G1, P6, hol6.same sm7, by rw [eY]; exact fun v H8 s r => ⟨s, r⟩⟩) (fun xv s8 h8 => ?_) finx'
      obtain ⟨v8, H8, J8, r8, sm8, rl8⟩ := h8
      have hD8 : H8 D = some (.lst vs) := sm8.kp _ _ hD7 QH
      have lv := rys.length
      have tr6 : Tr H8 P6 H8 ⟨fun _ => none, fun a => ¬ Off P a \/ a = D⟩ := fun a o e _ q => ⟨e, fun _ z => (by cases z), by rw [<- g6.fbe]; exact q.2⟩
      refine wpAny_mono (zbN (X := cxT xz X scope N s3 (upd H2 D (.lst [])) fp (XL fp s2.heap)) _ s8 σ6 H8 (.ref D) [v8] (.ref D) [xv] (fun w H9 => H9 = upd H8 D (.lst (vs ++ [v8]))) J8 rfl (.cons r8 .nil) ⟨D, vs, v8, rfl, rfl, hD8, by rw [sizeLine_eq]; omega, rfl⟩) (fun _ s9 h9 => ?_) finx'
      obtain ⟨_, H9, J9, _, rfl⟩ := h9
      have trD : Tr H8 ⟨fun _ => none, fun a => ¬ Off P a \/ a = D⟩ (upd H8 D (.lst (vs ++ [v8]))) ⟨fun _ => none, fun a => ¬ Off P a \/ a = D⟩ := fun a o e _ q => ⟨by rw [Zs (fun z => q.2 (Or.inr z))]; exact e, q⟩
      have smD : Same H2 (upd H8 D (.lst (vs ++ [v8]))) := (sm27.trans sm8).updL hD hD8
      refine next J9 smD Zp (fun b hb o e n => by rw [Zs hb]; exact sm8.kp b o (sm7.kp b o e n) n) (Rls.append (Rls.go trD ys vs (Rls.go (.same sm8) ys vs r7)) (Zv.mpr ⟨v8, [], rfl, Rl.go trD yv v8 (Rl.go tr6 yv v8 rl8), ZQ.mpr rfl⟩)) ?_ (by simp; omega)
      rw [<- ecl]
      cases Yx st dc de (List.replicate nv .emp ++ capS cap G) (ts.drop (i + 1)) <;> simp
   rcases ht s3 (upd H2 D (.lst [])) fp (XL fp s2.heap) pnn with ⟨rfl, rfl⟩ | ⟨cx, rfl, tvc⟩
   ·exact wpAny_tests_nil (after true s6 H6 J6 (Same.refl _) rfl)
   ·cases eK : dc G1 with
    | stuck => rw [eK] at ecl; exact absurd ecl.symm hr
    | exc c =>
     rw [eK] at ecl
     refine wpAny_tests_one (wpAny_mono (tvc _ s6 σ6 H6 (fun _ _ => False) J6 ⟨G1, P6, hol6, by rw [eK]; exact fun H7 s => hW c ecl.symm H7 (sm6.trans s)⟩) (fun b s7 h7 => ?_) finx')
     obtain ⟨_, _, z⟩ := h7
     exact z.elim
    | ok k =>
     refine wpAny_tests_one (wpAny_mono (tvc _ s6 σ6 H6 (fun b H7 => b = k /\ Same H6 H7) J6 ⟨G1, P6, hol6, by rw [eK]; exact fun H7 s => ⟨rfl, s⟩⟩) (fun b s7 h7 => ?_) finx')
     obtain ⟨H7, J7, rfl, sm7⟩ := h7
     exact after b s7 H7 J7 sm7 eK
  ·have ei : i = ts.length := by omega
   subst ei
   rw [List.drop_length] at ecl
   have ecl' : r = .ok ys := by rw [<- ecl]; simp [Yx]
   refine wpAny_mono (T.done (cxC X scope N s3 (upd H2 D (.lst [])) fp) rfl rfl rfl hc _ [] s σ' H' (fun _ _ => False) Ji (fpo H' fpn) tni (y2 (Nat.le_refl _))) (fun r' s1 hr' => ?_) fun _ _ z => z.elim
   obtain ⟨rfl, J1⟩ := hr'
   have trf : Tr H' ⟨fun _ => none, fun a => ¬ Off P a \/ a = D⟩ H' (P.fbd D) := fun a o e _ q => by
    have o1 : Off P a := Classical.byContradiction fun z => q.2 (Or.inl z)
    exact ⟨e, o1.1, fun z => z.elim o1.2 fun z => q.2 (Or.inr z)⟩
   exact fin s1 H' σ' vs ys ecl' J1 hDv sm (Rls.go trf ys vs rys)
 exact codeAny_compStart_list (loop _ rfl) (T.self _ 0 _ _ _ tn0 (loop _ rfl))
end
end Fx
namespace Fx
open PySem PySem.Spec PyProof.Rows L2
theorem zdT {a : Res (List PyData)} {f : List PyData -> Res (List PyData)} {K : PySem.W.Frag} {W : Str -> Hp -> Prop} {H : Hp} {P : Pv} {Q : VK} (q : zcR K W H P (a.bind f) Q) :
  (∀ c, a = .exc c -> ∀ H', Same H H' -> W c H') /\ a ≠ .stuck /\ ∀ t, a = .ok t -> zcR K W H P (f t) Q := by
 cases a with
 | ok t => exact ⟨fun c e => (by cases e), (by intro e; cases e), fun t' e => by cases e; exact q⟩
 | exc c => exact ⟨fun c' e => by cases e; exact q, (by intro e; cases e), fun t e => by cases e⟩
 | stuck => exact q.elim
theorem zai {a : Res PyData} {f : PyData -> Res (List PyData)} {K : PySem.W.Frag} {W : Str -> Hp -> Prop} {H : Hp} {P : Pv} {Q : VK} (q : zcR K W H P (a.bind f) Q) :
  (∀ c, a = .exc c -> ∀ H', Same H H' -> W c H') /\ a ≠ .stuck /\ ∀ t, a = .ok t -> zcR K W H P (f t) Q := by
 cases a with
 | ok t => exact ⟨fun c e => (by cases e), (by intro e; cases e), fun t' e => by cases e; exact q⟩
 | exc c => exact ⟨fun c' e => by cases e; exact q, (by intro e; cases e), fun t e => by cases e⟩
 | stuck => exact q.elim
def zew (X : Cx) (scope : Scope) (N : List Str) (xz : Cx -> Value -> Shared -> Prop) : Prop :=
 ∀ (pins : List (Addr × Obj)) (σ : L2.St) (H3 : Hp) (s3 : Shared) (fp : List Addr) (pn : List (Addr × Obj)) (e : Value) (s' : Shared), Inv X pins σ H3 s3 -> (∀ b ∈ fp, FpOk X pins H3 b /\ b < s3.heap.objs.size) -> (∀ b ∈ fp, ∃ o, (b, o) ∈ pn) ->
  xz (cxC X scope N s3 H3 fp pn) e s' -> notedBy (model X.prog X.w) X.A (compEnvC scope (ZU X.env scope.names []) s3.heap.objs.size X.env) (fun x s' => ∃ m, s'.heap.Ns s3.heap.objs.size m /\ ∀ h', Heap.SameBut s3.heap.objs.size s'.heap h' -> ∀ cenv : Env, cenv.locals = s3.heap.objs.size ->
   wpAny (model X.prog X.w) X.A (PySem.passOn "comprehension.variables-let-go" x cenv : Sem Value) (fun _ _ => False) X.xe { s' with heap := h' }) e s'
theorem ZO {X : Cx} {scope : Scope} {N : List Str} : zew X scope N (fun _ _ _ => False) := fun _ _ _ _ _ _ _ _ _ _ _ h => h.elim
section
variable {X : Cx} {W : Str -> Hp -> Prop} {fl : Bool} {scope : Scope} {N : List Str} {nv : Nat} {cap : List Nat} {tg elt iter : Expr} {ifs : List Expr} {pos : Pos} {st : PyData -> List Sl -> Res (List Sl)} {it : DA} {dc : DT} {de : DE} {xz : Cx -> Value -> Shared -> Prop}
theorem zdP {pins : List (Addr × Obj)} {σ : L2.St} {H : Hp} {s : Shared} {P : Pv} {G : List Sl} {use : Option (Value -> Sem Unit)} {Q : Value -> Shared -> Prop} {pos' : Pos}
  (C : CompOk X scope N nv cap) (hc : X.calm = true) (hk : zb6 nv st) (hi : IV X W tg iter it)
  (hX : zew X scope N xz) (hg : ∀ s₀ H₀ ex pn, GV (cxT xz X scope N s₀ H₀ ex pn) tg st) (ht : ∀ s₀ H₀ ex pn, (∀ b ∈ ex, ∃ o, (b, o) ∈ pn) -> CT (cxT xz X scope N s₀ H₀ ex pn) W ifs dc) (he : ∀ s₀ H₀ ex pn, (∀ b ∈ ex, ∃ o, (b, o) ∈ pn) -> EV (cxT xz X scope N s₀ H₀ ex pn) W elt de)
  (I : Inv X pins σ H s) (h : Hol X.K H P σ G)
  (hx : ∀ c, it G = .exc c -> ∀ H', Same H H' -> W c H') (hs0 : it G ≠ .stuck)
  (fin : ∀ ts, it G = .ok ts -> ts.length <= 16777216 /\ Yx st dc de (List.replicate nv .emp ++ capS cap G) ts ≠ .stuck /\ (∀ c, Yx st dc de (List.replicate nv .emp ++ capS cap G) ts = .exc c -> ∀ H', Same H H' -> W c H') /\ ∀ all, Yx st dc de (List.replicate nv .emp ++ capS cap G) ts = .ok all ->
   ∀ D vs H' s' c, Inv X pins σ H' s' -> FpOk X pins H' c -> (∃ m, s'.heap.Ns c m) -> (X.env.locals ≠ c /\ ∀ x a, X.env.cells.lookup x = some a -> a ≠ c) -> Same H H' -> H D = none -> H' D = some (.lst vs) -> Rls X.K H' (P.fbd D) all vs ->
    compPost (model X.prog X.w) X.A X.xe use Q (.ref D) c (.ok .next) s')
  (hs : ∀ x, foldedSetIterable iter X.env x = pure x := by intro _; rfl) :
  wpAny (model X.prog X.w) X.A (comprehension (.ListComp elt [⟨tg, iter, ifs, 0⟩] scope pos) scope X.env pos' (newList []) false (eval iter X.env) use) Q X.xe s := by
 refine wpAny_comprehension_free rfl hs (UJ (C.has I.ok)) C.kind C.names (wpAny_mono (hi pins s σ H (fun J H' => Same H H' /\ ∃ ts, it G = .ok ts /\ Yld X.K J ts H' P) I ⟨G, P, h, ?_⟩) (fun v s1 h1 => wpAny_mono h1 (fun itv s2 h2 => ?_) fun _ _ z => z) fun _ _ z => z)
 ·cases e : it G with
  | ok ts => exact fun J H' s y => ⟨s, ts, rfl, y⟩
  | exc c => exact hx c e
  | stuck => exact absurd e hs0
 obtain ⟨itA, fp, tn, J, H2, rfl, I2, T, tn0, f2, sm2, ts, ets, y⟩ := h2
 obtain ⟨hlen, hns, hex, fin⟩ := fin ts ets
 have hD : H2 s2.heap.objs.size = none := I2.hok.fresh (Nat.le_refl _)
 refine wpAny_newObj_type (wpAny_newFunctionEnv C.cell (by intro y hy; simp at hy) (fun h₁ hns₁ hsb₁ => ?_) C.kind)
 have I3 : Inv X pins σ (upd H2 s2.heap.objs.size (.lst [])) { s2 with heap := s2.heap.push { cls := .type "list", dict := none, data := .seq ([] : List Value).toArray } } :=
  I2.laid (t' := s2.toks) (fun b u e => Heap.get?_push_of_some _ e) (Nat.le_refl _) ⟨by show 0 <= sizeLine; exact Nat.zero_le _, [], 0, .nil, Heap.get?_push_size _ rfl⟩
 have sz : (s2.heap.push { cls := .type "list", dict := none, data := .seq ([] : List Value).toArray }).objs.size = s2.heap.objs.size + 1 := Heap.size_push _ _
 have hf3 : ∀ b ∈ fp, FpOk X pins (upd H2 s2.heap.objs.size (.lst [])) b /\ b < (s2.heap.push { cls := .type "list", dict := none, data := .seq ([] : List Value).toArray }).objs.size := fun b hb => by
  obtain ⟨o, ho, _⟩ := T.obj 0 _ tn0 b hb
  have lt := Heap.lt_size ho
  obtain ⟨a1, a2⟩ := f2 b hb
  exact ⟨⟨by rw [Zs (Nat.ne_of_lt lt)]; exact a1, a2⟩, by rw [sz]; exact Nat.lt_succ_of_lt lt⟩
 have kp : ∀ b o, (s2.heap.push { cls := .type "list", dict := none, data := .seq ([] : List Value).toArray }).get? b = some o -> h₁.get? b = some o := fun b o e =>
  hsb₁.extBut b o (Nat.ne_of_lt (Heap.lt_size e)) (Heap.get?_push_of_some _ e)
 have tn3 : tn 0 h₁ := T.keep 0 _ _ tn0 fun b _ o e => kp b o (Heap.get?_push_of_some _ e)
 refine zen (s3 := { s2 with heap := s2.heap.push { cls := .type "list", dict := none, data := .seq ([] : List Value).toArray } }) (D := s2.heap.objs.size) C hc hk hg ht he (h.same sm2) hD I3 T hf3 y hlen rfl hns (fun c ec H' sm => hex c ec H' (sm2.trans sm)) hns₁ kp ⟨h₁, _, rfl⟩ tn3 (fun s' H' σ' vs all hall J' hl sm r => ?_) fun pn e s' pnn hx => hX pins σ _ _ fp pn e s' I3 hf3 pnn hx
 have IX := CompOk.stop I3 (fun b hb => (hf3 b hb).1) J'
 have fo : FpOk X pins H' (s2.heap.push { cls := .type "list", dict := none, data := .seq ([] : List Value).toArray }).objs.size := I3.fpOk (Nat.le_refl _) J'.free
 obtain ⟨m, hm, _⟩ := J'.loc
 exact fin all hall _ vs H' s' _ IX fo ⟨m, hm⟩ ⟨Ne.symm fo.2.1, fun x a e => fo.2.2.2.2.1 x a e⟩ (sm2.trans sm) (sm2.free hD) hl r
theorem atC {pins : List (Addr × Obj)} {σ : L2.St} {H : Hp} {s : Shared} {c : Addr} {h' : Heap} (I : Inv X pins σ H s) (f : FpOk X pins H c) (hs : Heap.SameBut c s.heap h') : Inv X pins σ H { s with heap := h' } :=
 I.turned (t' := s.toks) (fun b o hb e => (hs.2 b hb).trans e) f.1 f.2.1 f.2.2.2.1 f.2.2.2.2.1 f.2.2.2.2.2
theorem Xt (C : CompOk X scope N nv cap) (hc : X.calm = true) (hk : zb6 nv st) (hi : IV X W tg iter it)
  (hX : zew X scope N xz) (hg : ∀ s₀ H₀ ex pn, GV (cxT xz X scope N s₀ H₀ ex pn) tg st) (ht : ∀ s₀ H₀ ex pn, (∀ b ∈ ex, ∃ o, (b, o) ∈ pn) -> CT (cxT xz X scope N s₀ H₀ ex pn) W ifs dc) (he : ∀ s₀ H₀ ex pn, (∀ b ∈ ex, ∃ o, (b, o) ∈ pn) -> EV (cxT xz X scope N s₀ H₀ ex pn) W elt de)
  (hs : ∀ x, foldedSetIterable iter X.env x = pure x := by intro _; rfl) : OV X W (.ListComp elt [⟨tg, iter, ifs, 0⟩] scope pos) (Xk nv cap st it dc de) := by
 intro pins s σ H Q I ⟨G, P, h, q⟩
 unfold Xk at q
 obtain ⟨q1, q2, q3⟩ := zdT q
 rw [eval_ListComp]
 refine zdP (use := none) C hc hk hi hX hg ht he I h q1 q2 (fun ts ets => ?_) hs
 have q4 := q3 ts ets
 split at q4
 ·rename_i hl
  cases e : Yx st dc de (List.replicate nv .emp ++ capS cap G) ts with
  | stuck => rw [e] at q4; exact q4.elim
  | exc c => rw [e] at q4; exact ⟨hl, fun z => (by cases z), fun c' z => by cases z; exact q4, fun all z => by cases z⟩
  | ok all =>
   rw [e] at q4
   refine ⟨hl, fun z => (by cases z), fun c z => (by cases z), fun all' z D vs H' s' c IX fo hm hne sm hD hl r => ?_⟩
   cases z
   obtain ⟨m, hm⟩ := hm
   exact ⟨m, hm, fun h' hsb => ⟨.ref D, H', atC IX fo hsb, rfl, q4 D vs H' sm hD hl r⟩⟩
 ·exact q4.elim
theorem YK {e : Expr} {d : DA} (h : OV X W e d) : EV X W e (dL d) :=
 ZA h fun σ H Q ⟨G, P, hh, q⟩ => by
  refine ⟨G, P, hh, ?_⟩
  unfold dL at q
  cases e : d G with
  | stuck => rw [e] at q; exact q.elim
  | exc c => rw [e] at q; exact q
  | ok xs => rw [e] at q; exact fun p vs H' s hp hl r => q _ H' s (rl_new hh s hp hl r)
theorem UP {e : Expr} {d : DA} {i : Nat} {x : Str} {is : List Nat} {pos' : Pos} (hN : X.N.Nodup) (hi : X.N[i]? = some x) (hx : Loc X.env.scope x) (he : OV X W e d) (hs : swapsWith e (some (.Name x pos')) pos.line X.env = pure false := by rfl)
  (hf : X.fn x = true \/ X.env.scope.names.lookup x = some .local := by first | exact .inl rfl | exact .inr rfl | assumption) : SV X W fl (.Assign [.Name x pos'] e pos) (Qj i is d) :=
 X3 (ps_set hN hi hx he hs hf) fun D σ H ⟨G, P, h, q⟩ => by
  unfold Qj at q
  obtain ⟨P1, h1, g⟩ := h.frz is
  obtain ⟨q1, q2, q3⟩ := bindAS q
  refine ⟨frz is G, P1, h1, ?_⟩
  cases e : d (frz is G) with
  | stuck => exact absurd e q2
  | exc c => exact fun H' s => q1 c e H' P1 (g.trans (.same s))
  | ok xs =>
   have q4 := q3 xs e
   intro p vs H' s hp hl r
   split at q4
   ·rename_i hlt
    have hlt' : i < (frz is G).length := by rw [<- h1.len, h.len]; exact hlt
    obtain ⟨h2, g2⟩ := h1.own' hlt' s hp hl r
    exact q4 _ H' _ (g.trans g2) h2
   ·exact q4.elim
theorem zbs {i : Nat} {x : Str} {pos' : Pos} {d : DS} (C : CompOk X scope N nv cap) (hc : X.calm = true) (hk : zb6 nv st) (hi : IV X W tg iter it)
  (hX : zew X scope N xz) (hg : ∀ s₀ H₀ ex pn, GV (cxT xz X scope N s₀ H₀ ex pn) tg st) (ht : ∀ s₀ H₀ ex pn, (∀ b ∈ ex, ∃ o, (b, o) ∈ pn) -> CT (cxT xz X scope N s₀ H₀ ex pn) W ifs dc) (he : ∀ s₀ H₀ ex pn, (∀ b ∈ ex, ∃ o, (b, o) ∈ pn) -> EV (cxT xz X scope N s₀ H₀ ex pn) W elt de)
  (hN : X.N.Nodup) (hix : X.N[i]? = some x) (hx : Loc X.env.scope x) {spos : Pos} (hsw : swapsWith (.ListComp elt [⟨tg, iter, ifs, 0⟩] scope pos) (some (.Name x pos')) spos.line X.env = pure true)
  (hs : ∀ x, foldedSetIterable iter X.env x = pure x) (hf : X.fn x = true \/ X.env.scope.names.lookup x = some .local)
  (hd : ∀ D σ H, tFS X.K W fl d D σ H -> ∃ G P, Hol X.K H P σ G /\ (∀ c, it G = .exc c -> ∀ H', Same H H' -> W c H') /\ it G ≠ .stuck /\ ∀ ts, it G = .ok ts -> ts.length <= 16777216 /\ Yx st dc de (List.replicate nv .emp ++ capS cap G) ts ≠ .stuck /\ (∀ c, Yx st dc de (List.replicate nv .emp ++ capS cap G) ts = .exc c -> ∀ H', Same H H' -> W c H') /\ ∀ all, Yx st dc de (List.replicate nv .emp ++ capS cap G) ts = .ok all ->
   ∀ p vs H', Same H H' -> H p = none -> H' p = some (.lst vs) -> Rls X.K H' (P.fbd p) all vs -> D.nx (σ.set i (some (.ref p))) H') : SV X W fl (.Assign [.Name x pos'] (.ListComp elt [⟨tg, iter, ifs, 0⟩] scope pos) spos) d := by
 intro pins s σ H D I hq
 obtain ⟨G, P, h, q1, q2, q3⟩ := hd D σ H hq
 rw [exec_Assign_Name_used _ _ _ _ hsw]
 refine wpAny_bind (wpAny_standAt (wpAny_bind ?_))
 show wpAny _ X.A (do let _ <- comprehension (.ListComp elt [⟨tg, iter, ifs, 0⟩] scope pos) scope X.env _ (newList []) false (eval iter X.env) (some (assign (.Name x pos') X.env))) _ _ s
 refine wpAny_bind (wpAny_mono (zdP (use := some (assign (.Name x pos') X.env)) (Q := fun _ s' => SP X pins D .next s') C hc hk hi hX hg ht he I h q1 q2 (fun ts ets => ?_) hs) (fun _ s' hq => wpAny_pure (wpAny_pure hq)) fun _ _ e => e)
 obtain ⟨hl, n1, n2, q4⟩ := q3 ts ets
 refine ⟨hl, n1, n2, fun all hall p vs H' s' c IX fo hm hne sm hp hl r => ?_⟩
 obtain ⟨m, hm⟩ := hm
 show wpAny _ X.A (assign (.Name x pos') X.env (.ref p)) _ _ _
 refine wpAny_assign_Name (zbn IX hN hix hx (v := .ref p) rfl (fun s'' I'' ch => ?_) hf)
 obtain ⟨a, hsb, ha⟩ := ch
 have hca : c ≠ a := by
  rcases ha with rfl | ha
  ·exact Ne.symm hne.1
  ·exact Ne.symm (hne.2 x a ha)
 refine ⟨m, hm.sameBut hsb hca, fun h' hs' => ⟨_, H', atC I'' fo hs', q4 all hall p vs H' sm hp hl r⟩⟩
theorem VY {i : Nat} {x : Str} {is : List Nat} {pos' spos : Pos} (C : CompOk X scope N nv cap) (hc : X.calm = true) (hk : zb6 nv st) (hi : IV X W tg iter it)
  (hX : zew X scope N xz) (hg : ∀ s₀ H₀ ex pn, GV (cxT xz X scope N s₀ H₀ ex pn) tg st) (ht : ∀ s₀ H₀ ex pn, (∀ b ∈ ex, ∃ o, (b, o) ∈ pn) -> CT (cxT xz X scope N s₀ H₀ ex pn) W ifs dc) (he : ∀ s₀ H₀ ex pn, (∀ b ∈ ex, ∃ o, (b, o) ∈ pn) -> EV (cxT xz X scope N s₀ H₀ ex pn) W elt de)
  (hN : X.N.Nodup) (hix : X.N[i]? = some x) (hx : Loc X.env.scope x) (hsw : swapsWith (.ListComp elt [⟨tg, iter, ifs, 0⟩] scope pos) (some (.Name x pos')) spos.line X.env = pure true := by rfl)
  (hs : ∀ x, foldedSetIterable iter X.env x = pure x := by intro _; rfl) (hf : X.fn x = true \/ X.env.scope.names.lookup x = some .local := by first | exact .inl rfl | exact .inr rfl | assumption) :
  SV X W fl (.Assign [.Name x pos'] (.ListComp elt [⟨tg, iter, ifs, 0⟩] scope pos) spos) (dSet i is (dL (Xk nv cap st it dc de))) :=
 zbs C hc hk hi hX hg ht he hN hix hx hsw hs hf fun D σ H ⟨G, P, h, q⟩ => by
  unfold dSet dL Xk at q
  obtain ⟨P1, h1, g⟩ := h.frz is
  refine ⟨frz is G, P1, h1, ?_⟩
  cases e : it (frz is G) with
  | stuck => rw [e] at q; exact q.elim
  | exc c => rw [e] at q; exact ⟨fun c' ec H' s => by cases ec; exact q H' P1 (g.trans (.same s)), (by intro z; cases z), fun ts z => by cases z⟩
  | ok ts =>
   refine ⟨fun c' ec => (by cases ec), (by intro z; cases z), fun ts' z => ?_⟩
   cases z
   rw [e, Res.bind_ok] at q
   split at q
   ·rename_i hl
    refine ⟨hl, ?_⟩
    cases e2 : Yx st dc de (List.replicate nv .emp ++ capS cap (frz is G)) ts with
    | stuck => rw [e2] at q; exact q.elim
    | exc c => rw [e2] at q; exact ⟨fun z => (by cases z), fun c' z H' s => by cases z; exact q H' P1 (g.trans (.same s)), fun all z => by cases z⟩
    | ok all =>
     rw [e2] at q
     refine ⟨fun z => (by cases z), fun c z => (by cases z), fun all' z p vs H' s hp hl r => ?_⟩
     cases z
     have h2 := (h1.same s).setVal i (rl_new h1 s hp hl r)
     exact q _ H' _ (g.trans ((Go.same s).trans .del)) h2
   ·exact q.elim
theorem ss_setCO {i : Nat} {x : Str} {is : List Nat} {pos' spos : Pos} (C : CompOk X scope N nv cap) (hc : X.calm = true) (hk : zb6 nv st) (hi : IV X W tg iter it)
  (hX : zew X scope N xz) (hg : ∀ s₀ H₀ ex pn, GV (cxT xz X scope N s₀ H₀ ex pn) tg st) (ht : ∀ s₀ H₀ ex pn, (∀ b ∈ ex, ∃ o, (b, o) ∈ pn) -> CT (cxT xz X scope N s₀ H₀ ex pn) W ifs dc) (he : ∀ s₀ H₀ ex pn, (∀ b ∈ ex, ∃ o, (b, o) ∈ pn) -> EV (cxT xz X scope N s₀ H₀ ex pn) W elt de)
  (hN : X.N.Nodup) (hix : X.N[i]? = some x) (hx : Loc X.env.scope x) (hsw : swapsWith (.ListComp elt [⟨tg, iter, ifs, 0⟩] scope pos) (some (.Name x pos')) spos.line X.env = pure true := by rfl)
  (hs : ∀ x, foldedSetIterable iter X.env x = pure x := by intro _; rfl) (hf : X.fn x = true \/ X.env.scope.names.lookup x = some .local := by first | exact .inl rfl | exact .inr rfl | assumption) :
  SV X W fl (.Assign [.Name x pos'] (.ListComp elt [⟨tg, iter, ifs, 0⟩] scope pos) spos) (Qj i is (Xk nv cap st it dc de)) :=
 zbs C hc hk hi hX hg ht he hN hix hx hsw hs hf fun D σ H ⟨G, P, h, q⟩ => by
  unfold Qj Xk at q
  obtain ⟨P1, h1, g⟩ := h.frz is
  refine ⟨frz is G, P1, h1, ?_⟩
  cases e : it (frz is G) with
  | stuck => rw [e] at q; exact q.elim
  | exc c => rw [e] at q; exact ⟨fun c' ec H' s => by cases ec; exact q H' P1 (g.trans (.same s)), (by intro z; cases z), fun ts z => by cases z⟩
  | ok ts =>
   refine ⟨fun c' ec => (by cases ec), (by intro z; cases z), fun ts' z => ?_⟩
   cases z
   rw [e, Res.bind_ok] at q
   split at q
   ·rename_i hl
    refine ⟨hl, ?_⟩
    cases e2 : Yx st dc de (List.replicate nv .emp ++ capS cap (frz is G)) ts with
    | stuck => rw [e2] at q; exact q.elim
    | exc c => rw [e2] at q; exact ⟨fun z => (by cases z), fun c' z H' s => by cases z; exact q H' P1 (g.trans (.same s)), fun all z => by cases z⟩
    | ok all =>
     rw [e2, Res.bind_ok] at q
     refine ⟨fun z => (by cases z), fun c z => (by cases z), fun all' z p vs H' s hp hl r => ?_⟩
     cases z
     split at q
     ·rename_i hlt
      have hlt' : i < (frz is G).length := by rw [<- h1.len, h.len]; exact hlt
      obtain ⟨h2, g2⟩ := h1.own' hlt' s hp hl r
      exact q _ H' _ (g.trans g2) h2
     ·exact q.elim
   ·exact q.elim
end
end Fx
namespace Fx
open PySem PySem.Spec PyProof.Rows L2
open AutoSeq1 (wpAny_loadPart')
def SrI (h : Heap) (it l : Addr) (i : Nat) : Bool -> Prop
 | true => h.IsTupleIter it l i
 | false => h.IsListIter it l i
def SrS (h : Heap) (l : Addr) (xs : Array Value) : Bool -> Prop
 | true => h.IsTuple l xs
 | false => h.IsList l xs
theorem SrI.at {h h' : Heap} {it l : Addr} {i : Nat} {t : Bool} (x : SrI h it l i t) (k : ∀ o, h.get? it = some o -> h'.get? it = some o) : SrI h' it l i t := by
 cases t <;> (obtain ⟨o, e, r⟩ := x; exact ⟨o, k o e, r⟩)
theorem SrS.at {h h' : Heap} {l : Addr} {xs : Array Value} {t : Bool} (x : SrS h l xs t) (k : ∀ o, h.get? l = some o -> h'.get? l = some o) : SrS h' l xs t := by
 cases t <;> (obtain ⟨o, e, r⟩ := x; exact ⟨o, k o e, r⟩)
theorem SrI.obj {h : Heap} {it l : Addr} {i : Nat} {t : Bool} (x : SrI h it l i t) : ∃ o, h.get? it = some o /\ ∀ v, o.data ≠ .cell v := by
 cases t <;> (obtain ⟨o, e, c, d⟩ := x; exact ⟨o, e, fun v z => by rw [d] at z; cases z⟩)
theorem SrS.lt {h : Heap} {l : Addr} {xs : Array Value} {t : Bool} (x : SrS h l xs t) : l < h.objs.size := by
 cases t <;> (obtain ⟨o, e, _⟩ := x; exact Heap.lt_size e)
def zfJ (l : Addr) (t : Bool) : Obj := { cls := .type (if t then "tuple_iterator" else "list_iterator"), data := .fields #[.ref l, .int 0 0] }
theorem SrI.new {h : Heap} {l : Addr} {t : Bool} : SrI (h.push (zfJ l t)) h.objs.size l 0 t := by
 cases t <;> exact ⟨_, Heap.get?_push_size _ rfl, rfl, rfl⟩
section
variable {prog : Program} {w : World} {A : Around} {E : Value -> Shared -> Prop} {s : Shared}
theorem zeR {l : Addr} {xs : Array Value} {t : Bool} {Q : Value -> Shared -> Prop} (x : SrS s.heap l xs t) (q : Q (.ref s.heap.objs.size) { s with heap := s.heap.push (zfJ l t) }) : wpAny (model prog w) A (pyIter (.ref l)) Q E s := by
 cases t
 ·exact wpAny_pyIter_list x q
 ·exact wpAny_pyIter_tuple x q
theorem zb8 {it l : Addr} {i : Nat} {xs : Array Value} {t : Bool} {x : Value} {Q : Value -> Shared -> Prop} (hi : SrI s.heap it l i t) (hs : SrS s.heap l xs t) (hx : xs[i]? = some x)
  (hQ : ∀ h', SrI h' it l (i + 1) t -> Heap.SameBut it s.heap h' -> Q x { s with heap := h' }) : wpAny (model prog w) A (Builtin.SmallTypes.nextOf (.ref it)) Q E s := by
 cases t
 ·exact wpAny_nextOf_list_item hi hs hx hQ
 ·have ty := Heap.IsTupleIter.typeIs hi
  obtain ⟨o, ho, hc, hd⟩ := hi
  obtain ⟨ol, hol, _, nl, hdl⟩ := hs
  unfold Builtin.SmallTypes.nextOf
  refine wpAny_bind (wpAny_callSpecial?_slot (name := Str.ofString "__next__") ty F.slot_tuple_iterator_next (wpAny_call_entry F.slot_tuple_iterator_next ty F.entry_tuple_iterator_next ?_ (F.args_tuple_iterator_next_1 _)))
  show wpAny _ _ (field (.ref it) 0 >>= _) _ _ s
  refine wpAny_bind (wpAny_field ho hd (x := .ref l) rfl ?_)
  show wpAny _ _ (if (Value.ref l == Value.none) = true then _ else _) _ _ s
  rw [if_neg (show ¬ ((Value.ref l == Value.none) = true) from Bool.false_ne_true)]
  show wpAny _ _ (field (.ref it) 1 >>= _) _ _ s
  refine wpAny_bind (wpAny_field ho hd (x := .int i 0) rfl ?_)
  show wpAny _ _ (seqItems? (.ref l) >>= _) _ _ s
  refine wpAny_bind (wpAny_seqItems hol hdl ?_)
  simp only [Int.toNat_natCast, hx]
  refine wpAny_bind (wpAny_setField ho hd (by simp) (wpAny_pure ⟨x, rfl, wpAny_pure (hQ _ ?_ (Heap.SameBut.update ..))⟩))
  exact ⟨_, Heap.get?_update_self _ ho (Obj.isFreed_of_fields (Obj.data_mapFields hd _)), (Obj.cls_mapFields ..).trans hc, by rw [Obj.data_mapFields hd]; simp [rawInt]⟩
theorem sr_end {it l : Addr} {i : Nat} {xs : Array Value} {t : Bool} {Q : Value -> Shared -> Prop} (hh : A.handled = none) (hi : SrI s.heap it l i t) (hs : SrS s.heap l xs t) (hx : xs[i]? = none)
  (hE : ∀ h' e, Heap.ExtBut it s.heap h' -> (∃ o, h'.get? e = some o /\ o.cls = .type "StopIteration") -> E (.ref e) { s with heap := h' }) : wpAny (model prog w) A (Builtin.SmallTypes.nextOf (.ref it)) Q E s := by
 cases t
 ·exact wpAny_nextOf_list_end hh hi hs hx hE
 ·have ty := Heap.IsTupleIter.typeIs hi
  obtain ⟨o, ho, hc, hd⟩ := hi
  obtain ⟨ol, hol, _, nl, hdl⟩ := hs
  unfold Builtin.SmallTypes.nextOf
  refine wpAny_bind (wpAny_callSpecial?_slot (name := Str.ofString "__next__") ty F.slot_tuple_iterator_next (wpAny_call_entry F.slot_tuple_iterator_next ty F.entry_tuple_iterator_next ?_ (F.args_tuple_iterator_next_1 _)))
  show wpAny _ _ (field (.ref it) 0 >>= _) _ _ s
  refine wpAny_bind (wpAny_field ho hd (x := .ref l) rfl ?_)
  show wpAny _ _ (if (Value.ref l == Value.none) = true then _ else _) _ _ s
  rw [if_neg (show ¬ ((Value.ref l == Value.none) = true) from Bool.false_ne_true)]
  show wpAny _ _ (field (.ref it) 1 >>= _) _ _ s
  refine wpAny_bind (wpAny_field ho hd (x := .int i 0) rfl ?_)
  show wpAny _ _ (seqItems? (.ref l) >>= _) _ _ s
  refine wpAny_bind (wpAny_seqItems hol hdl ?_)
  simp only [Int.toNat_natCast, hx]
  refine wpAny_bind (wpAny_rule (wpAny_bind (wpAny_setField ho hd (by simp) ?_)))
  show wpAny _ _ (newExc (.type "StopIteration") [] >>= _) _ _ _
  refine wpAny_bind ?_
  simp only [newExc, newTuple]
  refine wpAny_bind (wpAny_newObj_type ?_ (by size_fits))
  refine wpAny_bind (m := firstArgMember _ _) (wpAny_of_eq (a := Value.none) (by first | rfl | (simp only [firstArgMember]; rfl)) ?_)
  refine wpAny_newObj_type ?_ (by size_fits)
  simp only [raiseNew]
  refine wpAny_bind (wpAny_handled ?_)
  first | rw [show A.in1.handled = none from hh] | rw [hh]
  refine wpAny_bind (wpAny_pure (wpAny_throw ?_))
  exact hE _ _ (((Heap.SameBut.update ..).extBut.push _).push _) ⟨_, Heap.get?_push_size _ rfl, rfl⟩
end
end Fx
namespace Fx
open PySem PySem.Spec PyProof.Rows L2
section
variable {X : Cx} {W : Str -> Hp -> Prop} {pins : List (Addr × Obj)} {σ : L2.St} {H : Hp} {s s' : Shared} {ch : List Addr}
theorem inv_ch (I : Inv X pins σ H s) (hch : ∀ b ∈ ch, FpOk X pins H b) (ho : s'.os = s.os) (hg : s'.gens = s.gens) (k : ∀ b o, b ∉ ch -> s.heap.get? b = some o -> s'.heap.get? b = some o) : Inv X pins σ H s' := by
 have nch : ∀ b u, H b = some u -> b ∉ ch := fun b u e z => by rw [(hch b z).1] at e; cases e
 refine I.call' (ch := ch) ho ⟨fun b o e _ _ hx => k b o hx e, fun b o e _ _ hx => ⟨o.slots, k b o hx e⟩, fun b o e n _ => n, fun b o e hx => ⟨o, k b o hx e⟩, fun _ _ e => e, fun _ _ _ e => e, fun b ps e => ⟨#[], by rw [e]; simp⟩⟩ (fun b u e => ?_) (by rw [hg]; exact I.bare) fun b hb => ?_
 ·refine (I.hok b u e).stay (fun c v hc q => k c v ?_ q) (fun _ q => q) fun _ _ q => q
  rcases hc with z | z
  ·rw [z]; exact nch b u e
  ·exact nch c _ z
 ·obtain ⟨f0, f1, f2, f3, f4, f5⟩ := hch b hb
  exact ⟨f3, f1, f4, f5⟩
theorem inv_rec {xs : List V} {its : List Value} (I : Inv X pins σ H s) (hch : ∀ b ∈ ch, FpOk X pins H b) (ho : s'.os = s.os) (hg : s'.gens = s.gens) (k : ∀ b o, b ∉ ch -> s.heap.get? b = some o -> s'.heap.get? b = some o)
  (ht : s'.heap.get? s.heap.objs.size = some { cls := .type "tuple", data := .seq its.toArray }) (rv : Vals xs its) (hz : xs.length <= sizeLine) : Inv X pins σ (upd H s.heap.objs.size (.tup xs)) s' := by
 have hp : H s.heap.objs.size = none := I.hok.fresh (Nat.le_refl _)
 have nch : ∀ b u, H b = some u -> b ∉ ch := fun b u e z => by rw [(hch b z).1] at e; cases e
 have ne : ∀ b o, s.heap.get? b = some o -> b ≠ s.heap.objs.size := fun b o e => Nat.ne_of_lt (Heap.lt_size e)
 refine I.call' (ch := ch) ho ⟨fun b o e _ _ hx => k b o hx e, fun b o e _ _ hx => ⟨o.slots, k b o hx e⟩, fun b o e n _ => by rw [Zs (ne b o e)]; exact n, fun b o e hx => ⟨o, k b o hx e⟩, fun b ys e => by rw [Zs (Zw e hp)]; exact e,
  fun b o u e => by rw [Zs (Zw e hp)]; exact e, fun b ps e => ⟨#[], by rw [Zs (Zw e hp), e]; simp⟩⟩ (fun b u e => ?_) (by rw [hg]; exact I.bare) fun b hb => ?_
 ·by_cases hb : b = s.heap.objs.size
  ·subst hb
   rw [Zp] at e
   cases e
   exact ⟨hz, its, rv, ⟨_, ht, rfl, _, rfl⟩⟩
  ·rw [Zs hb] at e
   refine (I.hok b u e).stay (fun c v hc q => k c v ?_ q) (fun c q => by rw [Zs (Zw q hp)]; exact q) fun c ys q => by rw [Zs (Zw q hp)]; exact q
   rcases hc with z | z
   ·rw [z]; exact nch b u e
   ·exact nch c _ z
 ·obtain ⟨f0, f1, f2, f3, f4, f5⟩ := hch b hb
  exact ⟨f3, f1, f4, f5⟩
end
def Sq (K : PySem.W.Frag) (H : Hp) (a : Addr) (xs : List V) : Bool -> Prop
 | true => SqT K H a xs
 | false => SqL K H a xs
theorem JE {X : Cx} {pins : List (Addr × Obj)} {σ : L2.St} {H : Hp} {s : Shared} {a : Addr} {xs : List V} {t : Bool} (I : Inv X pins σ H s) (h : Sq X.K H a xs t) : ∃ its : List Value, Vals xs its /\ SrS s.heap a its.toArray t /\ xs.length <= sizeLine := by
 cases t
 ·obtain ⟨its, r, p, z⟩ := I.list h; exact ⟨its, r, p.isList, z⟩
 ·obtain ⟨its, r, p, z⟩ := I.tuple h; exact ⟨its, r, p, z⟩
theorem sq_inj {X : Cx} {pins : List (Addr × Obj)} {σ : L2.St} {H : Hp} {s : Shared} {a : Addr} {xs ys : List V} {t : Bool} (I : Inv X pins σ H s) (h : Sq X.K H a xs t) (h' : Sq X.K H a ys t) : xs = ys := by
 cases t
 ·exact I.list_inj h h'
 ·exact I.tuple_inj h h'
end Fx
namespace Fx
open PySem PySem.Spec PyProof.Rows L2
section
variable {prog : Program} {w : World} {A : Around} {E : Value -> Shared -> Prop} {s : Shared}
theorem zip_item {z TI TO i1 i2 l1 l2 : Addr} {k1 k2 : Nat} {xs ys : Array Value} {x y a b : Value} {t1 t2 : Bool} {Q : Value -> Shared -> Prop} (D : ZipApart z TI TO i1 i2 l1 l2)
  (hz : IsZip s.heap z TI TO .none) (hTI : IsPair s.heap TI (.ref i1) (.ref i2)) (hTO : IsPair s.heap TO a b)
  (h1 : SrI s.heap i1 l1 k1 t1) (h2 : SrI s.heap i2 l2 k2 t2) (hl1 : SrS s.heap l1 xs t1) (hl2 : SrS s.heap l2 ys t2) (hx : xs[k1]? = some x) (hy : ys[k2]? = some y)
  (hQ : ∀ h', IsZip h' z TI TO (rawInt s.heap.objs.size) -> IsPair h' TO x y -> SrI h' i1 l1 (k1 + 1) t1 -> SrI h' i2 l2 (k2 + 1) t2 -> IsPair h' s.heap.objs.size x y ->
   (∀ c o, c ∉ [z, TO, i1, i2] -> s.heap.get? c = some o -> h'.get? c = some o) -> Q (.ref s.heap.objs.size) { s with heap := h' }) :
  wpAny (model prog w) A (Builtin.«zip.__next__» ⟨[.ref z], []⟩) (fun fin s' => ∃ v, fin = .done (.ret v) /\ Q v s') E s := by
 show wpAny _ _ (field (.ref z) 2 >>= _) _ _ _
 refine wpAny_bind (wpAny_field hz rfl (x := .bool false) rfl ?_)
 show wpAny _ _ (field (.ref z) 3 >>= _) _ _ _
 refine wpAny_bind (wpAny_field hz rfl (x := .ref TI) rfl ?_)
 refine wpAny_bind (wpAny_seqItems hTI rfl ?_)
 show wpAny _ _ (Builtin.SmallTypes.ownedTupleIsFree (.ref z) >>= _) _ _ _
 refine wpAny_bind ?_
 unfold Builtin.SmallTypes.ownedTupleIsFree
 refine wpAny_bind (wpAny_field hz rfl (x := .none) rfl (wpAny_pure ?_))
 simp only [if_true]
 refine wpAny_bind (wpAny_rule ?_)
 refine wpAny_bind (wpAny_field hz rfl (x := .ref TO) rfl ?_)
 refine wpAny_bind (wpAny_setField_rec hz (by simp) fun g1 z1 e1 => ?_)
 replace z1 : IsZip g1 z TI TO .ellipsis := z1
 refine wpAny_bind ?_
 simp only [List.zipIdx_cons, List.zipIdx_nil, List.forIn_cons, List.forIn_nil]
 -- the first draw
 refine wpAny_bind (wpAny_bind (wpAny_onRaise ?_))
 show wpAny _ _ (Builtin.SmallTypes.nextOf (.ref i1) >>= _) _ _ _
 refine wpAny_bind (zb8 (h1.at fun o e => e1.extBut _ _ D.i1z e) (hl1.at fun o e => e1.extBut _ _ D.l1z e) hx fun g2 d2 e2 => wpAny_pure ?_)
 have o2 : IsPair g2 TO a b := e2.extBut _ _ D.TOi1 (e1.extBut _ _ D.TOz hTO)
 refine wpAny_bind (wpAny_seqItems o2 rfl ?_)
 refine wpAny_bind (wpAny_updateSeq_pair o2 fun g3 o3 e3 => ?_)
 replace o3 : IsPair g3 TO x b := o3
 refine wpAny_bind (wpAny_letGo (wpAny_pure ?_))
 -- the second
 refine wpAny_bind (wpAny_bind (wpAny_onRaise ?_))
 show wpAny _ _ (Builtin.SmallTypes.nextOf (.ref i2) >>= _) _ _ _
 refine wpAny_bind (zb8 (h2.at fun o e => e3.extBut _ _ D.TOi2.symm (e2.extBut _ _ D.i12.symm (e1.extBut _ _ D.i2z e))) (hl2.at fun o e => e3.extBut _ _ D.l2TO (e2.extBut _ _ D.l2i1 (e1.extBut _ _ D.l2z e))) hy fun g4 d4 e4 => wpAny_pure ?_)
 have o4 : IsPair g4 TO x b := e4.extBut _ _ D.TOi2 o3
 refine wpAny_bind (wpAny_seqItems o4 rfl ?_)
 refine wpAny_bind (wpAny_updateSeq_pair o4 fun g5 o5 e5 => ?_)
 replace o5 : IsPair g5 TO x y := o5
 refine wpAny_bind (wpAny_letGo (wpAny_pure (wpAny_pure ?_)))
 -- the pair
 refine wpAny_bind (wpAny_seqItems o5 rfl ?_)
 refine wpAny_bind (wpAny_newTuple ?_)
 have sz : g5.objs.size = s.heap.objs.size := by rw [e5.1, e4.1, e3.1, e2.1, e1.1]
 have z5 : IsZip g5 z TI TO .ellipsis := e5.extBut _ _ D.TOz.symm (e4.extBut _ _ D.i2z.symm (e3.extBut _ _ D.TOz.symm (e2.extBut _ _ D.i1z.symm z1)))
 have k5 : ∀ c o, c ∉ [z, TO, i1, i2] -> s.heap.get? c = some o -> g5.get? c = some o := fun c o hc e => by
  simp only [List.mem_cons, List.not_mem_nil, or_false, not_or] at hc
  exact e5.extBut _ _ hc.2.1 (e4.extBut _ _ hc.2.2.2 (e3.extBut _ _ hc.2.1 (e2.extBut _ _ hc.2.2.1 (e1.extBut _ _ hc.1 e))))
 have i5 : SrI g5 i1 l1 (k1 + 1) t1 := d2.at fun o e => e5.extBut _ _ D.TOi1.symm (e4.extBut _ _ D.i12 (e3.extBut _ _ D.TOi1.symm e))
 have j5 : SrI g5 i2 l2 (k2 + 1) t2 := d4.at fun o e => e5.extBut _ _ D.TOi2.symm e
 have zlt : z < g5.objs.size := Heap.lt_size z5
 show wpAny _ _ (Builtin.SmallTypes.ownedTupleHandOut (.ref z) (.ref g5.objs.size) >>= _) _ _ _
 refine wpAny_bind ?_
 unfold Builtin.SmallTypes.ownedTupleHandOut
 have z6 : IsZip (g5.push { cls := .type "tuple", data := .seq #[x, y] }) z TI TO .ellipsis := Heap.get?_push_of_some _ z5
 refine wpAny_bind (wpAny_setField_rec z6 (by simp) fun g7 z7 e7 => ?_)
 replace z7 : IsZip g7 z TI TO (rawInt g5.objs.size) := z7
 refine wpAny_setField_rec z7 (by simp) fun g8 z8 e8 => ?_
 replace z8 : IsZip g8 z TI TO (rawInt g5.objs.size) := z8
 have up : ∀ c o, c ≠ z -> g5.get? c = some o -> g8.get? c = some o := fun c o c1 e => e8.extBut _ _ c1 (e7.extBut _ _ c1 (Heap.get?_push_of_some _ e))
 have t8 : IsPair g8 g5.objs.size x y := e8.extBut _ _ (Nat.ne_of_gt zlt) (e7.extBut _ _ (Nat.ne_of_gt zlt) (Heap.get?_push_size _ rfl))
 rw [sz] at z8 t8
 refine wpAny_pure ⟨_, rfl, ?_⟩
 show Q (.ref g5.objs.size) _
 rw [sz]
 exact hQ g8 z8 (up _ _ D.TOz o5) (i5.at fun o e => up _ o D.i1z e) (j5.at fun o e => up _ o D.i2z e) t8 fun c o hc e => up c o (fun q => hc (by simp [q])) (k5 c o hc e)
theorem zip_end {z TI TO i1 i2 l1 l2 : Addr} {k1 k2 : Nat} {xs ys : Array Value} {a b : Value} {t1 t2 : Bool} {Q : Fin -> Shared -> Prop} (hh : A.handled = none) (D : ZipApart z TI TO i1 i2 l1 l2)
  (hz : IsZip s.heap z TI TO .none) (hTI : IsPair s.heap TI (.ref i1) (.ref i2)) (hTO : IsPair s.heap TO a b)
  (h1 : SrI s.heap i1 l1 k1 t1) (h2 : SrI s.heap i2 l2 k2 t2) (hl1 : SrS s.heap l1 xs t1) (hl2 : SrS s.heap l2 ys t2) (hend : xs[k1]? = none \/ ys[k2]? = none)
  (hE : ∀ h' e, (∀ c o, c ∉ [z, TO, i1, i2] -> s.heap.get? c = some o -> h'.get? c = some o) -> (∃ o, h'.get? e = some o /\ o.cls = .type "StopIteration") -> E (.ref e) { s with heap := h' }) :
  wpAny (model prog w) A (Builtin.«zip.__next__» ⟨[.ref z], []⟩) Q E s := by
 show wpAny _ _ (field (.ref z) 2 >>= _) _ _ _
 refine wpAny_bind (wpAny_field hz rfl (x := .bool false) rfl ?_)
 show wpAny _ _ (field (.ref z) 3 >>= _) _ _ _
 refine wpAny_bind (wpAny_field hz rfl (x := .ref TI) rfl ?_)
 refine wpAny_bind (wpAny_seqItems hTI rfl ?_)
 show wpAny _ _ (Builtin.SmallTypes.ownedTupleIsFree (.ref z) >>= _) _ _ _
 refine wpAny_bind ?_
 unfold Builtin.SmallTypes.ownedTupleIsFree
 refine wpAny_bind (wpAny_field hz rfl (x := .none) rfl (wpAny_pure ?_))
 simp only [if_true]
 refine wpAny_bind (wpAny_rule ?_)
 refine wpAny_bind (wpAny_field hz rfl (x := .ref TO) rfl ?_)
 refine wpAny_bind (wpAny_setField_rec hz (by simp) fun g1 z1 e1 => ?_)
 replace z1 : IsZip g1 z TI TO .ellipsis := z1
 refine wpAny_bind ?_
 simp only [List.zipIdx_cons, List.zipIdx_nil, List.forIn_cons, List.forIn_nil]
 refine wpAny_bind (wpAny_bind (wpAny_onRaise ?_))
 show wpAny _ _ (Builtin.SmallTypes.nextOf (.ref i1) >>= _) _ _ _
 cases hx : xs[k1]? with
 | none =>
  refine wpAny_bind (sr_end hh (h1.at fun o e => e1.extBut _ _ D.i1z e) (hl1.at fun o e => e1.extBut _ _ D.l1z e) hx fun g2 e e2 he => ?_)
  obtain ⟨oe, hoe, hce⟩ := he
  have z2 : IsZip g2 z TI TO .ellipsis := e2 _ _ D.i1z.symm z1
  have hez : e ≠ z := fun q => by subst q; rw [z2] at hoe; cases hoe; simp at hce
  refine wpAny_setField_rec z2 (by simp) fun g3 _ e3 => hE g3 e (fun c o hc q => ?_) ⟨oe, e3.extBut _ _ hez hoe, hce⟩
  simp only [List.mem_cons, List.not_mem_nil, or_false, not_or] at hc
  exact e3.extBut _ _ hc.1 (e2 _ _ hc.2.2.1 (e1.extBut _ _ hc.1 q))
 | some x =>
  have hy : ys[k2]? = none := by
   rcases hend with h | h
   ·rw [hx] at h; cases h
   ·exact h
  refine wpAny_bind (zb8 (h1.at fun o e => e1.extBut _ _ D.i1z e) (hl1.at fun o e => e1.extBut _ _ D.l1z e) hx fun g2 d2 e2 => wpAny_pure ?_)
  have o2 : IsPair g2 TO a b := e2.extBut _ _ D.TOi1 (e1.extBut _ _ D.TOz hTO)
  refine wpAny_bind (wpAny_seqItems o2 rfl ?_)
  refine wpAny_bind (wpAny_updateSeq_pair o2 fun g3 o3 e3 => ?_)
  refine wpAny_bind (wpAny_letGo (wpAny_pure ?_))
  refine wpAny_bind (wpAny_bind (wpAny_onRaise ?_))
  show wpAny _ _ (Builtin.SmallTypes.nextOf (.ref i2) >>= _) _ _ _
  refine wpAny_bind (sr_end hh (h2.at fun o e => e3.extBut _ _ D.TOi2.symm (e2.extBut _ _ D.i12.symm (e1.extBut _ _ D.i2z e))) (hl2.at fun o e => e3.extBut _ _ D.l2TO (e2.extBut _ _ D.l2i1 (e1.extBut _ _ D.l2z e))) hy fun g4 e e4 he => ?_)
  obtain ⟨oe, hoe, hce⟩ := he
  have z4 : IsZip g4 z TI TO .ellipsis := e4 _ _ D.i2z.symm (e3.extBut _ _ D.TOz.symm (e2.extBut _ _ D.i1z.symm z1))
  have hez : e ≠ z := fun q => by subst q; rw [z4] at hoe; cases hoe; simp at hce
  refine wpAny_setField_rec z4 (by simp) fun g5 _ e5 => hE g5 e (fun c o hc q => ?_) ⟨oe, e5.extBut _ _ hez hoe, hce⟩
  simp only [List.mem_cons, List.not_mem_nil, or_false, not_or] at hc
  exact e5.extBut _ _ hc.1 (e4 _ _ hc.2.2.2 (e3.extBut _ _ hc.2.1 (e2.extBut _ _ hc.2.2.1 (e1.extBut _ _ hc.1 q))))
theorem zip_pn {z TI TO i1 i2 l1 l2 : Addr} {k1 k2 : Nat} {xs ys : Array Value} {x y a b : Value} {t1 t2 : Bool} {Q : Option Value -> Shared -> Prop} (D : ZipApart z TI TO i1 i2 l1 l2)
  (hz : IsZip s.heap z TI TO .none) (hTI : IsPair s.heap TI (.ref i1) (.ref i2)) (hTO : IsPair s.heap TO a b)
  (h1 : SrI s.heap i1 l1 k1 t1) (h2 : SrI s.heap i2 l2 k2 t2) (hl1 : SrS s.heap l1 xs t1) (hl2 : SrS s.heap l2 ys t2) (hx : xs[k1]? = some x) (hy : ys[k2]? = some y)
  (hQ : ∀ h', IsZip h' z TI TO (rawInt s.heap.objs.size) -> IsPair h' TO x y -> SrI h' i1 l1 (k1 + 1) t1 -> SrI h' i2 l2 (k2 + 1) t2 -> IsPair h' s.heap.objs.size x y ->
   (∀ c o, c ∉ [z, TO, i1, i2] -> s.heap.get? c = some o -> h'.get? c = some o) -> Q (some (.ref s.heap.objs.size)) { s with heap := h' }) :
  wpAny (model prog w) A (pyNext (.ref z)) Q E s := by
 have hT : s.TypeIs (.ref z) "zip" := ⟨_, hz, rfl⟩
 unfold pyNext
 exact wpAny_bind (wpAny_attempt (wpAny_callSpecial?_slot (name := Str.ofString "__next__") hT F.slot_zip_next
  (wpAny_call_entry F.slot_zip_next hT F.entry_zip_next (zip_item D hz hTI hTO h1 h2 hl1 hl2 hx hy fun h' a1 a2 a3 a4 a5 a6 => wpAny_pure (hQ h' a1 a2 a3 a4 a5 a6)) (F.args_zip_next_1 _))))
theorem zip_pe {z TI TO i1 i2 l1 l2 : Addr} {k1 k2 : Nat} {xs ys : Array Value} {a b : Value} {t1 t2 : Bool} {Q : Option Value -> Shared -> Prop} (hh : A.handled = none) (D : ZipApart z TI TO i1 i2 l1 l2)
  (hz : IsZip s.heap z TI TO .none) (hTI : IsPair s.heap TI (.ref i1) (.ref i2)) (hTO : IsPair s.heap TO a b)
  (h1 : SrI s.heap i1 l1 k1 t1) (h2 : SrI s.heap i2 l2 k2 t2) (hl1 : SrS s.heap l1 xs t1) (hl2 : SrS s.heap l2 ys t2) (hend : xs[k1]? = none \/ ys[k2]? = none)
  (hQ : ∀ h', (∀ c o, c ∉ [z, TO, i1, i2] -> s.heap.get? c = some o -> h'.get? c = some o) -> Q none { s with heap := h' }) : wpAny (model prog w) A (pyNext (.ref z)) Q E s := by
 have hT : s.TypeIs (.ref z) "zip" := ⟨_, hz, rfl⟩
 unfold pyNext
 refine wpAny_bind (wpAny_attempt (wpAny_callSpecial?_slot (name := Str.ofString "__next__") hT F.slot_zip_next
  (wpAny_call_entry F.slot_zip_next hT F.entry_zip_next (zip_end hh D hz hTI hTO h1 h2 hl1 hl2 hend fun h' e hk he => ?_) (F.args_zip_next_1 _))))
 obtain ⟨o, ho, hc⟩ := he
 exact wpAny_bind (wpAny_isInstance (T := "StopIteration") (b := true) ⟨o, ho, hc⟩ isSubtype_stop (wpAny_pure (hQ _ hk)))
abbrev zH1 (h : Heap) (l1 : Addr) (t1 : Bool) : Heap := h.push (zfJ l1 t1)
abbrev zH2 (h : Heap) (l1 l2 : Addr) (t1 t2 : Bool) : Heap := (zH1 h l1 t1).push (zfJ l2 t2)
abbrev zH3 (h : Heap) (l1 l2 : Addr) (t1 t2 : Bool) : Heap := (zH2 h l1 l2 t1 t2).push { cls := .type "tuple", data := .seq #[.ref h.objs.size, .ref (zH1 h l1 t1).objs.size] }
abbrev zH4 (h : Heap) (l1 l2 : Addr) (t1 t2 : Bool) : Heap := (zH3 h l1 l2 t1 t2).push { cls := .type "tuple", data := .seq #[.none, .none] }
abbrev zH5 (h : Heap) (l1 l2 : Addr) (t1 t2 : Bool) : Heap := (zH4 h l1 l2 t1 t2).push { cls := .type "zip", data := .fields #[.none, .bool false, .bool false, .ref (zH2 h l1 l2 t1 t2).objs.size, .ref (zH3 h l1 l2 t1 t2).objs.size] }
theorem zfx (l1 l2 : Addr) (xs ys : Array Value) (t1 t2 : Bool) :
  Meets (Builtin.«zip.__new__» ⟨[.type "zip", .ref l1, .ref l2], []⟩) (fun _ R s => SrS s.heap l1 xs t1 /\ SrS s.heap l2 ys t2 /\ R (.ok (.ret (.ref (zH4 s.heap l1 l2 t1 t2).objs.size))) { s with heap := zH5 s.heap l1 l2 t1 t2 }) :=
 .of_wp fun prog w A R s h => by
  obtain ⟨hp, g, d, tk, os⟩ := s
  obtain ⟨hl1, hl2, h⟩ := h
  have hsub := sub_zip
  have L1 : SrS (Shared.heap ⟨hp, g, d, tk, os⟩) l1 xs t1 := hl1
  have L2 : SrS (Shared.heap ⟨hp.push (zfJ l1 t1), g, d, tk, os⟩) l2 ys t2 := hl2.at fun o e => Heap.get?_push_of_some _ e
  wp_walk using zeR L1, zeR L2
  exact ⟨_, rfl, h⟩
theorem call_zip {l1 l2 : Addr} {xs ys : Array Value} {t1 t2 : Bool} {Q : Value -> Shared -> Prop} (hl1 : SrS s.heap l1 xs t1) (hl2 : SrS s.heap l2 ys t2)
  (h : ∀ h', IsZip h' (s.heap.objs.size + 4) (s.heap.objs.size + 2) (s.heap.objs.size + 3) .none -> IsPair h' (s.heap.objs.size + 2) (.ref s.heap.objs.size) (.ref (s.heap.objs.size + 1)) ->
   IsPair h' (s.heap.objs.size + 3) .none .none -> SrI h' s.heap.objs.size l1 0 t1 -> SrI h' (s.heap.objs.size + 1) l2 0 t2 ->
   (∀ c o, s.heap.get? c = some o -> h'.get? c = some o) -> Q (.ref (s.heap.objs.size + 4)) { s with heap := h' }) :
  wpAny (model prog w) A (call (.type "zip") [.ref l1, .ref l2]) Q E s := by
 refine callType_new F.called_zip (by decide) (F.typeCall_zip_2 _ _) (F.newCall_zip_2 _ _) (fun obj => F.args_object_init_3 obj _ _) F.entry_zip_new (zfx l1 l2 xs ys t1 t2) ⟨hl1, hl2, ?_⟩
 have z1 : (zH1 s.heap l1 t1).objs.size = s.heap.objs.size + 1 := Heap.size_push ..
 have z2 : (zH2 s.heap l1 l2 t1 t2).objs.size = s.heap.objs.size + 2 := by rw [Heap.size_push, z1]
 have z3 : (zH3 s.heap l1 l2 t1 t2).objs.size = s.heap.objs.size + 3 := by rw [Heap.size_push, z2]
 have z4 : (zH4 s.heap l1 l2 t1 t2).objs.size = s.heap.objs.size + 4 := by rw [Heap.size_push, z3]
 have g5 : (zH5 s.heap l1 l2 t1 t2).get? (zH4 s.heap l1 l2 t1 t2).objs.size = some _ := Heap.get?_push_size _ rfl
 have g4 : (zH5 s.heap l1 l2 t1 t2).get? (zH3 s.heap l1 l2 t1 t2).objs.size = some _ := Heap.get?_push_of_some _ (Heap.get?_push_size _ rfl)
 have g3 : (zH5 s.heap l1 l2 t1 t2).get? (zH2 s.heap l1 l2 t1 t2).objs.size = some _ := Heap.get?_push_of_some _ (Heap.get?_push_of_some _ (Heap.get?_push_size _ rfl))
 have g2 : SrI (zH5 s.heap l1 l2 t1 t2) (zH1 s.heap l1 t1).objs.size l2 0 t2 := SrI.new.at fun o e => Heap.get?_push_of_some _ (Heap.get?_push_of_some _ (Heap.get?_push_of_some _ e))
 have g1 : SrI (zH5 s.heap l1 l2 t1 t2) s.heap.objs.size l1 0 t1 := SrI.new.at fun o e => Heap.get?_push_of_some _ (Heap.get?_push_of_some _ (Heap.get?_push_of_some _ (Heap.get?_push_of_some _ e)))
 show _ /\ _
 rw [z2, z3, z4] at g5
 rw [z1, z2] at g3
 rw [z3] at g4
 rw [z1] at g2
 rw [z4]
 exact ⟨⟨_, g5, rfl⟩, h _ g5 g3 g4 g1 g2 fun c o x => Heap.get?_push_of_some _ (Heap.get?_push_of_some _ (Heap.get?_push_of_some _ (Heap.get?_push_of_some _ (Heap.get?_push_of_some _ x))))⟩
end
def Itz (K : PySem.W.Frag) (l1 l2 : Addr) (t1 t2 : Bool) : It :=
 ⟨fun i H => ∃ xs ys x y, Sq K H l1 xs t1 /\ Sq K H l2 ys t2 /\ xs[i]? = some x /\ ys[i]? = some y,
   fun i H x H' => ∃ p v w, x = .ref p /\ H p = none /\ H' = upd H p (.tup [v, w]) /\ (∀ xs, Sq K H l1 xs t1 -> xs[i]? = some v) /\ ∀ ys, Sq K H l2 ys t2 -> ys[i]? = some w,
   fun i H => ∃ xs ys, Sq K H l1 xs t1 /\ Sq K H l2 ys t2 /\ (xs.length <= i \/ ys.length <= i)⟩
theorem turn_zip {P : Program} {w : World} {K : PySem.W.Frag} {elts : List Expr} {k : Nat} {pos : Pos} (z TI TO i1 i2 l1 l2 : Addr) (t1 t2 : Bool) (D : ZipApart z TI TO i1 i2 l1 l2) :
  Turn P w K (.Tuple elts k pos) (Itz K l1 l2 t1 t2) [z, TI, TO, i1, i2] z (fun i h => IsZip h z TI TO .none /\ IsPair h TI (.ref i1) (.ref i2) /\ (∃ a b, IsPair h TO a b) /\ SrI h i1 l1 i t1 /\ SrI h i2 l2 i t2) where
 mem := by simp
 obj := fun i h st b hb => by
  obtain ⟨hz, hTI, ⟨a, c, hTO⟩, h1, h2⟩ := st
  simp only [List.mem_cons, List.not_mem_nil, or_false] at hb
  rcases hb with rfl | rfl | rfl | rfl | rfl
  ·exact ⟨_, hz, fun v q => by cases q⟩
  ·exact ⟨_, hTI, fun v q => by cases q⟩
  ·exact ⟨_, hTO, fun v q => by cases q⟩
  ·exact h1.obj
  ·exact h2.obj
 keep := fun i h h' st kk => by
  obtain ⟨hz, hTI, ⟨a, c, hTO⟩, h1, h2⟩ := st
  exact ⟨kk z (by simp) _ hz, kk TI (by simp) _ hTI, ⟨a, c, kk TO (by simp) _ hTO⟩, h1.at fun o e => kk i1 (by simp) o e, h2.at fun o e => kk i2 (by simp) o e⟩
 item := by
  intro X hP hw hK hc i pins s σ H E I hf st hg
  subst hP hw hK
  obtain ⟨xs, ys, x, y, hq1, hq2, hx, hy⟩ := hg
  obtain ⟨a1, r1, s1, _⟩ := JE I hq1
  obtain ⟨a2, r2, s2, _⟩ := JE I hq2
  obtain ⟨u1, hu1, ru1⟩ := r1.get hx
  obtain ⟨u2, hu2, ru2⟩ := r2.get hy
  obtain ⟨hz, hTI, ⟨a, c, hTO⟩, h1, h2⟩ := st
  have fresh : ∀ b o, s.heap.get? b = some o -> b ≠ s.heap.objs.size := fun b o e => Nat.ne_of_lt (Heap.lt_size e)
  refine zip_pn D hz hTI hTO h1 h2 s1 s2 (x := u1) (y := u2) (by simpa using hu1) (by simpa using hu2) fun h' z' o' i1' i2' p' kk => ?_
  refine ⟨_, rfl, wpAny_letOwnedTupleGo_zip z' fun h'' z'' hsb => ?_⟩
  have ke : ∀ b o, b ∉ [z, TI, TO, i1, i2] -> s.heap.get? b = some o -> h''.get? b = some o := fun b o hb e => by
   simp only [List.mem_cons, List.not_mem_nil, or_false, not_or] at hb
   exact hsb.extBut _ _ hb.1 (kk b o (by simp [hb.1, hb.2.2.1, hb.2.2.2.1, hb.2.2.2.2]) e)
  refine ⟨.ref s.heap.objs.size, upd H s.heap.objs.size (.tup [x, y]), inv_rec (s' := { s with heap := h'' }) (its := [u1, u2]) I hf rfl rfl ke (hsb.extBut _ _ (Ne.symm (fresh z _ hz)) p') (.cons ru1 (.cons ru2 .nil)) (by show 2 <= sizeLine; decide), rfl, ?_, ?_, fun b hb => ?_⟩
  ·exact ⟨_, x, y, rfl, I.hok.fresh (Nat.le_refl _), rfl, fun zs hz => by rw [sq_inj I hz hq1]; exact hx, fun zs hz => by rw [sq_inj I hz hq2]; exact hy⟩
  ·exact ⟨z'', hsb.extBut _ _ D.TIz (kk TI _ (by simp [D.TIz, D.TITO, D.TIi1, D.TIi2]) hTI), ⟨_, _, hsb.extBut _ _ D.TOz o'⟩, i1'.at fun o e => hsb.extBut _ _ D.i1z e, i2'.at fun o e => hsb.extBut _ _ D.i2z e⟩
  ·have q := (hf b hb).1
   obtain ⟨o, ho⟩ : ∃ o, s.heap.get? b = some o := by
    simp only [List.mem_cons, List.not_mem_nil, or_false] at hb
    rcases hb with rfl | rfl | rfl | rfl | rfl
    ·exact ⟨_, hz⟩
    ·exact ⟨_, hTI⟩
    ·exact ⟨_, hTO⟩
    ·obtain ⟨o, ho, _⟩ := h1.obj; exact ⟨o, ho⟩
    ·obtain ⟨o, ho, _⟩ := h2.obj; exact ⟨o, ho⟩
   rw [Zs (fresh b o ho)]; exact q
 done := by
  intro X hP hw hK hc i pins s σ H E I hf st hg
  subst hP hw hK
  obtain ⟨xs, ys, hq1, hq2, hx⟩ := hg
  obtain ⟨a1, r1, s1, _⟩ := JE I hq1
  obtain ⟨a2, r2, s2, _⟩ := JE I hq2
  obtain ⟨hz, hTI, ⟨a, c, hTO⟩, h1, h2⟩ := st
  have n1 := r1.length
  have n2 := r2.length
  have he : a1.toArray[i]? = none \/ a2.toArray[i]? = none := by
   rcases hx with q | q
   ·exact .inl (by simp; omega)
   ·exact .inr (by simp; omega)
  exact zip_pe (I.ok.hd hc) D hz hTI hTO h1 h2 s1 s2 he fun h' kk => ⟨rfl, inv_ch (ch := [z, TI, TO, i1, i2]) (s' := { s with heap := h' }) I hf rfl rfl fun b o hb e => kk b o (fun q => hb (by simp at q ⊢; rcases q with q | q | q | q <;> simp [q])) e⟩
 self := fun _ _ _ _ _ st h => wpAny_pyIter_zip st.1 h
section
variable {X : Cx} {W : Str -> Hp -> Prop} {tg a b c e : Expr} {es elts : List Expr} {da db : DE} {pos : Pos}
def iZp (K : PySem.W.Frag) (ta : TA) : TI := fun σ H R => ta σ H fun vs H1 => ∃ a b t1 t2, vs = [.ref a, .ref b] /\ (∃ xs, Sq K H1 a xs t1) /\ (∃ ys, Sq K H1 b ys t2) /\ R (Itz K a b t1 t2) H1
theorem pi_zip {l1 l2 : Expr} {ta : TA} {p tp : Pos} {k : Nat} (hg : Gl X "zip") (hm : X.mg "zip" = none) (hl : PA X [l1, l2] ta) (hs : starEach [l1, l2] X.env = (false, eval l1 X.env) :: starEach [l2] X.env := by rfl)
  (hpl : (backTo pos (starEach [l2] X.env)).any (·.1) = false := by rfl) : PI X (.Tuple elts k tp) (.Call (.Name "zip" p) [l1, l2] [] pos) (iZp X.K ta) := by
 intro pins s σ H R I h
 refine Call_ (JQ I hg hm (show bootBuiltins "zip" = some (.type "zip") by decide +kernel) (PyProof.Rows.callWith_type1 (thn (hl pos pins s σ H _ I h) fun us s1 ⟨vs, H1, I1, r1, q1⟩ => ?_) hs hpl))
 obtain ⟨l1, l2, t1, t2, rfl, ⟨xs, hq1⟩, ⟨ys, hq2⟩, q⟩ := q1
 obtain ⟨u1, u2, rfl, ru1, ru2⟩ := vals2 r1
 cases ru1
 cases ru2
 obtain ⟨a1, rv1, s1', _⟩ := JE I1 hq1
 obtain ⟨a2, rv2, s2', _⟩ := JE I1 hq2
 have lt1 := s1'.lt
 have lt2 := s2'.lt
 refine call_zip s1' s2' fun h' hz hTI hTO h1 h2 kk => wpAny_pyIter_zip hz ?_
 have I2 : Inv X pins σ H1 { s1 with heap := h' } := I1.kept (t' := s1.toks) kk
 have ap : ZipApart (s1.heap.objs.size + 4) (s1.heap.objs.size + 2) (s1.heap.objs.size + 3) s1.heap.objs.size (s1.heap.objs.size + 1) l1 l2 := by
  constructor <;> (intro e; simp only [Addr] at *; omega)
 refine ⟨_, [s1.heap.objs.size + 4, s1.heap.objs.size + 2, s1.heap.objs.size + 3, s1.heap.objs.size, s1.heap.objs.size + 1], _, Itz X.K l1 l2 t1 t2, H1, rfl, I2, turn_zip _ _ _ _ _ l1 l2 t1 t2 ap, ⟨hz, hTI, ⟨_, _, hTO⟩, h1, h2⟩, fun b hb => ?_, q⟩
 have hb' : s1.heap.objs.size <= b := by
  simp only [List.mem_cons, List.not_mem_nil, or_false] at hb
  rcases hb with rfl | rfl | rfl | rfl | rfl
  ·exact Nat.le_add_right _ _
  ·exact Nat.le_add_right _ _
  ·exact Nat.le_add_right _ _
  ·exact Nat.le_refl _
  ·exact Nat.le_add_right _ _
 exact I1.fpOk hb' (I1.hok.fresh hb')
theorem zcU : ∀ (xs ys : List PyData) (i : Nat) (t : PyData), (zipT xs ys)[i]? = some t -> ∃ x y, xs[i]? = some x /\ ys[i]? = some y /\ t = .tuple [x, y]
 | [], ys, i, t, h => by simp [zipT] at h
 | x :: xs, [], i, t, h => by simp [zipT] at h
 | x :: xs, y :: ys, 0, t, h => by simp [zipT] at h; exact ⟨x, y, rfl, rfl, h.symm⟩
 | x :: xs, y :: ys, i + 1, t, h => by
  simp only [zipT, List.getElem?_cons_succ] at h
  obtain ⟨a, b, h1, h2, h3⟩ := zcU xs ys i t h
  exact ⟨a, b, by simpa using h1, by simpa using h2, h3⟩
theorem zcT : ∀ (xs ys : List PyData) (i : Nat), (zipT xs ys).length <= i -> xs.length <= i \/ ys.length <= i
 | [], ys, i, h => .inl (Nat.zero_le _)
 | x :: xs, [], i, h => .inr (Nat.zero_le _)
 | x :: xs, y :: ys, 0, h => by simp [zipT] at h
 | x :: xs, y :: ys, i + 1, h => by
  simp only [zipT, List.length_cons] at h
  rcases zcT xs ys i (by omega) with q | q
  ·exact .inl (by simp; omega)
  ·exact .inr (by simp; omega)
theorem yld_zip {H : Hp} {P : Pv} {l1 l2 : Addr} {t1 t2 : Bool} {xs ys : List PyData} {vs ws : List V} (q1 : ∀ H' P', Tr H P H' P' -> Sq X.K H' l1 vs t1) (q2 : ∀ H' P', Tr H P H' P' -> Sq X.K H' l2 ws t2) (r1 : Rls X.K H P xs vs) (r2 : Rls X.K H P ys ws) :
  Yld X.K (Itz X.K l1 l2 t1 t2) (zipT xs ys) H P := by
 intro H' P' tr nf i
 have a1 := Rls.go tr xs vs r1
 have a2 := Rls.go tr ys ws r2
 refine ⟨fun tt e => ?_, fun hl => ⟨vs, ws, q1 H' P' tr, q2 H' P' tr, by rw [<- r1.length, <- r2.length]; exact zcT xs ys i hl⟩⟩
 obtain ⟨x, y, e1, e2, rfl⟩ := zcU xs ys i tt e
 obtain ⟨v, ev, rv⟩ := a1.getT e1
 obtain ⟨w, ew, rw'⟩ := a2.getT e2
 refine ⟨⟨vs, ws, v, w, q1 H' P' tr, q2 H' P' tr, ev, ew⟩, fun z H'' yy => ?_⟩
 obtain ⟨p, v', w', rfl, hp, rfl, hv, hw⟩ := yy
 have z1 := hv vs (q1 H' P' tr)
 have z2 := hw ws (q2 H' P' tr)
 rw [ev] at z1
 rw [ew] at z2
 cases z1
 cases z2
 exact ⟨ZH hp, Z8.mpr ⟨p, _, rfl, .off Zp (nf p hp), Zv.mpr ⟨v, [w], rfl, Rl.go (.same (ZH hp)) x v rv, Zv.mpr ⟨w, [], rfl, Rl.go (.same (ZH hp)) y w rw', ZQ.mpr rfl⟩⟩⟩⟩
theorem seq_of {K : PySem.W.Frag} {H : Hp} {P : Pv} {t : PyData} {v : V} {xs : List PyData} (r : Rl K H P t v) (e : t = .list xs \/ t = .tuple xs) : ∃ l vs b, v = .ref l /\ (∀ H' P', Tr H P H' P' -> Sq K H' l vs b) /\ Rls K H P xs vs := by
 rcases e with rfl | rfl
 ·obtain ⟨l, vs, rfl, sl, rs⟩ := ZY.mp r
  exact ⟨l, vs, false, rfl, fun H' P' tr => (sl.go tr).sq, rs⟩
 ·obtain ⟨l, vs, rfl, sl, rs⟩ := Z8.mp r
  exact ⟨l, vs, true, rfl, fun H' P' tr => (sl.go tr).sq, rs⟩
theorem zbR {p tp : Pos} {k : Nat} (hg : Gl X "zip") (hm : X.mg "zip" = none) (ha : EV X W a da) (hb : EV X W b db) (hs : starEach [a, b] X.env = (false, eval a X.env) :: starEach [b] X.env := by rfl) (hs2 : starEach [b] X.env = (false, eval b X.env) :: starEach [] X.env := by rfl)
  (hpl : (backTo pos (starEach [b] X.env)).any (·.1) = false := by rfl) : IV X W (.Tuple elts k tp) (.Call (.Name "zip" p) [a, b] [] pos) (iZip (iSeq da) (iSeq db)) :=
 zcl (pi_zip hg hm (Yk ha (Yk hb XM hs2) hs) hs hpl) fun σ H R ⟨G, P, h, q⟩ => by
  unfold iZip iSeq at q
  refine ⟨G, P, h, ?_⟩
  cases ea : da G with
  | stuck => rw [ea] at q; exact q.elim
  | exc c => rw [ea] at q; exact q
  | ok tx =>
   intro x H1 s1 rx
   refine ⟨G, P, h.same s1, ?_⟩
   cases eb : db G with
   | stuck =>
    rw [ea, eb, Res.bind_ok] at q
    cases tx <;> exact q.elim
   | exc c =>
    rw [ea, eb, Res.bind_ok] at q
    cases tx <;> first | exact q.elim | exact fun H' s => q H' (s1.trans s)
   | ok ty =>
    intro y H2 s2 ry
    have q' := q
    rw [ea, eb, Res.bind_ok] at q'
    have fin : ∀ xs ys, (tx = .list xs \/ tx = .tuple xs) -> (ty = .list ys \/ ty = .tuple ys) -> PostI X.K W H P (.ok (zipT xs ys)) R -> ∃ a b t1 t2, [x, y] = [V.ref a, V.ref b] /\ (∃ xs, Sq X.K H2 a xs t1) /\ (∃ ys, Sq X.K H2 b ys t2) /\ R (Itz X.K a b t1 t2) H2 := fun xs ys e1 e2 q' => by
     obtain ⟨l1, v1, b1, rfl, f1, g1⟩ := seq_of (Rl.go (.same s2) tx x rx) e1
     obtain ⟨l2, v2, b2, rfl, f2, g2⟩ := seq_of ry e2
     exact ⟨l1, l2, b1, b2, rfl, ⟨v1, f1 H2 P (.refl _ _)⟩, ⟨v2, f2 H2 P (.refl _ _)⟩, q' _ H2 (s1.trans s2) (yld_zip f1 f2 g1 g2)⟩
    cases tx <;> cases ty <;> first | exact q'.elim | exact fin _ _ (.inl rfl) (.inl rfl) q' | exact fin _ _ (.inl rfl) (.inr rfl) q' | exact fin _ _ (.inr rfl) (.inl rfl) q' | exact fin _ _ (.inr rfl) (.inr rfl) q'
end
end Fx
namespace Fx
open PySem PySem.Spec PyProof.Rows L2
def cf (k : Option NameKind) : Bool := k == some .cell || k == some .free
theorem zes {k : Option NameKind} (h : cf k = true) : k = some .cell \/ k = some .free := by
 unfold cf at h
 rw [Bool.or_eq_true] at h
 rcases h with h | h
 ·exact .inl (by simpa using h)
 ·exact .inr (by simpa using h)
def capChk (scope : Scope) (env : Env) (N0 N : List Str) (nv : Nat) (cap : List Nat) : Bool :=
 (List.range cap.length).all fun i => match (cap[i]? : Option Nat), (N[nv + i]? : Option Str) with
  | some j, some x => N0[j]? == some x && cf ((relabel scope env).names.lookup x) && cf (env.kindOf x)
  | _, _ => true
def zgb (scope : Scope) (env : Env) (N0 N : List Str) (nv : Nat) (cap : List Nat) : Bool :=
 (scope.names.all fun y => y.2 != .cell) && (scope.kind == .function) && (scope.names.all fun y => y.2 != .local || scope.names.lookup y.1 == some .local)
  && (scope.names.all fun y => y.2 != .free || cf (env.kindOf y.1)) && (N.length == nv + cap.length) && capChk scope env N0 N nv cap
theorem YS {X : Cx} {scope : Scope} {N : List Str} {nv : Nat} {cap : List Nat} (h : zgb scope X.env X.N N nv cap = true) : CompOk X scope N nv cap := by
 unfold zgb at h
 simp only [Bool.and_eq_true, List.all_eq_true] at h
 obtain ⟨⟨⟨⟨⟨h1, h2⟩, h3⟩, h4⟩, h5⟩, h6⟩ := h
 refine ⟨fun y hy => by simpa using h1 y hy, by simpa using h2, fun y hy e => ?_, fun y hy e => ?_, by simpa using h5, fun i j x hc hx => ?_⟩
 ·have := h3 y hy
  rw [e] at this
  simpa using this
 ·have := h4 y hy
  rw [e] at this
  exact zes (by simpa using this)
 ·unfold capChk at h6
  rw [List.all_eq_true] at h6
  have hi : i < cap.length := (List.getElem?_eq_some_iff.mp hc).1
  have := h6 i (List.mem_range.mpr hi)
  rw [hc, hx] at this
  simp only [Bool.and_eq_true] at this
  exact ⟨by simpa using this.1.1, zes this.1.2, zes this.2⟩
section
variable {X : Cx} {W : Str -> Hp -> Prop} {fl : Bool} {a b c e : Expr} {es : List Expr} {da db : DE} {pos : Pos}
theorem Qy {K : PySem.W.Frag} {H1 : Hp} {P : Pv} {p : Addr} {ts : List PyData} {vs : List V} {o : HO} (hp : H1 p = none) (rs : Rls K H1 P ts vs) : Rls K (upd H1 p o) (P.fbd p) ts vs :=
 Rls.go (.same (ZH hp)) ts vs (Rls.go (Tr.tofbd hp) ts vs rs)
theorem zbE {d : DA} (h : AV X W es d) : OV X W (.List es pos) (oLst d) :=
 ZA (pe_lst h) fun σ H Q ⟨G, P, h, q⟩ => by
  unfold oLst at q
  obtain ⟨q1, q2, q3⟩ := zdT q
  refine WI h q1 q2 fun ts vs H1 es' s1 h1 rs => ?_
  have q4 := q3 ts es'
  split at q4
  ·rename_i hl
   exact ⟨zaR hl rs, fun p hp => q4 p vs _ (s1.trans (ZH hp)) (s1.free hp) Zp (Qy hp rs)⟩
  ·exact q4.elim
theorem QC {p : Pos} (hg : Gl X "list") (hm : X.mg "list" = none) (ha : EV X W a da) (hs : starEach [a] X.env = (false, eval a X.env) :: starEach [] X.env := by rfl) : OV X W (.Call (.Name "list" p) [a] [] pos) (zaI da) :=
 ZA (WA zbX hg hm (show bootBuiltins "list" = some (.type "list") by decide +kernel) (Yk ha XM hs) (he := hs)) fun σ H Q ⟨G, P, h, q⟩ => by
  unfold zaI at q
  obtain ⟨q1, q2, q3⟩ := zai q
  refine ZK h q1 q2 fun tx x H1 ex s1 h1 rx => ?_
  have q4 := q3 tx ex
  cases tx <;> try exact q4.elim
  ·obtain ⟨l, vs, rfl, sl, rs⟩ := ZY.mp rx
   exact ⟨l, vs, rfl, .inl sl.sq, fun p hp => q4 p vs _ (s1.trans (ZH hp)) (s1.free hp) Zp (Qy hp rs)⟩
  ·obtain ⟨l, vs, rfl, sl, rs⟩ := Z8.mp rx
   exact ⟨l, vs, rfl, .inr sl.sq, fun p hp => q4 p vs _ (s1.trans (ZH hp)) (s1.free hp) Zp (Qy hp rs)⟩
theorem zdy {p : Pos} (hg : Gl X "tuple") (hm : X.mg "tuple" = none) (ha : EV X W a da) (hs : starEach [a] X.env = (false, eval a X.env) :: starEach [] X.env := by rfl) : EV X W (.Call (.Name "tuple" p) [a] [] pos) (d1 zdx da) :=
 ZA (WA zbb hg hm (show bootBuiltins "tuple" = some (.type "tuple") by decide +kernel) (Yk ha XM hs) (he := hs)) fun σ H Q h => zbk (fun H P σ G x tx Q h rx q => by
  cases tx <;> try exact q.elim
  ·obtain ⟨l, vs, rfl, sl, rs⟩ := ZY.mp rx
   exact ⟨l, vs, rfl, .inl ⟨sl.sq, fun p hp => q _ _ (ZH hp) (Z8.mpr ⟨p, vs, rfl, .off Zp (h.off_new hp), Rls.go (.same (ZH hp)) _ vs rs⟩)⟩⟩
  ·obtain ⟨l, vs, rfl, sl, rs⟩ := Z8.mp rx
   exact ⟨l, vs, rfl, .inr ⟨sl.sq, q _ H (Same.refl H) rx⟩⟩) h
theorem zbA {K : PySem.W.Frag} {H : Hp} {P : Pv} : ∀ {bs : List Bool} {vs : List V}, Rls K H P (bs.map .bool) vs -> vs = bs.map V.bl
 | [], vs, h => ZQ.mp h
 | b :: bs, vs, h => by
  obtain ⟨v, r, rfl, a, q⟩ := Zv.mp h
  rw [YL.mp a, zbA q]
  rfl
theorem call_all (hc : X.calm = true) : Jr X (.builtin "all") (fun xs H Q => ∃ (p : Addr) (bs : List Bool), xs = [.ref p] /\ SqL X.K H p (bs.map V.bl) /\ Q (.bl (bs.all id)) H) := by
 intro pins s σ H xs us Q I r h
 obtain ⟨l, bs, rfl, hq, q⟩ := h
 obtain ⟨u, rfl, ru⟩ := zaj r
 cases ru
 obtain ⟨its, rv, pl, hz⟩ := I.list hq
 have hl : s.heap.IsList l its.toArray := pl.isList
 have hlt : l < s.heap.objs.size := by obtain ⟨_, e, _⟩ := hl; exact Heap.lt_size e
 have hb : ∀ (i : Nat) (v : Value), its[i]? = some v -> ∃ b, bs[i]? = some b /\ v = .bool b := fun i v e => by
  have hi : i < its.length := (List.getElem?_eq_some_iff.mp e).1
  have hl2 := rv.length
  rw [List.length_map] at hl2
  have hi2 : i < bs.length := by omega
  obtain ⟨u, hu, ru⟩ := rv.get (i := i) (x := V.bl bs[i]) (by simp [hi2])
  rw [e] at hu; cases hu
  cases ru
  exact ⟨bs[i], by simp [hi2], rfl⟩
 refine call_all_walk (wpAny_pyIter_list hl ?_)
 refine ⟨s.heap.objs.size, [s.heap.objs.size, l], [s.heap.objs.size], its.toArray.size, _, _, fun i => (bs[i]?).getD true, rfl, Walks.list (A := X.A.in1) (I.ok.hd hc) _ l (Nat.ne_of_lt hlt) its.toArray,
  ⟨⟨_, Heap.get?_push_size _ rfl, rfl, rfl⟩, hl.push _⟩, fun i v s' Q' E' hP hQ => ?_, fun h' tk hk => ?_⟩
 ·obtain ⟨b, e, rfl⟩ := hb i v (by simpa using hP)
  simp only [e, Option.getD_some] at hQ
  exact wpAny_truthy_bool hQ
 ·have e : ((List.range its.toArray.size).all fun i => (bs[i]?).getD true) = bs.all id := by
   have hl2 := rv.length
   rw [List.length_map] at hl2
   rw [List.size_toArray, <- hl2, Bool.eq_iff_iff, List.all_eq_true, List.all_eq_true]
   constructor
   ·intro h b hb
    obtain ⟨i, hi, e⟩ := List.getElem_of_mem hb
    have := h i (List.mem_range.mpr hi)
    simp only [List.getElem?_eq_getElem hi, Option.getD_some, e] at this
    exact this
   ·intro h i hi
    have hi' := List.mem_range.mp hi
    simp only [List.getElem?_eq_getElem hi', Option.getD_some]
    exact h _ (List.getElem_mem hi')
  rw [e]
  have kk : ∀ b x, s.heap.get? b = some x -> h'.get? b = some x := fun b x e => hk b x (fun hm => by rw [List.mem_singleton.mp hm] at e; exact Nat.lt_irrefl _ (Heap.lt_size e)) (Heap.get?_push_of_some _ e)
  exact ⟨.bl _, H, I.kept (t' := tk) kk, rfl, q⟩
theorem ev_all {p : Pos} (hg : Gl X "all") (hm : X.mg "all" = none) (ha : EV X W a da) (hc : X.calm = true := by rfl) (hs : starEach [a] X.env = (false, eval a X.env) :: starEach [] X.env := by rfl) : EV X W (.Call (.Name "all" p) [a] [] pos) (d1 fAll da) :=
 ZA (Uq (call_all hc) hg hm (show bootBuiltins "all" = some (.builtin "all") by decide +kernel) (Yk ha XM hs) (he := hs)) fun σ H Q h => zbk (fun H P σ G x tx Q h rx q => by
  cases tx <;> try exact q.elim
  rename_i xs
  obtain ⟨l, vs, rfl, sl, rs⟩ := ZY.mp rx
  simp only [fAll] at q
  cases e : allT xs with
  | stuck => rw [e] at q; exact q.elim
  | exc c => exact absurd e (zdV xs c)
  | ok k =>
   rw [e, Res.bind_ok] at q
   obtain ⟨bs, rfl, rfl⟩ := zgi e
   have := zbA rs
   subst this
   exact ⟨l, bs, rfl, sl.sq, ZR q⟩) h
theorem zdq {G : List Sl} {i : Nat} (h : zaU G i = true) : ∃ xs, G[i]? = some (.own xs) := by
 unfold zaU at h
 split at h
 ·rename_i xs e; exact ⟨xs, e⟩
 ·cases h
theorem zeQ {i : Nat} {x : Str} {is : List Nat} {p1 p2 p3 : Pos} (hi : X.N[i]? = some x) (he : EV X W e da) (hv : Vis X.env.scope x := by first | exact Or.inl rfl | exact Or.inr (Or.inl rfl) | exact Or.inr (Or.inr rfl)) (hd : (x == ("__debug__" : Str)) = false := by decide)
  (hcd : (x == ("__classdict__" : Str)) = false := by decide) (hsw : swapsWith (.Call (.Attribute (.Name x p1) "append" p2) [e] [] p3) none pos.line X.env = pure false := by rfl)
  (hbase : attributeBase (.Name x p1) "append" X.env (eval (.Name x p1) X.env) = eval (.Name x p1) X.env := by rfl)
  (hfew : ((backTo p3 (starEach [e] X.env)).all (fun x => !x.1) && (backToKw p3 (keywordEach [] X.env)).all (fun x => x.1.isSome)
   && decide (([e] : List Expr).length + ([] : List Keyword).length + (if ([] : List Keyword).isEmpty then 0 else 1) < 30)) = true := by rfl)
  (hline : (p2.endLine == p3.line) = true := by rfl) (hs : starEach [e] X.env = (false, eval e X.env) :: starEach [] X.env := by rfl) :
  SV X W fl (.Expr (.Call (.Attribute (.Name x p1) "append" p2) [e] [] p3) pos) (dApp i is da) :=
 X3 (zfj (pe_bm PySem.F.plainAttrs_list PySem.F.slot_list_append PySem.F.type_list_append zbN (zbD hi hv hd hcd) (Yk he XM hs) hbase hfew hline hs rfl) hsw) fun D σ H ⟨G, P, h, q⟩ => by
  unfold dApp at q
  obtain ⟨P1, h1, g⟩ := h.frz is
  split at q
  ·rename_i ho
   obtain ⟨xs0, e0⟩ := zdq ho
   obtain ⟨q1, q2, q3⟩ := zah q
   obtain ⟨p, vs, ev, ep, eh, rs⟩ := h.sl i _ e0
   refine ⟨.ref p, getD_some ev, .inl ⟨rfl, vs, SqL.of eh⟩, ?_⟩
   refine ZK h1 (fun c e H' s => q1 c e H' P1 (g.trans (.same s))) q2 fun t v H1 et s1 h2 r => ?_
   obtain ⟨P2, h3, r3, g3⟩ := after h h1 g s1 r
   have q4 := q3 t et
   unfold zb5 at q4
   split at q4
   ·rename_i xs1 e1
    split at q4
    ·rename_i hz
     obtain ⟨p', vs', ev', ep', eh', rs'⟩ := h3.sl i _ e1
     rw [ev] at ev'
     cases ev'
     have hl := rs'.length
     obtain ⟨h4, g4⟩ := h3.upOwn e1 ep' (rs'.append (Zv.mpr ⟨v, [], rfl, r3, ZQ.mpr rfl⟩))
     exact ⟨p, vs', v, rfl, rfl, eh', by rw [sizeLine_eq]; omega, q4 σ _ P2 (g3.trans g4) h4⟩
    ·exact q4.elim
   ·exact q4.elim
  ·exact q.elim
theorem Uk {i : Nat} {x : Str} {is : List Nat} {dk : DE} {k : Expr} {p1 p2 : Pos} (hi : X.N[i]? = some x) (hk : EV X W k dk) (he : EV X W e da) (hv : Vis X.env.scope x := by first | exact Or.inl rfl | exact Or.inr (Or.inl rfl) | exact Or.inr (Or.inr rfl)) (hd : (x == ("__debug__" : Str)) = false := by decide)
  (hcd : (x == ("__classdict__" : Str)) = false := by decide)
  (ha : ∀ v, assign (.Subscript (.Name x p1) k p2) X.env v = (do
   let ov <- holding [v] (eval (.Name x p1) X.env)
   let iv <- holding [v, ov] (eval k X.env)
   standAt p2
   holding [v, ov, iv] (setItem ov iv v)
   release [v, ov, iv] []) := by intro _; rfl)
  (hs : swapsWithSole [.Subscript (.Name x p1) k p2] e pos.line X.env = pure false := by rfl) (hw : swappedStores [.Subscript (.Name x p1) k p2] e X.env = pure none := by rfl)
  (h1 : (assignEach [.Subscript (.Name x p1) k p2] X.env).map (·.2) = [assign (.Subscript (.Name x p1) k p2) X.env] := by rfl) :
  SV X W fl (.Assign [.Subscript (.Name x p1) k p2] e pos) (Vv i is dk da) :=
 X3 (ps_asg he (pg_sub (zbD hi hv hd hcd) hk set_list ha) hs hw h1) fun D σ H ⟨G, P, h, q⟩ => by
  unfold Vv at q
  obtain ⟨P1, h1, g⟩ := h.frz is
  obtain ⟨q1, q2, q3⟩ := zah q
  refine ZK h1 (fun c e H' s => q1 c e H' P1 (g.trans (.same s))) q2 fun t v H1 et s1 h2 r => ?_
  obtain ⟨P2, h3, r3, g3⟩ := after h h1 g s1 r
  have q4 := q3 t et
  generalize (if Xl t = true then G else frz is G) = G' at h3 q4
  split at q4
  ·rename_i ho
   obtain ⟨xs0, e0⟩ := zdq ho
   obtain ⟨p, vs, ev, ep, eh, rs⟩ := h3.sl i _ e0
   refine ⟨.ref p, getD_some ev, ?_⟩
   obtain ⟨q5, q6, q7⟩ := zah q4
   refine ZK h2 (fun c e H' s => q5 c e H' P1 ((g.trans (.same s1)).trans (.same s))) q6 fun kt kv H2 ek s2 h4 rk => ?_
   have q8 := q7 kt ek
   unfold zbr at q8
   rw [e0] at q8
   cases kt <;> try exact q8.elim
   rename_i j
   simp only at q8
   cases em : ixP xs0.length j with
   | none => rw [em] at q8; exact q8.elim
   | some m =>
    rw [em] at q8
    have h5 := h3.same s2
    have hl := rs.length
    obtain ⟨p', vs', ev', ep', eh', rs'⟩ := h5.sl i _ e0
    rw [ev] at ev'
    cases ev'
    have hl' := rs'.length
    obtain ⟨h6, g6⟩ := h5.upOwn e0 ep' (rs'.set m (Rl.go (.same s2) t v r3))
    refine ⟨p, vs', j, m, rfl, ZM.mp rk, eh', by rw [<- hl', <- ixP_eq]; exact em, q8 σ _ P2 ((g3.trans (.same s2)).trans g6) h6⟩
  ·exact q4.elim
end
end Fx
namespace Fx
open PySem PySem.Spec PyProof.Rows L2
section
variable {X : Cx} {W : Str -> Hp -> Prop} {a b c e : Expr} {es : List Expr} {da db : DE} {pos : Pos}
theorem ze7 (n d : Nat) (o : Option Int) : sIxT n d o = HT.sIx n d o := by cases o <;> rfl
theorem cut_rls {K : PySem.W.Frag} {H : Hp} {P : Pv} {xs : List PyData} {vs : List V} (lo hi : Option Int) (r : Rls K H P xs vs) : Rls K H P (cutT xs lo hi) (cutV vs lo hi) := by
 unfold cutT cutV
 rw [ze7, ze7, r.length]
 exact (r.drop _).take _
def PV (X : Cx) (W : Str -> Hp -> Prop) (e : Option Expr) (d : DP) : Prop := PO X e fun σ H Q => ∃ G P, Hol X.K H P σ G /\ match d G with
 | .ok o => ∀ H', Same H H' -> Q o H'
 | .exc c => ∀ H', Same H H' -> W c H'
 | .stuck => False
theorem pv_no : PV X W none pNo := fun pins s σ H Q I ⟨G, P, h, q⟩ => po_none pins s σ H Q I (q H (Same.refl H))
theorem pv_at (he : EV X W e da) : PV X W (some e) (pAt da) := fun pins s σ H Q I ⟨G, P, h, q⟩ => po_some he pins s σ H Q I (by
 unfold pAt at q
 refine ⟨G, P, h, ?_⟩
 cases ed : da G with
 | stuck => rw [ed] at q; exact q.elim
 | exc c => rw [ed] at q; exact q
 | ok t =>
  rw [ed, Res.bind_ok] at q
  cases t <;> try exact q.elim
  exact fun v H' s r => ⟨_, ZM.mp r, q H' s⟩)
theorem ov_cut {lo hi : Option Expr} {dl dh : DP} {p2 : Pos} (ha : EV X W a da) (hl : PV X W lo dl) (hh : PV X W hi dh) : OV X W (.Subscript a (.Slice lo hi none p2) pos) (oCut da dl dh) :=
 ZA (pe_slice sl_list ha hl hh) fun σ H Q ⟨G, P, h, q⟩ => by
  unfold oCut at q
  obtain ⟨q1, q2, q3⟩ := zai q
  refine ZK h q1 q2 fun tx x H1 ex s1 h1 rx => ⟨G, P, h1, ?_⟩
  have q4 := q3 tx ex
  cases el : dl G with
  | stuck => rw [el] at q4; exact q4.elim
  | exc c => rw [el] at q4; exact fun H' s => q4 H' (s1.trans s)
  | ok l =>
   rw [el, Res.bind_ok] at q4
   refine fun H2 s2 => ⟨G, P, h1.same s2, ?_⟩
   cases eh : dh G with
   | stuck => rw [eh] at q4; exact q4.elim
   | exc c => rw [eh] at q4; exact fun H' s => q4 H' ((s1.trans s2).trans s)
   | ok u =>
    rw [eh, Res.bind_ok] at q4
    intro H3 s3
    cases tx <;> try exact q4.elim
    obtain ⟨p, vs, rfl, sl, rs⟩ := ZY.mp (Rl.go (.same (s2.trans s3)) _ x rx)
    exact ⟨p, vs, rfl, sl.sq, fun p hp => q4 p _ _ (((s1.trans s2).trans s3).trans (ZH hp)) (((s1.trans s2).trans s3).free hp) Zp (Qy hp (cut_rls l u rs))⟩
end
end Fx
namespace Fx
open PySem
@[simp] def dRetO (i : Nat) : DS := fun G => match G[i]? with
 | some (.own xs) => .ok (.rt (.list xs))
 | _ => .stuck
@[simp] def asL : PyData -> Res (List PyData)
 | .list xs => .ok xs
 | _ => .stuck
@[simp] def oCall (f : DF) (a : DA) : DA := fun G => (a G).bind fun ts => (f ts).bind asL
def dUnp (st : PyData -> List Sl -> Res (List Sl)) (is : List Nat) (e : DE) : DS := fun G => (e (frz is G)).bind fun t => (st t (if Xl t then G else frz is G)).bind fun G' => .ok (.nx G')
@[simp] theorem dUnp_cons (st : PyData -> List Sl -> Res (List Sl)) (i : Nat) (is : List Nat) (e : DE) (G : List Sl) : dUnp st (i :: is) e G = (e (frz (i :: is) G)).bind fun t => (st t (if Xl t then G else frz (i :: is) G)).bind fun G' => .ok (.nx G') := rfl
@[simp] def set2 (i j : Nat) (G : List Sl) : List PyData -> Res Out
 | [x, y] => .ok (.nx ((G.set i (.val x)).set j (.val y)))
 | _ => .stuck
def dPar (i j : Nat) (is : List Nat) (d : DA) : DS := fun G => (d (frz is G)).bind fun ts => set2 i j (if WK ts then G else frz is G) ts
@[simp] theorem dPar_cons (i j k : Nat) (is : List Nat) (d : DA) (G : List Sl) : dPar i j (k :: is) d G = (d (frz (k :: is) G)).bind fun ts => set2 i j (if WK ts then G else frz (k :: is) G) ts := rfl
end Fx
namespace Fx
open PySem
def lkp (f : Str) : List (PyData × PyData) -> Option PyData
 | [] => none
 | (.str n, t) :: r => if n = f then some t else lkp f r
 | _ => none
def fFld (f : Str) : PyData -> Res PyData
 | .dict kvs => ofO (lkp f kvs)
 | _ => .stuck
def zipK : List Str -> List PyData -> List (PyData × PyData)
 | n :: ns, t :: ts => (.str n, t) :: zipK ns ts
 | _, _ => []
@[simp] def dMk (ns : List Str) (d : DA) : DE := fun G => (d G).bind fun xs => if xs.length = ns.length /\ ns ≠ [] then .ok (.dict (zipK ns xs)) else .stuck
@[simp] def oRep (a : DA) (b : DE) : DA := fun G => (a G).bind fun xs => (b G).bind fun y => match y with
 | .int k => if Xz k = true /\ xs.length * k.toNat <= 16777216 then .ok (List.replicate k.toNat xs).flatten else .stuck
 | _ => .stuck
@[simp] def zeb (a : DA) : DA := fun G => (a G).bind fun xs => if xs.length <= 16777216 then .ok xs else .stuck
def minL (key : PyData -> Res PyData) : PyData -> Int -> List PyData -> Res PyData
 | b, _, [] => .ok b
 | b, m, x :: r => (key x).bind fun y => match y with
  | .int k => if k < m then minL key x k r else minL key b m r
  | _ => .stuck
def minT (key : PyData -> Res PyData) : List PyData -> Res PyData
 | [] => .ok .none
 | x :: r => (key x).bind fun y => match y with
  | .int k => minL key x k r
  | _ => .stuck
@[simp] def dMinK (cap : List Nat) (da : DE) (de : DE) : DE := fun G => (da G).bind fun x => match x with
 | .list xs => minT (fun t => noX (de (.val t :: capS cap G))) xs
 | _ => .stuck
end Fx
namespace Fx
open PySem PySem.Spec PyProof.Rows L2
def PostN (K : PySem.W.Frag) (H : Hp) (P : Pv) (t : PyData) (Q : VK) : Prop := match t with
 | .list xs => ∀ p us H', Same H H' -> H p = none -> H' p = some (.lst us) -> Rls K H' (P.fbd p) xs us -> Q (.ref p) H'
 | t => ∀ v H', Same H H' -> Rl K H' P t v -> Q v H'
def spN (K : PySem.W.Frag) (cl : Option (Str -> Value)) (np : Nat) (f : DF) : Sp := fun vs H Q E => vs.length = np /\ ∃ ts P, Rls K H P ts vs /\ (∀ i, P.own i = none) /\ ((∀ a, P.fb a -> ∃ o, H a = some o /\ LD o) /\ WZ K H) /\
 match f ts with
 | .ok t => PostN K H P t Q
 | .exc c => spX E H c cl
 | .stuck => False
theorem spN_of {K : PySem.W.Frag} {cl : Option (Str -> Value)} {np : Nat} {f : DF} (vs : List V) (H : Hp) (Q : VK) (E : XK) (h : spF K cl np f vs H Q E) : spN K cl np f vs H Q E := by
 obtain ⟨hl, ts, P, rs, ho, hf, q⟩ := h
 refine ⟨hl, ts, P, rs, ho, hf, ?_⟩
 cases e : f ts with
 | stuck => rw [e] at q; exact q
 | exc c => rw [e] at q; exact q
 | ok t =>
  rw [e] at q
  cases t <;> try exact q
  rename_i xs
  exact fun p us H' s hp hl' r => q _ H' s (ZY.mpr ⟨p, us, rfl, .off hl' ⟨fun i z => (by rw [ho i] at z; cases z), fun z => by obtain ⟨o, q', _⟩ := hf.1 p z; rw [hp] at q'; cases q'⟩, Rls.go .fbd xs us r⟩)
theorem fn_new {P : Program} {w : World} {K : PySem.W.Frag} {mg : Str -> Option Value} {base : Heap} {x qual : Str} {st : Stmt} {f : Addr} {fd : FuncData} {N ps : List Str} {k np : Nat} {d : DS} (F : Fun K x qual st f fd) (S : FnScope N ps (Zd st)) (hnp : ps.length = np)
  (hb : ∀ (cdv : Value) (A : Around) (outer : List Env) (s : Shared) (H : Hp) (E : XK), Room k (A.deeper (envOfC qual (Zd st) s.heap.objs.size f cdv)) ->
   SVs (cxOf CX0 P w K mg base N qual (Zd st) f cdv A outer s H E).nox (fun _ _ => False) true (Zl st) d) : FnOk P w K mg base CX0 (k + 1) f fd ps (spN K none np (runQ N.length np d)) := by
 refine F.ok S (fun vs H Q E h => by rw [hnp]; exact h.1) fun cdv A outer s H vs Q E hr h => ⟨_, hb cdv A outer s H E hr, ?_⟩
 obtain ⟨hl, ts, P', rs, ho, hf, q⟩ := h
 have hlt : ts.length = np := by rw [rs.length]; exact hl
 refine ⟨_, P', QP rs ho hf, ?_⟩
 unfold runQ runF at q
 rw [if_pos hlt] at q
 have en : N.length - np = N.length - ts.length := by rw [hlt]
 rw [en] at q
 have sm : ∀ H' P2, Go H P' H' P2 -> Same H H' := fun H' P2 g => g.all ho
 cases e : d (ts.map .val ++ List.replicate (N.length - ts.length) .emp) with
 | stuck => rw [e] at q; exact q.elim
 | exc c => rw [e] at q; exact q.elim
 | ok o =>
  rw [e, Res.bind_ok] at q
  cases o with
  | nx G => exact fun σ' H' P2 g h' => q .non H' (sm H' P2 g) (XG.mpr rfl)
  | rt t =>
   intro v H' P2 g r n
   obtain ⟨p, us, xs, rfl, rfl, e3, rr, fr⟩ := n rfl
   refine q p us H' (sm H' P2 g) ?_ e3 (Rls.go (P := P2.fbd p) (P' := P'.fbd p) (fun b o e _ z => ⟨e, fun i w => (by have w' : P'.own i = some b := w; rw [ho i] at w'; cases w'), fun w => z.2 (Or.elim w (fun w => Or.inl (by rw [g.fbe]; exact w)) Or.inr)⟩) xs us rr)
   cases eh : H p with
   | none => rfl
   | some o =>
    by_cases nt : Nt o
    ·obtain ⟨i, w⟩ := fr o eh nt; rw [ho i] at w; cases w
    ·obtain ⟨ps', rfl⟩ := not_nt nt
     obtain ⟨qs, w⟩ := g.tbk _ _ eh
     rw [e3] at w; cases w
  | bk G => exact q.elim
  | ct G => exact q.elim
structure Cln (P : Program) (w : World) (K : PySem.W.Frag) (mg : Str -> Option Value) (base : Heap) (k : Nat) (x : Str) (np : Nat) (f : DF) : Prop where
 ex : ∃ (fa : Addr) (fd : FuncData) (ps : List Str), FnOk P w K mg base CX0 k fa fd ps (spN K none np f) /\ mg x = some (.ref fa) /\ PySem.W.keepIn K (.ref fa) = true /\ ZF K fd ps []
 nox : ∀ ts c, f ts ≠ .exc c
structure Caln (X : Cx) (W : Str -> Hp -> Prop) (cl : Option (Str -> Value)) (k : Nat) (x : Str) (np : Nat) (f : DF) : Prop where
 ex : ∃ (CX : CXT) (fa : Addr) (fd : FuncData) (ps : List Str), FnOk X.prog X.w X.K X.mg X.base CX k fa fd ps (spN X.K cl np f) /\ X.mg x = some (.ref fa) /\ PySem.W.keepIn X.K (.ref fa) = true /\ ZF X.K fd ps [] /\ Jq CX X (EX cl W)
 nox : cl = none -> ∀ ts c, f ts ≠ .exc c
section
variable {P : Program} {w : World} {K : PySem.W.Frag} {mg : Str -> Option Value} {base : Heap}
theorem Cln.cle {k np : Nat} {x : Str} {f : DF} (C : Cln P w K mg base k x np f) : Cle P w K mg base k x np f := by
 obtain ⟨fa, fd, ps, F, r⟩ := C.ex
 exact ⟨⟨fa, fd, ps, F.imp spN_of, r⟩, C.nox⟩
theorem Cln.mono {j k np : Nat} {x : Str} {f : DF} (C : Cln P w K mg base j x np f) (h : j <= k) : Cln P w K mg base k x np f := by
 obtain ⟨fa, fd, ps, F, r⟩ := C.ex
 exact ⟨⟨fa, fd, ps, F.mono h, r⟩, C.nox⟩
theorem Cln.cal {X : Cx} {W : Str -> Hp -> Prop} {k np : Nat} {x : Str} {f : DF} (C : Cln X.prog X.w X.K X.mg X.base k x np f) : Caln X W none k x np f := by
 obtain ⟨fa, fd, ps, F, hm, hk, hb⟩ := C.ex
 exact ⟨⟨CX0, fa, fd, ps, F, hm, hk, hb, fun _ _ _ _ _ _ _ h => h.elim⟩, fun _ => C.nox⟩
theorem cln_of {x : Str} {st : Stmt} {fa : Addr} {fd : FuncData} {N ps : List Str} {k n np : Nat} {d : DS} (F : Fun K x x st fa fd) (hm : mg x = some (.ref fa)) (b : ZF K fd ps []) (S : FnScope N ps (Zd st)) (hnp : ps.length = np) (hN : N.length = n)
  (hb : ∀ (cdv : Value) (A : Around) (outer : List Env) (s : Shared) (H : Hp) (E : XK), Room k (A.deeper (envOfC x (Zd st) s.heap.objs.size fa cdv)) ->
   SVs (cxOf CX0 P w K mg base N x (Zd st) fa cdv A outer s H E).nox (fun _ _ => False) true (Zl st) d) : Cln P w K mg base (k + 1) x np (runQ n np d) := by
 subst hN
 exact ⟨⟨fa, fd, ps, fn_new F S hnp hb, hm, F.kp, b⟩, fun ts c => zav _ _ _ ts c⟩
end
section
variable {X : Cx} {W : Str -> Hp -> Prop} {fl : Bool} {a b c e : Expr} {es : List Expr} {da db : DE} {pos : Pos}
theorem ov_call {cl : Option (Str -> Value)} {k np : Nat} {x : Str} {f : DF} {d : DA} {p : Pos} (C : Caln X W cl k x np f) (hr : Room k X.A) (hg : Gl X x) (ha : AV X W (e :: es) d) (hL : ∀ G ts, d G = .ok ts -> ts.length = np := by first | exact zfC | exact zfB | exact zfA | exact len_c4) (hdb : (x == ("__debug__" : Str)) = false := by decide)
  (he : starEach (e :: es) X.env = (false, eval e X.env) :: starEach es X.env := by rfl) (hpl : (backTo pos (starEach es X.env)).any (·.1) = false := by rfl) : OV X W (.Call (.Name x p) (e :: es) [] pos) (oCall f d) := by
 obtain ⟨CX, fa, fd, ps, F, hm, hk, hb, hx⟩ := C.ex
 refine ZA (zfo (x := x) (p := p) F hr hg hm hk hb .nil hx ha (hdb := hdb) (he := he) (hpl := hpl)) fun σ H Q ⟨G, P, h, q⟩ => ?_
 unfold oCall at q
 obtain ⟨q1, q2, q3⟩ := zdT q
 refine WI h q1 q2 fun ts vs H1 es' s1 h1 rs => ?_
 have q4 := q3 ts es'
 have el : (vs ++ []) = vs := List.append_nil vs
 rw [el]
 have gg : Tr H1 P H1 ⟨fun _ => none, fun a => ¬ Off P a⟩ := fun a o e1 _ o1 => ⟨e1, fun _ z => (by cases z), fun z => z o1⟩
 refine ⟨by rw [<- rs.length]; exact hL G ts es', ts, ⟨fun _ => none, fun a => ¬ Off P a⟩, Rls.go gg ts vs rs, fun _ => rfl, ⟨fun a z => h1.ld z, h1.tab⟩, ?_⟩
 ·cases e : f ts with
  | ok t =>
   rw [e, Res.bind_ok] at q4
   cases t <;> try exact q4.elim
   rename_i xs
   intro p us H' s hp hl r
   refine q4 p us H' (s1.trans s) (s1.free hp) hl (Rls.go (fun b o eb _ z => ⟨eb, ?_⟩) xs us r)
   have o1 : Off P b := Classical.byContradiction fun w => z.2 (.inl w)
   exact ⟨o1.1, fun w => w.elim o1.2 fun w => z.2 (.inr w)⟩
  | exc c =>
   rw [e] at q4
   cases ec : cl with
   | none => exact absurd e (C.nox ec ts c)
   | some g => exact fun dx H' s => ⟨c, g, rfl, rfl, q4 H' (s1.trans s)⟩
  | stuck => rw [e] at q4; exact q4
theorem ss_retO (i : Nat) {x : Str} {p : Pos} (hN : X.N[i]? = some x := by rfl) (hv : Vis X.env.scope x := by first | exact Or.inl rfl | exact Or.inr (Or.inl rfl) | exact Or.inr (Or.inr rfl)) (hd : (x == ("__debug__" : Str)) = false := by decide)
  (hcd : (x == ("__classdict__" : Str)) = false := by decide) : SV X W fl (.Return (some (.Name x p)) pos) (dRetO i) :=
 X3 (ps_ret (zbD hN hv hd hcd)) fun D σ H ⟨G, P, h, q⟩ => by
  unfold dRetO at q
  obtain ⟨h', g⟩ := h.frzA
  cases e : G[i]? with
  | none => rw [e] at q; exact q.elim
  | some s =>
   rw [e] at q
   cases s with
   | emp => exact q.elim
   | val t => exact q.elim
   | dct xs => exact q.elim
   | own xs =>
    obtain ⟨p', vs, e1, e2, e3, r⟩ := h.sl i _ e
    have z : (frzA G)[i]? = some (.val (.list xs)) := by rw [WQ, e]; rfl
    obtain ⟨v, e4, r2⟩ := h'.sl i _ z
    rw [e1] at e4
    cases e4
    exact ⟨.ref p', getD_some e1, q _ H P.bare g r2 fun _ => ⟨p', vs, xs, rfl, rfl, e3, Rls.go (P := P) (P' := P.bare.fbd p') (fun a o ea _ o1 => ⟨ea, fun j w => (by cases w), fun w => Or.elim w o1.2 fun w => o1.1 i (by rw [e2, w])⟩) xs vs r, fun o _ _ => ⟨i, e2⟩⟩⟩
end
end Fx
namespace Lw
open PySem Fx
def W5 : DS :=
  (dRet (dC (.bool true)))
def W6 : DS :=
  dSeq (dFor (Zt 2) [] (iSeq (dVar 0))
  (dIf (tNot (tV (Zk ZG (Zc (dVar 2) dNil))))
  (dRet (dC (.bool false)))
  Z1))
  W5
def VP : DS :=
  dSeq (dIf (tOr (tNot (tV (d1 (fIs isList) (dVar 0)))) (tV (d2 fNe (d1 fLen (dVar 0)) (dVar 1))))
  (dRet (dC (.bool false)))
  Z1)
  W6
def Yd : DF := runQ 3 2 VP
def Wj : DS :=
  (dRet (dC (.bool true)))
def Wk : DS :=
  dSeq (dFor (Zt 2) [] (iSeq (dVar 0))
  (dIf (tV (d2 fLt (d2 fIx (dVar 2) (dC (.int 0))) (dC (.int 0))))
  (dRet (dC (.bool false)))
  Z1))
  Wj
def W7 : DS :=
  dSeq (dIf (tNot (tV (Zk Yd (Zc (dVar 0) (Zc (dVar 1) dNil)))))
  (dRet (dC (.bool false)))
  Z1)
  Wk
def Yn : DF := runQ 3 2 W7
end Lw
namespace Lw
open PySem Fx
theorem QN {ps : List Rat} {k : Nat} (h : ps.length = k) : Yd [.list (ps.map fr), .int k] = .ok (.bool true) := by
 obtain ⟨G', e, hG⟩ := WR (st := Zt 2) (b := (dIf (tNot (tV (Zk ZG (Zc (dVar 2) dNil)))) (dRet (dC (.bool false))) Z1))
  (fun _ G => ∃ s, G = [.val (.list (ps.map fr)), .val (.int k), s]) (ps.map fr) 0 [.val (.list (ps.map fr)), .val (.int k), .emp] ⟨.emp, rfl⟩ fun i x G hx ⟨s, hG⟩ => by
   subst hG
   rw [List.getElem?_map] at hx
   cases hz : ps[i]? with
   | none => rw [hz] at hx; cases hx
   | some q =>
    rw [hz] at hx
    cases hx
    exact ⟨_, rfl, [.val (.list (ps.map fr)), .val (.int k), .val (fr q)], .inl (by simp [zfL]), ⟨_, rfl⟩⟩
 obtain ⟨s, rfl⟩ := hG
 simp [Yd, runQ, runF, VP, W6, W5, fNe, h, e]
theorem zbd {ss : List Rat} {k : Nat} (h : ss.length = k) (hn : ∀ s ∈ ss, 0 <= s) : Yn [.list (ss.map fr), .int k] = .ok (.bool true) := by
 obtain ⟨G', e, hG⟩ := WR (st := Zt 2) (b := (dIf (tV (d2 fLt (d2 fIx (dVar 2) (dC (.int 0))) (dC (.int 0)))) (dRet (dC (.bool false))) Z1))
  (fun _ G => ∃ s, G = [.val (.list (ss.map fr)), .val (.int k), s]) (ss.map fr) 0 [.val (.list (ss.map fr)), .val (.int k), .emp] ⟨.emp, rfl⟩ fun i x G hx ⟨s, hG⟩ => by
   subst hG
   rw [List.getElem?_map] at hx
   cases hz : ss[i]? with
   | none => rw [hz] at hx; cases hx
   | some q =>
    rw [hz] at hx
    cases hx
    have z : ¬ (q.num < 0) := by
     have := Rat.num_nonneg.mpr (hn q (List.mem_of_getElem? hz))
     omega
    exact ⟨_, rfl, [.val (.list (ss.map fr)), .val (.int k), .val (fr q)], .inl (by simp [fr, at0, z]), ⟨_, rfl⟩⟩
 obtain ⟨s, rfl⟩ := hG
 simp [Yn, runQ, runF, W7, Wk, Wj, QN h, e]
def colN (j : Nat) (l : Lim) : Int := l.1.getD j 0
def zcX (ls : List Lim) (ss : List Rat) : Rat := dot (ls.map (·.2)) ss
theorem zbB {α : Type} (f : Nat -> α) (k j : Nat) (v : α) : ((List.range k).map f).set j v = (List.range k).map fun i => if i = j then v else f i := by
 apply List.ext_getElem
 ·simp
 ·intro n h1 h2
  simp at h1 h2 ⊢
  rw [List.getElem_set]
  by_cases e : j = n
  ·subst e; simp
  ·simp [e, Ne.symm e]
end Lw
namespace Fx
open PySem PySem.Spec PyProof.Rows L2
section
variable {K : PySem.W.Frag} {H H' : Hp} {P P' : Pv}
theorem zfe {C : Addr} {f : Str} {t : PyData} : ∀ {kvs : List (PyData × PyData)} {fs : List (Str × V)}, Rlp K H P C kvs fs -> lkp f kvs = some t -> ∃ v, fs.lookup f = some v /\ Wl K C f /\ Rl K H P t v
 | [], fs, _, e => by simp [lkp] at e
 | (k, u) :: r, fs, h, e => by
  obtain ⟨n, v, r', rfl, rfl, na, rv, rr⟩ := zc8.mp h
  simp only [lkp] at e
  split at e
  ·rename_i z
   cases e
   subst z
   exact ⟨v, by rw [List.lookup_cons, beq_self_eq_true], na, rv⟩
  ·rename_i z
   obtain ⟨v', e1, e2, e3⟩ := zfe rr e
   refine ⟨v', ?_, e2, e3⟩
   rw [List.lookup_cons, show (f == n) = false from beq_eq_false_iff_ne.mpr fun q => z q.symm]
   exact e1
theorem zfc {C : Addr} : ∀ {ns : List Str} {ts : List PyData} {vs : List V}, (∀ n ∈ ns, Wl K C n) -> Rls K H P ts vs -> Rlp K H P C (zipK ns ts) (ns.zip vs)
 | [], ts, vs, _, _ => by simp only [zipK, List.zip_nil_left]; exact zfd.mpr rfl
 | n :: ns, [], vs, _, r => by rw [ZQ.mp r]; simp only [zipK, List.zip_nil_right]; exact zfd.mpr rfl
 | n :: ns, t :: ts, vs, h, r => by
  obtain ⟨v, r', rfl, a, b⟩ := Zv.mp r
  simp only [zipK, List.zip_cons_cons]
  exact zc8.mpr ⟨n, v, _, rfl, rfl, h n (by simp), a, zfc (fun m hm => h m (by simp [hm])) b⟩
end
def spI (C : Addr) (ns : List Str) : Sp := fun vs H Q _ => ∃ x dx us, vs = .ref x :: us /\ us.length = ns.length /\ H x = some (.ins C dx []) /\ Q .non (upd H x (.ins C dx (ns.zip us)))
theorem spI_len {C : Addr} {ns : List Str} {vs : List V} {H : Hp} {Q : VK} {E : XK} (h : spI C ns vs H Q E) : vs.length = ns.length + 1 := by
 obtain ⟨x, dx, us, rfl, hl, _⟩ := h
 simp [hl]
theorem spI3 {C : Addr} {n1 n2 n3 : Str} {vs : List V} {H : Hp} {Q : VK} {E : XK} (h : spI C [n1, n2, n3] vs H Q E) : ∃ x dx u1 u2 u3, vs = [.ref x, u1, u2, u3] /\ H x = some (.ins C dx []) /\ Q .non (upd H x (.ins C dx [(n1, u1), (n2, u2), (n3, u3)])) := by
 obtain ⟨x, dx, us, rfl, hl, hx, q⟩ := h
 match us, hl with
 | [u1, u2, u3], _ => exact ⟨x, dx, u1, u2, u3, rfl, hx, q⟩
theorem putF3 {n1 n2 n3 : Str} {u1 u2 u3 : V} (h12 : ¬ n1 = n2) (h13 : ¬ n1 = n3) (h23 : ¬ n2 = n3) : putF n3 u3 (putF n2 u2 (putF n1 u1 [])) = [(n1, u1), (n2, u2), (n3, u3)] := by
 show putF n3 u3 (putF n2 u2 [(n1, u1)]) = _
 show putF n3 u3 (if n1 = n2 then _ else (n1, u1) :: [(n2, u2)]) = _
 rw [if_neg h12]
 show (if n1 = n3 then _ else (n1, u1) :: (if n2 = n3 then _ else (n2, u2) :: [(n3, u3)])) = _
 rw [if_neg h13, if_neg h23]
structure Mko (P : Program) (w : World) (K : PySem.W.Frag) (mg : Str -> Option Value) (base : Heap) (k : Nat) (x : Str) (ns : List Str) : Prop where
 ex : ∃ (C f : Addr) (fd : FuncData) (ps : List Str), L2.Mk K C f /\ FnOk P w K mg base CX0 k f fd ps (spI C ns) /\ mg x = some (.ref C) /\ ZF K fd ps [] /\ Cls K C /\ ∀ n ∈ ns, Wl K C n
theorem Mko.mono {P : Program} {w : World} {K : PySem.W.Frag} {mg : Str -> Option Value} {base : Heap} {j k : Nat} {x : Str} {ns : List Str} (M : Mko P w K mg base j x ns) (h : j <= k) : Mko P w K mg base k x ns := by
 obtain ⟨C, f, fd, ps, m, F, r⟩ := M.ex
 exact ⟨C, f, fd, ps, m, F.mono h, r⟩
section
variable {X : Cx} {W : Str -> Hp -> Prop} {fl : Bool} {a b c e : Expr} {es : List Expr} {da db : DE} {pos : Pos}
theorem Yb {f : Str} (ha : EV X W a da) (hb : attributeBase a f X.env (eval a X.env) = eval a X.env := by rfl) : EV X W (.Attribute a f pos) (d1 (fFld f) da) :=
 ZA (pe_fld ha hb) fun σ H Q ⟨G, P, h, q⟩ => by
  unfold d1 at q
  obtain ⟨q1, q2, q3⟩ := Qk q
  refine ZK h q1 q2 fun tx x H1 ex s1 h1 rx => ?_
  have q4 := YY.up (q3 tx ex) s1
  cases tx <;> try exact q4.elim
  rename_i kvs
  cases kvs with
  | nil => exact q4.elim
  | cons y ys =>
   obtain ⟨k, w⟩ := y
   cases k <;> try exact (show False from q4).elim
   rename_i sk
   obtain ⟨a, C, dx, fs, rfl, ha, off, cl, r⟩ := rl_obj.mp rx
   simp only [fFld] at q4
   cases el : lkp f ((.str sk, w) :: ys) with
   | none => rw [el] at q4; exact q4.elim
   | some t =>
    rw [el] at q4
    obtain ⟨v, hv, na, rv⟩ := zfe r el
    exact ⟨a, C, dx, fs, v, rfl, ha, cl, na, hv, q4 v H1 (Same.refl _) rv⟩
theorem zfZ {k : Nat} {x : Str} {ns : List Str} {d : DA} {p : Pos} (M : Mko X.prog X.w X.K X.mg X.base k x ns) (hr : Room (k + 1) X.A) (hg : Gl X x) (ha : AV X W (e :: es) d) (hdb : (x == ("__debug__" : Str)) = false := by decide)
  (he : starEach (e :: es) X.env = (false, eval e X.env) :: starEach es X.env := by rfl) (hpl : (backTo pos (starEach es X.env)).any (·.1) = false := by rfl) : EV X W (.Call (.Name x p) (e :: es) [] pos) (dMk ns d) := by
 obtain ⟨C, f, fd, ps, m, F, hm, hb, cl, na⟩ := M.ex
 refine ZA (pe_make (x := x) (p := p) (E := E0) m F hr hg hm hb .nil pass0 ha (hdb := hdb) (he := he) (hpl := hpl)) fun σ H Q ⟨G, P, h, q⟩ => ?_
 unfold dMk at q
 obtain ⟨q1, q2, q3⟩ := zdU q
 refine WI h q1 q2 fun ts vs H1 es' s1 h1 rs => ?_
 have q4 := YY.up (q3 ts es') s1
 split at q4
 ·rename_i hl
  intro x dx hx hdx hne
  have sm : Same H1 (upd (upd (upd H1 dx (.own x)) x (.ins C dx [])) x (.ins C dx (ns.zip vs))) := .of fun b o e => by
   rw [Zs (Zw e hx), Zs (Zw e hx), Zs (Zw e hdx)]; exact e
  refine ⟨x, dx, vs ++ [], rfl, by rw [List.append_nil, <- rs.length]; exact hl.1, Zp, rfl, ?_⟩
  rw [List.append_nil]
  refine q4 _ _ sm ?_
  obtain ⟨hl, hn⟩ := hl
  have rz := zfc (K := X.K) (C := C) (ns := ns) na (Rls.go (.same sm) ts vs rs)
  cases ns with
  | nil => exact absurd rfl hn
  | cons n ns =>
   cases ts with
   | nil => simp at hl
   | cons t ts => exact rl_obj.mpr ⟨x, C, dx, _, rfl, Zp, h1.off_new hx, cl, rz⟩
 ·exact q4.elim
theorem zdv {K : PySem.W.Frag} {H : Hp} {P : Pv} {ts : List PyData} {vs : List V} (r : Rls K H P ts vs) : ∀ n : Nat, Rls K H P (List.replicate n ts).flatten (List.replicate n vs).flatten
 | 0 => ZQ.mpr rfl
 | n + 1 => by
  rw [List.replicate_succ, List.flatten_cons, List.replicate_succ, List.flatten_cons]
  exact r.append (zdv r n)
theorem zfq {dl : DA} (ha : OV X W a dl) (hb : EV X W b db) : OV X W (.BinOp a .Mult b pos) (oRep dl db) :=
 ZA (pe_op op_rep ha hb) fun σ H Q ⟨G, P, h, q⟩ => by
  unfold oRep at q
  obtain ⟨q1, q2, q3⟩ := zdT q
  refine ⟨G, P, h, ?_⟩
  cases el : dl G with
  | stuck => exact absurd el q2
  | exc c => exact fun H' s => q1 c el H' s
  | ok xs =>
   intro p vs H1 s1 hp hl rl
   obtain ⟨q4, q5, q6⟩ := zai (q3 xs el)
   refine ZK (h.same s1) (fun c e H' s => q4 c e H' (s1.trans s)) q5 fun ty y H2 ey s2 h2 ry => ?_
   have q7 := q6 ty ey
   cases ty <;> try exact q7.elim
   rename_i k
   simp only at q7
   split at q7
   ·rename_i hz
    have hb1 := VC hz.1
    have el2 := rl.length
    refine ⟨p, k, vs, rfl, ZM.mp ry, s2.kp _ _ hl QH, by omega, by omega, by rw [sizeLine_eq, <- el2]; exact hz.2, fun p2 hp2 => ?_⟩
    refine q7 p2 _ _ ((s1.trans s2).trans (ZH hp2)) ((s1.trans s2).free hp2) Zp ?_
    exact Qy hp2 (zdv (Rls.go (P := P.fbd p) (P' := P) .fbd _ _ (Rls.go (.same s2) _ _ rl)) k.toNat)
   ·exact q7.elim
theorem zez : ∀ {xs : List V} {us : List Value}, xs.length = us.length -> (∀ (i : Nat) x u, xs[i]? = some x -> us[i]? = some u -> RelV x u) -> Vals xs us
 | [], [], _, _ => .nil
 | [], u :: us, h, _ => by simp at h
 | x :: xs, [], h, _ => by simp at h
 | x :: xs, u :: us, h, r => .cons (r 0 x u rfl rfl) (zez (by simpa using h) fun i y v e1 e2 => r (i + 1) y v (by simpa using e1) (by simpa using e2))
theorem UK (hc : X.calm = true) : Jr X (.type "list") (fun xs H Q => ∃ r lo hi, xs = [.ref r] /\ H r = some (.rng lo hi) /\ -(2 ^ 62) <= lo /\ lo < 2 ^ 62 /\ -(2 ^ 62) <= hi /\ hi < 2 ^ 62 /\ (hi - lo).toNat <= 16777216 /\
  ∀ l, H l = none -> Q (.ref l) (upd H l (.lst ((List.range (hi - lo).toNat).map fun (i : Nat) => V.int (lo + (i : Int)))))) := by
 intro pins s σ H xs us Q I r h
 obtain ⟨p, lo, hi, rfl, hp, h1, h2, h3, h4, hz, q⟩ := h
 obtain ⟨u, rfl, rx⟩ := zaj r
 cases rx
 obtain ⟨t, u, v, e⟩ := (show ∃ t u v, s.heap.get? p = some { cls := .type "range", data := .fields #[.int lo t, .int hi u, .int 1 v] } from I.hok p _ hp)
 refine call_list_range (n := (hi - lo).toNat) (I.ok.hd hc) (show IsRange s.heap p lo hi 1 t u v from e) (small_one h1 h2 h3 h4) (by rw [rangeSize_one]; split <;> omega) hz fun h' tk acc c' kp ea it => ?_
 have rv : Vals ((List.range (hi - lo).toNat).map fun (i : Nat) => V.int (lo + (i : Int))) acc.toList := by
  refine zez (by rw [List.length_map, List.length_range, Array.length_toList, it.1]) fun i x u e1 e2 => ?_
  rw [List.getElem?_map] at e1
  cases ei : (List.range (hi - lo).toNat)[i]? with
  | none => rw [ei] at e1; cases e1
  | some j =>
   rw [ei] at e1
   obtain ⟨hj, ej⟩ := List.getElem?_eq_some_iff.mp ei
   rw [List.getElem_range] at ej
   subst ej
   cases e1
   obtain ⟨t, rfl⟩ := it.2 i u (by simpa using e2)
   exact ⟨t, by rw [Int.mul_one]⟩
 refine ⟨.ref s.heap.objs.size, _, I.laid (t' := tk) kp (Nat.le_refl _) (show Vc X.prog X.w _ h' _ (.lst _) from ⟨by rw [List.length_map, List.length_range, sizeLine_eq]; exact hz, acc.toList, c', rv, by simpa using ea⟩), rfl, q _ (I.hok.fresh (Nat.le_refl _))⟩
theorem zdS : Jr X (.type "range") (fun xs H Q => (∃ j, xs = [.int j] /\ ∀ r, H r = none -> Q (.ref r) (upd H r (.rng 0 j))) \/ (∃ i j, xs = [.int i, .int j] /\ ∀ r, H r = none -> Q (.ref r) (upd H r (.rng i j)))) := by
 intro pins s σ H xs us Q I r h
 rcases h with ⟨j, rfl, q⟩ | ⟨i, j, rfl, q⟩
 ·obtain ⟨u, rfl, t, rfl⟩ := zaj r
  refine call_range_1 ⟨.ref s.heap.objs.size, _, I.laid (fun b o e => Heap.get?_push_of_some _ e) (Nat.le_refl _) (show Vc X.prog X.w _ _ _ (.rng 0 j) from ⟨_, _, _, Heap.get?_push_size _ rfl⟩), rfl, q _ (I.hok.fresh (Nat.le_refl _))⟩
 ·cases r with
  | cons r1 rr =>
   cases rr with
   | cons r2 rr =>
    cases rr
    obtain ⟨t, rfl⟩ := r1
    obtain ⟨t', rfl⟩ := r2
    refine call_range_2 ⟨.ref s.heap.objs.size, _, I.laid (fun b o e => Heap.get?_push_of_some _ e) (Nat.le_refl _) (show Vc X.prog X.w _ _ _ (.rng i j) from ⟨_, _, _, Heap.get?_push_size _ rfl⟩), rfl, q _ (I.hok.fresh (Nat.le_refl _))⟩
theorem zc6 {K : PySem.W.Frag} {H : Hp} {P : Pv} (lo : Int) (n : Nat) : Rls K H P (rngT lo n) ((List.range n).map fun (i : Nat) => V.int (lo + (i : Int))) := by
 unfold rngT
 have : ∀ l : List Nat, Rls K H P (l.map fun (k : Nat) => .int (lo + (k : Int))) (l.map fun (i : Nat) => V.int (lo + (i : Int))) := by
  intro l
  induction l with
  | nil => exact ZQ.mpr rfl
  | cons x l ih => exact Zv.mpr ⟨_, _, rfl, ZM.mpr rfl, ih⟩
 exact this _
theorem ov_rng1 {p p2 pos2 : Pos} (hg : Gl X "list") (hm : X.mg "list" = none) (hg2 : Gl X "range") (hm2 : X.mg "range" = none) (ha : EV X W a da) (hc : X.calm = true := by rfl) (hs : starEach [a] X.env = (false, eval a X.env) :: starEach [] X.env := by rfl)
  (hs2 : starEach [.Call (.Name "range" p2) [a] [] pos2] X.env = (false, eval (.Call (.Name "range" p2) [a] [] pos2) X.env) :: starEach [] X.env := by rfl) : OV X W (.Call (.Name "list" p) [.Call (.Name "range" p2) [a] [] pos2] [] pos) (zeb (iRng da)) :=
 ZA (WA (UK hc) hg hm (show bootBuiltins "list" = some (.type "list") by decide +kernel) (Yk (WA zdS hg2 hm2 boot_range (Yk ha XM hs) (he := hs)) XM hs2) (he := hs2)) fun σ H Q ⟨G, P, h, q⟩ => by
  unfold zeb iRng at q
  obtain ⟨q1, q2, q3⟩ := zai (show zcR X.K W H P ((da G).bind fun x => ((match x with
   | .int j => if Xz j = true then .ok (rngT 0 j.toNat) else .stuck
   | _ => .stuck : Res (List PyData)).bind fun xs => if xs.length <= 16777216 then .ok xs else .stuck)) Q by
    cases e : da G <;> rw [e] at q <;> exact q)
  refine ZK h q1 q2 fun tx x H1 ex s1 h1 rx => ?_
  have q4 := q3 tx ex
  cases tx <;> try exact q4.elim
  rename_i j
  simp only at q4
  split at q4
  ·rename_i hj
   rw [Res.bind_ok] at q4
   split at q4
   ·rename_i hz
    have hb := VC hj
    have hl : (rngT 0 j.toNat).length = j.toNat := by simp [rngT]
    refine .inl ⟨j, by rw [ZM.mp rx], fun r hr => ⟨r, 0, j, rfl, Zp, by omega, by omega, by omega, by omega, by rw [Int.sub_zero, <- hl]; exact hz, fun l hl' => ?_⟩⟩
    have s2 : Same H (upd H1 r (.rng 0 j)) := s1.trans (ZH hr)
    rw [Int.sub_zero]
    exact q4 l _ _ (s2.trans (ZH hl')) (s2.free hl') Zp (zc6 0 j.toNat)
   ·exact q4.elim
  ·exact q4.elim
theorem ov_rng2 {p p2 pos2 : Pos} (hg : Gl X "list") (hm : X.mg "list" = none) (hg2 : Gl X "range") (hm2 : X.mg "range" = none) (ha : EV X W a da) (hb : EV X W b db) (hc : X.calm = true := by rfl) (hs : starEach [a, b] X.env = (false, eval a X.env) :: starEach [b] X.env := by rfl)
  (hs3 : starEach [b] X.env = (false, eval b X.env) :: starEach [] X.env := by rfl) (hpl : (backTo pos2 (starEach [b] X.env)).any (·.1) = false := by rfl)
  (hs2 : starEach [.Call (.Name "range" p2) [a, b] [] pos2] X.env = (false, eval (.Call (.Name "range" p2) [a, b] [] pos2) X.env) :: starEach [] X.env := by rfl) : OV X W (.Call (.Name "list" p) [.Call (.Name "range" p2) [a, b] [] pos2] [] pos) (zeb (iRng2 da db)) :=
 ZA (WA (UK hc) hg hm (show bootBuiltins "list" = some (.type "list") by decide +kernel) (Yk (WA zdS hg2 hm2 boot_range (Yk ha (Yk hb XM hs3) hs) (he := hs) (hpl := hpl)) XM hs2) (he := hs2)) fun σ H Q ⟨G, P, h, q⟩ => by
  unfold zeb iRng2 at q
  obtain ⟨q1, q2, q3⟩ := zai (show zcR X.K W H P ((da G).bind fun x => (db G).bind fun y => ((match x, y with
   | .int i, .int j => if Xz i = true /\ Xz j = true then .ok (rngT i (j - i).toNat) else .stuck
   | _, _ => .stuck : Res (List PyData)).bind fun xs => if xs.length <= 16777216 then .ok xs else .stuck)) Q by
    cases e : da G <;> rw [e] at q <;> cases e2 : db G <;> rw [e2] at q <;> exact q)
  refine ZK h q1 q2 fun tx x H1 ex s1 h1 rx => ?_
  obtain ⟨q4, q5, q6⟩ := zai (q3 tx ex)
  refine ZK h1 (fun c e H' s => q4 c e H' (s1.trans s)) q5 fun ty y H2 ey s2 h2 ry => ?_
  have q7 := q6 ty ey
  cases tx <;> cases ty <;> try exact q7.elim
  rename_i i j
  simp only at q7
  split at q7
  ·rename_i hj
   rw [Res.bind_ok] at q7
   split at q7
   ·rename_i hz
    have hb1 := VC hj.1
    have hb2 := VC hj.2
    have hl : (rngT i (j - i).toNat).length = (j - i).toNat := by simp [rngT]
    refine .inr ⟨i, j, by rw [ZM.mp rx, ZM.mp ry], fun r hr => ⟨r, i, j, rfl, Zp, by omega, by omega, by omega, by omega, by rw [<- hl]; exact hz, fun l hl' => ?_⟩⟩
    have s3 : Same H (upd H2 r (.rng i j)) := (s1.trans s2).trans (ZH hr)
    exact q7 l _ _ (s3.trans (ZH hl')) (s3.free hl') Zp (zc6 i (j - i).toNat)
   ·exact q7.elim
  ·exact q7.elim
theorem isN_b (t : PyData) : ∃ k, fIsN t = .ok (.bool k) := by cases t <;> exact ⟨_, rfl⟩
theorem notN_b (t : PyData) : ∃ k, JD t = .ok (.bool k) := by cases t <;> exact ⟨_, rfl⟩
theorem tv_of1 {f : PyData -> Res PyData} (hf : ∀ t, ∃ k, f t = .ok (.bool k)) {σ : L2.St} {H : Hp} {Q : Bool -> Hp -> Prop} (h : tFT X.K W (tV (d1 f da)) σ H Q) : tF X.K W (d1 f da) σ H fun x H1 => ∃ c, x = .bl c /\ Q c H1 := by
 obtain ⟨G, P, h, q⟩ := h
 refine ⟨G, P, h, ?_⟩
 unfold tV at q
 cases e : d1 f da G with
 | stuck => rw [e] at q; exact q
 | exc c => rw [e] at q; exact q
 | ok t =>
  rw [e] at q
  have hb : ∃ k, t = .bool k := by
   unfold d1 at e
   cases e1 : da G with
   | stuck => rw [e1] at e; cases e
   | exc c => rw [e1] at e; cases e
   | ok tx =>
    rw [e1, Res.bind_ok] at e
    obtain ⟨k, e3⟩ := hf tx
    rw [e3] at e
    cases e
    exact ⟨k, rfl⟩
  obtain ⟨k, rfl⟩ := hb
  exact fun v H' s r => ⟨k, YL.mp r, q H' s⟩
theorem zeB {j pos'} (ha : EV X W a da) : TV X W (.Compare a [.Is] [.Constant .none j pos'] pos) (tV (d1 fIsN da)) := by
 intro pins s σ H Q I h
 refine pt_cmp (t := tF X.K W (d1 fIsN da)) (fun pins s σ H Q I h => ?_) (by first | exact zaJ _ (by decide) (by decide) | rfl) pins s σ H Q I (tv_of1 isN_b h)
 exact pc_isN ha pins s σ H Q I (by
  obtain ⟨G, P, h, q⟩ := h
  unfold d1 at q
  obtain ⟨q1, q2, q3⟩ := Qk q
  refine ZK h q1 q2 fun tx x H1 ex s1 h1 rx => ?_
  have q4 := YY.up (q3 tx ex) s1
  cases tx with
  | none => rw [XG.mp rx]; exact ZR q4
  | bool b => rw [YL.mp rx]; exact ZR q4
  | int b => rw [ZM.mp rx]; exact ZR q4
  | str b => rw [Qz.mp rx]; exact ZR q4
  | list b => obtain ⟨l, us, rfl, _⟩ := ZY.mp rx; exact ZR q4
  | tuple b => obtain ⟨l, us, rfl, _⟩ := Z8.mp rx; exact ZR q4
  | dict b => rcases zcj.mp rx with ⟨_, l, rfl, _⟩ | ⟨_, l, _, _, _, rfl, _⟩ | ⟨l, _, _, rfl, _⟩ <;> exact ZR q4)
theorem zak {j pos'} (ha : EV X W a da) : TV X W (.Compare a [.IsNot] [.Constant .none j pos'] pos) (tV (d1 JD da)) := by
 intro pins s σ H Q I h
 refine pt_cmp (t := tF X.K W (d1 JD da)) (fun pins s σ H Q I h => ?_) (by first | exact zaJ _ (by decide) (by decide) | rfl) pins s σ H Q I (tv_of1 notN_b h)
 exact pc_notN ha pins s σ H Q I (by
  obtain ⟨G, P, h, q⟩ := h
  unfold d1 at q
  obtain ⟨q1, q2, q3⟩ := Qk q
  refine ZK h q1 q2 fun tx x H1 ex s1 h1 rx => ?_
  have q4 := YY.up (q3 tx ex) s1
  cases tx with
  | none => rw [XG.mp rx]; exact ZR q4
  | bool b => rw [YL.mp rx]; exact ZR q4
  | int b => rw [ZM.mp rx]; exact ZR q4
  | str b => rw [Qz.mp rx]; exact ZR q4
  | list b => obtain ⟨l, us, rfl, _⟩ := ZY.mp rx; exact ZR q4
  | tuple b => obtain ⟨l, us, rfl, _⟩ := Z8.mp rx; exact ZR q4
  | dict b => rcases zcj.mp rx with ⟨_, l, rfl, _⟩ | ⟨_, l, _, _, _, rfl, _⟩ | ⟨l, _, _, rfl, _⟩ <;> exact ZR q4)
end
end Fx
namespace Fx
open PySem PySem.Spec PyProof.Rows L2
abbrev zdo (qual : Str) (scope : Scope) (L f : Addr) (cd : Value) (cl : List (Str × Addr)) : Env :=
 { scope := scope, locals := L, globals := mainGlobals, cells := cl, qual := qual ++ ".<locals>.", func := some f, code := cd, frame := some L, builtins := builtinsNs }
def cxL (X : Cx) (qual : Str) (scope : Scope) (N : List Str) (s₀ : Shared) (H₀ : Hp) (f : Addr) (cd : Value) : Cx :=
 { X with env := zdo qual scope s₀.heap.objs.size f cd (ZU X.env scope.names []), A := X.A.deeper (zdo qual scope s₀.heap.objs.size f cd (ZU X.env scope.names [])), N := N, s₀ := s₀, H₀ := H₀, outer := X.stack, stack := zdo qual scope s₀.heap.objs.size f cd (ZU X.env scope.names []) :: X.stack, ex := [], fn := fun _ => false, pn := [], xe := fun _ _ => False }
structure LamOk (X : Cx) (scope : Scope) (N : List Str) (y : Str) (cap : List Nat) : Prop where
 cell : ∀ z ∈ scope.names, z.2 ≠ .cell
 kind : scope.kind = .function
 co : scope.isCoroutine = false
 gen : scope.isGenerator = false
 par : scope.names.lookup y = some .local
 free : ∀ z ∈ scope.names, z.2 = .free -> X.env.kindOf z.1 = some .cell \/ X.env.kindOf z.1 = some .free
 head : N[0]? = some y
 len : N.length = 1 + cap.length
 caps : ∀ (i j : Nat) (x : Str), cap[i]? = some j -> N[1 + i]? = some x -> X.N[j]? = some x /\ (scope.names.lookup x = some .cell \/ scope.names.lookup x = some .free) /\ (X.env.kindOf x = some .cell \/ X.env.kindOf x = some .free)
def lamS (cap : List Nat) (σ : L2.St) (v : V) : L2.St := some v :: cap.map fun j => σ.getD j none
section
variable {X : Cx} {qual : Str} {scope : Scope} {N : List Str} {y : Str} {cap : List Nat} {pins : List (Addr × Obj)} {σ : L2.St} {H : Hp} {s : Shared} {f : Addr} {cd : Value}
theorem LamOk.has (C : LamOk X scope N y cap) (ok : X.Ok) : ∀ z ∈ scope.names, z.2 = .free -> ∃ c, X.env.cells.lookup z.1 = some c := fun z hz e => ok.has z.1 (C.free z hz e)
theorem zfE (C : LamOk X scope N y cap) (I : Inv X pins σ H s) {h' : Heap} {t : Nat} {v : V} {u : Value} (rv : RelV v u) (hn : h'.Ns s.heap.objs.size (fun x => [(y, u)].reverse.lookup x)) (hk : ∀ b o, s.heap.get? b = some o -> h'.get? b = some o) :
  Inv (cxL X qual scope N s H f cd) [] (lamS cap σ v) H { s with heap := h', toks := t } := by
 have hh := C.has I.ok
 have sub := VH X.env scope.names [] hh (fun x c e => by cases e)
 refine ⟨⟨I.ok.mod, C.kind, rfl, rfl, Nat.le_refl _, fun x z c h1 h2 => I.ok.inj x z c (sub x c h1) (sub z c h2), fun x hx => ?_, fun x c h => ?_, I.ok.hd, Around.frames_deeper I.ok.frames, .inr ⟨rfl, rfl⟩, fun b hb => ?_, fun b o e => I.bs b o e, Nat.le_trans I.ok.bsz I.sz, fun b o e hb => ?_, fun b hb => ?_, I.stack, I.stkFree⟩,
  rfl, I.bare, Un.kept hk, ⟨_, hn, fun i x w e1 e2 e3 => ?_⟩, fun x c e => ?_, I.hok.fresh (Nat.le_refl _), fun x c e => I.freeC x c (sub x c e), fun p hp => ?_, I.hok.kept hk, ?_⟩
 ·have hx' : scope.names.lookup x = some .cell \/ scope.names.lookup x = some .free := hx
  rcases hx' with hx' | hx'
  ·exact absurd rfl (C.cell _ (Yc hx'))
  ·obtain ⟨c, hc⟩ := WF X.env scope.names [] x (.inr (Yc hx'))
   exact YO hc
 ·cases h
 ·exact absurd (show b ∈ ([] : List Addr) from hb) (by simp)
 ·exact absurd (show b ∈ ([] : List Addr) from hb) (by simp)
 ·exact absurd (show b ∈ ([] : List Addr) from hb) (by simp)
 ·-- the names
  cases i with
  | zero =>
   have e2' : some (some v) = some (some w) := e2
   cases e2'
   have e1' : N[0]? = some x := e1
   rw [C.head] at e1'
   cases e1'
   refine ⟨u, rv, .inl ⟨C.par, ?_⟩⟩
   show List.lookup y [(y, u)] = some u
   rw [List.lookup_cons, beq_self_eq_true]
  | succ k =>
   have e2' : (cap.map fun j => σ.getD j none)[k]? = some (some w) := by simpa [lamS] using e2
   rw [List.getElem?_map] at e2'
   cases ec : cap[k]? with
   | none => rw [ec] at e2'; cases e2'
   | some j =>
    rw [ec] at e2'
    have e3' : σ.getD j none = some w := by simpa using e2'
    obtain ⟨c1, c2, c3⟩ := C.caps k j x ec (by rw [Nat.add_comm]; exact e1)
    obtain ⟨m0, _, hl⟩ := I.loc
    have vis : Vis X.env.scope x := c3.elim (fun z => .inr (.inl z)) fun z => .inr (.inr z)
    obtain ⟨u', ru, lk⟩ := hl j x w c1 (getD_some e3') vis
    refine ⟨u', ru, .inr ⟨c2, ?_⟩⟩
    rcases lk with ⟨z, _⟩ | ⟨_, c, ec', o, ho, hd⟩
    ·rcases c3 with c3 | c3 <;> (rw [c3] at z; cases z)
    ·have fm : (x, NameKind.free) ∈ scope.names := by
      rcases c2 with q | q
      ·exact absurd rfl (C.cell _ (Yc q))
      ·exact Yc q
     obtain ⟨c', hc'⟩ := WF X.env scope.names [] x (.inr fm)
     obtain ⟨c'', hc''⟩ := YO hc'
     have := sub x c'' hc''
     rw [ec'] at this
     cases this
     exact ⟨c, hc'', o, hk c o ho, hd⟩
 ·obtain ⟨v, o, ho, hd⟩ := I.cell x c (sub x c e)
  exact ⟨v, o, hk c o ho, hd⟩
 ·exact absurd (show p ∈ ([] : List (Addr × Obj)) from hp) (by simp)
 ·show (lamS cap σ v).length = N.length
  rw [C.len]
  simp [lamS, Nat.add_comm]
def LO (f : Addr) (fd : FuncData) : HO := .ext fun h => h.get? f = some { cls := .type "function", data := .func fd }
theorem lam_call {k : Nat} {params : Arguments} {body : Expr} {pm ctv : Value} {c' : Addr} {v : V} {u : Value} {t : TE} {Q : VK} (C : LamOk X scope N y cap) (hr : Room (k + 1) X.A) (I : Inv X pins σ H s) (rv : RelV v u)
  (hf : H f = some (LO f (PySem.W.kla_fn "<lambda>" qual params body scope (ZU X.env scope.names []) pm (.ref c') ctv))) (hc : H c' = some (CO c' qual)) (hb : bindArgs (PySem.W.kla_fn "<lambda>" qual params body scope (ZU X.env scope.names []) pm (.ref c') ctv) ⟨[u], []⟩ = pure [(y, u)])
  (he : PE (cxL X qual scope N s H f (.ref c')) body t) (hq : t (lamS cap σ v) H Q) : wpAny (model X.prog X.w) X.A (call (.ref f) [u]) (EP X pins σ Q) (fun _ _ => False) s := by
 obtain ⟨ho, _, _⟩ := (show (s.heap.get? f = some _ /\ _ /\ _) from I.hok f _ hf)
 obtain ⟨⟨oc, vs, tq, h1, h2, h3⟩, _, _⟩ := (show ((∃ oc vs t, s.heap.get? c' = some oc /\ oc.data = .fields vs /\ vs[1]? = some (.str qual t)) /\ _ /\ _) from I.hok c' _ hc)
 refine wpAny_call (PySem.W.kla_callFunE hr.depth ho rfl C.co C.gen rfl ⟨c', oc, vs, tq, rfl, h1, h2, h3⟩ ?_)
 rw [hb]
 refine wpAny_pure (wpAny_newFunctionEnv C.cell (fun z hz => ?_) (fun h₁ hns hsb => ?_) C.kind)
 ·have : z = (y, u) := by simpa using hz
  subst this
  exact C.par
 have hk₁ : ∀ b o, s.heap.get? b = some o -> h₁.get? b = some o := fun b o e => hsb.extBut b o (Nat.ne_of_lt (Heap.lt_size e)) (Heap.get?_push_of_some _ e)
 refine ⟨I.nolimit.keeps hk₁, ?_⟩
 show codeAny _ _ (.expr body (zdo qual scope s.heap.objs.size f (.ref c') (ZU X.env scope.names []))) _ _
 have J : Inv (cxL X qual scope N s H f (.ref c')) [] (lamS cap σ v) H { s with heap := h₁, toks := s.toks + [(y, u)].length } := zfE C I rv hns hk₁
 refine PySem.W.kla_codeExpr (wpAny_mono (he [] _ _ _ Q J hq) (fun r s' h => ?_) fun _ _ z => z.elim)
 obtain ⟨v', H', J', rv', q⟩ := h
 exact I.after ⟨v', H', J'.os, J'.bare, J'.base, J'.hok, rv', q⟩
def zbg (mg : Str -> Option Value) (base : Heap) : Prop := ∃ bm ob, mg "__builtins__" = some (.ref bm) /\ bm ≠ builtinsNs /\ bm ≠ mainGlobals /\ base.get? bm = some ob /\ ob.cls = .type "module" /\ ob.dict = some builtinsNs /\ ob.data = .plain
structure LamAt (X : Cx) (x : Str) (c T : Addr) : Prop where
 tab : PySem.W.tabIn X.K x = some (c, T)
 nm : x ∈ Wi
 code : X.env.code = .ref c
 qual : X.env.qual ++ "<lambda>" = lamQ x
 hd : ∀ h : Heap, X.K.In h -> PySem.W.CodeHd h c T
 blt : zbg X.mg X.base
theorem zet {pos : Pos} {a b : Int} {c : Value} : ∀ (l : List Value), TriplesOk l -> ∀ cv, codeAmong pos (l ++ [rawInt a, rawInt b, c]) = some cv -> codeAmong pos l = some cv \/ cv = c := by
 intro l
 fun_induction TriplesOk l with
 | case1 =>
  intro _ cv h
  simp only [List.nil_append, codeAmong, rawInt] at h
  split at h
  ·cases h; exact .inr rfl
  ·cases h
 | case2 x1 x2 x3 x4 x5 rest ih =>
  intro h cv e
  simp only [List.cons_append, codeAmong] at e ⊢
  split at e
  ·rename_i q
   rw [if_pos q]; exact .inl e
  ·rename_i q
   rw [if_neg q]; exact ih h cv e
 | case3 => intro h; exact h.elim
theorem zfF {x x' : Str} (h : x ∈ Wi) (h' : x' ∈ Wi) : x = x' := by
 unfold Wi at h h'
 rw [List.mem_singleton.mp h, List.mem_singleton.mp h']
def tLam (X : Cx) (x : Str) (params : Arguments) (body : Expr) (scope : Scope) : TE := fun σ H Q => WZ X.K H /\ ∀ f c' ctv H', Same H H' -> H f = none ->
 H' f = some (LO f (PySem.W.kla_fn "<lambda>" (lamQ x) params body scope (ZU X.env scope.names []) ((X.mg "__name__").getD .none) (.ref c') ctv)) -> H' c' = some (CO c' (lamQ x)) -> Q (.ref f) H'
theorem pe_lam {x : Str} {c T : Addr} {params : Arguments} {body : Expr} {lpos : Pos} (L : LamAt X x c T) (C : LamOk X scope N y cap) (hdef : defaultsOf params X.env = ([], [])) : PE X (.Lambda params body scope lpos) (tLam X x params body scope) := by
 intro pins s σ H Q I h
 obtain ⟨tb, q⟩ := h
 obtain ⟨ps, hT, tr, good⟩ := tb x c T L.nm L.tab
 have hP : s.heap.get? T = some (PySem.W.tabObj ps) := I.hok T _ hT
 have hgs : s.heap.Ns mainGlobals X.mg := I.ok.mod.glob.keeps I.bk
 have hgP : mainGlobals ≠ T := fun e => by
  obtain ⟨o, es, ep, e1, hd, _⟩ := hgs
  rw [e, hP] at e1; cases e1; cases hd
 have hbA : s.heap.BuiltinsAt X.mg T := by
  obtain ⟨bm, ob, b1, b2, b3, b4, b5, b6, b7⟩ := L.blt
  have e := I.bk _ _ b4
  exact ⟨bm, ob, b1, b2, b3, fun z => (by rw [z, hP] at e; cases e; cases b5), e, b5, b6, b7⟩
 have hcl := UJ (scope := scope) (env := X.env) (C.has I.ok)
 refine PySem.W.kla_eval hdef ?_
 rw [L.qual]
 cases ha : codeAmong lpos ps.toList with
 | none =>
  refine PySem.W.kla_makeFunction (mg := X.mg) hcl I.ok.glob hgs L.code (L.hd _ I.kIn) hP tr ha hgP hbA fun c' ctv h' tk hx hge hlt hrec htb => ?_
  have hcn : H c' = none := I.hok.fresh hge
  have hsz : s.heap.objs.size <= h'.objs.size := Nat.le_trans hge (Nat.le_of_lt hlt)
  have hfn : H h'.objs.size = none := I.hok.fresh hsz
  have hfc : h'.objs.size ≠ c' := Nat.ne_of_gt hlt
  have hTc : T ≠ c' := Zw hT hcn
  have hTf : T ≠ h'.objs.size := Zw hT hfn
  obtain ⟨c₂, oc, vs, t, e2, hoc, hdd, hvv⟩ := hrec
  cases e2
  generalize hmore : (#[rawInt ↑lpos.line, rawInt ↑lpos.col, Value.ref c'] : Array Value) = more at htb
  generalize hob : PySem.W.kla_obj "<lambda>" (lamQ x) params body scope (ZU X.env scope.names []) ((X.mg "__name__").getD .none) c' ctv = ob
  have kp : ∀ b o, b ≠ T -> s.heap.get? b = some o -> (h'.push ob).get? b = some o := fun b o hb e => Heap.get?_push_of_some _ (hx b o hb e)
  have u1 : ∀ b o, H b = some o -> b ≠ T -> upd (upd (upd H T (.tbl (ps ++ more))) c' (CO c' (lamQ x))) h'.objs.size (LO h'.objs.size (PySem.W.kla_fn "<lambda>" (lamQ x) params body scope (ZU X.env scope.names []) ((X.mg "__name__").getD .none) (.ref c') ctv)) b = some o := fun b o e hb => by
   rw [Zs (Zw e hfn), Zs (Zw e hcn), Zs hb]; exact e
  have uT : upd (upd (upd H T (.tbl (ps ++ more))) c' (CO c' (lamQ x))) h'.objs.size (LO h'.objs.size (PySem.W.kla_fn "<lambda>" (lamQ x) params body scope (ZU X.env scope.names []) ((X.mg "__name__").getD .none) (.ref c') ctv)) T = some (.tbl (ps ++ more)) := by
   rw [Zs hTf, Zs hTc, Zp]
  have uC : upd (upd (upd H T (.tbl (ps ++ more))) c' (CO c' (lamQ x))) h'.objs.size (LO h'.objs.size (PySem.W.kla_fn "<lambda>" (lamQ x) params body scope (ZU X.env scope.names []) ((X.mg "__name__").getD .none) (.ref c') ctv)) c' = some (CO c' (lamQ x)) := by
   rw [Zs (Ne.symm hfc), Zp]
  have sm : Same H (upd (upd (upd H T (.tbl (ps ++ more))) c' (CO c' (lamQ x))) h'.objs.size (LO h'.objs.size (PySem.W.kla_fn "<lambda>" (lamQ x) params body scope (ZU X.env scope.names []) ((X.mg "__name__").getD .none) (.ref c') ctv))) := by
   refine ⟨fun b o e n => u1 b o e fun z => ?_, fun {b} w => ?_, fun K' tb' x' c0 T0 hx' ht' => ?_, fun b qs e => ?_⟩
   ·rw [z, hT] at e; cases e; exact n _ rfl
   ·cases e : H b with
    | none => rfl
    | some o =>
     by_cases z : b = T
     ·rw [z, uT] at w; cases w
     ·rw [u1 b o e z] at w; cases w
   ·obtain ⟨ps0, h0, tr0, g0⟩ := tb' x' c0 T0 hx' ht'
    have lift : ∀ c1, H c1 = some (CO c1 (lamQ x')) -> upd (upd (upd H T (.tbl (ps ++ more))) c' (CO c' (lamQ x))) h'.objs.size (LO h'.objs.size (PySem.W.kla_fn "<lambda>" (lamQ x) params body scope (ZU X.env scope.names []) ((X.mg "__name__").getD .none) (.ref c') ctv)) c1 = some (CO c1 (lamQ x')) := fun c1 e => u1 c1 _ e fun z => by rw [z, hT] at e; cases e
    by_cases z : T0 = T
    ·subst z
     rw [hT] at h0
     cases h0
     refine ⟨ps ++ more, uT, by rw [<- hmore, Array.toList_append]; exact TriplesOk_snoc _ _ _ _ tr0, fun pos cv hc => ?_⟩
     rw [<- hmore, Array.toList_append] at hc
     rcases zet _ tr0 cv hc with w | w
     ·obtain ⟨c1, e1, e2⟩ := g0 pos cv w
      exact ⟨c1, e1, lift c1 e2⟩
     ·exact ⟨c', w, by rw [zfF hx' L.nm]; exact uC⟩
    ·refine ⟨ps0, u1 _ _ h0 z, tr0, fun pos cv hc => ?_⟩
     obtain ⟨c1, e1, e2⟩ := g0 pos cv hc
     exact ⟨c1, e1, lift c1 e2⟩
   ·by_cases z : b = T
    ·subst z; exact ⟨_, uT⟩
    ·exact ⟨qs, u1 b _ e z⟩
  refine ⟨.ref h'.objs.size, _, I.un (t' := tk) (H' := upd (upd (upd H T (.tbl (ps ++ more))) c' (CO c' (lamQ x))) h'.objs.size (LO h'.objs.size (PySem.W.kla_fn "<lambda>" (lamQ x) params body scope (ZU X.env scope.names []) ((X.mg "__name__").getD .none) (.ref c') ctv))) ⟨fun b o e n _ _ => kp b o (fun z => by rw [z, hT] at n; cases n) e, fun b o e n _ _ => ⟨o.slots, kp b o (fun z => by rw [z, hT] at n; cases n) e⟩, fun b o e n _ => ?_, fun b o e _ => ?_, fun b xs e => u1 b _ e (fun z => by rw [z, hT] at e; cases e), fun b o u e => u1 b _ e (fun z => by rw [z, hT] at e; cases e), fun b qs e => ?_⟩ (fun b o e => ?_), rfl, q h'.objs.size c' ctv _ sm hfn Zp uC⟩
  ·have lt := Heap.lt_size e
   rw [Zs (Nat.ne_of_lt (Nat.lt_of_lt_of_le lt hsz)), Zs (Nat.ne_of_lt (Nat.lt_of_lt_of_le lt hge)), Zs (fun z => by rw [z, hT] at n; cases n)]
   exact n
  ·by_cases z : b = T
   ·subst z; exact ⟨_, Heap.get?_push_of_some _ htb⟩
   ·exact ⟨o, kp b o z e⟩
  ·by_cases z : b = T
   ·subst z
    rw [hT] at e; cases e
    exact ⟨more, uT⟩
   ·exact ⟨#[], by rw [u1 b _ e z]; simp⟩
  ·by_cases z1 : b = h'.objs.size
   ·subst z1
    rw [Zp] at e
    cases e
    subst hob
    exact ⟨Heap.get?_push_size _ rfl, ⟨_, Heap.get?_push_size _ rfl⟩, fun h1 h2 w k => k _ w⟩
   ·rw [Zs z1] at e
    by_cases z2 : b = c'
    ·subst z2
     rw [Zp] at e
     cases e
     refine ⟨⟨oc, vs, t, Heap.get?_push_of_some _ hoc, hdd, hvv⟩, ⟨_, Heap.get?_push_of_some _ hoc⟩, fun h1 h2 ⟨oc', vs', t', w1, w2, w3⟩ k => ⟨oc', vs', t', k _ w1, w2, w3⟩⟩
    ·rw [Zs z2] at e
     by_cases z3 : b = T
     ·subst z3
      rw [Zp] at e
      cases e
      exact Heap.get?_push_of_some _ htb
     ·rw [Zs z3] at e
      refine (I.hok b o e).stay (fun b' u hb' w => kp b' u (fun z => ?_) w) (fun b' w => u1 b' _ w fun z => by rw [z, hT] at w; cases w) fun b' xs w => u1 b' _ w fun z => by rw [z, hT] at w; cases w
      rcases hb' with w1 | w1
      ·exact z3 (w1.symm.trans z)
      ·rw [z, hT] at w1; cases w1
 | some cv =>
  obtain ⟨c', rfl, hc'⟩ := good lpos cv ha
  refine PySem.W.kla_makeFunctionHit (mg := X.mg) hcl I.ok.glob hgs L.code (L.hd _ I.kIn) hP tr ha hbA fun ctv h' tk hk hsz => ?_
  have hfn : H h'.objs.size = none := I.hok.fresh hsz
  refine ⟨.ref h'.objs.size, _, I.laid (t' := tk) (a := h'.objs.size) (o := LO h'.objs.size (PySem.W.kla_fn "<lambda>" (lamQ x) params body scope (ZU X.env scope.names []) ((X.mg "__name__").getD .none) (.ref c') ctv)) (fun b o e => Heap.get?_push_of_some _ (hk b o e)) hsz ⟨Heap.get?_push_size _ rfl, ⟨_, Heap.get?_push_size _ rfl⟩, fun h1 h2 w k => k _ w⟩, rfl, q _ c' ctv _ (ZH hfn) hfn Zp ?_⟩
  rw [Zs (Zw hc' hfn)]
  exact hc'
end
end Fx
namespace Fx
open PySem PySem.Spec PyProof.Rows L2
abbrev Cx.i1 (X : Cx) : Cx := { X with A := X.A.in1, xe := fun _ _ => False }
section
variable {X : Cx} {pins : List (Addr × Obj)} {σ : L2.St} {H : Hp} {s : Shared}
theorem Inv.toi1 (I : Inv X pins σ H s) : Inv (Cx.i1 X) pins σ H s :=
 ⟨⟨I.ok.mod, I.ok.kind, I.ok.glob, I.ok.blt, I.ok.above, I.ok.inj, I.ok.has, I.ok.cab, I.ok.hd, I.ok.frames, I.ok.stk, I.ok.exf, I.ok.bs, I.ok.bsz, I.ok.noex, I.ok.exfs, I.ok.funs, I.ok.frf⟩, I.os, I.bare, I.base, I.loc, I.cell, I.free, I.freeC, I.pin, I.hok, I.len⟩
theorem Inv.ofi1 (hX : X.Ok) (I : Inv (Cx.i1 X) pins σ H s) : Inv X pins σ H s :=
 ⟨hX, I.os, I.bare, I.base, I.loc, I.cell, I.free, I.freeC, I.pin, I.hok, I.len⟩
def Mine (X : Cx) (pins : List (Addr × Obj)) (b : Addr) : Prop := b ≠ X.env.locals /\ b ∉ X.fs /\ (b ∈ X.ex \/ X.s₀.heap.objs.size <= b) /\ (∀ x c, X.env.cells.lookup x = some c -> c ≠ b) /\ ∀ p ∈ X.pn ++ pins, p.1 ≠ b
theorem Mine.of {b : Addr} (f : FpOk X pins H b) : Mine X pins b := ⟨f.2.1, f.2.2.1, f.2.2.2.1, f.2.2.2.2.1, f.2.2.2.2.2⟩
theorem Inv.turn1 {t' : Nat} {it : Addr} {h' : Heap} (I : Inv X pins σ H s) (m : Mine X pins it) (hn : H it = none) (k : ∀ b o, b ≠ it -> s.heap.get? b = some o -> h'.get? b = some o) : Inv X pins σ H { s with heap := h', toks := t' } :=
 I.turned k hn m.1 m.2.2.1 m.2.2.2.1 m.2.2.2.2
theorem Inv.pin2 {a b : Addr} {oa ob : Obj} (I : Inv X pins σ H s) (ma : Mine X pins a) (mb : Mine X pins b) (ha : H a = none) (hb : H b = none) (ea : s.heap.get? a = some oa) (eb : s.heap.get? b = some ob) (da : ∀ v, oa.data ≠ .cell v) (db : ∀ v, ob.data ≠ .cell v) : Inv X (pins ++ [(a, oa), (b, ob)]) σ H s :=
 I.pins_of fun p hp => by
  rcases List.mem_append.mp hp with hp | hp
  ·exact I.pin p (List.mem_append_right _ hp)
  ·rcases List.mem_cons.mp hp with rfl | hp
   ·exact ⟨ea, ha, ma.1, ma.2.1, da⟩
   ·rw [List.mem_singleton.mp hp]
    exact ⟨eb, hb, mb.1, mb.2.1, db⟩
theorem zaz {h : Heap} {a : Addr} {its : Array Value} (p : PlainL h a its) : h.IsList a its := p.isList
theorem min_args (a v d : Value) : argsOk "min" ⟨[a], [(Str.ofString "key", v), (Str.ofString "default", d)]⟩ := by unfold argsOk; kernel_rfl
variable {xs : List V} {kf : Nat -> Int} {H0 : Hp} {l I S q : Addr} {R : Result -> Shared -> Prop}
theorem min_loop (hh : X.A.handled = none) (hlI : l ≠ I) (hSI : S ≠ I) (mS : Mine X pins S) (mI : Mine X pins I) (hl : ∀ H', Same H0 H' -> SqL X.K H' l xs)
  (turn : ∀ (i : Nat) v u pins' s H', xs[i]? = some v -> RelV v u -> Inv X pins' σ H' s -> Same H0 H' -> wpAny (model X.prog X.w) X.A.in1 (call (.ref q) [u]) (fun r s' => ∃ t H'', r = .int (kf i) t /\ Inv X pins' σ H'' s' /\ Same H0 H'') (fun _ _ => False) s)
  (fin : ∀ (i : Nat) v u s' H', xs[i]? = some v -> RelV v u -> (∀ j, j < xs.length -> kf i <= kf j /\ (j < i -> kf i < kf j)) -> Inv X pins σ H' s' -> Same H0 H' -> R (.ok (.ret u)) s') :
  ∀ (r j i : Nat) (s : Shared) (H : Hp) (vb : Value) (v0 : V) (tb : Tok) (c : Nat) (oI : Obj), xs.length - (j + 1) = r -> j + 1 <= xs.length -> Inv X (pins ++ [(S, seqObj "list" #[vb, .int (kf i) tb] c), (I, oI)]) σ H s -> Same H0 H -> s.heap.IsListIter I l (j + 1) -> xs[i]? = some v0 -> RelV v0 vb -> i <= j ->
   (∀ j', j' <= j -> kf i <= kf j' /\ (j' < i -> kf i < kf j')) ->
   codeAny (model X.prog X.w) X.A (.builtin "min.loop" ⟨[.ref I, .ref q, .ref S], [(Str.ofString "default", .none)]⟩) R s := by
 have hname : (toString "min" ++ toString ".loop" : String) = "min.loop" := by decide
 intro r
 induction r with
 | zero =>
  intro j i s H vb v0 tb c oI hr hj J sm hit hvb hrb hij hbest
  have hin : j + 1 = xs.length := by omega
  obtain ⟨eS, nS, _⟩ := J.pin (S, seqObj "list" #[vb, .int (kf i) tb] c) (List.mem_append_right _ (List.mem_append_right _ (.head _)))
  obtain ⟨eI, nI, _⟩ := J.pin (I, oI) (List.mem_append_right _ (List.mem_append_right _ (.tail _ (.head _))))
  obtain ⟨its, rv, pl, hz⟩ := J.list (hl H sm)
  have hlen := rv.length
  have W := Walks.list (prog := X.prog) (w := X.w) (A := X.A.in1) hh I l hlI its.toArray
  have hsz : its.toArray.size = its.length := List.size_toArray ..
  have J0 : Inv X pins σ H s := J.unpinned
  refine codeAny_builtin PySem.F.entry_min_loop ?_
  rw [Around.under_plainId PySem.F.plain_min_loop _]
  show wpAny _ X.A.in1 (seqItems? (.ref S) >>= _) _ _ _
  refine wpAny_bind (wpAny_seqItems eS rfl ?_)
  show wpAny _ X.A.in1 (tryCatch (pyNext (.ref I)) _ >>= _) _ _ _
  refine wpAny_bind (wpAny_tryCatch (W.done _ _ _ ⟨by rw [hsz, <- hlen, <- hin]; exact hit, zaz pl⟩ fun h' tk' hk' => ?_))
  have J1 : Inv X pins σ H { s with heap := h', toks := tk' } := Fx.Inv.turn1 J0 mI nI fun b o hb e => hk' b o (by simpa using hb) e
  have hS' := hk' S _ (by simpa using hSI) eS
  have s1 := Heap.SameBut.update h' S (Obj.mapSeq fun _ => (#[] : Array Value))
  show wpAny _ X.A.in1 (updateSeq S (fun _ => #[]) >>= _) _ _ _
  refine wpAny_bind ?_
  refine wpAny_updateSeq hS' rfl (wpAny_bind (wpAny_letGo (wpAny_pure ?_)))
  exact fin i v0 vb _ H hvb hrb (fun j' hj' => hbest j' (by omega)) (Fx.Inv.turn1 J1 mS nS fun b o hb e => (s1.2 b hb).trans e) sm
 | succ r ih =>
  intro j i s H vb v0 tb c oI hr hj J sm hit hvb hrb hij hbest
  have hlt : j + 1 < xs.length := by omega
  obtain ⟨eS, nS, _⟩ := J.pin (S, seqObj "list" #[vb, .int (kf i) tb] c) (List.mem_append_right _ (List.mem_append_right _ (.head _)))
  obtain ⟨eI, nI, _⟩ := J.pin (I, oI) (List.mem_append_right _ (List.mem_append_right _ (.tail _ (.head _))))
  obtain ⟨its, rv, pl, hz⟩ := J.list (hl H sm)
  have hlen := rv.length
  have W := Walks.list (prog := X.prog) (w := X.w) (A := X.A.in1) hh I l hlI its.toArray
  have hsz : its.toArray.size = its.length := List.size_toArray ..
  have J0 : Inv X pins σ H s := J.unpinned
  refine codeAny_builtin PySem.F.entry_min_loop ?_
  rw [Around.under_plainId PySem.F.plain_min_loop _]
  show wpAny _ X.A.in1 (seqItems? (.ref S) >>= _) _ _ _
  refine wpAny_bind (wpAny_seqItems eS rfl ?_)
  show wpAny _ X.A.in1 (tryCatch (pyNext (.ref I)) _ >>= _) _ _ _
  refine wpAny_bind (wpAny_tryCatch (W.item (j + 1) _ _ _ (by rw [hsz, <- hlen]; exact hlt) ⟨hit, zaz pl⟩ fun u h' tk' hP hst' hk' => ?_))
  have hu : its[j + 1]? = some u := by simpa using hP
  obtain ⟨oI', hoI', hoc, hod⟩ := id hst'.1
  have J1 : Inv X pins σ H { s with heap := h', toks := tk' } := Fx.Inv.turn1 J0 mI nI fun b o hb e => hk' b o (by simpa using hb) e
  have hS' := hk' S _ (by simpa using hSI) eS
  have J2 : Inv X (pins ++ [(S, seqObj "list" #[vb, .int (kf i) tb] c), (I, oI')]) σ H { s with heap := h', toks := tk' } := Fx.Inv.pin2 J1 mS mI nS nI hS' hoI' (fun v z => by cases z) (fun v z => by rw [hod] at z; cases z)
  obtain ⟨v1, hv1⟩ : ∃ v1, xs[j + 1]? = some v1 := ⟨_, List.getElem?_eq_getElem hlt⟩
  obtain ⟨u', hu', ru⟩ := rv.get hv1
  rw [hu] at hu'
  cases hu'
  show wpAny _ X.A.in1 (tryCatch (holding [u] (call (.ref q) [u])) _ >>= _) _ _ _
  refine wpAny_bind (wpAny_tryCatch (wpAny_holding (wpAny_mono (turn (j + 1) v1 u _ _ H hv1 ru J2 sm) (fun x s'' he => ?_) fun _ _ hF => hF.elim)))
  obtain ⟨t2, H2, rfl, J3, sm2⟩ := he
  obtain ⟨eS2, nS2, _⟩ := J3.pin (S, seqObj "list" #[vb, .int (kf i) tb] c) (List.mem_append_right _ (List.mem_append_right _ (.head _)))
  obtain ⟨eI2, nI2, _⟩ := J3.pin (I, oI') (List.mem_append_right _ (List.mem_append_right _ (.tail _ (.head _))))
  have hit2 : s''.heap.IsListIter I l (j + 1 + 1) := ⟨oI', eI2, hoc, hod⟩
  show wpAny _ X.A.in1 (tryCatch (holding [u, .int (kf (j + 1)) t2] (richCompare .Lt (.int (kf (j + 1)) t2) (.int (kf i) tb) >>= _)) _ >>= _) _ _ _
  refine wpAny_bind (wpAny_tryCatch (wpAny_holding (wpAny_bind (CmpOf.ints_lt (prog := X.prog) (w := X.w) (A := X.A.in1) (P := fun i v => ∃ t, v = .int (kf i) t) kf (fun i v h => h) (j + 1) i _ _ _ _ _ ⟨t2, rfl⟩ ⟨tb, rfl⟩ ?_))))
  refine wpAny_bind (wpAny_holding (wpAny_truthy_bool ?_))
  refine wpAny_bind (wpAny_letGo (wpAny_pure ?_))
  by_cases hb' : kf (j + 1) < kf i
  ·have s1 := Heap.SameBut.update s''.heap S (Obj.mapSeq fun _ => #[u, .int (kf (j + 1)) t2])
   obtain ⟨c2, hc2⟩ : ∃ c2, (s''.heap.update S (Obj.mapSeq fun _ => #[u, .int (kf (j + 1)) t2])).get? S = some (seqObj "list" #[u, .int (kf (j + 1)) t2] c2) := ⟨_, get?_update_seq eS2 fun _ => #[u, .int (kf (j + 1)) t2]⟩
   simp only [hb', decide_true, if_true]
   refine wpAny_bind ?_
   refine wpAny_updateSeq eS2 rfl (wpAny_bind (wpAny_letGo ?_))
   rw [hname]
   have J4 : Inv X pins σ H2 { s'' with heap := s''.heap.update S (Obj.mapSeq fun _ => #[u, .int (kf (j + 1)) t2]) } := Fx.Inv.turn1 (t' := s''.toks) J3.unpinned mS nS2 fun b o hb e => (s1.2 b hb).trans e
   refine wpAny_pure ⟨plainId_quiet PySem.F.plain_min_loop _, ih (j + 1) (j + 1) _ H2 u v1 t2 c2 oI' (by omega) hlt (Fx.Inv.pin2 J4 mS mI nS2 nI2 hc2 ((s1.2 I hSI.symm).trans eI2) (fun v z => by cases z) (fun v z => by rw [hod] at z; cases z)) sm2 ⟨oI', (s1.2 I hSI.symm).trans eI2, hoc, hod⟩ hv1 ru (Nat.le_refl _) fun j' hj' => ?_⟩
   by_cases e : j' = j + 1
   ·subst e
    exact ⟨by omega, fun _ => by omega⟩
   ·have hb1 := hbest j' (by omega)
    have hb2 := hb1.1
    exact ⟨by omega, fun _ => by omega⟩
  ·simp only [hb', decide_false, Bool.false_eq_true, if_false]
   refine wpAny_bind (wpAny_letGo ?_)
   rw [hname]
   refine wpAny_pure ⟨plainId_quiet PySem.F.plain_min_loop _, ih (j + 1) i _ H2 vb v0 tb c oI' (by omega) hlt J3 sm2 hit2 hvb hrb (by omega) fun j' hj' => ?_⟩
   by_cases e : j' = j + 1
   ·subst e
    exact ⟨by omega, fun _ => by omega⟩
   ·exact hbest j' (by omega)
theorem zge {Q : Value -> Shared -> Prop} {E : Value -> Shared -> Prop} (hh : X.A.handled = none) (J : Inv X pins σ H s) (hl : ∀ H', Same H H' -> SqL X.K H' l xs)
  (turn : ∀ (i : Nat) v u pins' s H', xs[i]? = some v -> RelV v u -> Inv X pins' σ H' s -> Same H H' -> wpAny (model X.prog X.w) X.A.in1 (call (.ref q) [u]) (fun r s' => ∃ t H'', r = .int (kf i) t /\ Inv X pins' σ H'' s' /\ Same H H'') (fun _ _ => False) s)
  (fin0 : xs = [] -> ∀ s' H', Inv X pins σ H' s' -> Same H H' -> Q .none s')
  (fin : ∀ (i : Nat) v u s' H', xs[i]? = some v -> RelV v u -> (∀ j, j < xs.length -> kf i <= kf j /\ (j < i -> kf i < kf j)) -> Inv X pins σ H' s' -> Same H H' -> Q u s') :
  wpAny (model X.prog X.w) X.A (call (.builtin "min") [.ref l] [(Str.ofString "key", .ref q), (Str.ofString "default", .none)]) Q E s := by
 have hname : (toString "min" ++ toString ".loop" : String) = "min.loop" := by decide
 obtain ⟨its, rv, pl, hz⟩ := J.list (hl H (Same.refl H))
 have hls := zaz pl
 have hlen := rv.length
 obtain ⟨ol, hol, _⟩ := id hls
 have hll : l < s.heap.objs.size := Heap.lt_size hol
 refine kmk_tree PySem.F.kind_min PySem.F.plain_min PySem.F.entry_min (min_args _ _ _) ?_
 show wpAny _ X.A.in1 (Builtin.Builtins.bindParams "min" ["key", "default"] 0 ⟨[], [(Str.ofString "key", .ref q), (Str.ofString "default", .none)]⟩ >>= _) _ _ s
 refine wpAny_bind (wpAny_of_eq (show Builtin.Builtins.bindParams "min" ["key", "default"] 0 ⟨[], [(Str.ofString "key", .ref q), (Str.ofString "default", .none)]⟩ = pure [some (.ref q), some .none] from rfl) ?_)
 refine wpAny_bind (wpAny_pure ?_)
 refine wpAny_bind (wpAny_pyIter_list hls ?_)
 refine wpAny_bind (wpAny_newList ?_ (Nat.zero_le _))
 rw [hname]
 have hS : (s.heap.push { cls := .type "list_iterator", data := .fields #[.ref l, .int 0 0] }).objs.size = s.heap.objs.size + 1 := size_push' ..
 have hlI : l ≠ s.heap.objs.size := Nat.ne_of_lt hll
 have hSI : (s.heap.push { cls := .type "list_iterator", data := .fields #[.ref l, .int 0 0] }).objs.size ≠ s.heap.objs.size := by rw [hS]; exact Nat.ne_of_gt (Nat.lt_succ_self _)
 have nI : H s.heap.objs.size = none := J.hok.fresh (Nat.le_refl _)
 have nS : H (s.heap.push { cls := .type "list_iterator", data := .fields #[.ref l, .int 0 0] }).objs.size = none := J.hok.fresh (by rw [hS]; exact Nat.le_succ _)
 have mI : Mine X pins s.heap.objs.size := .of (J.fpOk (Nat.le_refl _) nI)
 have mS : Mine X pins (s.heap.push { cls := .type "list_iterator", data := .fields #[.ref l, .int 0 0] }).objs.size := .of (J.fpOk (by rw [hS]; exact Nat.le_succ _) nS)
 refine wpAny_pure ⟨plainId_quiet PySem.F.plain_min_loop _, ?_⟩
 have kpH : ∀ b o, s.heap.get? b = some o -> ((s.heap.push { cls := .type "list_iterator", data := .fields #[.ref l, .int 0 0] }).push (seqObj "list" #[] 0)).get? b = some o := fun b o e => Heap.get?_push_of_some _ (Heap.get?_push_of_some _ e)
 have gI : ((s.heap.push { cls := .type "list_iterator", data := .fields #[.ref l, .int 0 0] }).push (seqObj "list" #[] 0)).get? s.heap.objs.size = some { cls := .type "list_iterator", data := .fields #[.ref l, .int 0 0] } :=
  Heap.get?_push_of_some _ (Heap.get?_push_size _ rfl)
 have gS : ((s.heap.push { cls := .type "list_iterator", data := .fields #[.ref l, .int 0 0] }).push (seqObj "list" #[] 0)).get? (s.heap.push { cls := .type "list_iterator", data := .fields #[.ref l, .int 0 0] }).objs.size = some (seqObj "list" #[] 0) := Heap.get?_push_size _ rfl
 have W := Walks.list (prog := X.prog) (w := X.w) (A := X.A.in1) hh s.heap.objs.size l hlI its.toArray
 have hsz : its.toArray.size = its.length := List.size_toArray ..
 have JH : Inv X pins σ H { s with heap := (s.heap.push { cls := .type "list_iterator", data := .fields #[.ref l, .int 0 0] }).push (seqObj "list" #[] 0) } := J.kept (t' := s.toks) kpH
 obtain ⟨o1, ho1, ho2⟩ := hls
 have hlsH : ((s.heap.push { cls := .type "list_iterator", data := .fields #[.ref l, .int 0 0] }).push (seqObj "list" #[] 0)).IsList l its.toArray := ⟨o1, kpH _ _ ho1, ho2⟩
 refine codeAny_builtin PySem.F.entry_min_loop ?_
 rw [Around.under_plainId PySem.F.plain_min_loop _]
 show wpAny _ X.A.in1 (seqItems? (.ref _) >>= _) _ _ _
 refine wpAny_bind (wpAny_seqItems gS rfl ?_)
 show wpAny _ X.A.in1 (tryCatch (pyNext (.ref s.heap.objs.size)) _ >>= _) _ _ _
 by_cases hne : 0 < xs.length
 ·refine wpAny_bind (wpAny_tryCatch (W.item 0 _ _ _ (by rw [hsz, <- hlen]; exact hne) ⟨⟨_, gI, rfl, rfl⟩, hlsH⟩ fun u h' tk' hP hst' hk' => ?_))
  have hu : its[0]? = some u := by simpa using hP
  obtain ⟨oI', hoI', hoc, hod⟩ := id hst'.1
  have J1 : Inv X pins σ H { s with heap := h', toks := tk' } := Fx.Inv.turn1 (s := { s with heap := (s.heap.push { cls := .type "list_iterator", data := .fields #[.ref l, .int 0 0] }).push (seqObj "list" #[] 0) }) JH mI nI fun b o hb e => hk' b o (by simpa using hb) e
  have hS' := hk' _ _ (by simpa using hSI) gS
  have J2 := Fx.Inv.pin2 J1 mS mI nS nI hS' hoI' (fun v z => by cases z) (fun v z => by rw [hod] at z; cases z)
  obtain ⟨v1, hv1⟩ : ∃ v1, xs[0]? = some v1 := ⟨_, List.getElem?_eq_getElem hne⟩
  obtain ⟨u', hu', ru⟩ := rv.get hv1
  rw [hu] at hu'
  cases hu'
  show wpAny _ X.A.in1 (tryCatch (holding [u] (call (.ref q) [u])) _ >>= _) _ _ _
  refine wpAny_bind (wpAny_tryCatch (wpAny_holding (wpAny_mono (turn 0 v1 u _ _ H hv1 ru J2 (Same.refl H)) (fun x s'' he => ?_) fun _ _ hF => hF.elim)))
  obtain ⟨t2, H2, rfl, J3, sm2⟩ := he
  obtain ⟨eS2, nS2, _⟩ := J3.pin ((s.heap.push { cls := .type "list_iterator", data := .fields #[.ref l, .int 0 0] }).objs.size, seqObj "list" #[] 0) (List.mem_append_right _ (List.mem_append_right _ (.head _)))
  obtain ⟨eI2, nI2, _⟩ := J3.pin (s.heap.objs.size, oI') (List.mem_append_right _ (List.mem_append_right _ (.tail _ (.head _))))
  have s1 := Heap.SameBut.update s''.heap (s.heap.push { cls := .type "list_iterator", data := .fields #[.ref l, .int 0 0] }).objs.size (Obj.mapSeq fun _ => #[u, .int (kf 0) t2])
  obtain ⟨c2, hc2⟩ : ∃ c2, (s''.heap.update (s.heap.push { cls := .type "list_iterator", data := .fields #[.ref l, .int 0 0] }).objs.size (Obj.mapSeq fun _ => #[u, .int (kf 0) t2])).get? (s.heap.push { cls := .type "list_iterator", data := .fields #[.ref l, .int 0 0] }).objs.size = some (seqObj "list" #[u, .int (kf 0) t2] c2) := ⟨_, get?_update_seq eS2 fun _ => #[u, .int (kf 0) t2]⟩
  show wpAny _ X.A.in1 (updateSeq (s.heap.push { cls := .type "list_iterator", data := .fields #[.ref l, .int 0 0] }).objs.size (fun _ => #[u, .int (kf 0) t2]) >>= _) _ _ _
  refine wpAny_bind ?_
  refine wpAny_updateSeq eS2 rfl ?_
  rw [hname]
  have J4 := Fx.Inv.turn1 (t' := s''.toks) (h' := s''.heap.update (s.heap.push { cls := .type "list_iterator", data := .fields #[.ref l, .int 0 0] }).objs.size (Obj.mapSeq fun _ => #[u, .int (kf 0) t2])) J3.unpinned mS nS2 fun b o hb e => (s1.2 b hb).trans e
  refine wpAny_pure ⟨plainId_quiet PySem.F.plain_min_loop _, min_loop hh hlI hSI mS mI hl turn (fun i v u s' H' a b c d e => fin i v u s' H' a b c d e) _ 0 0 _ H2 u v1 t2 c2 oI' rfl hne (Fx.Inv.pin2 J4 mS mI nS2 nI2 hc2 ((s1.2 _ hSI.symm).trans eI2) (fun v z => by cases z) (fun v z => by rw [hod] at z; cases z)) sm2 ⟨oI', (s1.2 _ hSI.symm).trans eI2, hoc, hod⟩ hv1 ru (Nat.le_refl _) fun j' hj' => ?_⟩
  have e : j' = 0 := by omega
  subst e
  exact ⟨by omega, fun h => absurd h (Nat.lt_irrefl _)⟩
 ·have h0 : xs = [] := List.length_eq_zero_iff.mp (by omega)
  refine wpAny_bind (wpAny_tryCatch (W.done _ _ _ ⟨by rw [hsz, <- hlen, h0]; exact ⟨_, gI, rfl, rfl⟩, hlsH⟩ fun h' tk' hk' => ?_))
  have J1 : Inv X pins σ H { s with heap := h', toks := tk' } := Fx.Inv.turn1 (s := { s with heap := (s.heap.push { cls := .type "list_iterator", data := .fields #[.ref l, .int 0 0] }).push (seqObj "list" #[] 0) }) JH mI nI fun b o hb e => hk' b o (by simpa using hb) e
  exact wpAny_bind (wpAny_rule (wpAny_pure (fin0 h0 _ H J1 (Same.refl H))))
end
end Fx
namespace Fx
open PySem PySem.Spec PyProof.Rows L2
def kOf (key : PyData -> Res PyData) (ts : List PyData) (i : Nat) : Int := match ts[i]? with
 | some t => (match key t with
  | .ok (.int k) => k
  | _ => 0)
 | none => 0
theorem zcu {key : PyData -> Res PyData} (nx : ∀ t c, key t ≠ .exc c) {all : List PyData} {r : PyData} : ∀ (ts : List PyData) (b : PyData) (m : Int) (i j : Nat), all.drop (j + 1) = ts -> minL key b m ts = .ok r -> all[i]? = some b -> key b = .ok (.int m) -> i <= j ->
  (∀ j', j' <= j -> kOf key all i <= kOf key all j' /\ (j' < i -> kOf key all i < kOf key all j')) -> (∀ j' : Nat, j' <= j -> ∀ t, all[j']? = some t -> ∃ k, key t = .ok (.int k)) ->
  (∀ (j' : Nat) t, all[j']? = some t -> ∃ k, key t = .ok (.int k)) /\ ∃ i' : Nat, all[i']? = some r /\ ∀ j', j' < all.length -> kOf key all i' <= kOf key all j' /\ (j' < i' -> kOf key all i' < kOf key all j')
 | [], b, m, i, j, hd, h, hb, hk, hij, best, ks => by
  have hl : all.length <= j + 1 := by
   have := congrArg List.length hd
   rw [List.length_drop] at this
   simp at this
   omega
  cases h
  exact ⟨fun j' t e => ks j' (by have := (List.getElem?_eq_some_iff.mp e).1; omega) t e, i, hb, fun j' hj' => best j' (by omega)⟩
 | x :: ts, b, m, i, j, hd, h, hb, hk, hij, best, ks => by
  have hx : all[j + 1]? = some x := by
   have := congrArg (fun l => l[0]?) hd
   simpa [List.getElem?_drop] using this
  have hd' : all.drop (j + 1 + 1) = ts := by
   have := congrArg (List.drop 1) hd
   rw [List.drop_drop] at this
   simpa using this
  have km : kOf key all i = m := by unfold kOf; rw [hb]; simp only [hk]
  unfold minL at h
  cases ek : key x with
  | stuck => rw [ek] at h; cases h
  | exc c => exact absurd ek (nx x c)
  | ok y =>
   rw [ek, Res.bind_ok] at h
   cases y <;> try (simp at h; done)
   rename_i k
   simp only at h
   have kx : kOf key all (j + 1) = k := by unfold kOf; rw [hx]; simp only [ek]
   have ks' : ∀ j', j' <= j + 1 -> ∀ t, all[j']? = some t -> ∃ k, key t = .ok (.int k) := fun j' hj' t e => by
    by_cases z : j' = j + 1
    ·subst z; rw [hx] at e; cases e; exact ⟨k, ek⟩
    ·exact ks j' (by omega) t e
   split at h
   ·refine zcu nx ts x k (j + 1) (j + 1) hd' h hx ek (Nat.le_refl _) (fun j' hj' => ?_) ks'
    by_cases z : j' = j + 1
    ·subst z; exact ⟨Int.le_refl _, fun w => by omega⟩
    ·have := best j' (by omega)
     rw [kx]
     rw [km] at this
     exact ⟨by omega, fun _ => by omega⟩
   ·refine zcu nx ts b m i (j + 1) hd' h hb hk (by omega) (fun j' hj' => ?_) ks'
    by_cases z : j' = j + 1
    ·subst z; rw [kx, km]; exact ⟨by omega, fun w => by omega⟩
    ·exact best j' (by omega)
theorem minT_ok {key : PyData -> Res PyData} (nx : ∀ t c, key t ≠ .exc c) {ts : List PyData} {r : PyData} (h : minT key ts = .ok r) : (ts = [] /\ r = .none) \/ (ts ≠ [] /\ (∀ (j' : Nat) t, ts[j']? = some t -> ∃ k, key t = .ok (.int k)) /\ ∃ i' : Nat, ts[i']? = some r /\ ∀ j', j' < ts.length -> kOf key ts i' <= kOf key ts j' /\ (j' < i' -> kOf key ts i' < kOf key ts j')) := by
 cases ts with
 | nil => cases h; exact .inl ⟨rfl, rfl⟩
 | cons x ts =>
  simp only [minT] at h
  cases ek : key x with
  | stuck => rw [ek] at h; cases h
  | exc c => exact absurd ek (nx x c)
  | ok y =>
   rw [ek, Res.bind_ok] at h
   cases y <;> try (simp at h; done)
   rename_i k
   simp only at h
   refine .inr ⟨by simp, zcu nx (all := x :: ts) ts x k 0 0 rfl h rfl ek (Nat.le_refl _) (fun j' hj' => ?_) fun j' hj' t e => ?_⟩
   ·have z : j' = 0 := by omega
    subst z
    exact ⟨Int.le_refl _, fun w => by omega⟩
   ·have z : j' = 0 := by omega
    subst z
    cases e
    exact ⟨k, ek⟩
theorem zaO {key : PyData -> Res PyData} (nx : ∀ t c, key t ≠ .exc c) : ∀ (ts : List PyData) b m c, minL key b m ts ≠ .exc c
 | [], b, m, c => by simp [minL]
 | x :: ts, b, m, c => by
  unfold minL
  cases ek : key x with
  | stuck => simp
  | exc c' => exact absurd ek (nx x c')
  | ok y =>
   rw [Res.bind_ok]
   cases y <;> try simp
   split
   ·exact zaO nx ts _ _ c
   ·exact zaO nx ts _ _ c
theorem minT_nox {key : PyData -> Res PyData} (nx : ∀ t c, key t ≠ .exc c) (ts : List PyData) (c : Str) : minT key ts ≠ .exc c := by
 cases ts with
 | nil => simp [minT]
 | cons x ts =>
  simp only [minT]
  cases ek : key x with
  | stuck => simp
  | exc c' => exact absurd ek (nx x c')
  | ok y =>
   rw [Res.bind_ok]
   cases y <;> try simp
   exact zaO nx ts _ _ c
theorem hol_lam {K : PySem.W.Frag} {H H' : Hp} {P P' : Pv} {σ : L2.St} {G : List Sl} {cap : List Nat} {t : PyData} {v : V} (h : Hol K H P σ G) (tr : Tr H P H' P') (ho : ∀ i, P'.own i = none) (hf : ∀ a, P'.fb a -> ∃ o, H' a = some o /\ LD o) (htb : WZ K H') (rv : Rl K H' P' t v) :
  Hol K H' P' (lamS cap σ v) (.val t :: capS cap G) := by
 have z := zfQ (nv := 0) (cap := cap) h tr ho hf htb
 refine ⟨fun i s e => ?_, fun i j a z _ => (by rw [ho i] at z; cases z), fun i a z => (by rw [ho i] at z; cases z), hf, fun i a z => (by rw [ho i] at z; cases z), ?_, htb⟩
 ·cases i with
  | zero =>
   cases e
   exact ⟨v, rfl, rv⟩
  | succ i =>
   have w := z.sl i s (by simpa using e)
   have es : (lamS cap σ v).getD (i + 1) none = (sig 0 cap σ).getD i none := by simp [lamS, sig]
   have w' : SlOk K H' P' i ((lamS cap σ v).getD (i + 1) none) s := by rw [es]; exact w
   cases s with
   | emp => trivial
   | val t' => exact w'
   | own xs =>
    obtain ⟨p, vs, _, e2, _⟩ := w'
    rw [ho i] at e2; cases e2
   | dct xs =>
    obtain ⟨p, vs, _, e2, _⟩ := w'
    rw [ho i] at e2; cases e2
 ·have := z.len
  simp [lamS, sig] at this ⊢
  try omega
section
variable {X : Cx} {W : Str -> Hp -> Prop} {fl : Bool} {a b c e : Expr} {es : List Expr} {da db : DE} {pos : Pos}
theorem ev_minK {k : Nat} {x y : Str} {c T : Addr} {params : Arguments} {body : Expr} {scope : Scope} {N : List Str} {cap : List Nat} {de : DE} {p lpos kp1 kp2 cp : Pos} {jj : Nat} (L : LamAt X x c T) (C : LamOk X scope N y cap) (hr : Room (k + 2) X.A) (hg : Gl X "min") (hm : X.mg "min" = none) (ha : EV X W a da)
  (he : ∀ s₀ H₀ f cd, EV (cxL (Cx.i1 X) (lamQ x) scope N s₀ H₀ f cd) (fun _ _ => False) body de) (hdef : defaultsOf params X.env = ([], []) := by rfl)
  (hb : ∀ cl pm c' ctv u, bindArgs (PySem.W.kla_fn "<lambda>" (lamQ x) params body scope cl pm (.ref c') ctv) ⟨[u], []⟩ = pure [(y, u)] := by intros; rfl)
  (hs : starEach [a] X.env = (false, eval a X.env) :: starEach [] X.env := by rfl) :
  EV X W (.Call (.Name "min" p) [a] [⟨some "key", .Lambda params body scope lpos, kp1⟩, ⟨some "default", .Constant .none jj cp, kp2⟩] pos) (dMinK cap da de) := by
 intro pins s σ H Q I ⟨G, P, h, q⟩
 unfold dMinK at q
 obtain ⟨q1, q2, q3⟩ := Qk q
 refine wpAny_Call_Name_kw (JQ I hg hm (show bootBuiltins "min" = some (.builtin "min") by decide +kernel) ?_)
 refine callWith_kw (thn (Yk ha XM hs pos pins s σ H (fun vs H1 => ∃ tx v, vs = [v] /\ da G = .ok tx /\ Same H H1 /\ Hol X.K H1 P σ G /\ Rl X.K H1 P tx v) I (ZK h q1 q2 fun tx v H1 ex s1 h1 rx => ⟨tx, v, rfl, ex, s1, h1, rx⟩)) fun us s1 ⟨vs, H1, I1, r1, tx, v, ev, ex, sm1, h1, rx⟩ => ?_) (by rw [hs]; rfl) (by rw [hs]; rfl)
 subst ev
 obtain ⟨u1, rfl, ru⟩ := zaj r1
 refine thn ((zfl (pe_lam L C hdef) (zfl pe_non pk_nil)) pos pins s1 σ H1 (fun zs H2 => ∃ f c' ctv, zs = [.ref f, .non] /\ Same H1 H2 /\ H2 f = some (LO f (PySem.W.kla_fn "<lambda>" (lamQ x) params body scope (ZU X.env scope.names []) ((X.mg "__name__").getD .none) (.ref c') ctv)) /\ H2 c' = some (CO c' (lamQ x))) I1 ⟨h1.tab, fun f c' ctv H2 sm2 _ e1 e2 => ⟨f, c', ctv, rfl, sm2, e1, e2⟩⟩) fun ws s2 ⟨zs, H2, I2, r2, f, c', ctv, ez, sm2, hf, hc⟩ => ?_
 subst ez
 have hws : ws = [.ref f, .none] := by
  cases r2 with
  | cons ra rb =>
   cases rb with
   | cons rc rd =>
    cases rd
    cases ra
    cases rc
    rfl
 subst hws
 show wpAny _ _ (call (.builtin "min") [u1] [(Str.ofString "key", .ref f), (Str.ofString "default", .none)]) _ _ _
 have q4 := q3 tx ex
 cases tx <;> try exact q4.elim
 rename_i ts
 obtain ⟨l, vs, rfl, sl, rs⟩ := ZY.mp rx
 cases ru
 simp only at q4
 have nx : ∀ t c, noX (de (.val t :: capS cap G)) ≠ .exc c := fun t c z => by
  rcases zbM (de (.val t :: capS cap G)) with ⟨w, e⟩ | e <;> (rw [e] at z; cases z)
 have hlen := rs.length
 cases em : minT (fun t => noX (de (.val t :: capS cap G))) ts with
 | stuck => rw [em] at q4; exact q4.elim
 | exc c => exact absurd em (minT_nox nx ts c)
 | ok r =>
  rw [em] at q4
  have mt := minT_ok nx em
  refine zge (X := X) (xs := vs) (kf := kOf (fun t => noX (de (.val t :: capS cap G))) ts) hr.hd I2 (fun H' sm => ((sl.go (.same sm2)).go (.same sm)).sq) (fun i v u pins' s' H' hv rvu J sm => ?_) (fun h0 s' H' J sm => ?_) (fun i v u s' H' hv rvu best J sm => ?_)
  ·-- one call of the lambda
   obtain ⟨t, ht, rt⟩ := rs.get hv
   obtain ⟨kv, ek⟩ : ∃ kv, noX (de (.val t :: capS cap G)) = .ok (.int kv) := by
    rcases mt with ⟨e0, _⟩ | ⟨_, ks, _⟩
    ·rw [e0] at ht; simp at ht
    ·exact ks i t ht
   have ed := noX_ok ek
   have kk : kOf (fun t => noX (de (.val t :: capS cap G))) ts i = kv := by unfold kOf; rw [ht]; simp only [ek]
   have smA : Same H1 H' := sm2.trans sm
   have gg : Tr H1 P H' ⟨fun _ => none, fun a => ¬ Off P a⟩ := fun a o e1 n o1 => ⟨smA.kp a o e1 n, fun _ z => (by cases z), fun z => z o1⟩
   refine wpAny_mono (lam_call (X := Cx.i1 X) (k := k) (t := tF X.K (fun _ _ => False) de) (Q := fun v' H'' => v' = .int kv /\ Same H' H'') ⟨C.cell, C.kind, C.co, C.gen, C.par, C.free, C.head, C.len, C.caps⟩ hr.in1 (Fx.Inv.toi1 J) rvu (sm.kp _ _ hf zfu) (sm.kp _ _ hc zfu) (hb _ _ _ _ _) (he s' H' f (.ref c')) ⟨.val t :: capS cap G, ⟨fun _ => none, fun a => ¬ Off P a⟩, hol_lam h1 gg (fun _ => rfl) (fun a z => let ⟨o, q, m⟩ := h1.ld z; ⟨o, smA.kp _ _ q m.nt, m⟩) (smA.tab _ h1.tab) (Rl.go gg t v rt), ?_⟩) (fun rr s'' hh => ?_) fun _ _ z => z
   ·rw [ed]
    exact fun v' H'' sm' r' => ⟨ZM.mp r', sm'⟩
   ·obtain ⟨v', H'', J', rv', e1, sm'⟩ := hh
    subst e1
    obtain ⟨t', rfl⟩ := rv'
    exact ⟨t', H'', by rw [kk], Fx.Inv.ofi1 J.ok J', sm.trans sm'⟩
  ·-- nothing in the list
   rcases mt with ⟨_, rfl⟩ | ⟨hne, _, _⟩
   ·exact ⟨.non, H', J, rfl, q4 _ H' ((sm1.trans sm2).trans sm) (XG.mpr rfl)⟩
   ·exact absurd (List.length_eq_zero_iff.mp (by rw [hlen, h0]; rfl)) hne
  ·rcases mt with ⟨e0, _⟩ | ⟨_, _, i', hi', best'⟩
   ·rw [e0] at hlen
    have := (List.getElem?_eq_some_iff.mp hv).1
    simp at hlen
    omega
   ·have hi1 := (List.getElem?_eq_some_iff.mp hv).1
    have hi2 := (List.getElem?_eq_some_iff.mp hi').1
    have e : i = i' := by
     have b1 := best i' (by omega)
     have b2 := best' i (by omega)
     rcases Nat.lt_trichotomy i i' with z | z | z
     ·have := b2.2 z; have := b1.1; omega
     ·exact z
     ·have := b1.2 z; have := b2.1; omega
    subst e
    obtain ⟨t, ht, rt⟩ := rs.get hv
    rw [hi'] at ht
    cases ht
    exact ⟨v, H', J, rvu, q4 v H' ((sm1.trans sm2).trans sm) (Rl.go (.same (sm2.trans sm)) _ v rt)⟩
end
end Fx
namespace Fx
open PySem PySem.Spec PyProof.Rows L2
def lamCap (scope : Scope) (env : Env) (N0 N : List Str) (cap : List Nat) : Bool :=
 (List.range cap.length).all fun i => match (cap[i]? : Option Nat), (N[1 + i]? : Option Str) with
  | some j, some x => N0[j]? == some x && cf (scope.names.lookup x) && cf (env.kindOf x)
  | _, _ => true
def lamChk (scope : Scope) (env : Env) (N0 N : List Str) (y : Str) (cap : List Nat) : Bool :=
 (scope.names.all fun z => z.2 != .cell) && (scope.kind == .function) && (scope.isCoroutine == false) && (scope.isGenerator == false) && (scope.names.lookup y == some .local)
  && (scope.names.all fun z => z.2 != .free || cf (env.kindOf z.1)) && (N[0]? == some y) && (N.length == 1 + cap.length) && lamCap scope env N0 N cap
theorem lamok {X : Cx} {scope : Scope} {N : List Str} {y : Str} {cap : List Nat} (h : lamChk scope X.env X.N N y cap = true) : LamOk X scope N y cap := by
 unfold lamChk at h
 simp only [Bool.and_eq_true, List.all_eq_true] at h
 obtain ⟨⟨⟨⟨⟨⟨⟨⟨h1, h2⟩, h3⟩, h4⟩, h5⟩, h6⟩, h7⟩, h8⟩, h9⟩ := h
 refine ⟨fun y hy => by simpa using h1 y hy, by simpa using h2, by simpa using h3, by simpa using h4, by simpa using h5, fun y hy e => ?_, by simpa using h7, by simpa using h8, fun i j x hc hx => ?_⟩
 ·have := h6 y hy
  rw [e] at this
  exact zes (by simpa using this)
 ·unfold lamCap at h9
  rw [List.all_eq_true] at h9
  have hi : i < cap.length := (List.getElem?_eq_some_iff.mp hc).1
  have := h9 i (List.mem_range.mpr hi)
  rw [hc, hx] at this
  simp only [Bool.and_eq_true] at this
  exact ⟨by simpa using this.1.1, zes this.1.2, zes this.2⟩
structure LamHyp (K : PySem.W.Frag) (mg : Str -> Option Value) (base : Heap) (x : Str) (c T : Addr) : Prop where
 tab : PySem.W.tabIn K x = some (c, T)
 hd : ∀ h : Heap, K.In h -> PySem.W.CodeHd h c T
 blt : zbg mg base
theorem zdY {K : PySem.W.Frag} {x : Str} {c T : Addr} (t : PySem.W.tabIn K x = some (c, T)) : ∃ o, K.lookup c = some o := by
 unfold PySem.W.tabIn at t
 split at t
 ·split at t
  ·split at t
   ·split at t
    ·rename_i hco
     split at t
     ·cases t; exact ⟨_, hco⟩
     ·cases t
    ·cases t
   ·cases t
  ·cases t
 ·cases t
theorem tab_mk {K : PySem.W.Frag} {x : Str} {f c T : Addr} {oc occ : Value} {od odc : Option Addr} {fd : FuncData} {sl slc : Array (Option Value)} {vs : Array Value} (a : PySem.W.nsIn K mainGlobals x = some (some (.ref f))) (l : K.lookup f = some ⟨oc, od, .func fd, sl⟩) (hc : fd.code = .ref c) (lc : K.lookup c = some ⟨occ, odc, .fields vs, slc⟩) (v : vs[11]? = some (.ref T)) : PySem.W.tabIn K x = some (c, T) := by
 unfold PySem.W.tabIn
 rw [a]
 simp only [l, hc, lc, v]
theorem zaf {K : PySem.W.Frag} {x : Str} {c T : Addr} {b : Heap} (t : PySem.W.tabIn K x = some (c, T)) (hb : K.In b) (h : PySem.W.CodeHd b c T) : ∀ h' : Heap, K.In h' -> PySem.W.CodeHd h' c T := fun h' hk => by
 obtain ⟨o0, e0⟩ := zdY t
 obtain ⟨o, vs, file, tf, flags, tg, inF, text, tt, e, r⟩ := h
 have := hb _ _ e0
 rw [e] at this
 cases this
 exact ⟨_, vs, file, tf, flags, tg, inF, text, tt, hk _ _ e0, r⟩
theorem lam_at {X : Cx} {x : Str} {c T : Addr} (L : LamHyp X.K X.mg X.base x c T) (nm : x ∈ Wi) (hc : X.env.code = .ref c := by rfl) (hq : X.env.qual ++ "<lambda>" = lamQ x := by rfl) : LamAt X x c T := ⟨L.tab, nm, hc, hq, L.hd, L.blt⟩
theorem cle_ofC {P : Program} {w : World} {K : PySem.W.Frag} {mg : Str -> Option Value} {base : Heap} {x : Str} {st : Stmt} {fa c : Addr} {fd : FuncData} {N ps : List Str} {k n np : Nat} {d : DS} (F : Fun K x x st fa fd) (hcode : fd.code = .ref c) (hm : mg x = some (.ref fa)) (b : ZF K fd ps []) (S : FnScope N ps (Zd st)) (hnp : ps.length = np) (hN : N.length = n)
  (hb : ∀ (A : Around) (outer : List Env) (s : Shared) (H : Hp) (E : XK), Room k (A.deeper (envOfC x (Zd st) s.heap.objs.size fa (.ref c))) ->
   SVs (cxOf CX0 P w K mg base N x (Zd st) fa (.ref c) A outer s H E).nox (fun _ _ => False) false (Zl st) d) : Cle P w K mg base (k + 1) x np (runQ n np d) := by
 subst hN
 refine ⟨⟨fa, fd, ps, ?_, hm, F.kp, b⟩, fun ts c => zav _ _ _ ts c⟩
 obtain ⟨oc, od, kV, doc, pm, an, cdv, ct, osl, rfl, lk, hcd⟩ := F.ex
 have hcode' : cdv = .ref c := hcode
 subst hcode'
 have F' : Fun K x x st fa (PySem.W.fnOf x x (Zm st) (Zl st) (Zd st) .none kV doc pm an (.ref c) ct) := F
 refine fn_of lk hcd S (fun vs H Q E h => by rw [hnp]; exact h.1) fun A outer s H vs Q E hr h => ⟨_, (hb A outer s H E hr).nox, ?_⟩
 obtain ⟨hl, ts, P', rs, ho, hf, q⟩ := h
 have hlt : ts.length = np := by rw [rs.length]; exact hl
 refine ⟨_, P', QP rs ho hf, ?_⟩
 unfold runQ runF at q
 rw [if_pos hlt] at q
 have en : N.length - np = N.length - ts.length := by rw [hlt]
 rw [en] at q
 have sm : ∀ H' P2, Go H P' H' P2 -> Same H H' := fun H' P2 g => g.all ho
 have bk : ∀ H' P2, Go H P' H' P2 -> Tr H' P2 H' P' := fun H' P2 g b o e _ z => ⟨e, fun i => by rw [ho i]; exact fun z => (by cases z), by rw [<- g.fbe]; exact z.2⟩
 cases e : d (ts.map .val ++ List.replicate (N.length - ts.length) .emp) with
 | stuck => rw [e] at q; exact q.elim
 | exc c => rw [e] at q; exact q.elim
 | ok o =>
  rw [e, Res.bind_ok] at q
  cases o with
  | nx G => exact fun σ' H' P2 g h' => q .non H' (sm H' P2 g) (XG.mpr rfl)
  | rt t => exact fun v H' P2 g r _ => q v H' (sm H' P2 g) (Rl.go (bk H' P2 g) t v r)
  | bk G => exact q.elim
  | ct G => exact q.elim
theorem zfD {P : Program} {w : World} {K : PySem.W.Frag} {mg mb : Str -> Option Value} {k : Nat} {fa a c T : Addr} {fd : FuncData} {x x0 : Str} {f : DF} {s₁ : Shared} {vs : List Value} {ns : List Int}
  (KX : K.In s₁.heap) (hns : s₁.heap.Ns mainGlobals mg) (hb : s₁.heap.Ns builtinsNs mb) (hbb : ∀ x : Str, x ≠ "__name__" -> mb x = bootBuiltins x) (hlim : s₁.heap.NoLimit) (hg : s₁.gens = #[])
  (bmain : zbg mg s₁.heap) (htb : PySem.W.tabIn K x0 = some (c, T)) (hx0 : x0 ∈ Wi) (hno : PySem.W.noTabs K = true) (hC : PySem.W.CodeHd s₁.heap c T) (hT : s₁.heap.get? T = some (PySem.W.tabObj #[]))
  (ha : s₁.heap.get? a = some { cls := .type "list", data := .seq vs.toArray }) (hi : IntsAre vs ns) (hl : ns.length <= sizeLine) (hr : Room k callerA)
  (F : ∀ base : Heap, K.In base -> base.Ns mainGlobals mg -> zbg mg base -> PySem.W.CodeHd base c T -> FnOk P w K mg base CX0 k fa fd [x] (spF K none 1 f)) (hbind : ∀ (s : Shared) (u : Value), BindsTo s fd ⟨[u], []⟩ [(x, u)])
  (hok : f [.list (ns.map .int)] = .ok (.bool true)) :
  codeAny (model P w) callerA (.call (.ref fa) ⟨[.ref a], []⟩) (fun r s' => r = .ok (.ret (.bool true)) /\ OldK s₁.heap s'.heap /\ s'.os = s₁.os /\ AllBare s'.gens) s₁ := by
 have rv := zbi hi
 have lenV := hi.length
 have haT : a ≠ T := fun e => by rw [e, hT] at ha; cases ha
 have hKT : ∀ b o, K.lookup b = some o -> b ≠ T := fun b o e z => by
  have h2 := List.all_eq_true.mp hno (b, o) (PySem.W.mem_of_lookupK e)
  have h3 := KX _ _ e
  rw [z, hT] at h3
  cases h3
  exact absurd (show false = true from h2) Bool.false_ne_true
 -- from an abstract heap in which nothing but the table and the script may be tracked
 have core : ∀ H : Hp, H T = some (.tbl #[]) -> SqL K H a (ns.map V.int) -> HOk P w H s₁.heap -> (∀ b, H b ≠ none -> b = a \/ b = T) -> (∀ o, H a = some o -> K.lookup a = none /\ ∃ ob xs, o = .frz ob (.lst xs)) ->
   codeAny (model P w) callerA (.call (.ref fa) ⟨[.ref a], []⟩) (fun r s' => r = .ok (.ret (.bool true)) /\ OldK s₁.heap s'.heap /\ s'.os = s₁.os /\ AllBare s'.gens) s₁ := by
  intro H hHT hS hok' hA hK
  have base_of : ∀ {b : Addr} {o : Obj}, s₁.heap.get? b = some o -> H b = none -> (hidT s₁.heap H).get? b = some o := fun e n => hidT_get e n
  have noD : ∀ {b : Addr} {o : Obj}, s₁.heap.get? b = some o -> b ≠ T -> (∀ xs n, o.data ≠ .seq xs n) -> H b = none := fun {b o} e nt d => by
   cases q : H b with
   | none => rfl
   | some u =>
    rcases hA b (by rw [q]; simp) with e' | e'
    ·subst e'
     rw [ha] at e; cases e
     exact absurd rfl (d _ _)
    ·exact absurd e' nt
  have nsK : ∀ {b : Addr} {m : Str -> Option Value}, s₁.heap.Ns b m -> (hidT s₁.heap H).Ns b m := fun {b m} ⟨o, es, ep, e, d, r⟩ => ⟨o, es, ep, base_of e (noD e (fun z => by rw [z, hT] at e; cases e; cases d) fun xs n z => by rw [d] at z; cases z), d, r⟩
  have hKb : K.In (hidT s₁.heap H) := fun b o e => base_of (KX b o e) (by
   cases q : H b with
   | none => rfl
   | some u =>
    rcases hA b (by rw [q]; simp) with e' | e'
    ·subst e'
     rw [(hK u q).1] at e; cases e
    ·exact absurd e' (hKT b o e))
  have hBb : zbg mg (hidT s₁.heap H) := by
   obtain ⟨bm, ob, b1, b2, b3, b4, b5, b6, b7⟩ := bmain
   exact ⟨bm, ob, b1, b2, b3, base_of b4 (noD b4 (fun z => by rw [z, hT] at b4; cases b4; cases b5) fun xs n z => by rw [b7] at z; cases z), b5, b6, b7⟩
  have hCb : PySem.W.CodeHd (hidT s₁.heap H) c T := zaf htb KX hC _ hKb
  have hM : Mod K mg (hidT s₁.heap H) := ⟨hKb, nsK hns, ⟨mb, nsK hb, hbb⟩, let ⟨mc, h1, h2⟩ := hlim; ⟨mc, nsK h1, h2⟩⟩
  have e0 : Env0 P w K mg (hidT s₁.heap H) callerA [] s₁ H := ⟨rfl, hM, fun b o e => of_hidT e, Nat.le_of_eq (zfR _ _), trivial, fun b hb => absurd (show b ∈ ([] : List Addr) from hb) (by simp), hok', .of_eq hg⟩
  have tk : WZ K H := fun x1 c1 T1 h1 h2 => by
   have e1 : x1 = x0 := zfF h1 hx0
   subst e1
   rw [htb] at h2
   cases h2
   exact ⟨#[], hHT, trivial, fun pos cv z => by simp [codeAmong] at z⟩
  refine codeAny_mono ((F _ hKb (nsK hns) hBb hCb).run callerA [] s₁ H ⟨[.ref a], []⟩ [.ref a] [.ref a] _ (fun _ _ _ => False) hr e0 (hbind s₁ (.ref a)) (.cons rfl .nil) (law_sp hok tk hS)) fun r s' h => ?_
  cases r with
  | error e => exact False.elim h
  | ok fl =>
   cases fl with
   | next => exact False.elim h
   | brk => exact False.elim h
   | cont => exact False.elim h
   | ret u =>
    obtain ⟨v, H', os, bare, un, hok2, r', q⟩ := h
    have q' : v = .bl true := q
    subst q'
    obtain rfl : u = Value.bool true := r'
    have keep : ∀ b o, b ≠ T -> s₁.heap.get? b = some o -> s'.heap.get? b = some o := fun b o nb e => by
     cases q : H b with
     | none => exact un.keep b o e q (by intro z; exact absurd (show b ∈ ([] : List Addr) from z) (by simp)) (by simp)
     | some u =>
      rcases hA b (by rw [q]; simp) with e' | e'
      ·subst e'
       obtain ⟨_, ob, xs, rfl⟩ := hK u q
       have z2 := un.frzs b ob _ q
       obtain ⟨e1, _⟩ := hok' b _ q
       obtain ⟨e2, _⟩ := hok2 b _ z2
       rw [e] at e1; cases e1
       exact e2
      ·exact absurd e' nb
    obtain ⟨more, hT'⟩ := un.tbls T _ hHT
    have hTo : s'.heap.get? T = some (PySem.W.tabObj (#[] ++ more)) := hok2 T _ hT'
    refine ⟨rfl, ⟨fun b o e => ?_, fun b o e => ?_⟩, os, bare⟩
    ·by_cases nb : b = T
     ·subst nb
      rw [hT] at e
      cases e
      exact .inr (.inl ⟨(hC.tab hT).isCodeTable, rfl, #[], more, rfl, hTo⟩)
     ·exact .inl (keep b o nb e)
    ·by_cases nb : b = T
     ·subst nb; exact ⟨_, hTo⟩
     ·exact ⟨o, keep b o nb e⟩
 cases hk : K.lookup a with
 | some o =>
  have e := KX a o hk
  rw [ha] at e
  cases e
  refine core (fun b => if b = T then some (.tbl #[]) else none) (if_pos rfl) (.inr ⟨_, vs.toArray, _, hk, rfl, rfl, rfl, by rw [List.size_toArray, lenV]; exact hl, by simpa using rv⟩) (fun b u z => ?_) (fun b z => ?_) fun o z => ?_
  ·by_cases hb : b = T
   ·have z' := (if_pos hb).symm.trans z
    cases z'
    subst hb
    exact hT
   ·have z' := (if_neg hb).symm.trans z
    cases z'
  ·by_cases hb : b = T
   ·exact .inr hb
   ·exact absurd (if_neg hb) z
  ·have z' := (if_neg haT).symm.trans z
   cases z'
 | none =>
  refine core (fun b => if b = T then some (.tbl #[]) else if b = a then some (.frz { cls := .type "list", data := .seq vs.toArray } (.lst (ns.map V.int))) else none) (if_pos rfl) (.inl (.inr ⟨{ cls := .type "list", data := .seq vs.toArray }, (if_neg haT).trans (if_pos rfl)⟩)) (fun b u z => ?_) (fun b z => ?_) fun o z => ?_
  ·by_cases hb : b = T
   ·have z' := (if_pos hb).symm.trans z
    cases z'
    subst hb
    exact hT
   ·have z1 := (if_neg hb).symm.trans z
    by_cases hb2 : b = a
    ·have z' := (if_pos hb2).symm.trans z1
     cases z'
     subst hb2
     exact ⟨ha, by rw [List.length_map]; exact hl, vs, _, rv, ha⟩
    ·have z' := (if_neg hb2).symm.trans z1
     cases z'
  ·by_cases hb : b = T
   ·exact .inr hb
   ·by_cases hb2 : b = a
    ·exact .inl hb2
    ·exact absurd ((if_neg hb).trans (if_neg hb2)) z
  ·have z' := ((if_neg haT).trans (if_pos rfl)).symm.trans z
   cases z'
   exact ⟨hk, _, _, rfl⟩
theorem walk_T {l : PySem.W.OpenLaw} {n k : Nat} {q : Program} {loose : List Str} {XP : (Str -> Option Value) -> Heap -> Prop} {YP : World -> Heap -> Prop} {d d0 : DefRec} {K : Params -> PySem.W.Frag} {x x0 : Str} {f : DF}
  (hn : l.most = some n) (hn2 : n <= sizeLine) (hdf : d.params.defaults = []) (hr : Room k callerA) (hx0 : x0 ∈ Wi) (hrec : (recsOf q).find? (fun e => e.name == x0) = some d0)
  (hY : ∀ (w : World) (h : Heap), YP w h -> (K w.params).In h)
  (F : ∀ (w : World) (mg : Str -> Option Value) (fa : Addr) (h : Heap), (K w.params).In h -> h.Ns mainGlobals mg -> mg d.name = some (.ref fa) ->
   ∃ (fd : FuncData) (c T : Addr), PySem.W.tabIn (K w.params) x0 = some (c, T) /\ PySem.W.noTabs (K w.params) = true /\ (∀ (s : Shared) (u : Value), BindsTo s fd ⟨[u], []⟩ [(x, u)]) /\
    ∀ base : Heap, (K w.params).In base -> base.Ns mainGlobals mg -> zbg mg base -> PySem.W.CodeHd base c T -> FnOk l.prog w (K w.params) mg base CX0 k fa fd [x] (spF (K w.params) none 1 f))
  (hok : ∀ ns : List Int, ns.length <= n -> f [.list (ns.map .int)] = .ok (.bool true)) :
  PySem.W.WalkO q loose XP YP l.row.toRowW d [] (fun f vs => PySem.call f vs) := by
 refine Att.attach_call hn hdf fun w s₀ s₁ mg mb fa o pm cd doc a vs ns G Y ho hd hcd hmg hobj hints hlen hg => ?_
 have KX := hY w _ Y
 obtain ⟨fd, c, T, htb, hno, hb, hF⟩ := F w mg fa _ KX G.T.g hmg
 obtain ⟨hC, hT⟩ := PySem.W.tab_of G.T KX hrec htb
 have hB : zbg mg s₁.heap := by
  obtain ⟨bm, ob, b1, b2, b3, b4, b5, b6⟩ := G.T.bmain
  refine ⟨bm, ob, b1, b2, fun z => ?_, b3, b4, b5, b6⟩
  obtain ⟨o, es, ep, e, hdd, _⟩ := G.T.g
  rw [z, e] at b3; cases b3; rw [hdd] at b6; cases b6
 exact zfD KX G.T.g G.T.b G.T.builtins G.T.nolimit hg hB htb hx0 hno hC hT hobj hints (Nat.le_trans hlen hn2) hr hF hb (hok ns hlen)
end Fx
namespace Sx
def sumN : Nat -> (Nat -> Int) -> Int
 | 0, _ => 0
 | n + 1, f => sumN n f + f n
theorem ZL : ∀ {n : Nat} {f g : Nat -> Int}, (∀ i, i < n -> f i = g i) -> sumN n f = sumN n g
 | 0, f, g, h => rfl
 | n + 1, f, g, h => by
  simp only [sumN]
  rw [ZL (fun i hi => h i (by omega)), h n (by omega)]
theorem zam (n : Nat) (f g : Nat -> Int) : sumN n (fun i => f i + g i) = sumN n f + sumN n g := by
 induction n with
 | zero => rfl
 | succ n ih => simp only [sumN, ih]; omega
theorem X2 (n : Nat) (a : Int) (f : Nat -> Int) : sumN n (fun i => a * f i) = a * sumN n f := by
 induction n with
 | zero => simp [sumN]
 | succ n ih => simp only [sumN, ih, Int.mul_add]
theorem zal {n : Nat} {f : Nat -> Int} (h : ∀ i, i < n -> f i = 0) : sumN n f = 0 := by
 induction n with
 | zero => rfl
 | succ n ih => simp only [sumN, ih (fun i hi => h i (by omega)), h n (by omega)]; rfl
theorem UN {n k : Nat} {f : Nat -> Int} (hk : k < n) (h : ∀ i, i < n -> i ≠ k -> f i = 0) : sumN n f = f k := by
 induction n with
 | zero => omega
 | succ n ih =>
  simp only [sumN]
  by_cases e : k = n
  ·subst e
   rw [zal (fun i hi => h i (by omega) (by omega))]; omega
  ·rw [ih (by omega) (fun i hi => h i (by omega)), h n (by omega) (by omega)]; omega
theorem zb7 {n k l : Nat} {f : Nat -> Int} (hk : k < l) (hl : l < n) (h : ∀ i, i < n -> i ≠ k -> i ≠ l -> f i = 0) : sumN n f = f k + f l := by
 induction n with
 | zero => omega
 | succ n ih =>
  simp only [sumN]
  by_cases e : l = n
  ·subst e
   rw [UN (k := k) (by omega) (fun i hi hne => h i (by omega) hne (by omega))]
  ·rw [ih (by omega) (fun i hi => h i (by omega)), h n (by omega) (by omega) (by omega)]; omega
theorem zc0 {n : Nat} {f g : Nat -> Int} (h : ∀ i, i < n -> f i <= g i) : sumN n f <= sumN n g := by
 induction n with
 | zero => simp [sumN]
 | succ n ih =>
  have := ih fun i hi => h i (by omega)
  have := h n (by omega)
  simp only [sumN]; omega
theorem zeN (n : Nat) (a : Int) : sumN n (fun _ => a) = n * a := by
 induction n with
 | zero => simp [sumN]
 | succ n ih => simp only [sumN, ih]; rw [Int.natCast_succ, Int.add_mul]; omega
abbrev Vec := Nat -> Int
abbrev Mat := Nat -> Vec
def skip (i : Nat) (v : Mat) : Mat := fun k => if k < i then v k else v (k + 1)
def sg : Nat -> Int
 | 0 => 1
 | n + 1 => - sg n
def det : Nat -> Mat -> Int
 | 0, _ => 1
 | n + 1, v => sumN (n + 1) fun i => sg i * v i n * det n (skip i v)
def put (v : Mat) (k : Nat) (x : Vec) : Mat := fun i => if i = k then x else v i
@[simp] theorem Xe (v : Mat) (k : Nat) (x : Vec) : put v k x k = x := if_pos rfl
theorem Wf {v : Mat} {k i : Nat} {x : Vec} (h : i ≠ k) : put v k x i = v i := if_neg h
theorem put_put (v : Mat) (k : Nat) (x y : Vec) : put (put v k x) k y = put v k y := by
 funext i; unfold put; by_cases e : i = k <;> simp [e]
theorem Wg {v : Mat} {k l : Nat} {x y : Vec} (h : k ≠ l) : put (put v k x) l y = put (put v l y) k x := by
 funext i; unfold put
 by_cases e : i = k
 ·by_cases e2 : i = l
  ·omega
  ·simp [e, h]
 ·simp [e]
theorem WO (v : Mat) (k : Nat) : put v k (v k) = v := by
 funext i; unfold put; by_cases e : i = k <;> simp [e]
theorem XF : ∀ {n : Nat} {v u : Mat}, (∀ i c, i < n -> c < n -> v i c = u i c) -> det n v = det n u
 | 0, v, u, h => rfl
 | n + 1, v, u, h => by
  simp only [det]
  refine ZL fun i hi => ?_
  rw [h i n hi (by omega)]
  congr 1
  refine XF fun k c hk hc => ?_
  unfold skip
  split
  ·exact h k c (by omega) (by omega)
  ·exact h (k + 1) c (by omega) (by omega)
theorem zap (v : Mat) (k : Nat) (x : Vec) : skip k (put v k x) = skip k v := by
 funext i; unfold skip put
 split
 ·rw [if_neg (by omega)]
 ·rw [if_neg (by omega)]
theorem VZ {v : Mat} {i k : Nat} {x : Vec} (h : k < i) : skip i (put v k x) = put (skip i v) k x := by
 funext j; unfold skip put
 by_cases e : j = k
 ·subst e; simp [h]
 ·simp only [e, if_false]
  split
  ·rfl
  ·rw [if_neg (by omega)]
theorem V0 {v : Mat} {i k : Nat} {x : Vec} (h : i < k) : skip i (put v k x) = put (skip i v) (k - 1) x := by
 funext j; unfold skip put
 by_cases e : j = k - 1
 ·subst e
  rw [if_neg (by omega), if_pos (by omega), if_pos rfl]
 ·rw [if_neg e]
  split
  ·rename_i g; rw [if_neg (by omega)]; exact (if_pos g).symm
  ·rename_i g; rw [if_neg (by omega)]; exact (if_neg g).symm
theorem V9 : ∀ {n : Nat} (v : Mat) {k : Nat} (a b : Int) (x y : Vec), k < n -> det n (put v k fun c => a * x c + b * y c) = a * det n (put v k x) + b * det n (put v k y)
 | 0, v, k, a, b, x, y, h => by omega
 | n + 1, v, k, a, b, x, y, h => by
  simp only [det]
  rw [<- X2, <- X2, <- zam]
  refine ZL fun i hi => ?_
  by_cases e : i = k
  ·subst e
   simp only [Xe, zap]
   generalize det n (skip i v) = d
   generalize sg i = s
   grind
  ·rw [Wf e, Wf e, Wf e]
   rcases Nat.lt_or_gt_of_ne e with g | g
   ·rw [V0 g, V0 g, V0 g, V9 (skip i v) a b x y (by omega)]
    grind
   ·rw [VZ g, VZ g, VZ g, V9 (skip i v) a b x y (by omega)]
    grind
theorem za0 : ∀ {n : Nat} {v : Mat} {k : Nat}, k + 1 < n -> (∀ c, c < n -> v k c = v (k + 1) c) -> det n v = 0
 | 0, v, k, h, e => by omega
 | n + 1, v, k, h, e => by
  simp only [det]
  rw [zb7 (k := k) (l := k + 1) (by omega) h fun i hi h1 h2 => ?_]
  ·have : det n (skip k v) = det n (skip (k + 1) v) := by
    refine XF fun i c hi hc => ?_
    unfold skip
    by_cases g : i < k
    ·rw [if_pos g, if_pos (by omega)]
    ·rw [if_neg g]
     by_cases g2 : i = k
     ·subst g2; rw [if_pos (by omega)]; exact (e c (by omega)).symm
     ·rw [if_neg (by omega)]
   rw [this, e n (by omega)]
   simp only [sg]
   generalize det n (skip (k + 1) v) = d
   grind
  ·rcases Nat.lt_or_gt_of_ne h1 with g | g
   ·rw [za0 (n := n) (v := skip i v) (k := k - 1) (by omega), Int.mul_zero]
    intro c hc
    unfold skip
    rw [if_neg (by omega), if_neg (by omega), show k - 1 + 1 = k by omega]
    exact e c (by omega)
   ·rw [za0 (n := n) (v := skip i v) (k := k) (by omega), Int.mul_zero]
    intro c hc
    unfold skip
    rw [if_pos (by omega), if_pos (by omega)]
    exact e c (by omega)
theorem QY {n : Nat} {v : Mat} {p l : Nat} (hp : p < n) (hl : l < n) (hne : p ≠ l) (alt : ∀ z : Vec, det n (put (put v p z) l z) = 0) (x y : Vec) : det n (put (put v p y) l x) = - det n (put (put v p x) l y) := by
 have h := alt fun c => 1 * x c + 1 * y c
 rw [V9 _ 1 1 x y hl, Wg hne, Wg hne, V9 _ 1 1 x y hp, V9 _ 1 1 x y hp, <- Wg hne, <- Wg hne, <- Wg hne, <- Wg hne, alt x, alt y] at h
 omega
theorem zcD {n : Nat} : ∀ (d : Nat) {v : Mat} {k l : Nat}, l = k + 1 + d -> l < n -> (∀ c, c < n -> v k c = v l c) -> det n v = 0
 | 0, v, k, l, h, hl, e => by subst h; exact za0 hl e
 | d + 1, v, k, l, h, hl, e => by
  obtain ⟨m, rfl⟩ : ∃ m, l = m + 1 := ⟨k + 1 + d, by omega⟩
  have an := QY (n := n) (v := v) (p := m) (l := m + 1) (by omega) hl (by omega) (fun z => za0 hl fun c hc => by
   rw [Wf (i := m) (k := m + 1) (by omega), Xe, Xe]) (v m) (v (m + 1))
  have z := zcD (n := n) d (v := put (put v m (v (m + 1))) (m + 1) (v m)) (k := k) (l := m) (by omega) (by omega) fun c hc => by
   rw [Wf (i := k) (k := m + 1) (by omega), Wf (i := k) (k := m) (by omega), Wf (i := m) (k := m + 1) (by omega), Xe]; exact e c hc
  rw [z, WO, WO] at an
  omega
theorem Vi {n : Nat} {v : Mat} {k l : Nat} (hk : k < n) (hl : l < n) (hne : k ≠ l) (e : ∀ c, c < n -> v k c = v l c) : det n v = 0 := by
 rcases Nat.lt_or_gt_of_ne hne with g | g
 ·exact zcD (l - k - 1) (by omega) hl e
 ·exact zcD (k - l - 1) (by omega) hk fun c hc => (e c hc).symm
theorem det_anti {n : Nat} {v : Mat} {p l : Nat} (hp : p < n) (hl : l < n) (hne : p ≠ l) (x y : Vec) : det n (put (put v p y) l x) = - det n (put (put v p x) l y) :=
 QY hp hl hne (fun z => Vi hp hl hne fun c hc => by rw [Wf hne, Xe, Xe]) x y
theorem zaZ {n : Nat} (v : Mat) {k : Nat} (a : Int) (x : Vec) (h : k < n) : det n (put v k fun c => a * x c) = a * det n (put v k x) := by
 have := V9 v a 0 x x h
 simpa using this
theorem zcC {n : Nat} (v : Mat) {k : Nat} (h : k < n) (m : Nat) (a : Nat -> Int) (u : Nat -> Vec) : det n (put v k fun c => sumN m fun j => a j * u j c) = sumN m fun j => a j * det n (put v k (u j)) := by
 induction m with
 | zero =>
  simp only [sumN]
  have := zaZ v 0 (fun _ => 0) h
  simpa using this
 | succ m ih =>
  simp only [sumN]
  have := V9 v 1 (a m) (fun c => sumN m fun j => a j * u j c) (u m) h
  simp only [Int.one_mul] at this
  rw [this, ih]
theorem sg_abs (n : Nat) : sg n = 1 \/ sg n = -1 := by
 induction n with
 | zero => exact .inl rfl
 | succ n ih => simp only [sg]; omega
def fact : Nat -> Nat
 | 0 => 1
 | n + 1 => (n + 1) * fact n
theorem sum_abs {n : Nat} {f : Nat -> Int} {B : Nat} (h : ∀ i, i < n -> (f i).natAbs <= B) : (sumN n f).natAbs <= n * B := by
 induction n with
 | zero => simp [sumN]
 | succ n ih =>
  have h1 := ih fun i hi => h i (by omega)
  have h2 := h n (by omega)
  simp only [sumN, Nat.succ_mul]
  omega
theorem zcE {B : Nat} : ∀ {n : Nat} {v : Mat}, (∀ i c, i < n -> c < n -> (v i c).natAbs <= B) -> (det n v).natAbs <= fact n * B ^ n
 | 0, v, h => by simp [det, fact]
 | n + 1, v, h => by
  simp only [det, fact]
  have := sum_abs (n := n + 1) (f := fun i => sg i * v i n * det n (skip i v)) (B := B * (fact n * B ^ n)) fun i hi => by
   have h1 := h i n hi (by omega)
   have h2 := zcE (n := n) (v := skip i v) (B := B) fun k c hk hc => by
    unfold skip
    split
    ·exact h k c (by omega) (by omega)
    ·exact h (k + 1) c (by omega) (by omega)
   rw [Int.natAbs_mul, Int.natAbs_mul]
   have h3 : (sg i).natAbs = 1 := by rcases sg_abs i with e | e <;> rw [e] <;> rfl
   rw [h3, Nat.one_mul]
   exact Nat.mul_le_mul h1 h2
  refine Nat.le_trans this (Nat.le_of_eq ?_)
  rw [Nat.pow_succ]
  simp only [Nat.mul_assoc, Nat.mul_comm, Nat.mul_left_comm]
end Sx
namespace Sx
def eK (K : Nat) : Vec := fun c => if c = K then 1 else 0
def Vh (K : Nat) (M : Mat) (h : Nat -> Nat) : Mat := fun j => if j < K then M (h j) else eK K
structure Bd where
 h : Nat -> Nat
 D : Int
 R : Nat -> Nat -> Int
structure Good (K N : Nat) (M : Mat) (b : Bd) : Prop where
 pos : 0 < b.D
 dt : ∃ σ : Int, σ * σ = 1 /\ b.D = σ * det (K + 1) (Vh K M b.h) /\ ∀ i j, i < N -> j <= K -> b.R i j = σ * det (K + 1) (put (Vh K M b.h) j (M i))
 cr : ∀ i c, i < N -> c <= K -> sumN (K + 1) (fun j => b.R i j * Vh K M b.h j c) = b.D * M i c
 hN : ∀ j, j < K -> b.h j < N
def iabs (x : Int) : Int := if x < 0 then -x else x
def tk (x y : Int) : Int := if 0 < x then y else -y
theorem iabs_pos {x : Int} (h : x ≠ 0) : 0 < iabs x := by unfold iabs; split <;> omega
def swR (b : Bd) (t p : Nat) (i j : Nat) : Int := if j = p then tk (b.R t p) (b.R i p) else (iabs (b.R t p) * b.R i j - tk (b.R t p) (b.R i p) * b.R t j).fdiv b.D
def swp (b : Bd) (t p : Nat) : Bd := ⟨fun j => if j = p then t else b.h j, iabs (b.R t p), swR b t p⟩
theorem zeM {n p : Nat} (h : p < n) (a : Int) : sumN n (fun j => if j = p then a else 0) = a := by
 rw [UN h fun i hi hne => if_neg hne, if_pos rfl]
theorem sum_two' {n k l : Nat} {f : Nat -> Int} (hkn : k < n) (hln : l < n) (hne : k ≠ l) (h : ∀ i, i < n -> i ≠ k -> i ≠ l -> f i = 0) : sumN n f = f k + f l := by
 rcases Nat.lt_or_gt_of_ne hne with g | g
 ·exact zb7 g hln h
 ·rw [zb7 g hkn fun i hi h1 h2 => h i hi h2 h1]; omega
theorem fdiv_of {x y d : Int} (hd : 0 < d) (h : x = d * y) : x.fdiv d = y := by
 rw [h, Int.mul_fdiv_cancel_left _ (by omega)]
section
variable {K N : Nat} {M : Mat} {b b1 b2 : Bd} {t p : Nat}
theorem Vh_swp (hp : p < K) : Vh K M (swp b t p).h = put (Vh K M b.h) p (M t) := by
 funext j
 show (if j < K then M (if j = p then t else b.h j) else eK K) = (if j = p then M t else if j < K then M (b.h j) else eK K)
 by_cases e : j = p
 ·subst e; simp [hp]
 ·simp [e]
theorem Vh_K : Vh K M b.h K = eK K := if_neg (by omega)
theorem Vh_lt {j : Nat} (h : j < K) : Vh K M b.h j = M (b.h j) := if_pos h
theorem Good.lin (g : Good K N M b1) {q : Nat} (hq : q <= K) : ∃ φ : Vec -> Int, (∀ i, i < N -> b1.R i q = φ (M i)) /\ (∀ m (a : Nat -> Int) (u : Nat -> Vec), φ (fun c => sumN m fun j => a j * u j c) = sumN m fun j => a j * φ (u j)) /\ (∀ u u' : Vec, (∀ c, c <= K -> u c = u' c) -> φ u = φ u') /\ (∀ a u, φ (fun c => a * u c) = a * φ u) /\ φ (eK K) = (if q = K then b1.D else 0) /\ ∀ j, j < K -> φ (M (b1.h j)) = if j = q then b1.D else 0 := by
 obtain ⟨σ, hs, hD, hR⟩ := g.dt
 refine ⟨fun u => σ * det (K + 1) (put (Vh K M b1.h) q u), fun i hi => hR i q hi hq, fun m a u => ?_, fun u u' e => ?_, fun a u => ?_, ?_, fun j hj => ?_⟩
 ·show σ * _ = _
  rw [zcC _ (by omega), <- X2]
  exact ZL fun j _ => by rw [Int.mul_left_comm]
 ·show σ * _ = σ * _
  congr 1
  refine XF fun i c hi hc => ?_
  unfold put
  split
  ·exact e c (by omega)
  ·rfl
 ·show σ * _ = a * (σ * _)
  rw [zaZ _ _ _ (by omega), Int.mul_left_comm]
 ·show σ * det (K + 1) (put (Vh K M b1.h) q (eK K)) = _
  by_cases e : q = K
  ·subst e
   rw [if_pos rfl, hD, <- Vh_K (b := b1) (M := M), WO]
  ·rw [if_neg e, Vi (k := q) (l := K) (by omega) (by omega) e (fun c hc => by rw [Xe, Wf (Ne.symm e), Vh_K]), Int.mul_zero]
 ·show σ * det (K + 1) (put (Vh K M b1.h) q (M (b1.h j))) = _
  rw [<- Vh_lt (b := b1) (M := M) hj]
  by_cases e : j = q
  ·subst e
   rw [if_pos rfl, hD, WO]
  ·rw [if_neg e, Vi (k := q) (l := j) (by omega) (by omega) (Ne.symm e) (fun c hc => by rw [Xe, Wf e]), Int.mul_zero]
theorem Good.two (g1 : Good K N M b1) (g2 : Good K N M b2) {i q : Nat} (hi : i < N) (hq : q <= K) :
  b2.D * b1.R i q = sumN K (fun j => b2.R i j * b1.R (b2.h j) q) + b2.R i K * (if q = K then b1.D else 0) := by
 obtain ⟨φ, h1, h2, h3, h4, h5, _⟩ := g1.lin hq
 rw [h1 i hi, <- h4, <- h5, h3 _ (fun c => sumN (K + 1) fun j => b2.R i j * Vh K M b2.h j c) fun c hc => (g2.cr i c hi hc).symm, h2]
 simp only [sumN]
 rw [Vh_K]
 congr 1
 exact ZL fun j hj => by rw [Vh_lt hj, h1 _ (g2.hN j hj)]
theorem Good.head (g : Good K N M b) {j q : Nat} (hj : j < K) (hq : q <= K) : b.R (b.h j) q = if j = q then b.D else 0 := by
 obtain ⟨φ, h1, h2, h3, h4, h5, h6⟩ := g.lin hq
 rw [h1 _ (g.hN j hj), h6 j hj]
theorem Good.inj (g : Good K N M b) {j l : Nat} (hj : j < K) (hl : l < K) (e : b.h j = b.h l) : j = l := by
 have h := g.head hj (q := l) (by omega)
 rw [e, g.head hl (by omega), if_pos rfl] at h
 have := g.pos
 by_cases q : j = l
 ·exact q
 ·rw [if_neg q] at h; omega
theorem Good.swap (g : Good K N M b) (ht : t < N) (hp : p < K) (hne : b.R t p ≠ 0) :
  Good K N M (swp b t p) /\ ∀ i j, i < N -> j <= K -> j ≠ p -> b.D * (swp b t p).R i j = iabs (b.R t p) * b.R i j - tk (b.R t p) (b.R i p) * b.R t j := by
 obtain ⟨σ, hs, hD, hR⟩ := g.dt
 obtain ⟨s, hs2, hab, htk⟩ : ∃ s : Int, s * s = 1 /\ iabs (b.R t p) = s * b.R t p /\ ∀ y, tk (b.R t p) y = s * y := by
  by_cases e : 0 < b.R t p
  ·exact ⟨1, rfl, by unfold iabs; rw [if_neg (by omega)]; omega, fun y => by unfold tk; rw [if_pos e]; omega⟩
  ·exact ⟨-1, rfl, by unfold iabs; rw [if_pos (by omega)]; omega, fun y => by unfold tk; rw [if_neg e]; omega⟩
 have hV := Vh_swp (K := K) (M := M) (b := b) (t := t) hp
 have dR : ∀ i j, i < N -> j <= K -> det (K + 1) (put (Vh K M b.h) j (M i)) = σ * b.R i j := fun i j hi hj => by
  rw [hR i j hi hj, <- Int.mul_assoc, hs, Int.one_mul]
 have key : ∀ i j, i < N -> j <= K -> j ≠ p -> b.D * det (K + 1) (put (put (Vh K M b.h) p (M t)) j (M i)) = σ * (b.R t p * b.R i j - b.R i p * b.R t j) := by
  intro i j hi hj hjp
  rw [Wg (Ne.symm hjp), <- zaZ _ _ _ (by omega), XF (u := put (put (Vh K M b.h) j (M i)) p fun c => sumN (K + 1) fun l => b.R t l * Vh K M b.h l c), zcC _ (by omega), sum_two' (k := p) (l := j) (by omega) (by omega) (Ne.symm hjp) fun l hl h1 h2 => ?_]
  ·rw [Wg hjp, WO, dR i j hi hj, det_anti (by omega) (by omega) hjp, WO, dR i p hi (by omega)]
   grind
  ·rw [Vi (k := p) (l := l) (by omega) hl (Ne.symm h1) (fun c hc => by rw [Xe, Wf h1, Wf h2]), Int.mul_zero]
  ·intro a c ha hc
   unfold put
   split
   ·exact (g.cr t c ht (by omega)).symm
   ·rfl
 have ex : ∀ i j, i < N -> j <= K -> j ≠ p -> (swp b t p).R i j = s * σ * det (K + 1) (put (put (Vh K M b.h) p (M t)) j (M i)) := by
  intro i j hi hj hjp
  show swR b t p i j = _
  unfold swR
  rw [if_neg hjp, hab, htk]
  refine fdiv_of g.pos ?_
  have k := key i j hi hj hjp
  have e : b.D * (s * σ * det (K + 1) (put (put (Vh K M b.h) p (M t)) j (M i))) = s * σ * (b.D * det (K + 1) (put (put (Vh K M b.h) p (M t)) j (M i))) := by rw [Int.mul_left_comm]
  rw [e, k]
  have e2 : s * σ * (σ * (b.R t p * b.R i j - b.R i p * b.R t j)) = s * (σ * σ) * (b.R t p * b.R i j - b.R i p * b.R t j) := by grind
  rw [e2, hs]
  grind
 have exD : ∀ i j, i < N -> j <= K -> j ≠ p -> b.D * (swp b t p).R i j = iabs (b.R t p) * b.R i j - tk (b.R t p) (b.R i p) * b.R t j := by
  intro i j hi hj hjp
  rw [ex i j hi hj hjp]
  have k := key i j hi hj hjp
  have e : b.D * (s * σ * det (K + 1) (put (put (Vh K M b.h) p (M t)) j (M i))) = s * σ * (b.D * det (K + 1) (put (put (Vh K M b.h) p (M t)) j (M i))) := by rw [Int.mul_left_comm]
  rw [e, k, hab, htk]
  have e2 : s * σ * (σ * (b.R t p * b.R i j - b.R i p * b.R t j)) = s * (σ * σ) * (b.R t p * b.R i j - b.R i p * b.R t j) := by grind
  rw [e2, hs]
  grind
 have exp : ∀ i, (swp b t p).R i p = s * b.R i p := fun i => by
  show swR b t p i p = _
  unfold swR
  rw [if_pos rfl, htk]
 refine ⟨⟨iabs_pos hne, ⟨s * σ, by grind, ?_, fun i j hi hj => ?_⟩, fun i c hi hc => ?_, fun j hj => ?_⟩, exD⟩
 ·show iabs _ = _
  rw [hV, dR t p ht (by omega), hab]
  have : s * σ * (σ * b.R t p) = s * (σ * σ) * b.R t p := by grind
  rw [this, hs, Int.mul_one]
 ·rw [hV]
  by_cases e : j = p
  ·subst e
   rw [put_put, dR i j hi hj, exp]
   have : s * σ * (σ * b.R i j) = s * (σ * σ) * b.R i j := by grind
   rw [this, hs, Int.mul_one]
  ·exact ex i j hi hj e
 ·have hD0 : b.D ≠ 0 := by have := g.pos; omega
  refine Int.eq_of_mul_eq_mul_left hD0 ?_
  rw [<- X2, hV]
  have : ∀ j, j < K + 1 -> b.D * ((swp b t p).R i j * put (Vh K M b.h) p (M t) j c) = (s * b.R t p * (b.R i j * Vh K M b.h j c) + (-(s * b.R i p)) * (b.R t j * Vh K M b.h j c)) + (if j = p then b.D * (s * b.R i p) * M t c else 0) := by
   intro j hj
   by_cases e : j = p
   ·subst e
    rw [exp, Xe, if_pos rfl]
    grind
   ·rw [Wf e, if_neg e, <- Int.mul_assoc, exD i j hi (by omega) e, hab, htk]
    grind
  rw [ZL this, zam, zam, X2, X2, zeM (by omega), g.cr i c hi hc, g.cr t c ht hc]
  show _ = b.D * (iabs _ * _)
  rw [hab]
  grind
 ·show (if j = p then t else b.h j) < N
  split
  ·exact ht
  ·exact g.hN j hj
theorem Good.size (g : Good K N M b) {B : Nat} (hB : 1 <= B) (hM : ∀ i c, i < N -> c <= K -> (M i c).natAbs <= B) : b.D.natAbs <= fact (K + 1) * B ^ (K + 1) /\ ∀ i j, i < N -> j <= K -> (b.R i j).natAbs <= fact (K + 1) * B ^ (K + 1) := by
 obtain ⟨σ, hs, hD, hR⟩ := g.dt
 have s1 : σ.natAbs = 1 := by
  have : σ.natAbs * σ.natAbs = 1 := by rw [<- Int.natAbs_mul, hs]; rfl
  exact Nat.eq_one_of_mul_eq_one_left this
 have hV : ∀ i c, i < K + 1 -> c < K + 1 -> (Vh K M b.h i c).natAbs <= B := fun i c hi hc => by
  unfold Vh
  split
  ·rename_i hj; exact hM _ c (g.hN i hj) (by omega)
  ·unfold eK; split <;> simp <;> omega
 constructor
 ·rw [hD, Int.natAbs_mul, s1, Nat.one_mul]
  exact zcE hV
 ·intro i j hi hj
  rw [hR i j hi hj, Int.natAbs_mul, s1, Nat.one_mul]
  refine zcE fun a c ha hc => ?_
  unfold put
  split
  ·exact hM i c hi (by omega)
  ·exact hV a c ha hc
end
end Sx
namespace Sx
section
variable {K N : Nat} {M : Mat}
theorem Good.head0 {b : Bd} (g : Good K N M b) {j : Nat} (hj : j < K) : b.R (b.h j) K = 0 := by
 rw [g.head hj (Nat.le_refl K), if_neg (by omega)]
theorem zeK {n k : Nat} {f : Nat -> Int} (hk : k < n) (h : ∀ i, i < n -> f i <= 0) (h2 : f k < 0) : sumN n f < 0 := by
 induction n with
 | zero => omega
 | succ n ih =>
  simp only [sumN]
  by_cases e : k = n
  ·subst e
   have := zc0 (n := k) (f := f) (g := fun _ => 0) fun i hi => h i (by omega)
   rw [zeN] at this
   omega
  ·have := ih (by omega) fun i hi => h i (by omega)
   have := h n (by omega)
   omega
theorem mul_np {a b : Int} (ha : a <= 0) (hb : 0 <= b) : a * b <= 0 := by
 have := Int.mul_nonneg (show 0 <= -a by omega) hb
 rw [Int.neg_mul] at this; omega
theorem JN {a b : Int} (ha : 0 < a) (hb : b < 0) : a * b < 0 := by
 have := Int.mul_pos ha (show 0 < -b by omega)
 rw [Int.mul_neg] at this; omega
theorem zd5 {a b : Int} (ha : 0 < a) (h : a * b < 0) : b < 0 := by
 rcases (show b < 0 \/ 0 <= b by omega) with g | g
 ·exact g
 ·have := Int.mul_nonneg (show 0 <= a by omega) g; omega
theorem bland1 {b1 b2 : Bd} (g1 : Good K N M b1) (g2 : Good K N M b2) {q t p : Nat} (hq : b1.R q K < 0) (hlow : ∀ i, K <= i -> i < q -> 0 <= b1.R i K)
  (hp : p < K) (hpq : b2.h p = q) (ht : t < N) (h0 : b2.R t p > 0) (h1 : b2.R t K < 0) (h2 : ∀ j, j < K -> b2.h j < q -> b2.R t j <= 0) (h3 : ∀ j, j < K -> b2.h j < K -> b2.R t j = 0) (htK : K <= t) (htq : t < q)
  (h4 : ∀ j, j < K -> q < b2.h j -> ∃ l, l < K /\ b1.h l = b2.h j) : False := by
 have e := g1.two g2 ht (Nat.le_refl K)
 rw [if_pos rfl] at e
 have s : sumN K (fun j => b2.R t j * b1.R (b2.h j) K) < 0 := by
  refine zeK hp (fun j hj => ?_) ?_
  ·rcases Nat.lt_trichotomy (b2.h j) q with z | z | z
   ·by_cases zk : b2.h j < K
    ·rw [h3 j hj zk, Int.zero_mul]; exact Int.le_refl 0
    ·exact mul_np (h2 j hj z) (hlow _ (by omega) z)
   ·have : j = p := g2.inj hj hp (by rw [z, hpq])
    subst this
    rw [z]
    exact Int.le_of_lt (JN h0 hq)
   ·obtain ⟨l, hl, el⟩ := h4 j hj z
    rw [<- el, g1.head0 hl, Int.mul_zero]
    exact Int.le_refl 0
  ·show b2.R t p * b1.R (b2.h p) K < 0
   rw [hpq]
   exact JN h0 hq
 have s2 : b2.R t K * b1.D < 0 := by rw [Int.mul_comm]; exact JN g1.pos h1
 have := zd5 g2.pos (show b2.D * b1.R t K < 0 by rw [e]; omega)
 have := hlow t htK htq
 omega
theorem bland2 {b1 b2 : Bd} (g1 : Good K N M b1) (g2 : Good K N M b2) {w q p1 p : Nat} (hw : w < N) (hp1 : p1 < K) (hq1 : b1.h p1 = q) (h1 : b1.R w p1 > 0) (h2 : ∀ j, j < K -> b1.h j < q -> b1.R w j <= 0) (h3 : ∀ j, j < K -> b1.h j < K -> b1.R w j = 0)
  (hp : p < K) (k1 : b2.R w p > 0) (k2 : b2.R q p < 0) (k3 : 0 <= b2.R q K) (k4 : ∀ i, K <= i -> i < q -> b2.R i p < 0 -> b2.R q K * -b2.R i p < b2.R i K * -b2.R q p)
  (same : ∀ i, i < N -> b1.R i K * b2.D = b2.R i K * b1.D) (h4 : ∀ j, j < K -> q < b1.h j -> ∃ l, l < K /\ l ≠ p /\ b2.h l = b1.h j) : False := by
 have e := g2.two g1 hw (q := p) (by omega)
 rw [if_neg (by omega), Int.mul_zero, Int.add_zero] at e
 have s : sumN K (fun j => b1.R w j * b2.R (b1.h j) p) < 0 := by
  refine zeK hp1 (fun j hj => ?_) ?_
  ·rcases Nat.lt_trichotomy (b1.h j) q with z | z | z
   ·by_cases zk : b1.h j < K
    ·rw [h3 j hj zk, Int.zero_mul]; exact Int.le_refl 0
    ·rcases (show b2.R (b1.h j) p < 0 \/ 0 <= b2.R (b1.h j) p by omega) with n | n
     ·have k := k4 _ (by omega) z n
      have s := same _ (g1.hN j hj)
      rw [g1.head0 hj, Int.zero_mul] at s
      have : b2.R (b1.h j) K = 0 := by
       rcases Int.mul_eq_zero.mp s.symm with y | y
       ·exact y
       ·have := g1.pos; omega
      rw [this, Int.zero_mul] at k
      have := Int.mul_nonneg k3 (show 0 <= -b2.R (b1.h j) p by omega)
      omega
     ·exact mul_np (h2 j hj z) n
   ·have : j = p1 := g1.inj hj hp1 (by rw [z, hq1])
    subst this
    rw [z]
    exact Int.le_of_lt (JN h1 k2)
   ·obtain ⟨l, hl, hlp, el⟩ := h4 j hj z
    rw [<- el, g2.head hl (by omega), if_neg hlp, Int.mul_zero]
    exact Int.le_refl 0
  ·show b1.R w p1 * b2.R (b1.h p1) p < 0
   rw [hq1]
   exact JN h1 k2
 have := Int.mul_pos g1.pos k1
 omega
structure Walk (K : Nat) (B : Nat -> Nat -> Nat) (T P : Nat -> Nat) (x y : Nat) : Prop where
 st : ∀ k, x <= k -> k < y -> B (k + 1) = fun j => if j = P k then T k else B k j
 pl : ∀ k, x <= k -> k < y -> P k < K
 nh : ∀ k, x <= k -> k < y -> ∀ j, j < K -> B k j ≠ T k
 ij : ∀ k, x <= k -> k < y -> ∀ i j, i < K -> j < K -> B k i = B k j -> i = j
def Hd (K : Nat) (h : Nat -> Nat) (s : Nat) : Prop := ∃ j, j < K /\ h j = s
theorem Walk.stays {B : Nat -> Nat -> Nat} {T P : Nat -> Nat} {x y : Nat} (w : Walk K B T P x y) {s : Nat} (hs : ∀ k, x <= k -> k < y -> B k (P k) ≠ s) : ∀ d a, x <= a -> a + d <= y -> Hd K (B a) s -> Hd K (B (a + d)) s
 | 0, a, _, _, h => h
 | d + 1, a, ha, hd, h => by
  obtain ⟨j, hj, e⟩ := w.stays hs d a ha (by omega) h
  refine ⟨j, hj, ?_⟩
  show B (a + d + 1) j = s
  rw [w.st (a + d) (by omega) (by omega)]
  show (if j = P (a + d) then T (a + d) else B (a + d) j) = s
  rw [if_neg (fun z => hs (a + d) (by omega) (by omega) (by rw [<- z]; exact e)), e]
theorem Walk.stayn {B : Nat -> Nat -> Nat} {T P : Nat -> Nat} {x y : Nat} (w : Walk K B T P x y) {s : Nat} (hs : ∀ k, x <= k -> k < y -> T k ≠ s) : ∀ d a, x <= a -> a + d <= y -> ¬ Hd K (B a) s -> ¬ Hd K (B (a + d)) s
 | 0, a, _, _, h => h
 | d + 1, a, ha, hd, h => by
  rintro ⟨j, hj, e⟩
  have e' : B (a + d + 1) j = s := e
  rw [w.st (a + d) (by omega) (by omega)] at e'
  have e2 : (if j = P (a + d) then T (a + d) else B (a + d) j) = s := e'
  split at e2
  ·exact hs (a + d) (by omega) (by omega) e2
  ·exact w.stayn hs d a ha (by omega) h ⟨j, hj, e2⟩
theorem exmax {x : Nat} (T U : Nat -> Nat) : ∀ d, ∃ q, (∃ k, x <= k /\ k < x + d + 1 /\ (T k = q \/ U k = q)) /\ ∀ k, x <= k -> k < x + d + 1 -> T k <= q /\ U k <= q
 | 0 => ⟨max (T x) (U x), ⟨x, Nat.le_refl x, by omega, by omega⟩, fun k h1 h2 => by
  have e : k = x := by omega
  subst e
  omega⟩
 | d + 1 => by
  obtain ⟨q, ⟨k, h1, h2, h3⟩, h4⟩ := exmax T U d
  refine ⟨max q (max (T (x + d + 1)) (U (x + d + 1))), ?_, fun k' a1 a2 => ?_⟩
  ·by_cases z : max (T (x + d + 1)) (U (x + d + 1)) <= q
   ·exact ⟨k, h1, by omega, by omega⟩
   ·exact ⟨x + d + 1, by omega, by omega, by omega⟩
  ·by_cases z : k' = x + d + 1
   ·subst z; omega
   ·have := h4 k' a1 (by omega); omega
theorem Walk.round {B : Nat -> Nat -> Nat} {T P : Nat -> Nat} {x y : Nat} (w : Walk K B T P x y) (hxy : x < y) (he : ∀ j, j < K -> B x j = B y j) :
  ∃ q k1 k2, x <= k1 /\ k1 < y /\ x <= k2 /\ k2 < y /\ T k1 = q /\ B k2 (P k2) = q /\ (∀ k, x <= k -> k < y -> T k <= q /\ B k (P k) <= q) /\ ∀ a c s, x <= a -> a <= y -> x <= c -> c <= y -> q < s -> Hd K (B a) s -> Hd K (B c) s := by
 obtain ⟨q, ⟨k, h1, h2, h3⟩, h4⟩ := exmax (x := x) T (fun k => B k (P k)) (y - x - 1)
 rw [show x + (y - x - 1) + 1 = y by omega] at h2 h4
 have hxy' : ∀ s, Hd K (B x) s ↔ Hd K (B y) s := fun s => ⟨fun ⟨j, hj, e⟩ => ⟨j, hj, by rw [<- he j hj]; exact e⟩, fun ⟨j, hj, e⟩ => ⟨j, hj, by rw [he j hj]; exact e⟩⟩
 have inn : ∃ k1, x <= k1 /\ k1 < y /\ T k1 = q := by
  rcases h3 with h3 | h3
  ·exact ⟨k, h1, h2, h3⟩
  ·refine Classical.byContradiction fun no => ?_
   have nn : ∀ k', x <= k' -> k' < y -> T k' ≠ q := fun k' a1 a2 a3 => no ⟨k', a1, a2, a3⟩
   have out : ¬ Hd K (B (k + 1)) q := by
    rintro ⟨j, hj, e⟩
    rw [w.st k h1 h2] at e
    have e2 : (if j = P k then T k else B k j) = q := e
    have h3' : B k (P k) = q := h3
    split at e2
    ·exact nn k h1 h2 e2
    ·rename_i ne
     exact ne (w.ij k h1 h2 j (P k) hj (w.pl k h1 h2) (e2.trans h3'.symm))
   exact (by
    have := w.stayn nn (y - (k + 1)) (k + 1) (by omega) (by omega) out
    rw [show k + 1 + (y - (k + 1)) = y by omega] at this
    have h0 : ¬ Hd K (B x) q := fun z => this ((hxy' q).mp z)
    have := w.stayn nn (k - x) x (by omega) (by omega) h0
    rw [show x + (k - x) = k by omega] at this
    exact this ⟨P k, w.pl k h1 h2, h3⟩)
 have out : ∃ k2, x <= k2 /\ k2 < y /\ B k2 (P k2) = q := by
  obtain ⟨k, h1, h2, h3⟩ := inn
  refine Classical.byContradiction fun no => ?_
  have nn : ∀ k', x <= k' -> k' < y -> B k' (P k') ≠ q := fun k' a1 a2 a3 => no ⟨k', a1, a2, a3⟩
  have hin : Hd K (B (k + 1)) q := ⟨P k, w.pl k h1 h2, by
   rw [w.st k h1 h2]
   show (if P k = P k then T k else _) = q
   rw [if_pos rfl, h3]⟩
  have a := w.stays nn (y - (k + 1)) (k + 1) (by omega) (by omega) hin
  rw [show k + 1 + (y - (k + 1)) = y by omega] at a
  have a2 := w.stays nn (k - x) x (by omega) (by omega) ((hxy' q).mpr a)
  rw [show x + (k - x) = k by omega] at a2
  obtain ⟨j, hj, e⟩ := a2
  exact w.nh k h1 h2 j hj (by rw [e, h3])
 obtain ⟨k1, a1, a2, a3⟩ := inn
 obtain ⟨k2, c1, c2, c3⟩ := out
 refine ⟨q, k1, k2, a1, a2, c1, c2, a3, c3, h4, fun a c s ha1 ha2 hc1 hc2 hs h => ?_⟩
 have n1 : ∀ k, x <= k -> k < y -> B k (P k) ≠ s := fun k h1 h2 e => by have := (h4 k h1 h2).2; omega
 have n2 : ∀ k, x <= k -> k < y -> T k ≠ s := fun k h1 h2 e => by have := (h4 k h1 h2).1; omega
 have b0 : Hd K (B y) s := by
  have := w.stays n1 (y - a) a ha1 (by omega) h
  rwa [show a + (y - a) = y by omega] at this
 have := w.stays n1 (c - x) x (by omega) (by omega) ((hxy' s).mpr b0)
 rwa [show x + (c - x) = c by omega] at this
theorem zfm : ∀ (n : Nat) (f : Nat -> Nat), (∀ i, i <= n -> f i < n) -> ∃ i j, i < j /\ j <= n /\ f i = f j
 | 0, f, h => absurd (h 0 (Nat.le_refl 0)) (by omega)
 | n + 1, f, h => by
  by_cases e : ∃ i, i <= n /\ f i = f (n + 1)
  ·obtain ⟨i, hi, e⟩ := e
   exact ⟨i, n + 1, by omega, Nat.le_refl _, e⟩
  ·-- the value of the last one is left out
   have hn := h (n + 1) (Nat.le_refl _)
   obtain ⟨i, j, h1, h2, h3⟩ := zfm n (fun i => if f i < f (n + 1) then f i else f i - 1) (fun i hi => by
    have a := h i (by omega)
    have b : f i ≠ f (n + 1) := fun z => e ⟨i, hi, z⟩
    show (if f i < f (n + 1) then f i else f i - 1) < n
    split <;> omega)
   refine ⟨i, j, h1, by omega, ?_⟩
   have b1 : f i ≠ f (n + 1) := fun z => e ⟨i, by omega, z⟩
   have b2 : f j ≠ f (n + 1) := fun z => e ⟨j, h2, z⟩
   have h3' : (if f i < f (n + 1) then f i else f i - 1) = (if f j < f (n + 1) then f j else f j - 1) := h3
   split at h3' <;> split at h3' <;> omega
def code (N : Nat) : Nat -> (Nat -> Nat) -> Nat
 | 0, _ => 0
 | K + 1, h => code N K h + N ^ K * h K
theorem Jm {N : Nat} : ∀ {K : Nat} {h : Nat -> Nat}, (∀ j, j < K -> h j < N) -> code N K h < N ^ K
 | 0, h, _ => by simp [code]
 | K + 1, h, e => by
  have a := Jm (N := N) (K := K) (h := h) fun j hj => e j (by omega)
  have b := e K (by omega)
  simp only [code, Nat.pow_succ]
  have : N ^ K * (h K + 1) <= N ^ K * N := Nat.mul_le_mul_left _ (by omega)
  rw [Nat.mul_add] at this
  omega
theorem za9 {N : Nat} : ∀ {K : Nat} {h h' : Nat -> Nat}, (∀ j, j < K -> h j < N) -> (∀ j, j < K -> h' j < N) -> code N K h = code N K h' -> ∀ j, j < K -> h j = h' j
 | 0, h, h', _, _, _, j, hj => by omega
 | K + 1, h, h', a, b, e, j, hj => by
  simp only [code] at e
  have a1 := Jm (N := N) (K := K) (h := h) fun j hj => a j (by omega)
  have b1 := Jm (N := N) (K := K) (h := h') fun j hj => b j (by omega)
  have hp : 0 < N ^ K := by omega
  have e1 : h K = h' K := by
   have q1 : (code N K h + N ^ K * h K) / N ^ K = h K := by rw [Nat.add_mul_div_left _ _ hp, Nat.div_eq_of_lt a1, Nat.zero_add]
   have q2 : (code N K h' + N ^ K * h' K) / N ^ K = h' K := by rw [Nat.add_mul_div_left _ _ hp, Nat.div_eq_of_lt b1, Nat.zero_add]
   rw [<- q1, <- q2, e]
  have e2 : code N K h = code N K h' := by rw [e1] at e; omega
  by_cases z : j = K
  ·rw [z]; exact e1
  ·exact za9 (fun j hj => a j (by omega)) (fun j hj => b j (by omega)) e2 j (by omega)
structure Ch1 (K N : Nat) (b : Bd) (t p : Nat) : Prop where
 tK : K <= t
 tN : t < N
 pK : p < K
 sh : b.R t K < 0
 low : ∀ i, K <= i -> i < t -> 0 <= b.R i K
 hp : 0 < b.R t p
 hj : ∀ j, j < K -> b.h j < b.h p -> b.R t j <= 0
 am : ∀ j, j < K -> b.h j < K -> b.R t j = 0
theorem zcb {B : Nat -> Bd} {T P : Nat -> Nat} {L : Nat} (g : ∀ k, k <= L -> Good K N M (B k)) (ch : ∀ k, k < L -> Ch1 K N (B k) (T k) (P k)) (st : ∀ k, k < L -> B (k + 1) = swp (B k) (T k) (P k)) : L < N ^ K := by
 refine Classical.byContradiction fun no => ?_
 obtain ⟨x, y, h1, h2, h3⟩ := zfm (N ^ K) (fun k => code N K (B k).h) fun i hi => Jm (g i (by omega)).hN
 have he := za9 (g x (by omega)).hN (g y (by omega)).hN h3
 have w : Walk K (fun k => (B k).h) T P x y := by
  refine ⟨fun k a b => ?_, fun k a b => (ch k (by omega)).pK, fun k a b j hj e => ?_, fun k a b i j hi hj e => (g k (by omega)).inj hi hj e⟩
  ·show (B (k + 1)).h = _
   rw [st k (by omega)]; rfl
  ·have := (g k (by omega)).head0 hj
   have e' : (B k).h j = T k := e
   rw [e'] at this
   have := (ch k (by omega)).sh
   omega
 obtain ⟨q, k1, k2, a1, a2, c1, c2, e1, e2, mx, sm⟩ := w.round h1 he
 have c1' := ch k1 (by omega)
 have c2' := ch k2 (by omega)
 have hq : (B k2).h (P k2) = q := e2
 have tq : T k2 < q := by
  have := (mx k2 c1 c2).1
  rcases Nat.lt_or_ge (T k2) q with z | z
  ·exact z
  ·exact absurd (show (B k2).h (P k2) = T k2 by omega) (w.nh k2 c1 c2 (P k2) c2'.pK)
 refine bland1 (g k1 (by omega)) (g k2 (by omega)) (q := q) (t := T k2) (p := P k2) (by rw [<- e1]; exact c1'.sh) (fun i h1 h2 => c1'.low i h1 (by omega)) c2'.pK hq c2'.tN c2'.hp c2'.sh (fun j hj z => c2'.hj j hj (by omega)) c2'.am c2'.tK tq fun j hj z => ?_
 exact sm k2 k1 _ c1 (by omega) a1 (by omega) z ⟨j, hj, rfl⟩
structure Ch2 (K N w : Nat) (b : Bd) (t p : Nat) : Prop where
 tK : K <= t
 tN : t < N
 pK : p < K
 hp : 0 < b.R w p
 hj : ∀ j, j < K -> b.h j < b.h p -> b.R w j <= 0
 am : ∀ j, j < K -> b.h j < K -> b.R w j = 0
 ng : b.R t p < 0
 fe : 0 <= b.R t K
 lo : ∀ i, K <= i -> i < t -> b.R i p < 0 -> b.R t K * -b.R i p < b.R i K * -b.R t p
theorem zeG {b : Bd} {t p : Nat} (g : Good K N M b) (ht : t < N) (hp : p < K) (hn : b.R t p < 0) {i j : Nat} (hi : i < N) (hj : j <= K) (hjp : j ≠ p) :
  (swp b t p).D = -b.R t p /\ b.D * (swp b t p).R i j = -b.R t p * b.R i j + b.R i p * b.R t j := by
 have e := (g.swap ht hp (by omega)).2 i j hi hj hjp
 have e1 : iabs (b.R t p) = -b.R t p := by unfold iabs; rw [if_pos hn]
 have e2 : tk (b.R t p) (b.R i p) = -b.R i p := by unfold tk; rw [if_neg (by omega)]
 refine ⟨e1, ?_⟩
 rw [e, e1, e2]
 grind
theorem zag {b : Bd} {w t p : Nat} (g : Good K N M b) (hw : w < N) (c : Ch2 K N w b t p) :
  b.R w K * (swp b t p).D <= (swp b t p).R w K * b.D /\ (b.R w K * (swp b t p).D = (swp b t p).R w K * b.D -> ∀ i, i < N -> b.R i K * (swp b t p).D = (swp b t p).R i K * b.D) := by
 have f := fun i (hi : i < N) => zeG g c.tN c.pK c.ng hi (Nat.le_refl K) (by have := c.pK; omega)
 have e : ∀ i, i < N -> (swp b t p).R i K * b.D = b.R i K * (swp b t p).D + b.R i p * b.R t K := fun i hi => by
  obtain ⟨h1, h2⟩ := f i hi
  rw [Int.mul_comm, h2, h1]; grind
 rw [e w hw]
 refine ⟨?_, fun z i hi => ?_⟩
 ·have := Int.mul_nonneg (Int.le_of_lt c.hp) c.fe; omega
 ·have z0 : b.R w p * b.R t K = 0 := by omega
  rcases Int.mul_eq_zero.mp z0 with y | y
  ·have := c.hp; omega
  ·rw [e i hi, y, Int.mul_zero, Int.add_zero]
theorem WP {a b c x y z : Int} (hx : 0 < x) (hy : 0 < y) (hz : 0 < z) (h1 : a * y <= b * x) (h2 : b * z <= c * y) : a * z <= c * x := by
 have h3 := Int.mul_le_mul_of_nonneg_right h1 (Int.le_of_lt hz)
 have h4 := Int.mul_le_mul_of_nonneg_right h2 (Int.le_of_lt hx)
 have h5 : a * z * y <= c * x * y := by
  have e1 : a * y * z = a * z * y := by grind
  have e2 : b * x * z = b * z * x := by grind
  have e3 : c * y * x = c * x * y := by grind
  rw [e1, e2] at h3
  rw [e3] at h4
  omega
 exact Int.le_of_mul_le_mul_right h5 hy
theorem zaY {a b c x y z : Int} (hy : 0 < y) (h1 : a * y = b * x) (h2 : b * z = c * y) : a * z = c * x := by
 have h5 : a * z * y = c * x * y := by
  have e1 : a * z * y = a * y * z := by grind
  have e2 : b * x * z = b * z * x := by grind
  rw [e1, h1, e2, h2]; grind
 exact Int.eq_of_mul_eq_mul_right (by omega) h5
theorem zer {B : Nat -> Bd} {T P : Nat -> Nat} {L w : Nat} (hw : w < N) (g : ∀ k, k <= L -> Good K N M (B k)) (ch : ∀ k, k < L -> Ch2 K N w (B k) (T k) (P k)) (st : ∀ k, k < L -> B (k + 1) = swp (B k) (T k) (P k)) : L < N ^ K := by
 refine Classical.byContradiction fun no => ?_
 obtain ⟨x, y, h1, h2, h3⟩ := zfm (N ^ K) (fun k => code N K (B k).h) fun i hi => Jm (g i (by omega)).hN
 have he := za9 (g x (by omega)).hN (g y (by omega)).hN h3
 have wk : Walk K (fun k => (B k).h) T P x y := by
  refine ⟨fun k a b => ?_, fun k a b => (ch k (by omega)).pK, fun k a b j hj e => ?_, fun k a b i j hi hj e => (g k (by omega)).inj hi hj e⟩
  ·show (B (k + 1)).h = _
   rw [st k (by omega)]; rfl
  ·have c := ch k (by omega)
   have := (g k (by omega)).head hj (q := P k) (by have := c.pK; omega)
   have e' : (B k).h j = T k := e
   rw [e'] at this
   have := c.ng
   have := (g k (by omega)).pos
   split at * <;> omega
 -- worth does not fall from step to step
 have mono : ∀ d a, a + d <= L -> (B a).R w K * (B (a + d)).D <= (B (a + d)).R w K * (B a).D := by
  intro d
  induction d with
  | zero => intro a _; exact Int.le_refl _
  | succ d ih =>
   intro a hd
   have s := (zag (g (a + d) (by omega)) hw (ch (a + d) (by omega))).1
   rw [<- st (a + d) (by omega)] at s
   exact WP (g a (by omega)).pos (g (a + d) (by omega)).pos (g (a + d + 1) (by omega)).pos (ih a (by omega)) s
 -- the board at the end of the round tells the same worth as at its start
 have fin : ∀ i, i < N -> (B x).R i K * (B y).D = (B y).R i K * (B x).D := by
  intro i hi
  have e := (g x (by omega)).two (g y (by omega)) hi (Nat.le_refl K)
  rw [if_pos rfl, zal fun j hj => by rw [<- he j hj, (g x (by omega)).head0 hj, Int.mul_zero]] at e
  rw [Int.mul_comm, e]; omega
 have flat : ∀ k, x <= k -> k < y -> (B k).R w K * (B (k + 1)).D = (B (k + 1)).R w K * (B k).D := by
  intro k a b
  have m1 := mono (k - x) x (by omega)
  rw [show x + (k - x) = k by omega] at m1
  have m2 := mono (y - (k + 1)) (k + 1) (by omega)
  rw [show k + 1 + (y - (k + 1)) = y by omega] at m2
  have m3 := mono 1 k (by omega)
  have e : (B (k + 1)).R w K * (B k).D <= (B k).R w K * (B (k + 1)).D := by
   have s1 : (B (k + 1)).R w K * (B x).D <= (B x).R w K * (B (k + 1)).D := by
    have := fin w hw
    exact WP (g (k + 1) (by omega)).pos (g y (by omega)).pos (g x (by omega)).pos m2 (by omega)
   exact WP (g (k + 1) (by omega)).pos (g x (by omega)).pos (g k (by omega)).pos s1 m1
  omega
 have pts : ∀ d a, x <= a -> a + d <= y -> ∀ i, i < N -> (B a).R i K * (B (a + d)).D = (B (a + d)).R i K * (B a).D := by
  intro d
  induction d with
  | zero => intro a _ _ i _; rfl
  | succ d ih =>
   intro a ha hd i hi
   have s := (zag (g (a + d) (by omega)) hw (ch (a + d) (by omega))).2
   rw [<- st (a + d) (by omega)] at s
   exact zaY (g (a + d) (by omega)).pos (ih a ha (by omega) i hi) (s (flat (a + d) (by omega) (by omega)) i hi)
 have pall : ∀ a c, x <= a -> a <= y -> x <= c -> c <= y -> ∀ i, i < N -> (B a).R i K * (B c).D = (B c).R i K * (B a).D := by
  intro a c h1 h2 h3 h4 i hi
  rcases Nat.le_total a c with z | z
  ·have := pts (c - a) a h1 (by omega) i hi
   rwa [show a + (c - a) = c by omega] at this
  ·have := pts (a - c) c h3 (by omega) i hi
   rw [show c + (a - c) = a by omega] at this
   exact this.symm
 obtain ⟨q, k1, k2, a1, a2, c1, c2, e1, e2, mx, sm⟩ := wk.round h1 he
 have d1 := ch k1 (by omega)
 have d2 := ch k2 (by omega)
 have hq : (B k2).h (P k2) = q := e2
 refine bland2 (g k2 (by omega)) (g k1 (by omega)) (w := w) (q := q) (p1 := P k2) (p := P k1) hw d2.pK hq d2.hp (fun j hj z => d2.hj j hj (by omega)) d2.am d1.pK d1.hp (by rw [<- e1]; exact d1.ng) (by rw [<- e1]; exact d1.fe) (fun i h1 h2 h3 => by rw [<- e1]; exact d1.lo i h1 (by omega) h3) (pall k2 k1 c1 (by omega) a1 (by omega)) fun j hj z => ?_
 obtain ⟨l, hl, el⟩ := sm k2 k1 _ c1 (by omega) a1 (by omega) z ⟨j, hj, rfl⟩
 refine ⟨l, hl, fun n => ?_, el⟩
 subst n
 have := (mx k1 a1 a2).2
 have el' : (B k1).h (P k1) = (B k2).h j := el
 have : (B k1).h (P k1) <= q := this
 omega
end
end Sx
namespace Sx
def idM : Mat := fun i c => if c = i then 1 else 0
theorem zdG : ∀ n, det n idM * det n idM = 1
 | 0 => rfl
 | n + 1 => by
  have e : det (n + 1) idM = sg n * det n idM := by
   simp only [det]
   rw [UN (k := n) (by omega) fun i hi hne => by
    have : idM i n = 0 := if_neg (fun z => hne z.symm)
    rw [this, Int.mul_zero, Int.zero_mul]]
   have h1 : idM n n = 1 := if_pos rfl
   have h2 : det n (skip n idM) = det n idM := XF fun i c hi hc => by unfold skip; rw [if_pos hi]
   rw [h1, h2, Int.mul_one]
  have ih := zdG n
  have hs : sg n * sg n = 1 := by rcases sg_abs n with h | h <;> rw [h] <;> rfl
  rw [e]
  have : sg n * det n idM * (sg n * det n idM) = (sg n * sg n) * (det n idM * det n idM) := by grind
  rw [this, hs, ih]; rfl
theorem zem {n j : Nat} (hj : j < n) (x : Vec) : det n (put idM j x) = x j * det n idM := by
 have e : det n (put idM j x) = det n (put idM j fun c' => sumN n fun c => x c * idM c c') := by
  refine XF fun i c hi hc => ?_
  unfold put
  split
  ·show x c = sumN n fun a => x a * idM a c
   rw [UN (k := c) hc fun a ha hne => by
    have : idM a c = 0 := if_neg (fun z => hne z.symm)
    rw [this, Int.mul_zero]]
   have : idM c c = 1 := if_pos rfl
   rw [this, Int.mul_one]
  ·rfl
 rw [e, zcC _ hj, UN (k := j) hj fun a ha hne => by
  rw [Vi (k := j) (l := a) hj ha (Ne.symm hne) (fun c hc => by rw [Xe, Wf hne]), Int.mul_zero], WO]
theorem zei {K N : Nat} {M : Mat} {b : Bd} (hh : ∀ j, j < K -> b.h j = j) (hD : b.D = 1) (hR : ∀ i j, b.R i j = M i j) (hM : ∀ j c, j < K -> c <= K -> M j c = if c = j then 1 else 0) (hKN : K <= N) : Good K N M b := by
 have hV : ∀ i c, i < K + 1 -> c < K + 1 -> Vh K M b.h i c = idM i c := fun i c hi hc => by
  unfold Vh idM
  split
  ·rename_i h; rw [hh i h, hM i c h (by omega)]
  ·have : i = K := by omega
   rw [this]; rfl
 have dV : det (K + 1) (Vh K M b.h) = det (K + 1) idM := XF hV
 refine ⟨by rw [hD]; decide, ⟨det (K + 1) idM, zdG _, ?_, fun i j hi hj => ?_⟩, fun i c hi hc => ?_, fun j hj => by rw [hh j hj]; omega⟩
 ·rw [hD, dV, zdG]
 ·have e : det (K + 1) (put (Vh K M b.h) j (M i)) = det (K + 1) (put idM j (M i)) := XF fun a c ha hc => by
   unfold put
   split
   ·rfl
   ·exact hV a c ha hc
  rw [e, zem (by omega), hR, Int.mul_left_comm, zdG, Int.mul_one]
 ·rw [hD, Int.one_mul, UN (k := c) (by omega) fun a ha hne => by
   rw [hV a c ha (by omega)]
   have : idM a c = 0 := if_neg (fun z => hne z.symm)
   rw [this, Int.mul_zero], hV c c (by omega) (by omega), hR]
  have : idM c c = 1 := if_pos rfl
  rw [this, Int.mul_one]
def Fr (K m : Nat) (b : Bd) : Prop := ∀ j, j < K -> b.h j < K -> ∀ t, K <= t -> t < K + m -> b.R t j = 0
theorem zbl {K N m : Nat} {M : Mat} {b : Bd} {t p : Nat} (g : Good K N M b) (hN : N = K + m + 1) (ht : K <= t) (ht2 : t < K + m) (hp : p < K) (hne : b.R t p ≠ 0) {j : Nat} (hj : j < K) (hjp : j ≠ p) (hz : ∀ i, K <= i -> i < K + m -> b.R i j = 0) : ∀ i, K <= i -> i < K + m -> (swp b t p).R i j = 0 := fun i h1 h2 => by
 have e := (g.swap (by omega) hp hne).2 i j (by omega) (by omega) hjp
 rw [hz i h1 h2, hz t ht ht2, Int.mul_zero, Int.mul_zero, Int.sub_zero] at e
 rcases Int.mul_eq_zero.mp e with z | z
 ·have := g.pos; omega
 ·exact z
theorem zfT {K N m : Nat} {M : Mat} {b : Bd} {t p : Nat} (g : Good K N M b) (hN : N = K + m + 1) (f : Fr K m b) (ht : K <= t) (ht2 : t < K + m) (hp : p < K) (hne : b.R t p ≠ 0) : Fr K m (swp b t p) := fun j hj hh i h1 h2 => by
 by_cases e : j = p
 ·subst e
  have : (if j = j then t else b.h j) < K := hh
  rw [if_pos rfl] at this
  omega
 ·have hh' : (if j = p then t else b.h j) < K := hh
  rw [if_neg e] at hh'
  exact zbl g hN ht ht2 hp hne hj e (f j hj hh') i h1 h2
end Sx
namespace Lw
open PySem Fx
def VW : List Sl -> Nat := fun _ => 1000000000000
def zdI : DS :=
  (dRet (dVar 2))
def zdJ : DS :=
  dSeq (Vv 2 [] (dVar 1) (dC (.int 1)))
  zdI
def d_unit : DS :=
  dSeq (Qj 2 [] (oRep (oLst (Zc (dC (.int 0)) dNil)) (dVar 0)))
  zdJ
def JS : DF := runQ 3 2 d_unit
def JZ : DS :=
  (dRet (d2 fAdd (dL (Xk 1 [] (Zt 0) (iSeq (d2 fIx (dVar 0) (dC (.int 0)))) tT (d1 fNeg (dVar 0)))) (dLst (Zc (d2 fIx (dVar 0) (dC (.int 1))) dNil))))
def X0 : DF := runQ 1 1 JZ
def Vr : DS :=
  (dRet (dMk ["heads", "divisor", "rows"] (Zc (dL (zeb (iRng (dVar 2)))) (Zc (dC (.int 1)) (Zc (d2 fAdd (d2 fAdd (dVar 3) (dVar 4)) (dLst (Zc (d2 fAdd (dVar 1) (dLst (Zc (dC (.int 0)) dNil))) dNil))) dNil)))))
def Vs : DS :=
  dSeq (dSet 4 [] (dL (Xk 1 [] (Zt 0) (iSeq (d2 fIx (dVar 0) (dC (.int 1)))) tT (Zk X0 (Zc (dVar 0) dNil)))))
  Vr
def Vt : DS :=
  dSeq (dSet 3 [] (dL (Xk 1 [2] (Zt 0) (iRng (dVar 2)) tT (Zk JS (Zc (d2 fAdd (dVar 1) (dC (.int 1))) (Zc (dVar 0) dNil))))))
  Vs
def UE : DS :=
  dSeq (dSet 2 [] (d2 fIx (dVar 0) (dC (.int 0))))
  Vt
def YI : DF := runQ 5 2 UE
def JY : DS :=
  (dRet (dL (zeb (iRng2 (d1 fLen (d1 (fFld "heads") (dVar 0))) (d2 fSub (d1 fLen (d1 (fFld "rows") (dVar 0))) (dC (.int 1)))))))
def Z7 : DF := runQ 1 1 JY
def Vj : DS :=
  (dRet (dVar 6))
def Vk : DS :=
  dSeq (Vv 6 [] (dVar 2) (dVar 5))
  Vj
def Vl : DS :=
  dSeq (Qj 6 [] (Xk 2 [4, 5, 3] (WL 0 1) (iZip (iSeq (dVar 0)) (iSeq (dVar 1))) tT (d2 fDiv (d2 fSub (d2 fMul (dVar 2) (dVar 0)) (d2 fMul (dVar 3) (dVar 1))) (dVar 4))))
  Vk
def Vm : DS :=
  dSeq (dSet 5 [] (dIfE (tV (d2 fGt (d2 fIx (dVar 1) (dVar 2)) (dC (.int 0)))) (d2 fIx (dVar 0) (dVar 2)) (d1 fNeg (d2 fIx (dVar 0) (dVar 2)))))
  Vl
def Ux : DS :=
  dSeq (dSet 4 [] (d1 fAbs (d2 fIx (dVar 1) (dVar 2))))
  Vm
def YF : DF := runQ 7 4 Ux
def Q4 : DS :=
  (dRet (dMk ["heads", "divisor", "rows"] (Zc (dVar 4) (Zc (d1 fAbs (d2 fIx (dVar 3) (dVar 2))) (Zc (dVar 5) dNil)))))
def Q5 : DS :=
  dSeq (dSet 5 [] (dL (Xk 1 [3, 2, 0] (Zt 0) (iSeq (d1 (fFld "rows") (dVar 0))) tT (Zk YF (Zc (dVar 0) (Zc (dVar 1) (Zc (dVar 2) (Zc (d1 (fFld "divisor") (dVar 3)) dNil))))))))
  Q4
def Q6 : DS :=
  dSeq (Vv 4 [] (dVar 2) (dVar 1))
  Q5
def Q7 : DS :=
  dSeq (Qj 4 [] (zaI (d1 (fFld "heads") (dVar 0))))
  Q6
def zbU : DS :=
  dSeq (dSet 3 [] (d2 fIx (d1 (fFld "rows") (dVar 0)) (dVar 1)))
  Q7
def Ym : DF := runQ 6 3 zbU
def WE : DS :=
  (dRet (dC .none))
def X9 : DS :=
  dSeq (dFor (Zt 2) [] (iSeq (Zk Z7 (Zc (dVar 0) dNil)))
  (dIf (tV (d2 fNe (d2 fIx (d2 fIx (d1 (fFld "rows") (dVar 0)) (dVar 2)) (dVar 1)) (dC (.int 0))))
  (dRet (dVar 2))
  Z1))
  WE
def ZT : DF := runQ 3 2 X9
def Jh : DS :=
  (dRet (dVar 0))
def zf8 : DS :=
  dSeq (dFor (Zt 1) [] (iRng (d1 fLen (d1 (fFld "heads") (dVar 0))))
  (dSeq (dSet 2 [] (Zk ZT (Zc (dVar 0) (Zc (dVar 1) dNil))))
  (dIf (tV (d1 JD (dVar 2)))
  (dSet 0 [] (Zk Ym (Zc (dVar 0) (Zc (dVar 2) (Zc (dVar 1) dNil)))))
  Z1)))
  Jh
def QV : DF := runQ 3 1 zf8
def zf7 : DS :=
  (dRet (dOrV (d2 fGt (dVar 2) (dC (.int 0))) (za8 (d2 fLt (dVar 2) (dC (.int 0))) (d2 fLt (d2 fIx (d1 (fFld "heads") (dVar 0)) (dVar 1)) (d1 fLen (d1 (fFld "heads") (dVar 0)))))))
def UY : DF := runQ 3 3 zf7
def Xh : DS :=
  (dRet (dMinK [0] (dVar 3) (d2 fIx (d1 (fFld "heads") (dVar 1)) (dVar 0))))
def Xi : DS :=
  dSeq (dSet 3 [] (dL (Xk 1 [0, 2] (Zt 0) (iRng (d1 fLen (d1 (fFld "heads") (dVar 0)))) (tV (Zk UY (Zc (dVar 1) (Zc (dVar 0) (Zc (d2 fIx (dVar 2) (dVar 0)) dNil))))) (dVar 0))))
  Xh
def XH : DS :=
  dSeq (dSet 2 [] (d2 fIx (d1 (fFld "rows") (dVar 0)) (dVar 1)))
  Xi
def Zj : DF := runQ 4 2 XH
def VM : DS :=
  (dRet (dC .none))
def Vn : DS :=
  dSeq (dFor (Zt 1) [] (iSeq (Zk Z7 (Zc (dVar 0) dNil)))
  (dIf (tV (d2 fLt (d2 fIx (d2 fIx (d1 (fFld "rows") (dVar 0)) (dVar 1)) (d1 fNeg (dC (.int 1)))) (dC (.int 0))))
  (dRet (dVar 1))
  Z1))
  VM
def Zx : DF := runQ 2 1 Vn
def WV : DS :=
  (dRet (dTup (Zc (dVar 2) (Zc (dC .none) dNil))))
def Q9 : DS :=
  dSeq (Qg VW (tV (d1 JD (dVar 3)))
  (dSeq (dSet 4 [] (Zk Zj (Zc (dVar 2) (Zc (dVar 3) dNil))))
  (dSeq (dIf (tV (d1 fIsN (dVar 4)))
  (dRet (dTup (Zc (dVar 2) (Zc (dVar 3) dNil))))
  Z1)
  (dSeq (dSet 2 [] (Zk Ym (Zc (dVar 2) (Zc (dVar 3) (Zc (dVar 4) dNil)))))
  (dSet 3 [] (Zk Zx (Zc (dVar 2) dNil)))))))
  WV
def Uf : DS :=
  dSeq (dSet 3 [] (Zk Zx (Zc (dVar 2) dNil)))
  Q9
def Ja : DS :=
  dSeq (dSet 2 [] (Zk QV (Zc (Zk YI (Zc (dVar 0) (Zc (dVar 1) dNil))) dNil)))
  Uf
def Yw : DF := runQ 5 2 Ja
def zaa : DS :=
  (dRet (dL (Xk 1 [0] (Zt 0) (iRng (d1 fLen (d1 (fFld "heads") (dVar 0)))) tT (Zk YJ (Zc (d2 fIx (d2 fIx (d1 (fFld "rows") (dVar 1)) (dVar 0)) (d1 fNeg (dC (.int 1)))) (Zc (d1 (fFld "divisor") (dVar 1)) dNil))))))
def Xu : DF := runQ 1 1 zaa
def WU : DS :=
  (dRetO 3)
def Uy : DS :=
  dSeq (dFor (WL 4 5) [] (iZip (iSeq (d1 (fFld "heads") (dVar 0))) (iSeq (d2 fIx (d1 (fFld "rows") (dVar 0)) (dVar 1))))
  (dIf (tV (d2 fGe (dVar 4) (dVar 2)))
  (Vv 3 [] (d2 fSub (dVar 4) (dVar 2)) (Zk YJ (Zc (d1 fNeg (dVar 5)) (Zc (d1 (fFld "divisor") (dVar 0)) dNil))))
  Z1))
  WU
def Uz : DS :=
  dSeq (Qj 3 [] (oRep (oLst (Zc (dTup (Zc (dC (.int 0)) (Zc (dC (.int 1)) dNil))) dNil)) (d1 fLen (Zk Z7 (Zc (dVar 0) dNil)))))
  Uy
def Q8 : DS :=
  dSeq (dSet 2 [] (d1 fLen (d1 (fFld "heads") (dVar 0))))
  Uz
def YV : DF := runQ 6 2 Q8
def Qd : DS :=
  (dRet (dVar 2))
def Qe : DS :=
  dSeq (Vv 2 [] (d2 fSub (dVar 1) (d1 fLen (d1 (fFld "heads") (dVar 0)))) (dTup (Zc (dC (.int 1)) (Zc (dC (.int 1)) dNil))))
  Qd
def zad : DS :=
  dSeq (Qj 2 [] (oCall YV (Zc (dVar 0) (Zc (dVar 1) dNil))))
  Qe
def X1 : DF := runQ 3 2 zad
end Lw
namespace Lw
open PySem Fx
structure LB where
 heads : List Nat
 D : Int
 rows : List (List Int)
abbrev eI (xs : List Int) : PyData := .list (xs.map .int)
abbrev eH (hs : List Nat) : PyData := .list (hs.map fun (h : Nat) => .int (h : Int))
def eB (b : LB) : PyData := .dict [(.str "heads", eH b.heads), (.str "divisor", .int b.D), (.str "rows", .list (b.rows.map eI))]
def LB.bd (b : LB) : Sx.Bd := ⟨fun j => b.heads.getD j 0, b.D, fun i j => (b.rows.getD i []).getD j 0⟩
@[simp] theorem bd_D (b : LB) : b.bd.D = b.D := rfl
@[simp] theorem bd_h (b : LB) (j : Nat) : b.bd.h j = b.heads.getD j 0 := rfl
theorem bd_R (b : LB) (i j : Nat) : b.bd.R i j = (b.rows.getD i []).getD j 0 := rfl
structure WFb (K m : Nat) (b : LB) : Prop where
 hl : b.heads.length = K
 rl : b.rows.length = K + m + 1
 ll : ∀ r ∈ b.rows, r.length = K + 1
 kk : K <= 1000
 mm : m <= 1000
structure Sm (b : LB) : Prop where
 d0 : b.D ≠ 0
 d : b.D.natAbs < 2 ^ 1000
 r : ∀ r ∈ b.rows, ∀ x ∈ r, x.natAbs < 2 ^ 1000
@[simp] theorem zfW (b : LB) : fFld "heads" (eB b) = .ok (eH b.heads) := rfl
@[simp] theorem fld_div (b : LB) : fFld "divisor" (eB b) = .ok (.int b.D) := rfl
@[simp] theorem fld_rows (b : LB) : fFld "rows" (eB b) = .ok (.list (b.rows.map eI)) := rfl
@[simp] theorem scalT_eB (b : LB) : Xl (eB b) = false := rfl
theorem zgg {α : Type} {f : α -> PyData} {xs : List α} {i : Nat} (d : α) (h : i < xs.length) : atP (xs.map f) (i : Int) = some (f (xs.getD i d)) := by
 rw [Ui h]
 simp [List.getD_eq_getElem?_getD, h]
theorem zbc {α : Type} {f : α -> PyData} {xs : List α} {k : Nat} (d : α) (h : xs.length = k + 1) : atP (xs.map f) (-1) = some (f (xs.getD k d)) := by
 unfold atP ixP
 rw [List.length_map, h]
 rw [if_neg (by omega), if_pos (by omega)]
 have e : ((-1 : Int) + ((k + 1 : Nat) : Int)).toNat = k := by omega
 rw [e]
 simp [List.getD_eq_getElem?_getD, h]
section
variable {K m : Nat} {b : LB}
theorem WFb.row (w : WFb K m b) {i : Nat} (h : i < K + m + 1) : (b.rows.getD i []).length = K + 1 := by
 have hi : i < b.rows.length := by rw [w.rl]; exact h
 have e : b.rows.getD i [] = b.rows[i] := by simp [List.getD_eq_getElem?_getD, hi]
 rw [e]
 exact w.ll _ (List.getElem_mem hi)
theorem WFb.mem (w : WFb K m b) {i : Nat} (h : i < K + m + 1) : b.rows.getD i [] ∈ b.rows := by
 have hi : i < b.rows.length := by rw [w.rl]; exact h
 have e : b.rows.getD i [] = b.rows[i] := by simp [List.getD_eq_getElem?_getD, hi]
 rw [e]
 exact List.getElem_mem hi
theorem Xf {α : Type} {xs : List α} {i : Nat} {d : α} (h : i < xs.length) : xs.getD i d ∈ xs := by
 have e : xs.getD i d = xs[i] := by simp [List.getD_eq_getElem?_getD, h]
 rw [e]
 exact List.getElem_mem h
theorem VJ (w : WFb K m b) {i : Nat} (h : i < K + m + 1) : fIx (.list (b.rows.map eI)) (.int (i : Int)) = .ok (eI (b.rows.getD i [])) := by
 simp only [fIx]
 rw [zgg [] (by rw [w.rl]; exact h)]
 rfl
theorem VL {row : List Int} {j : Nat} (h : j < row.length) : fIx (eI row) (.int (j : Int)) = .ok (.int (row.getD j 0)) := by
 simp only [eI, fIx]
 rw [zgg 0 h]
 rfl
theorem zaS {row : List Int} {k : Nat} (h : row.length = k + 1) : fIx (eI row) (.int (-1)) = .ok (.int (row.getD k 0)) := by
 simp only [eI, fIx]
 rw [zbc 0 h]
 rfl
theorem zfH {hs : List Nat} {j : Nat} (h : j < hs.length) : fIx (eH hs) (.int (j : Int)) = .ok (.int ((hs.getD j 0 : Nat) : Int)) := by
 simp only [eH, fIx]
 rw [zgg 0 h]
 rfl
theorem Qn (w : WFb K m b) : Z7 [eB b] = .ok (.list (rngT K m)) := by
 have e : ((K + m + 1 : Nat) : Int) - 1 = ((K + m : Nat) : Int) := by omega
 have h1 : Xz (K : Int) = true := ZP (by have := w.kk; omega)
 have h2 : Xz ((K + m : Nat) : Int) = true := ZP (by have := w.kk; have := w.mm; omega)
 have e3 : (((K + m : Nat) : Int) - (K : Int)).toNat = m := by omega
 have h3 : (rngT (K : Int) m).length <= 16777216 := by rw [Xd]; have := w.mm; omega
 have e' : (K : Int) + (m : Int) + 1 - 1 = ((K + m : Nat) : Int) := by omega
 simp [Z7, JY, runQ, runF, w.hl, w.rl, h1, e, e', h2, e3, h3, -Int.natCast_add]
end
def UM (row line : List Int) (p : Nat) (D : Int) : List Int :=
 ((row.zip line).map fun q => (Sx.iabs (line.getD p 0) * q.1 - Sx.tk (line.getD p 0) (row.getD p 0) * q.2).fdiv D).set p (Sx.tk (line.getD p 0) (row.getD p 0))
theorem iabs_sz {x : Int} {n : Nat} (h : x.natAbs < 2 ^ n) : (Sx.iabs x).natAbs < 2 ^ n := by unfold Sx.iabs; split <;> omega
theorem tk_sz {x y : Int} {n : Nat} (h : y.natAbs < 2 ^ n) : (Sx.tk x y).natAbs < 2 ^ n := by unfold Sx.tk; split <;> omega
theorem Js {row line : List Int} {p : Nat} {D : Int} {K : Nat} (hr : row.length = K + 1) (hl : line.length = K + 1) (hp : p < K) (hK : K <= 1000) (d0 : D ≠ 0) (hD : D.natAbs < 2 ^ 1000) (h1 : ∀ x ∈ row, x.natAbs < 2 ^ 1000) (h2 : ∀ x ∈ line, x.natAbs < 2 ^ 1000) :
  YF [eI row, eI line, .int p, .int D] = .ok (eI (UM row line p D)) := by
 have e1 : fIx (eI line) (.int (p : Int)) = .ok (.int (line.getD p 0)) := VL (by omega)
 have e2 : fIx (eI row) (.int (p : Int)) = .ok (.int (row.getD p 0)) := VL (by omega)
 have hdv : UZ D = true := Uv d0 hD (by omega)
 have hpv := iabs_sz (h2 _ (Xf (xs := line) (i := p) (d := 0) (by omega)))
 have htk := tk_sz (x := line.getD p 0) (h1 _ (Xf (xs := row) (i := p) (d := 0) (by omega)))
 unfold UM
 generalize line.getD p 0 = lp at *
 generalize row.getD p 0 = rp at *
 have ea : (if lp < 0 then -lp else lp) = Sx.iabs lp := rfl
 have et : (if 0 < lp then (Res.ok (PyData.int rp)) else .ok (.int (-rp))) = .ok (.int (Sx.tk lp rp)) := by unfold Sx.tk; split <;> rfl
 generalize Sx.iabs lp = pv at *
 generalize Sx.tk lp rp = tv at *
 have hlen : (zipT (row.map .int) (line.map .int)).length <= 16777216 := by
  rw [Y9]; simp; omega
 have hc : Yx (WL 0 1) tT (d2 fDiv (d2 fSub (d2 fMul (dVar 2) (dVar 0)) (d2 fMul (dVar 3) (dVar 1))) (dVar 4)) [.emp, .emp, .val (.int pv), .val (.int tv), .val (.int D)] (zipT (row.map .int) (line.map .int))
   = .ok (((row.zip line).map fun q => (pv * q.1 - tv * q.2).fdiv D).map .int) := by
  rw [Y9, List.map_map]
  refine ZX (fun (q : Int × Int) => PyData.tuple [.int q.1, .int q.2]) _ _ fun q hq => ?_
  have m1 := Z9 hpv (h1 _ (List.of_mem_zip hq).1) (by omega)
  have m2 := Z9 htk (h2 _ (List.of_mem_zip hq).2) (by omega)
  refine ⟨_, rfl, ?_⟩
  simp [m1, m2, hdv]
 have es : ixP (((row.zip line).map fun q => (pv * q.1 - tv * q.2).fdiv D).map PyData.int).length (p : Int) = some p := by
  unfold ixP
  rw [if_pos (by omega), if_pos (by simp; omega)]
  simp
 generalize hw : ((row.zip line).map fun q => (pv * q.1 - tv * q.2).fdiv D) = ws at *
 have es' : ixP ws.length (p : Int) = some p := by simpa using es
 simp [YF, Ux, Vm, Vl, Vk, Vj, runQ, runF, e1, e2, ea, et, eI, hlen, hc, es', -fIx, List.map_set]
theorem zeH {row line : List Int} {p : Nat} {D : Int} {n : Nat} (hr : row.length = n) (hl : line.length = n) : (UM row line p D).length = n := by
 simp [UM, hr, hl]
def lsw (b : LB) (t p : Nat) : LB := ⟨b.heads.set p t, Sx.iabs (b.bd.R t p), b.rows.map fun row => UM row (b.rows.getD t []) p b.D⟩
section
variable {K m : Nat} {b : LB} {t p : Nat}
theorem lsw_wf (w : WFb K m b) (ht : t < K + m + 1) : WFb K m (lsw b t p) := by
 refine ⟨by simp [lsw, w.hl], by simp [lsw, w.rl], fun r hr => ?_, w.kk, w.mm⟩
 obtain ⟨row, hrow, rfl⟩ := List.mem_map.mp hr
 exact zeH (w.ll row hrow) (w.row ht)
theorem zeI {row line : List Int} {p j : Nat} {D : Int} {n : Nat} (hr : row.length = n) (hl : line.length = n) (hp : p < n) :
  (UM row line p D).getD j 0 = if j = p then Sx.tk (line.getD p 0) (row.getD p 0) else (Sx.iabs (line.getD p 0) * row.getD j 0 - Sx.tk (line.getD p 0) (row.getD p 0) * line.getD j 0).fdiv D := by
 unfold UM
 rw [List.getD_eq_getElem?_getD, List.getElem?_set]
 by_cases e : j = p
 ·subst e
  simp [hr, hl, hp]
 ·rw [if_neg (Ne.symm e), if_neg e]
  by_cases hj : j < n
  ·have ez : (row.zip line)[j]? = some (row.getD j 0, line.getD j 0) := by
    rw [List.getElem?_zip_eq_some]
    constructor
    ·rw [List.getElem?_eq_getElem (by omega)]; simp [List.getD_eq_getElem?_getD, List.getElem?_eq_getElem (show j < row.length by omega)]
    ·rw [List.getElem?_eq_getElem (by omega)]; simp [List.getD_eq_getElem?_getD, List.getElem?_eq_getElem (show j < line.length by omega)]
   rw [List.getElem?_map, ez]
   rfl
  ·have ez : (row.zip line)[j]? = none := by rw [List.getElem?_eq_none_iff]; simp [hr, hl]; omega
   have e1 : row.getD j 0 = 0 := by rw [List.getD_eq_getElem?_getD, List.getElem?_eq_none_iff.mpr (by omega)]; rfl
   have e2 : line.getD j 0 = 0 := by rw [List.getD_eq_getElem?_getD, List.getElem?_eq_none_iff.mpr (by omega)]; rfl
   rw [List.getElem?_map, ez, e1, e2]
   simp
theorem VV (w : WFb K m b) (ht : t < K + m + 1) (hp : p < K) : (lsw b t p).bd = Sx.swp b.bd t p := by
 unfold LB.bd Sx.swp
 congr 1
 ·funext j
  show (b.heads.set p t).getD j 0 = if j = p then t else b.heads.getD j 0
  rw [List.getD_eq_getElem?_getD, List.getElem?_set]
  by_cases e : j = p
  ·subst e; simp [w.hl, hp]
  ·rw [if_neg (Ne.symm e), if_neg e, List.getD_eq_getElem?_getD]
 ·funext i j
  show ((b.rows.map fun row => UM row (b.rows.getD t []) p b.D).getD i []).getD j 0 = Sx.swR b.bd t p i j
  by_cases hi : i < K + m + 1
  ·have e : (b.rows.map fun row => UM row (b.rows.getD t []) p b.D).getD i [] = UM (b.rows.getD i []) (b.rows.getD t []) p b.D := by
    have hi' : i < b.rows.length := by rw [w.rl]; exact hi
    simp [List.getD_eq_getElem?_getD, hi']
   rw [e, zeI (w.row hi) (w.row ht) (by omega)]
   rfl
  ·have e : (b.rows.map fun row => UM row (b.rows.getD t []) p b.D).getD i [] = [] := by
    have hi' : ¬ i < b.rows.length := by rw [w.rl]; exact hi
    simp [List.getD_eq_getElem?_getD, hi']
   have e2 : ∀ j, b.bd.R i j = 0 := fun j => by
    have hi' : ¬ i < b.rows.length := by rw [w.rl]; exact hi
    simp [bd_R, List.getD_eq_getElem?_getD, hi']
   rw [e]
   unfold Sx.swR
   rw [e2, e2]
   have t0 : Sx.tk (b.bd.R t p) 0 = 0 := by unfold Sx.tk; split <;> rfl
   rw [t0]
   simp
theorem UL (w : WFb K m b) (s : Sm b) (ht : t < K + m + 1) (hp : p < K) : Ym [eB b, .int t, .int p] = .ok (eB (lsw b t p)) := by
 have hr := VJ w ht
 have hlen : b.rows.length <= 16777216 := by rw [w.rl]; have := w.kk; have := w.mm; omega
 have hc : Yx (Zt 0) tT (Zk YF (Zc (dVar 0) (Zc (dVar 1) (Zc (dVar 2) (Zc (d1 (fFld "divisor") (dVar 3)) dNil))))) [.emp, .val (eI (b.rows.getD t [])), .val (.int p), .val (eB b)] (b.rows.map eI) = .ok (b.rows.map fun row => eI (UM row (b.rows.getD t []) p b.D)) := by
  refine ZX eI _ _ fun row hrow => ⟨_, rfl, ?_⟩
  have := Js (w.ll row hrow) (w.row ht) hp w.kk s.d0 s.d (s.r row hrow) (s.r _ (w.mem ht))
  simp [this, -List.getD_eq_getElem?_getD]
 have hp2 : ixP b.heads.length (p : Int) = some p := by
  unfold ixP
  rw [if_pos (by omega), if_pos (by rw [w.hl]; omega)]
  simp
 have e1 : fIx (eI (b.rows.getD t [])) (.int (p : Int)) = .ok (.int (b.bd.R t p)) := VL (by rw [w.row ht]; omega)
 have ea : (if b.bd.R t p < 0 then -b.bd.R t p else b.bd.R t p) = Sx.iabs (b.bd.R t p) := rfl
 generalize hline : b.rows.getD t [] = line at *
 generalize hR : b.bd.R t p = rtp at *
 have el : lsw b t p = ⟨b.heads.set p t, Sx.iabs rtp, b.rows.map fun row => UM row line p b.D⟩ := by unfold lsw; rw [hline, hR]
 rw [el]
 simp [Ym, zbU, Q7, Q6, Q5, Q4, runQ, runF, hr, hc, hp2, e1, ea, hlen, -fIx, zipK]
 simp [eB, List.map_set, Function.comp_def]
theorem zfa (lo : Int) (n : Nat) : rngT lo (n + 1) = .int lo :: rngT (lo + 1) n := by
 unfold rngT
 rw [List.range_succ_eq_map]
 simp only [List.map_cons, List.map_map, Int.natCast_zero, Int.add_zero]
 congr 1
 refine List.map_congr_left fun k _ => ?_
 simp only [Function.comp]
 congr 1
 omega
theorem ze0 {st : PyData -> List Sl -> Res (List Sl)} {b : DS} {P : Nat -> Bool} (Inv : List Sl -> Prop) : ∀ (n lo : Nat) (G : List Sl), Inv G ->
  (∀ t G', lo <= t -> t < lo + n -> Inv G' -> ∃ G1 G2, st (.int (t : Int)) G' = .ok G1 /\ b G1 = (if P t = true then .ok (.rt (.int (t : Int))) else .ok (.nx G2)) /\ Inv G2) ->
  (∃ t, lo <= t /\ t < lo + n /\ P t = true /\ (∀ t', lo <= t' -> t' < t -> P t' = false) /\ forL st b (rngT (lo : Int) n) G = .ok (.rt (.int (t : Int)))) \/
  ((∀ t, lo <= t -> t < lo + n -> P t = false) /\ ∃ G', Inv G' /\ forL st b (rngT (lo : Int) n) G = .ok (.nx G'))
 | 0, lo, G, hG, h => .inr ⟨fun t h1 h2 => by omega, G, hG, by simp [rngT, forL]⟩
 | n + 1, lo, G, hG, h => by
  obtain ⟨G1, G2, e1, e2, h2⟩ := h lo G (Nat.le_refl _) (by omega) hG
  rw [zfa]
  have ec : (lo : Int) + 1 = ((lo + 1 : Nat) : Int) := by omega
  rw [ec]
  unfold forL
  rw [e1, Res.bind_ok, e2]
  cases hp : P lo with
  | true => exact .inl ⟨lo, Nat.le_refl _, by omega, hp, fun t' a b => by omega, by simp⟩
  | false =>
   simp only [Bool.false_eq_true, if_false, Res.bind_ok]
   rcases ze0 Inv n (lo + 1) G2 h2 (fun t G' a b c => h t G' (by omega) (by omega) c) with ⟨t, a1, a2, a3, a4, a5⟩ | ⟨a1, G', a2, a3⟩
   ·refine .inl ⟨t, by omega, by omega, a3, fun t' b1 b2 => ?_, a5⟩
    by_cases z : t' = lo
    ·rw [z]; exact hp
    ·exact a4 t' (by omega) b2
   ·refine .inr ⟨fun t b1 b2 => ?_, G', a2, a3⟩
    by_cases z : t = lo
    ·rw [z]; exact hp
    ·exact a1 t (by omega) (by omega)
theorem zcz (i j : Int) : fNe (.int i) (.int j) = .ok (.bool (!decide (i = j))) := by simp [fNe]
theorem zaX (w : WFb K m b) (hp : p < K) : (∃ t, K <= t /\ t < K + m /\ b.bd.R t p ≠ 0 /\ ZT [eB b, .int p] = .ok (.int t)) \/ ((∀ t, K <= t -> t < K + m -> b.bd.R t p = 0) /\ ZT [eB b, .int p] = .ok .none) := by
 have hrm := Qn w
 have hs := ze0 (st := Zt 2) (b := (dIf (tV (d2 fNe (d2 fIx (d2 fIx (d1 (fFld "rows") (dVar 0)) (dVar 2)) (dVar 1)) (dC (.int 0)))) (dRet (dVar 2)) Z1)) (P := fun t => !decide (b.bd.R t p = 0))
  (fun G => ∃ s, G = [.val (eB b), .val (.int p), s]) m K [.val (eB b), .val (.int p), .emp] ⟨_, rfl⟩ fun t G' h1 h2 ⟨s, hG⟩ => by
   subst hG
   have e1 := VJ w (i := t) (by omega)
   have e2 : fIx (eI (b.rows.getD t [])) (.int (p : Int)) = .ok (.int (b.bd.R t p)) := VL (by rw [w.row (by omega)]; omega)
   refine ⟨_, [.val (eB b), .val (.int p), .val (.int t)], rfl, ?_, ⟨_, rfl⟩⟩
   generalize b.bd.R t p = r at *
   by_cases hz : r = 0 <;> simp [e1, e2, zcz, hz, -fIx, -List.getD_eq_getElem?_getD]
 rcases hs with ⟨t, a1, a2, a3, _, a5⟩ | ⟨a1, G', ⟨s, hG⟩, a3⟩
 ·refine .inl ⟨t, a1, a2, by simpa using a3, ?_⟩
  simp [ZT, X9, runQ, runF, hrm, a5, -fIx, -dIf]
 ·refine .inr ⟨fun t h1 h2 => by simpa using a1 t h1 h2, ?_⟩
  simp [ZT, X9, WE, runQ, runF, hrm, a3, -fIx, -dIf]
theorem zar (w : WFb K m b) : (∃ t, K <= t /\ t < K + m /\ b.bd.R t K < 0 /\ (∀ i, K <= i -> i < t -> 0 <= b.bd.R i K) /\ Zx [eB b] = .ok (.int t)) \/ ((∀ t, K <= t -> t < K + m -> 0 <= b.bd.R t K) /\ Zx [eB b] = .ok .none) := by
 have hrm := Qn w
 have hs := ze0 (st := Zt 1) (b := (dIf (tV (d2 fLt (d2 fIx (d2 fIx (d1 (fFld "rows") (dVar 0)) (dVar 1)) (d1 fNeg (dC (.int 1)))) (dC (.int 0)))) (dRet (dVar 1)) Z1)) (P := fun t => decide (b.bd.R t K < 0))
  (fun G => ∃ s, G = [.val (eB b), s]) m K [.val (eB b), .emp] ⟨_, rfl⟩ fun t G' h1 h2 ⟨s, hG⟩ => by
   subst hG
   have e1 := VJ w (i := t) (by omega)
   have e2 : fIx (eI (b.rows.getD t [])) (.int (-1)) = .ok (.int (b.bd.R t K)) := zaS (w.row (by omega))
   refine ⟨_, [.val (eB b), .val (.int t)], rfl, ?_, ⟨_, rfl⟩⟩
   generalize b.bd.R t K = r at *
   by_cases hz : r < 0 <;> simp [e1, e2, hz, -fIx, -List.getD_eq_getElem?_getD]
 rcases hs with ⟨t, a1, a2, a3, a4, a5⟩ | ⟨a1, G', ⟨s, hG⟩, a3⟩
 ·refine .inl ⟨t, a1, a2, by simpa using a3, fun i h1 h2 => by have := a4 i h1 h2; simp at this; omega, ?_⟩
  simp [Zx, Vn, runQ, runF, hrm, a5, -fIx, -dIf]
 ·refine .inr ⟨fun t h1 h2 => by have := a1 t h1 h2; simp at this; omega, ?_⟩
  simp [Zx, Vn, VM, runQ, runF, hrm, a3, -fIx, -dIf]
def hlp (b : LB) (K t j : Nat) : Bool := decide (0 < b.bd.R t j) || (decide (b.bd.R t j < 0) && decide (b.bd.h j < K))
theorem helps_ok (w : WFb K m b) {j : Nat} (hj : j < K) (r : Int) : UY [eB b, .int j, .int r] = .ok (.bool (decide (0 < r) || (decide (r < 0) && decide (b.bd.h j < K)))) := by
 have e1 : fIx (eH b.heads) (.int (j : Int)) = .ok (.int ((b.heads.getD j 0 : Nat) : Int)) := zfH (by rw [w.hl]; exact hj)
 rw [bd_h]
 generalize b.heads.getD j 0 = hj' at *
 by_cases h1 : 0 < r <;> by_cases h2 : r < 0 <;> simp [UY, zf7, runQ, runF, e1, w.hl, h1, h2, -fIx]
theorem zaP {key : PyData -> Res PyData} {g : Nat -> Int} : ∀ (cs : List Nat) (j0 : Nat), (∀ j ∈ cs, key (.int (j : Int)) = .ok (.int (g j))) -> ∃ j, (j = j0 \/ j ∈ cs) /\ g j <= g j0 /\ (∀ j' ∈ cs, g j <= g j') /\ minL key (.int (j0 : Int)) (g j0) (cs.map fun (j : Nat) => .int (j : Int)) = .ok (.int (j : Int))
 | [], j0, _ => ⟨j0, .inl rfl, Int.le_refl _, fun _ h => by simp at h, rfl⟩
 | c :: cs, j0, h => by
  simp only [List.map_cons, minL]
  rw [h c (by simp), Res.bind_ok]
  by_cases hlt : g c < g j0
  ·obtain ⟨j, a1, a2, a3, a4⟩ := zaP cs c fun j hj => h j (by simp [hj])
   refine ⟨j, ?_, by omega, fun j' hj' => ?_, by simp only [hlt, if_true]; exact a4⟩
   ·rcases a1 with a1 | a1
    ·exact .inr (by simp [a1])
    ·exact .inr (by simp [a1])
   ·rcases List.mem_cons.mp hj' with z | z
    ·rw [z]; exact a2
    ·exact a3 j' z
  ·obtain ⟨j, a1, a2, a3, a4⟩ := zaP cs j0 fun j hj => h j (by simp [hj])
   refine ⟨j, ?_, a2, fun j' hj' => ?_, by simp only [hlt, if_false]; exact a4⟩
   ·rcases a1 with a1 | a1
    ·exact .inl a1
    ·exact .inr (by simp [a1])
   ·rcases List.mem_cons.mp hj' with z | z
    ·rw [z]; omega
    ·exact a3 j' z
theorem minT_int {key : PyData -> Res PyData} {g : Nat -> Int} (cs : List Nat) (h : ∀ j ∈ cs, key (.int (j : Int)) = .ok (.int (g j))) : (cs = [] /\ minT key (cs.map fun (j : Nat) => .int (j : Int)) = .ok .none) \/ ∃ j, j ∈ cs /\ (∀ j' ∈ cs, g j <= g j') /\ minT key (cs.map fun (j : Nat) => .int (j : Int)) = .ok (.int (j : Int)) := by
 cases cs with
 | nil => exact .inl ⟨rfl, rfl⟩
 | cons c cs =>
  obtain ⟨j, a1, a2, a3, a4⟩ := zaP cs c fun j hj => h j (by simp [hj])
  refine .inr ⟨j, ?_, fun j' hj' => ?_, ?_⟩
  ·rcases a1 with a1 | a1
   ·simp [a1]
   ·simp [a1]
  ·rcases List.mem_cons.mp hj' with z | z
   ·rw [z]; exact a2
   ·exact a3 j' z
  ·simp only [List.map_cons, minT]
   rw [h c (by simp), Res.bind_ok]
   exact a4
theorem VD (w : WFb K m b) (ht : t < K + m + 1) : (∃ p, p < K /\ hlp b K t p = true /\ (∀ j, j < K -> hlp b K t j = true -> b.bd.h p <= b.bd.h j) /\ Zj [eB b, .int t] = .ok (.int p)) \/ ((∀ j, j < K -> hlp b K t j = false) /\ Zj [eB b, .int t] = .ok .none) := by
 have e0 := VJ w ht
 have hK := w.kk
 have hrg : Xz (K : Int) = true := ZP (by omega)
 have hlen : (rngT 0 K).length <= 16777216 := by rw [Xd]; omega
 have hc : Yx (Zt 0) (tV (Zk UY (Zc (dVar 1) (Zc (dVar 0) (Zc (d2 fIx (dVar 2) (dVar 0)) dNil))))) (dVar 0) [.emp, .val (eB b), .val (eI (b.rows.getD t []))] (rngT 0 K) = .ok (((List.range K).filter fun j => hlp b K t j).map fun (j : Nat) => .int (j : Int)) := by
  rw [We]
  refine zae (fun (j : Nat) => PyData.int (j : Int)) (fun (j : Nat) => PyData.int (j : Int)) (fun j => hlp b K t j) (List.range K) fun j hj => ⟨_, rfl, ?_, fun _ => rfl⟩
  have hj' := List.mem_range.mp hj
  have e1 : fIx (eI (b.rows.getD t [])) (.int (j : Int)) = .ok (.int (b.bd.R t j)) := VL (by rw [w.row ht]; omega)
  have e2 := helps_ok w hj' (b.bd.R t j)
  unfold hlp
  generalize b.bd.R t j = r at *
  simp [e1, e2, -fIx, -List.getD_eq_getElem?_getD]
 have hm := minT_int (key := fun x => noX ((d2 fIx (d1 (fFld "heads") (dVar 1)) (dVar 0)) (.val x :: [.val (eB b)]))) (g := fun j => (b.bd.h j : Int)) ((List.range K).filter fun j => hlp b K t j) fun j hj => by
  have hj' := List.mem_range.mp (List.mem_filter.mp hj).1
  have e1 : fIx (eH b.heads) (.int (j : Int)) = .ok (.int ((b.heads.getD j 0 : Nat) : Int)) := zfH (by rw [w.hl]; exact hj')
  simp [e1, -fIx]
 rcases hm with ⟨a1, a2⟩ | ⟨p, a1, a2, a3⟩
 ·refine .inr ⟨fun j hj => ?_, ?_⟩
  ·have := List.filter_eq_nil_iff.mp a1 j (List.mem_range.mpr hj)
   simpa using this
  ·simp only [a1] at hc a2
   simp [Zj, XH, Xi, Xh, runQ, runF, e0, w.hl, hrg, hlen, hc, minT, -fIx, -List.getD_eq_getElem?_getD]
 ·obtain ⟨b1, b2⟩ := List.mem_filter.mp a1
  refine .inl ⟨p, List.mem_range.mp b1, b2, fun j hj hh => ?_, ?_⟩
  ·have := a2 j (List.mem_filter.mpr ⟨List.mem_range.mpr hj, hh⟩)
   omega
  ·generalize ((List.range K).filter fun j => hlp b K t j) = cs at *
   simp only [d2, d1, dVar, List.getElem?_cons_zero, List.getElem?_cons_succ, Res.bind_ok, zfW, noX] at a3
   simp [Zj, XH, Xi, Xh, runQ, runF, e0, w.hl, hrg, hlen, hc, a3, -fIx, -List.getD_eq_getElem?_getD]
end
end Lw
namespace Lw
open PySem Fx
def zbj (n i : Nat) : List Int := (List.replicate n 0).set i 1
def zby (l : Lim) : List Int := l.1.map (fun x => -x) ++ [l.2]
def Vb (K : Nat) (ls : List Lim) (goal : List Int) : List (List Int) := (List.range K).map (fun i => zbj (K + 1) i) ++ ls.map zby ++ [goal ++ [0]]
def lb0 (K : Nat) (ls : List Lim) (goal : List Int) : LB := ⟨List.range K, 1, Vb K ls goal⟩
theorem unit_ok {n i : Nat} (h : i < n) (hn : n <= 1001) : JS [.int n, .int i] = .ok (eI (zbj n i)) := by
 have h1 : Xz (n : Int) = true := ZP (by omega)
 have h2 : ixP n (i : Int) = some i := by
  unfold ixP
  rw [if_pos (by omega), if_pos (by omega)]
  simp
 have h3 : n <= 16777216 := by omega
 have e : (List.replicate n [PyData.int 0]).flatten = (List.replicate n (0 : Int)).map .int := by
  rw [List.map_replicate]
  clear h h1 h2 h3 hn
  induction n with
  | zero => rfl
  | succ n ih => rw [List.replicate_succ, List.flatten_cons, ih, List.replicate_succ]; rfl
 simp [JS, d_unit, zdJ, zdI, runQ, runF, h1, h3, e, h2, zbj, List.map_set]
theorem zci {l : Lim} {k : Nat} (h : l.1.length = k) (hk : k <= 1000) : X0 [limT l] = .ok (eI (zby l)) := by
 have hc : Yx (Zt 0) tT (d1 fNeg (dVar 0)) [.emp] (l.1.map .int) = .ok ((l.1.map fun x => -x).map .int) := by
  rw [List.map_map]
  exact ZX PyData.int _ _ fun x _ => ⟨_, rfl, rfl⟩
 have hl : l.1.length <= 16777216 := by omega
 have hl2 : l.1.length + 1 <= 16777216 := by omega
 simp [X0, JZ, runQ, runF, limT, at0, at1, hc, hl, hl2, zby]
theorem JC {K m : Nat} {ls : List Lim} {goal : List Int} (hK : K <= 1000) (hm : ls.length = m) (hm2 : m <= 1000) (hw : ∀ l ∈ ls, l.1.length = K) (hg : goal.length = K) : YI [.tuple [.int K, .tuple (ls.map limT)], eI goal] = .ok (eB (lb0 K ls goal)) := by
 have h1 : Xz (K : Int) = true := ZP (by omega)
 have h2 : (rngT 0 K).length <= 16777216 := by rw [Xd]; omega
 have c1 : Yx (Zt 0) tT (Zk JS (Zc (d2 fAdd (dVar 1) (dC (.int 1))) (Zc (dVar 0) dNil))) [.emp, .val (.int K)] (rngT 0 K) = .ok ((List.range K).map fun i => eI (zbj (K + 1) i)) := by
  rw [We]
  refine ZX (fun (k : Nat) => PyData.int (k : Int)) _ _ fun i hi => ⟨_, rfl, ?_⟩
  have := unit_ok (n := K + 1) (i := i) (by have := List.mem_range.mp hi; omega) (by omega)
  have e : ((K + 1 : Nat) : Int) = (K : Int) + 1 := by omega
  rw [e] at this
  simp [this]
 have c2 : Yx (Zt 0) tT (Zk X0 (Zc (dVar 0) dNil)) [.emp] (ls.map limT) = .ok (ls.map fun l => eI (zby l)) := by
  refine ZX limT _ _ fun l hl => ⟨_, rfl, ?_⟩
  simp [zci (hw l hl) hK]
 have h3 : ls.length <= 16777216 := by omega
 have h4 : K + ls.length <= 16777216 := by omega
 have h5 : K + ls.length + 1 <= 16777216 := by omega
 have h6 : goal.length + 1 <= 16777216 := by omega
 simp [YI, UE, Vt, Vs, Vr, runQ, runF, at0, at1, h1, h2, c1, c2, h3, h4, h5, h6, zipK]
 simp [eB, lb0, Vb, We, Function.comp_def]
section
variable {K m : Nat} {ls : List Lim} {goal : List Int}
theorem ze8 (hm : ls.length = m) : (Vb K ls goal).length = K + m + 1 := by simp [Vb, hm]; omega
theorem lb0_wf (hK : K <= 1000) (hm : ls.length = m) (hm2 : m <= 1000) (hw : ∀ l ∈ ls, l.1.length = K) (hg : goal.length = K) : WFb K m (lb0 K ls goal) := by
 refine ⟨by simp [lb0], ze8 hm, fun r hr => ?_, hK, hm2⟩
 have hr' : r ∈ Vb K ls goal := hr
 unfold Vb at hr'
 rcases List.mem_append.mp hr' with h | h
 ·rcases List.mem_append.mp h with h | h
  ·obtain ⟨i, _, rfl⟩ := List.mem_map.mp h
   simp [zbj]
  ·obtain ⟨l, hl, rfl⟩ := List.mem_map.mp h
   simp [zby, hw l hl]
 ·rw [List.mem_singleton.mp h]
  simp [hg]
theorem ze9 {i : Nat} (hi : i < K) : (Vb K ls goal).getD i [] = zbj (K + 1) i := by
 unfold Vb
 rw [List.getD_eq_getElem?_getD, List.append_assoc, List.getElem?_append_left (by simpa using hi)]
 simp [hi]
theorem zc4 {i : Nat} (hi : i < ls.length) : (Vb K ls goal).getD (K + i) [] = zby (ls.getD i ([], 0)) := by
 unfold Vb
 rw [List.getD_eq_getElem?_getD, List.append_assoc, List.getElem?_append_right (by simp)]
 simp [hi, List.getD_eq_getElem?_getD, List.getElem?_append_left]
theorem zbx : (Vb K ls goal).getD (K + ls.length) [] = goal ++ [0] := by
 unfold Vb
 rw [List.getD_eq_getElem?_getD, List.getElem?_append_right (by simp)]
 simp
def M0 (K : Nat) (ls : List Lim) (goal : List Int) : Sx.Mat := (lb0 K ls goal).bd.R
theorem zdn (hm : ls.length = m) : Sx.Good K (K + m + 1) (M0 K ls goal) (lb0 K ls goal).bd := by
 refine Sx.zei (fun j hj => ?_) rfl (fun _ _ => rfl) (fun j c hj hc => ?_) (by omega)
 ·show (List.range K).getD j 0 = j
  simp [hj]
 ·show ((Vb K ls goal).getD j []).getD c 0 = _
  rw [ze9 hj]
  unfold zbj
  rw [List.getD_eq_getElem?_getD, List.getElem?_set]
  by_cases e : c = j
  ·subst e; rw [if_pos rfl, if_pos (by simp; omega), if_pos rfl]; rfl
  ·rw [if_neg (Ne.symm e), if_neg e, List.getElem?_replicate]
   split <;> rfl
end
structure Bo (K m : Nat) (M : Sx.Mat) (b : LB) : Prop where
 wf : WFb K m b
 g : Sx.Good K (K + m + 1) M b.bd
 hw : ∀ j, j < K -> b.bd.h j < K + m
structure Mz (K m : Nat) (M : Sx.Mat) (B : Nat) : Prop where
 b1 : 1 <= B
 le : ∀ i c, i < K + m + 1 -> c <= K -> (M i c).natAbs <= B
 z : Sx.fact (K + 1) * B ^ (K + 1) < 2 ^ 1000
section
variable {K m B : Nat} {M : Sx.Mat} {b : LB} {t p : Nat}
theorem Bo.sm (o : Bo K m M b) (z : Mz K m M B) : Sm b := by
 obtain ⟨h1, h2⟩ := o.g.size z.b1 z.le
 refine ⟨by have : 0 < b.D := o.g.pos; omega, Nat.lt_of_le_of_lt h1 z.z, fun r hr x hx => ?_⟩
 obtain ⟨i, hi, rfl⟩ := List.getElem_of_mem hr
 obtain ⟨j, hj, rfl⟩ := List.getElem_of_mem hx
 rw [o.wf.rl] at hi
 have hj' := hj
 rw [o.wf.ll _ (List.getElem_mem _)] at hj'
 have := h2 i j hi (by omega)
 have e : b.bd.R i j = b.rows[i][j] := by
  rw [bd_R]
  have e1 : b.rows.getD i [] = b.rows[i] := by simp [List.getD_eq_getElem?_getD, show i < b.rows.length by rw [o.wf.rl]; exact hi]
  rw [e1]
  simp [List.getD_eq_getElem?_getD, hj]
 rw [e] at this
 exact Nat.lt_of_le_of_lt this z.z
theorem Bo.swap (o : Bo K m M b) (ht : K <= t) (ht2 : t < K + m) (hp : p < K) (hne : b.bd.R t p ≠ 0) : Bo K m M (lsw b t p) := by
 refine ⟨lsw_wf o.wf (by omega), ?_, fun j hj => ?_⟩
 ·rw [VV o.wf (by omega) hp]
  exact (o.g.swap (by omega) hp hne).1
 ·rw [VV o.wf (by omega) hp]
  show (if j = p then t else b.bd.h j) < K + m
  split
  ·exact ht2
  ·exact o.hw j hj
def zb4 : DS := (dSeq (dSet 2 [] (Zk ZT (Zc (dVar 0) (Zc (dVar 1) dNil))))
  (dIf (tV (d1 JD (dVar 2)))
  (dSet 0 [] (Zk Ym (Zc (dVar 0) (Zc (dVar 2) (Zc (dVar 1) dNil)))))
  Z1))
theorem zek (z : Mz K m M B) (o : Bo K m M b) (hp : p < K) (s2 : Sl) : ∃ b' s2', Bo K m M b' /\ (∀ j, j < K -> j ≠ p -> (∀ i, K <= i -> i < K + m -> b.bd.R i j = 0) -> ∀ i, K <= i -> i < K + m -> b'.bd.R i j = 0) /\ (∀ j, j < K -> j ≠ p -> b'.bd.h j = b.bd.h j) /\ (b'.bd.h p < K -> ∀ i, K <= i -> i < K + m -> b'.bd.R i p = 0) /\
  zb4 [.val (eB b), .val (.int p), s2] = .ok (.nx [.val (eB b'), .val (.int p), s2']) := by
 rcases zaX o.wf hp with ⟨t, h1, h2, h3, h4⟩ | ⟨h1, h2⟩
 ·refine ⟨lsw b t p, .val (.int t), o.swap h1 h2 hp h3, fun j hj hjp hz => ?_, fun j hj hjp => ?_, fun hh => ?_, ?_⟩
  ·rw [VV o.wf (by omega) hp]
   exact Sx.zbl o.g rfl h1 h2 hp h3 hj hjp hz
  ·rw [VV o.wf (by omega) hp]
   exact if_neg hjp
  ·rw [VV o.wf (by omega) hp] at hh
   have : (if p = p then t else b.bd.h p) < K := hh
   rw [if_pos rfl] at this
   omega
  ·have hs := UL o.wf (o.sm z) (t := t) (by omega) hp
   simp [zb4, h4, hs]
 ·exact ⟨b, .val .none, o, fun j hj _ hz => hz, fun j hj _ => rfl, fun _ => h1, by simp [zb4, h2]⟩
theorem freed_ok (z : Mz K m M B) (o : Bo K m M b) : ∃ b', Bo K m M b' /\ Sx.Fr K m b'.bd /\ QV [eB b] = .ok (eB b') := by
 have h1 : Xz (K : Int) = true := ZP (by have := o.wf.kk; omega)
 obtain ⟨G', e, b', s1, s2, hG, o', f'⟩ := QU (st := Zt 1) (b := zb4) (n := K) (G := [.val (eB b), .emp, .emp])
  (fun i G => ∃ b' s1 s2, G = [.val (eB b'), s1, s2] /\ Bo K m M b' /\ ∀ j, j < i -> j < K -> b'.bd.h j < K -> ∀ t, K <= t -> t < K + m -> b'.bd.R t j = 0)
  ⟨b, .emp, .emp, rfl, o, fun j hj => by omega⟩ (fun i G hi ⟨b1, s1, s2, hG, o1, f1⟩ => by
   subst hG
   obtain ⟨b2, s2', o2, k1, k2, k3, k4⟩ := zek z o1 hi s2
   refine ⟨_, rfl, _, .inl k4, b2, _, _, rfl, o2, fun j hj hjK hh => ?_⟩
   by_cases e : j = i
   ·subst e; exact k3 hh
   ·rw [k2 j hjK e] at hh
    exact k1 j hjK e (f1 j (by omega) hjK hh))
 subst hG
 refine ⟨b', o', fun j hj hh => f' j hj hj hh, ?_⟩
 have hd : zf8 = dSeq (dFor (Zt 1) [] (iRng (d1 fLen (d1 (fFld "heads") (dVar 0)))) zb4) Jh := rfl
 simp [QV, hd, Jh, runQ, runF, o.wf.hl, h1, e]
end
end Lw
namespace Lw
open PySem Fx
def tOf (b : LB) : Option Nat := match Zx [eB b] with
 | .ok (.int t) => some t.toNat
 | _ => none
def pOf (b : LB) (t : Nat) : Option Nat := match Zj [eB b, .int t] with
 | .ok (.int p) => some p.toNat
 | _ => none
def nxt (b : LB) : Option LB := (tOf b).bind fun t => (pOf b t).map fun p => lsw b t p
def End : Nat -> LB -> Prop
 | 0, b => nxt b = none
 | n + 1, b => nxt b = none \/ ∃ b', nxt b = some b' /\ End n b'
section
variable {K m B : Nat} {M : Sx.Mat} {b : LB}
theorem zds (f : Sx.Fr K m b.bd) {t j : Nat} (ht : K <= t) (ht2 : t < K + m) (hj : j < K) : hlp b K t j = decide (0 < b.bd.R t j) := by
 unfold hlp
 by_cases hh : b.bd.h j < K
 ·rw [f j hj hh t ht ht2]; rfl
 ·rw [decide_eq_false hh, Bool.and_false, Bool.or_false]
theorem UO (o : Bo K m M b) (f : Sx.Fr K m b.bd) :
  ((∀ t, K <= t -> t < K + m -> 0 <= b.bd.R t K) /\ Zx [eB b] = .ok .none /\ nxt b = none) \/
  (∃ t, K <= t /\ t < K + m /\ b.bd.R t K < 0 /\ (∀ j, j < K -> hlp b K t j = false) /\ Zx [eB b] = .ok (.int t) /\ Zj [eB b, .int t] = .ok .none /\ nxt b = none) \/
  ∃ t p, t < K + m /\ Sx.Ch1 K (K + m + 1) b.bd t p /\ Zx [eB b] = .ok (.int t) /\ Zj [eB b, .int t] = .ok (.int p) /\ nxt b = some (lsw b t p) := by
 rcases zar o.wf with ⟨t, h1, h2, h3, h4, h5⟩ | ⟨h1, h2⟩
 ·have e1 : tOf b = some t := by unfold tOf; rw [h5]; simp
  rcases VD o.wf (t := t) (by omega) with ⟨p, k1, k2, k3, k4⟩ | ⟨k1, k2⟩
  ·have e2 : pOf b t = some p := by unfold pOf; rw [k4]; simp
   refine .inr (.inr ⟨t, p, h2, ⟨h1, by omega, k1, h3, h4, ?_, fun j hj hlt => ?_, fun j hj hh => f j hj hh t h1 h2⟩, h5, k4, by unfold nxt; rw [e1]; simp [e2]⟩)
   ·rw [zds f h1 h2 k1] at k2; simpa using k2
   ·rcases (show b.bd.R t j <= 0 \/ 0 < b.bd.R t j by omega) with z | z
    ·exact z
    ·have := k3 j hj (by rw [zds f h1 h2 hj]; simpa using z)
     omega
  ·have e2 : pOf b t = none := by unfold pOf; rw [k2]
   exact .inr (.inl ⟨t, h1, h2, h3, k1, h5, k2, by unfold nxt; rw [e1]; simp [e2]⟩)
 ·exact .inl ⟨h1, h2, by unfold nxt tOf; rw [h2]; rfl⟩
theorem Qv (o : Bo K m M b) (f : Sx.Fr K m b.bd) {b' : LB} (e : nxt b = some b') : ∃ t p, t < K + m /\ Sx.Ch1 K (K + m + 1) b.bd t p /\ b' = lsw b t p /\ Bo K m M b' /\ Sx.Fr K m b'.bd := by
 rcases UO o f with ⟨_, _, h⟩ | ⟨_, _, _, _, _, _, _, h⟩ | ⟨t, p, h1, ch, _, _, h⟩
 ·rw [h] at e; cases e
 ·rw [h] at e; cases e
 ·rw [h] at e
  cases e
  have hne : b.bd.R t p ≠ 0 := by have := ch.hp; omega
  refine ⟨t, p, h1, ch, rfl, o.swap ch.tK h1 ch.pK hne, ?_⟩
  rw [VV o.wf (by omega) ch.pK]
  exact Sx.zfT o.g rfl f ch.tK h1 ch.pK hne
theorem ends (o : Bo K m M b) (f : Sx.Fr K m b.bd) : End ((K + m + 1) ^ K) b := by
 refine Classical.byContradiction fun no => ?_
 let it : Nat -> LB := fun k => Nat.rec b (fun _ x => (nxt x).getD x) k
 have it1 : ∀ k, it (k + 1) = (nxt (it k)).getD (it k) := fun k => rfl
 have all : ∀ k, k <= (K + m + 1) ^ K -> ¬ End ((K + m + 1) ^ K - k) (it k) /\ Bo K m M (it k) /\ Sx.Fr K m (it k).bd := by
  intro k
  induction k with
  | zero => exact fun _ => ⟨no, o, f⟩
  | succ k ih =>
   intro hk
   obtain ⟨h1, h2, h3⟩ := ih (by omega)
   obtain ⟨d, hd⟩ : ∃ d, (K + m + 1) ^ K - k = d + 1 := ⟨(K + m + 1) ^ K - k - 1, by omega⟩
   rw [hd] at h1
   cases e : nxt (it k) with
   | none => exact absurd (.inl e) h1
   | some b' =>
    have e2 : it (k + 1) = b' := by rw [it1, e]; rfl
    obtain ⟨t, p, _, _, _, a5, a6⟩ := Qv h2 h3 e
    rw [e2, show (K + m + 1) ^ K - (k + 1) = d by omega]
    exact ⟨fun z => h1 (.inr ⟨b', e, z⟩), a5, a6⟩
 have step : ∀ k, ∃ q : Nat × Nat, k < (K + m + 1) ^ K -> Sx.Ch1 K (K + m + 1) (it k).bd q.1 q.2 /\ (it (k + 1)).bd = Sx.swp (it k).bd q.1 q.2 := by
  intro k
  by_cases hk : k < (K + m + 1) ^ K
  ·obtain ⟨h1, h2, h3⟩ := all k (by omega)
   obtain ⟨d, hd⟩ : ∃ d, (K + m + 1) ^ K - k = d + 1 := ⟨(K + m + 1) ^ K - k - 1, by omega⟩
   rw [hd] at h1
   cases e : nxt (it k) with
   | none => exact absurd (.inl e) h1
   | some b' =>
    obtain ⟨t, p, a1, a2, a3, _, _⟩ := Qv h2 h3 e
    refine ⟨(t, p), fun _ => ⟨a2, ?_⟩⟩
    have e2 : it (k + 1) = b' := by rw [it1, e]; rfl
    rw [e2, a3, VV h2.wf (by omega) a2.pK]
  ·exact ⟨(0, 0), fun z => absurd z hk⟩
 obtain ⟨q, hq⟩ := Classical.axiomOfChoice step
 exact absurd (Sx.zcb (K := K) (N := K + m + 1) (M := M) (B := fun k => (it k).bd) (T := fun k => (q k).1) (P := fun k => (q k).2) (L := (K + m + 1) ^ K) (fun k hk => (all k hk).2.1.g) (fun k hk => (hq k hk).1) fun k hk => (hq k hk).2) (Nat.lt_irrefl _)
def cS : DT := tV (d1 JD (dVar 3))
def bS : DS := (dSeq (dSet 4 [] (Zk Zj (Zc (dVar 2) (Zc (dVar 3) dNil))))
  (dSeq (dIf (tV (d1 fIsN (dVar 4)))
  (dRet (dTup (Zc (dVar 2) (Zc (dVar 3) dNil))))
  Z1)
  (dSeq (dSet 2 [] (Zk Ym (Zc (dVar 2) (Zc (dVar 3) (Zc (dVar 4) dNil)))))
  (dSet 3 [] (Zk Zx (Zc (dVar 2) dNil))))))
theorem zca (z : Mz K m M B) (tk tg : PyData) : ∀ (n : Nat) (b : LB), End n b -> Bo K m M b -> Sx.Fr K m b.bd -> ∀ (fuel : Nat), n < fuel -> ∀ (th : PyData) (s4 : Sl), Zx [eB b] = .ok th ->
  ∃ b', Bo K m M b' /\ Sx.Fr K m b'.bd /\ (((∀ t, K <= t -> t < K + m -> 0 <= b'.bd.R t K) /\ ∃ s4', Ye cS bS fuel [.val tk, .val tg, .val (eB b), .val th, s4] = .ok (.nx [.val tk, .val tg, .val (eB b'), .val .none, s4'])) \/
   ∃ t, K <= t /\ t < K + m /\ b'.bd.R t K < 0 /\ (∀ j, j < K -> hlp b' K t j = false) /\ Ye cS bS fuel [.val tk, .val tg, .val (eB b), .val th, s4] = .ok (.rt (.tuple [eB b', .int t]))) := by
 intro n
 induction n with
 | zero =>
  intro b he o f fuel hf th s4 hth
  obtain ⟨fu, rfl⟩ : ∃ fu, fuel = fu + 1 := ⟨fuel - 1, by omega⟩
  have he' : nxt b = none := he
  rcases UO o f with ⟨a1, a2, _⟩ | ⟨t, a1, a2, a3, a4, a5, a6, _⟩ | ⟨t, p, _, _, _, _, a5⟩
  ·rw [hth] at a2; cases a2
   refine ⟨b, o, f, .inl ⟨a1, s4, ?_⟩⟩
   simp [Ye, cS]
  ·rw [hth] at a5; cases a5
   refine ⟨b, o, f, .inr ⟨t, a1, a2, a3, a4, ?_⟩⟩
   simp [Ye, cS, bS, a6]
  ·rw [he'] at a5; cases a5
 | succ n ih =>
  intro b he o f fuel hf th s4 hth
  obtain ⟨fu, rfl⟩ : ∃ fu, fuel = fu + 1 := ⟨fuel - 1, by omega⟩
  rcases UO o f with ⟨a1, a2, _⟩ | ⟨t, a1, a2, a3, a4, a5, a6, _⟩ | ⟨t, p, a0, ch, a3, a4, a5⟩
  ·rw [hth] at a2; cases a2
   refine ⟨b, o, f, .inl ⟨a1, s4, ?_⟩⟩
   simp [Ye, cS]
  ·rw [hth] at a5; cases a5
   refine ⟨b, o, f, .inr ⟨t, a1, a2, a3, a4, ?_⟩⟩
   simp [Ye, cS, bS, a6]
  ·rw [hth] at a3; cases a3
   have he2 : End n (lsw b t p) := by
    have he' : nxt b = none \/ ∃ b', nxt b = some b' /\ End n b' := he
    rcases he' with h | ⟨b', h, h'⟩
    ·rw [a5] at h; cases h
    ·rw [a5] at h; cases h; exact h'
   obtain ⟨_, _, _, _, _, o2, f2⟩ := Qv o f a5
   obtain ⟨th2, hth2⟩ : ∃ th2, Zx [eB (lsw b t p)] = .ok th2 := by
    rcases zar o2.wf with ⟨t', _, _, _, _, h⟩ | ⟨_, h⟩
    ·exact ⟨_, h⟩
    ·exact ⟨_, h⟩
   have hs := UL o.wf (o.sm z) (t := t) (p := p) (by omega) ch.pK
   obtain ⟨b', o', f', r⟩ := ih (lsw b t p) he2 o2 f2 fu (by omega) th2 (.val (.int p)) hth2
   have ew : Ye cS bS (fu + 1) [.val tk, .val tg, .val (eB b), .val (.int t), s4] = Ye cS bS fu [.val tk, .val tg, .val (eB (lsw b t p)), .val th2, .val (.int p)] := by
    have ec : cS (frzA [.val tk, .val tg, .val (eB b), .val (.int t), s4]) = .ok true := by simp [cS]
    have eb : bS [.val tk, .val tg, .val (eB b), .val (.int t), s4] = .ok (.nx [.val tk, .val tg, .val (eB (lsw b t p)), .val th2, .val (.int p)]) := by simp [bS, a4, hs, hth2]
    rw [Ye, ec, Res.bind_ok, if_pos rfl, eb]
    rfl
   rw [ew]
   exact ⟨b', o', f', r⟩
theorem zd1 (z : Mz K m M B) {tk tg : PyData} (o : Bo K m M b) (h0 : YI [tk, tg] = .ok (eB b)) (hf : (K + m + 1) ^ K < 1000000000000) :
  ∃ b', Bo K m M b' /\ Sx.Fr K m b'.bd /\ (((∀ t, K <= t -> t < K + m -> 0 <= b'.bd.R t K) /\ Yw [tk, tg] = .ok (.tuple [eB b', .none])) \/
   ∃ t, K <= t /\ t < K + m /\ b'.bd.R t K < 0 /\ (∀ j, j < K -> hlp b' K t j = false) /\ Yw [tk, tg] = .ok (.tuple [eB b', .int t])) := by
 obtain ⟨b1, o1, f1, e1⟩ := freed_ok z o
 obtain ⟨th, hth⟩ : ∃ th, Zx [eB b1] = .ok th := by
  rcases zar o1.wf with ⟨t', _, _, _, _, h⟩ | ⟨_, h⟩
  ·exact ⟨_, h⟩
  ·exact ⟨_, h⟩
 have hd : Q9 = dSeq (Qg VW cS bS) WV := rfl
 obtain ⟨b', o', f', r⟩ := zca z tk tg _ b1 (ends o1 f1) o1 f1 1000000000000 hf th .emp hth
 refine ⟨b', o', f', ?_⟩
 have hu : ∀ G, VW G = 1000000000000 := fun _ => rfl
 rcases r with ⟨r1, s4, r2⟩ | ⟨t, r1, r2, r3, r4, r5⟩
 ·refine .inl ⟨r1, ?_⟩
  simp [Yw, Ja, Uf, hd, WV, runQ, runF, h0, e1, hth, hu, r2]
 ·refine .inr ⟨t, r1, r2, r3, r4, ?_⟩
  simp [Yw, Ja, Uf, hd, WV, runQ, runF, h0, e1, hth, hu, r5]
end
end Lw
namespace Lw
open PySem Fx
theorem div_add {a b D : Int} (h : D ≠ 0) : Rat.divInt a D + Rat.divInt b D = Rat.divInt (a + b) D := by
 simp only [Rat.divInt_eq_div]
 have : (D : Rat) ≠ 0 := by exact_mod_cast h
 grind
theorem zf3 {a b D : Int} : (a : Rat) * Rat.divInt b D = Rat.divInt (a * b) D := by
 simp only [Rat.divInt_eq_div, Rat.intCast_mul]
 grind
theorem div_le {a b D : Int} (h : 0 < D) (hh : a <= b * D) : Rat.divInt a D <= (b : Rat) := by
 rw [Rat.le_iff_sub_nonneg]
 have e : (b : Rat) - Rat.divInt a D = Rat.divInt (b * D - a) D := by
  simp only [Rat.divInt_eq_div, Rat.intCast_mul, Rat.intCast_sub]
  have : (D : Rat) ≠ 0 := by exact_mod_cast (show D ≠ 0 by omega)
  grind
 rw [e]
 exact (Rat.divInt_nonneg_iff_of_pos_right h).mpr (by omega)
theorem div_neg {a D : Int} (h : 0 < D) (hh : a < 0) : Rat.divInt a D < 0 := by
 rw [<- Rat.not_le, Rat.divInt_nonneg_iff_of_pos_right h]
 omega
theorem zf2 {a D : Int} (h : 0 < D) (hh : 0 <= a) : 0 <= Rat.divInt a D := (Rat.divInt_nonneg_iff_of_pos_right h).mpr hh
theorem zdE {D : Int} : Rat.divInt 0 D = 0 := Rat.zero_divInt D
theorem zf1 {D : Int} (h : D ≠ 0) : Rat.divInt D D = 1 := by
 rw [Rat.divInt_eq_div]
 have : (D : Rat) ≠ 0 := by exact_mod_cast h
 grind
theorem zbm : ∀ (n : Nat) (f : Nat -> Int), Sx.sumN (n + 1) f = f 0 + Sx.sumN n (fun i => f (i + 1))
 | 0, f => by simp [Sx.sumN]
 | n + 1, f => by
  have := zbm n f
  simp only [Sx.sumN] at this ⊢
  omega
theorem V8 {α : Type} (d : α) (f : α -> Int) {D : Int} (hD : D ≠ 0) : ∀ (ls : List α) (g : Nat -> Int), dot (ls.map f) ((List.range ls.length).map fun i => Rat.divInt (g i) D) = Rat.divInt (Sx.sumN ls.length fun i => f (ls.getD i d) * g i) D
 | [], g => by simp [dot, Sx.sumN]
 | l :: ls, g => by
  have ih := V8 d f hD ls (fun i => g (i + 1))
  rw [List.length_cons, List.range_succ_eq_map, List.map_cons, List.map_cons, List.map_map, zbm]
  simp only [dot]
  have e : ((List.range ls.length).map ((fun i => Rat.divInt (g i) D) ∘ Nat.succ)) = (List.range ls.length).map fun i => Rat.divInt (g (i + 1)) D := rfl
  rw [e, ih, zf3, div_add hD]
  rfl
theorem ZI {α : Type} {xs : List α} {n : Nat} {d : α} (h : n < xs.length) : xs[n] = xs.getD n d := by simp [List.getD_eq_getElem?_getD, h]
def pt (K : Nat) (b : LB) : List Rat := (List.range K).map fun i => Rat.divInt (b.bd.R i K) b.D
section
variable {K m B : Nat} {M : Sx.Mat} {b : LB} {t : Nat}
theorem V2 (o : Bo K m M b) (s : Sm b) : Xu [eB b] = .ok (.list ((pt K b).map fr)) := by
 have h1 : Xz (K : Int) = true := ZP (by have := o.wf.kk; omega)
 have h2 : (rngT 0 K).length <= 16777216 := by rw [Xd]; have := o.wf.kk; omega
 have hc : Yx (Zt 0) tT (Zk YJ (Zc (d2 fIx (d2 fIx (d1 (fFld "rows") (dVar 1)) (dVar 0)) (d1 fNeg (dC (.int 1)))) (Zc (d1 (fFld "divisor") (dVar 1)) dNil))) [.emp, .val (eB b)] (rngT 0 K) = .ok ((List.range K).map fun i => fr (Rat.divInt (b.bd.R i K) b.D)) := by
  rw [We]
  refine ZX (fun (k : Nat) => PyData.int (k : Int)) _ _ fun i hi => ⟨_, rfl, ?_⟩
  have hi' := List.mem_range.mp hi
  have e1 := VJ o.wf (i := i) (by omega)
  have e2 : fIx (eI (b.rows.getD i [])) (.int (-1)) = .ok (.int (b.bd.R i K)) := zaS (o.wf.row (by omega))
  have e3 := V5 (u := b.bd.R i K) s.d0 s.d (by omega)
  generalize b.bd.R i K = r at *
  simp [e1, e2, e3, -fIx, -List.getD_eq_getElem?_getD]
 simp [Xu, zaa, runQ, runF, o.wf.hl, h1, h2, hc, pt]
def shZ (b : LB) (K t : Nat) : Nat -> Nat -> Int
 | 0, _ => 0
 | c + 1, i => if b.bd.h c = K + i then -(b.bd.R t c) else shZ b K t c i
def U3 : DS := (dIf (tV (d2 fGe (dVar 4) (dVar 2)))
  (Vv 3 [] (d2 fSub (dVar 4) (dVar 2)) (Zk YJ (Zc (d1 fNeg (dVar 5)) (Zc (d1 (fFld "divisor") (dVar 0)) dNil))))
  Z1)
def shL (b : LB) (K m t c : Nat) : List Rat := (List.range m).map fun i => Rat.divInt (shZ b K t c i) b.D
theorem zb9 (o : Bo K m M b) (s : Sm b) {c : Nat} (hc : c < K) (ht : t < K + m + 1) (s4 s5 : Sl) :
  U3 [.val (eB b), .val (.int t), .val (.int K), .own ((shL b K m t c).map fr), .val (.int (b.bd.h c : Int)), .val (.int (b.bd.R t c))]
   = .ok (.nx [.val (eB b), .val (.int t), .val (.int K), .own ((shL b K m t (c + 1)).map fr), .val (.int (b.bd.h c : Int)), .val (.int (b.bd.R t c))]) := by
 have hw := o.hw c hc
 by_cases hh : K <= b.bd.h c
 ·have e3 := V5 (u := -(b.bd.R t c)) s.d0 s.d (by omega)
  have e4 : ixP m ((b.bd.h c : Int) - (K : Int)) = some (b.bd.h c - K) := by
   unfold ixP
   rw [if_pos (by omega), if_pos (by omega)]
   congr 1
   omega
  have e5 : ((shL b K m t c).map fr).set (b.bd.h c - K) (fr (Rat.divInt (-(b.bd.R t c)) b.D)) = (shL b K m t (c + 1)).map fr := by
   unfold shL
   rw [List.map_map, List.map_map, zbB]
   refine List.map_congr_left fun i hi => ?_
   simp only [Function.comp, shZ]
   by_cases e : i = b.bd.h c - K
   ·rw [if_pos e, if_pos (by omega)]
   ·rw [if_neg e, if_neg (by omega)]
  have e6 : ((shL b K m t c).map fr).length = m := by simp [shL]
  generalize b.bd.R t c = r at *
  generalize b.bd.h c = hc' at *
  generalize (shL b K m t c).map fr = sl at *
  generalize (shL b K m t (c + 1)).map fr = sl2 at *
  have hh' : (K : Int) <= (hc' : Int) := by omega
  simp [U3, hh', e3, e4, e5, e6]
 ·have e5 : shL b K m t (c + 1) = shL b K m t c := by
   unfold shL
   refine List.map_congr_left fun i hi => ?_
   simp only [shZ]
   rw [if_neg (by omega)]
  rw [e5]
  generalize b.bd.R t c = r at *
  generalize b.bd.h c = hc' at *
  have hh' : ¬ (K : Int) <= (hc' : Int) := by omega
  simp [U3, hh']
theorem zbq (o : Bo K m M b) (s : Sm b) (ht : t < K + m + 1) : YV [eB b, .int t] = .ok (.list ((shL b K m t K).map fr)) := by
 have hrm := Qn o.wf
 have e1 := VJ o.wf ht
 have hmk := o.wf.mm
 have hz : zipT (b.heads.map fun (h : Nat) => PyData.int (h : Int)) ((b.rows.getD t []).map PyData.int) = (List.range K).map fun i => .tuple [.int (b.bd.h i : Int), .int (b.bd.R t i)] := by
  have er := o.wf.row ht
  have eh := o.wf.hl
  apply List.ext_getElem
  ·rw [Y9]; simp [eh, er, -List.getD_eq_getElem?_getD]
  ·intro n h1 h2
   simp only [Y9, List.getElem_map, List.getElem_zip, List.getElem_range]
   have hn : n < K := by simpa using h2
   have a1 : b.heads[n]'(by omega) = b.bd.h n := by simp [List.getD_eq_getElem?_getD, show n < b.heads.length by omega]
   have a2 : (b.rows.getD t [])[n]'(by omega) = b.bd.R t n := by
    rw [bd_R]
    exact ZI _
   rw [a1, a2]
 have start : List.replicate m (PyData.tuple [.int 0, .int 1]) = (shL b K m t 0).map fr := by
  rw [QT]
  unfold shL
  rw [List.map_map]
  apply List.ext_getElem
  ·simp
  ·intro n h1 h2
   simp [shZ, zdE]
 have hm3 : (m : Int) <= 16777216 := by omega
 have loop : ∃ s4 s5, forL (WL 4 5) U3 (zipT (b.heads.map fun (h : Nat) => PyData.int (h : Int)) ((b.rows.getD t []).map PyData.int)) [.val (eB b), .val (.int t), .val (.int K), .own ((shL b K m t 0).map fr), .emp, .emp] = .ok (.nx [.val (eB b), .val (.int t), .val (.int K), .own ((shL b K m t K).map fr), s4, s5]) := by
  rw [hz]
  obtain ⟨G', e, s4, s5, hG⟩ := WR (st := WL 4 5) (b := U3) (fun c G => ∃ s4 s5, G = [.val (eB b), .val (.int t), .val (.int K), .own ((shL b K m t c).map fr), s4, s5]) ((List.range K).map fun i => PyData.tuple [.int (b.bd.h i : Int), .int (b.bd.R t i)]) 0
   [.val (eB b), .val (.int t), .val (.int K), .own ((shL b K m t 0).map fr), .emp, .emp] ⟨.emp, .emp, rfl⟩ fun i x G hx ⟨s4, s5, hG⟩ => by
    subst hG
    rw [List.getElem?_map] at hx
    cases ei : (List.range K)[i]? with
    | none => rw [ei] at hx; cases hx
    | some j =>
     rw [ei] at hx
     obtain ⟨hj, ej⟩ := List.getElem?_eq_some_iff.mp ei
     rw [List.getElem_range] at ej
     subst ej
     cases hx
     have hiK : i < K := by simpa using hj
     have st := zb9 o s hiK ht .emp .emp
     have e0 : 0 + i = i := by omega
     have e1 : 0 + i + 1 = i + 1 := by omega
     rw [e0]
     exact ⟨_, rfl, _, .inl st, _, _, rfl⟩
  have el : 0 + ((List.range K).map fun i => PyData.tuple [.int (b.bd.h i : Int), .int (b.bd.R t i)]).length = K := by simp
  rw [el] at hG
  subst hG
  exact ⟨s4, s5, e⟩
 obtain ⟨s4, s5, loop⟩ := loop
 have hm1 : Xz (m : Int) = true := ZP (by omega)
 have hm2 : m <= 16777216 := by omega
 have hd : Uy = dSeq (dFor (WL 4 5) [] (iZip (iSeq (d1 (fFld "heads") (dVar 0))) (iSeq (d2 fIx (d1 (fFld "rows") (dVar 0)) (dVar 1)))) U3) WU := rfl
 simp [YV, Q8, Uz, hd, WU, runQ, runF, o.wf.hl, hrm, Xd, hm1, hm2, hm3, start, e1, loop, -fIx, -List.getD_eq_getElem?_getD]
end
end Lw
namespace Lw
open PySem Fx
section
variable {K m : Nat} {ls : List Lim} {goal : List Int}
theorem zbe (hw : ∀ l ∈ ls, l.1.length = K) {i c : Nat} (hi : i < ls.length) (hc : c < K) : M0 K ls goal (K + i) c = -(colN c (ls.getD i ([], 0))) := by
 show ((Vb K ls goal).getD (K + i) []).getD c 0 = _
 rw [zc4 hi]
 have hl := hw _ (Xf (xs := ls) (d := ([], 0)) hi)
 generalize ls.getD i ([], 0) = l at *
 unfold zby colN
 rw [List.getD_eq_getElem?_getD, List.getElem?_append_left (by simpa [hl] using hc), List.getElem?_map, List.getD_eq_getElem?_getD, List.getElem?_eq_getElem (by omega)]
 rfl
theorem Qt (hw : ∀ l ∈ ls, l.1.length = K) {i : Nat} (hi : i < ls.length) : M0 K ls goal (K + i) K = (ls.getD i ([], 0)).2 := by
 show ((Vb K ls goal).getD (K + i) []).getD K 0 = _
 rw [zc4 hi]
 have hl := hw _ (Xf (xs := ls) (d := ([], 0)) hi)
 generalize ls.getD i ([], 0) = l at *
 unfold zby
 rw [List.getD_eq_getElem?_getD, List.getElem?_append_right (by simp [hl])]
 simp [hl]
theorem zcS (hm : ls.length = m) (hg : goal.length = K) {c : Nat} (hc : c < K) : M0 K ls goal (K + m) c = goal.getD c 0 := by
 show ((Vb K ls goal).getD (K + m) []).getD c 0 = _
 rw [<- hm, zbx, List.getD_eq_getElem?_getD, List.getElem?_append_left (by omega), List.getD_eq_getElem?_getD]
theorem zbf (hm : ls.length = m) (hg : goal.length = K) : M0 K ls goal (K + m) K = 0 := by
 show ((Vb K ls goal).getD (K + m) []).getD K 0 = _
 rw [<- hm, zbx, List.getD_eq_getElem?_getD, List.getElem?_append_right (by omega)]
 simp [hg]
theorem M0_amt {i c : Nat} (hi : i < K) (hc : c <= K) : M0 K ls goal i c = if c = i then 1 else 0 := by
 show ((Vb K ls goal).getD i []).getD c 0 = _
 rw [ze9 hi]
 unfold zbj
 rw [List.getD_eq_getElem?_getD, List.getElem?_set]
 by_cases e : c = i
 ·subst e; rw [if_pos rfl, if_pos (by simp; omega), if_pos rfl]; rfl
 ·rw [if_neg (Ne.symm e), if_neg e, List.getElem?_replicate]
  split <;> rfl
theorem Mz.of {B : Nat} (hb : 1 <= B) (hm : ls.length = m) (hw : ∀ l ∈ ls, l.1.length = K) (hg : goal.length = K) (h1 : ∀ l ∈ ls, (∀ x ∈ l.1, x.natAbs <= B) /\ l.2.natAbs <= B) (h2 : ∀ x ∈ goal, x.natAbs <= B) (hz : Sx.fact (K + 1) * B ^ (K + 1) < 2 ^ 1000) : Mz K m (M0 K ls goal) B := by
 refine ⟨hb, fun i c hi hc => ?_, hz⟩
 rcases (show i < K \/ (K <= i /\ i < K + m) \/ i = K + m by omega) with h | h | h
 ·rw [M0_amt h hc]; split <;> simp <;> omega
 ·obtain ⟨j, rfl⟩ : ∃ j, i = K + j := ⟨i - K, by omega⟩
  have hj : j < ls.length := by omega
  have hmem := Xf (xs := ls) (d := ([], 0)) hj
  by_cases e : c = K
  ·subst e; rw [Qt hw hj]; exact (h1 _ hmem).2
  ·rw [zbe hw hj (by omega), Int.natAbs_neg]
   exact (h1 _ hmem).1 _ (Xf (by rw [hw _ hmem]; omega))
 ·subst h
  by_cases e : c = K
  ·subst e; rw [zbf hm hg]; simp
  ·rw [zcS hm hg (by omega)]
   exact h2 _ (Xf (by omega))
end
section
variable {K m B : Nat} {ls : List Lim} {goal : List Int} {b : LB} {t : Nat}
theorem Bo.lin (o : Bo K m (M0 K ls goal) b) (hm : ls.length = m) {i q : Nat} (hi : i < K + m + 1) (hq : q <= K) : b.bd.R i q = Sx.sumN K (fun c => M0 K ls goal i c * b.bd.R c q) + M0 K ls goal i K * (if q = K then b.D else 0) := by
 have e := o.g.two (zdn (K := K) (ls := ls) (goal := goal) hm) hi hq
 have e1 : (lb0 K ls goal).bd.D = 1 := rfl
 rw [e1, Int.one_mul] at e
 rw [e]
 congr 1
 refine Sx.ZL fun c hc => ?_
 have e2 : (lb0 K ls goal).bd.h c = c := by show (List.range K).getD c 0 = c; simp [hc]
 rw [e2]; rfl
theorem Bo.room (o : Bo K m (M0 K ls goal) b) (hm : ls.length = m) (hw : ∀ l ∈ ls, l.1.length = K) {i q : Nat} (hi : i < m) (hq : q <= K) :
  Sx.sumN K (fun c => colN c (ls.getD i ([], 0)) * b.bd.R c q) = (if q = K then (ls.getD i ([], 0)).2 * b.D else 0) - b.bd.R (K + i) q := by
 rw [o.lin hm (i := K + i) (by omega) hq, Qt hw (by omega)]
 have e : Sx.sumN K (fun c => M0 K ls goal (K + i) c * b.bd.R c q) = Sx.sumN K (fun c => (-1) * (colN c (ls.getD i ([], 0)) * b.bd.R c q)) := Sx.ZL fun c hc => by
  rw [zbe hw (by omega) hc]; grind
 rw [e, Sx.X2]
 by_cases h : q = K
 ·rw [if_pos h, if_pos h]; omega
 ·rw [if_neg h, if_neg h]; omega
theorem Bo.worth (o : Bo K m (M0 K ls goal) b) (hm : ls.length = m) (hg : goal.length = K) {q : Nat} (hq : q <= K) : Sx.sumN K (fun c => goal.getD c 0 * b.bd.R c q) = b.bd.R (K + m) q := by
 rw [o.lin hm (i := K + m) (by omega) hq, zbf hm hg, Int.zero_mul, Int.add_zero]
 exact Sx.ZL fun c hc => by rw [zcS hm hg hc]
theorem dot_pt {ws : List Int} (hl : ws.length = K) (hD : b.D ≠ 0) : dot ws (pt K b) = Rat.divInt (Sx.sumN K fun c => ws.getD c 0 * b.bd.R c K) b.D := by
 have := V8 (0 : Int) (fun x => x) hD ws (fun i => b.bd.R i K)
 rw [hl, List.map_id''] at this
 ·exact this
 ·intro x; rfl
theorem zeY {i : Nat} : ∀ (c : Nat), (∀ j, j < c -> b.bd.h j ≠ K + i) -> shZ b K t c i = 0
 | 0, _ => rfl
 | c + 1, h => by
  unfold shZ
  rw [if_neg (h c (by omega))]
  exact zeY c fun j hj => h j (by omega)
theorem zeZ {i : Nat} : ∀ (c : Nat), c <= K -> (∀ j, j < K -> b.bd.R t j <= 0) -> 0 <= shZ b K t c i
 | 0, _, _ => Int.le_refl 0
 | c + 1, hc, h => by
  unfold shZ
  split
  ·have := h c (by omega); omega
  ·exact zeZ c (by omega) h
theorem zeJ {n a : Nat} {v : Int} (f g : Nat -> Int) (ha : a < n) : Sx.sumN n (fun i => f i * (if i = a then v else g i)) = Sx.sumN n (fun i => f i * g i) + f a * (v - g a) := by
 have e : ∀ i, i < n -> f i * (if i = a then v else g i) = f i * g i + (if i = a then f a * (v - g a) else 0) := fun i _ => by
  split
  ·rename_i h; subst h; grind
  ·omega
 rw [Sx.ZL e, Sx.zam, Sx.zeM ha]
theorem sh_sum {M : Sx.Mat} (o : Bo K m M b) (F : Nat -> Int) : ∀ (c : Nat), c <= K -> Sx.sumN m (fun i => F (K + i) * shZ b K t c i) = Sx.sumN c (fun j => if K <= b.bd.h j then F (b.bd.h j) * -(b.bd.R t j) else 0)
 | 0, _ => by simp only [shZ, Int.mul_zero, Sx.sumN]; exact Sx.zal fun _ _ => rfl
 | c + 1, hc => by
  have ih := sh_sum o F c (by omega)
  have hw := o.hw c (by omega)
  simp only [Sx.sumN, <- ih]
  by_cases h : K <= b.bd.h c
  ·rw [if_pos h]
   have e : ∀ i, i < m -> F (K + i) * shZ b K t (c + 1) i = F (K + i) * (if i = b.bd.h c - K then -(b.bd.R t c) else shZ b K t c i) := fun i hi => by
    congr 1
    simp only [shZ]
    by_cases z : i = b.bd.h c - K
    ·rw [if_pos z, if_pos (by omega)]
    ·rw [if_neg z, if_neg (by omega)]
   rw [Sx.ZL e, zeJ (fun i => F (K + i)) (fun i => shZ b K t c i) (by omega)]
   have z0 : shZ b K t c (b.bd.h c - K) = 0 := zeY c fun j hj z => by
    have := o.g.inj (j := j) (l := c) (by omega) (by omega) (by omega)
    omega
   have z1 : K + (b.bd.h c - K) = b.bd.h c := by omega
   simp only [z0, z1, Int.sub_zero]
  ·rw [if_neg h, Int.add_zero]
   refine Sx.ZL fun i hi => ?_
   congr 1
   simp only [shZ]
   rw [if_neg (by omega)]
theorem zeW {M : Sx.Mat} (o : Bo K m M b) (ht : t < K + m + 1) (hz : ∀ j, j < K -> b.bd.h j < K -> b.bd.R t j = 0) {c : Nat} (hc : c <= K) : Sx.sumN m (fun i => M (K + i) c * shZ b K t K i) = (if c = K then b.bd.R t K else 0) - b.D * M t c := by
 rw [sh_sum o (fun i => M i c) K (Nat.le_refl _)]
 have cr := o.g.cr t c ht hc
 simp only [Sx.sumN] at cr
 rw [Sx.Vh_K] at cr
 have e : Sx.sumN K (fun j => if K <= b.bd.h j then M (b.bd.h j) c * -(b.bd.R t j) else 0) = Sx.sumN K (fun j => (-1) * (b.bd.R t j * Sx.Vh K M b.bd.h j c)) := Sx.ZL fun j hj => by
  rw [Sx.Vh_lt hj]
  by_cases h : K <= b.bd.h j
  ·rw [if_pos h]; grind
  ·rw [if_neg h, hz j hj (by omega)]; omega
 rw [e, Sx.X2]
 have ek : Sx.eK K c = if c = K then 1 else 0 := rfl
 rw [ek] at cr
 rw [bd_D] at cr
 by_cases h : c = K
 ·rw [if_pos h] at cr ⊢; omega
 ·rw [if_neg h] at cr ⊢; omega
def clZ (b : LB) (K t : Nat) (i : Nat) : Int := if i = t - K then b.D else shZ b K t K i
def clL (b : LB) (K m t : Nat) : List Rat := (List.range m).map fun i => Rat.divInt (clZ b K t i) b.D
theorem clash_ok {M : Sx.Mat} (o : Bo K m M b) (s : Sm b) (ht : K <= t) (ht2 : t < K + m) : X1 [eB b, .int t] = .ok (.list ((clL b K m t).map fr)) := by
 have h1 := zbq o s (t := t) (by omega)
 have e4 : ixP m ((t : Int) - (K : Int)) = some (t - K) := by
  unfold ixP
  rw [if_pos (by omega), if_pos (by omega)]
  congr 1
  omega
 have e6 : ((shL b K m t K).map fr).length = m := by simp [shL]
 have e5 : ((shL b K m t K).map fr).set (t - K) (PyData.tuple [.int 1, .int 1]) = (clL b K m t).map fr := by
  have e1 : PyData.tuple [.int 1, .int 1] = fr 1 := by simp [fr]
  unfold shL clL
  rw [e1, List.map_map, List.map_map, zbB]
  refine List.map_congr_left fun i hi => ?_
  simp only [Function.comp, clZ]
  by_cases e : i = t - K
  ·rw [if_pos e, if_pos e, zf1 s.d0]
  ·rw [if_neg e, if_neg e]
 generalize (shL b K m t K).map fr = sl at *
 generalize (clL b K m t).map fr = cl at *
 simp [X1, zad, Qe, Qd, runQ, runF, oCall, h1, o.wf.hl, e4, e6, e5]
theorem cl_rows {M : Sx.Mat} (o : Bo K m M b) (ht : K <= t) (ht2 : t < K + m) (hsh : b.bd.R t K < 0) (hz : ∀ j, j < K -> b.bd.h j < K -> b.bd.R t j = 0) {c : Nat} (hc : c <= K) : Sx.sumN m (fun i => M (K + i) c * clZ b K t i) = if c = K then b.bd.R t K else 0 := by
 unfold clZ
 rw [zeJ (fun i => M (K + i) c) (fun i => shZ b K t K i) (by omega), zeW o (by omega) hz hc]
 have z0 : shZ b K t K (t - K) = 0 := zeY K fun j hj z => by
  have := o.g.head0 hj
  rw [z, show K + (t - K) = t by omega] at this
  omega
 have z1 : K + (t - K) = t := by omega
 simp only [z0, z1, Int.sub_zero]
 have : M t c * b.D = b.D * M t c := Int.mul_comm _ _
 omega
end
end Lw
namespace Lw
open PySem Fx
structure DK (K m B n0 : Nat) (ls : List Lim) : Prop where
 k : K <= 1000
 m1 : m <= 1000
 len : ls.length = m
 w : ∀ l ∈ ls, l.1.length = K
 b1 : 1 <= B
 sz : ∀ l ∈ ls, (∀ x ∈ l.1, x.natAbs <= B) /\ l.2.natAbs <= B
 z : Sx.fact (K + 1) * B ^ (K + 1) < 2 ^ n0
 n : n0 <= 1000
 fu : (K + m + 1) ^ K < 1000000000000
abbrev zcF (K : Nat) (ls : List Lim) : PyData := .tuple [.int K, .tuple (ls.map limT)]
structure SzB (K m n0 : Nat) (b : LB) : Prop where
 d : b.D.natAbs < 2 ^ n0
 r : ∀ i j, i < K + m + 1 -> j <= K -> (b.bd.R i j).natAbs < 2 ^ n0
section
variable {K m B n0 : Nat} {ls : List Lim} {goal : List Int} {b : LB} {t : Nat}
theorem DK.mz (d : DK K m B n0 ls) (hg : goal.length = K) (h2 : ∀ x ∈ goal, x.natAbs <= B) : Mz K m (M0 K ls goal) B :=
 .of d.b1 d.len d.w hg d.sz h2 (Nat.lt_of_lt_of_le d.z (zdc d.n))
theorem DK.szb (d : DK K m B n0 ls) (hg : goal.length = K) (h2 : ∀ x ∈ goal, x.natAbs <= B) (o : Bo K m (M0 K ls goal) b) : SzB K m n0 b := by
 obtain ⟨h1, h3⟩ := o.g.size d.b1 (d.mz hg h2).le
 exact ⟨Nat.lt_of_le_of_lt h1 d.z, fun i j hi hj => Nat.lt_of_le_of_lt (h3 i j hi hj) d.z⟩
theorem DK.bo0 (d : DK K m B n0 ls) (hg : goal.length = K) : Bo K m (M0 K ls goal) (lb0 K ls goal) := by
 refine ⟨lb0_wf d.k d.len d.m1 d.w hg, zdn d.len, fun j hj => ?_⟩
 show (List.range K).getD j 0 < K + m
 simp [hj]; omega
theorem DK.settled (d : DK K m B n0 ls) (hg : goal.length = K) (h2 : ∀ x ∈ goal, x.natAbs <= B) :
  ∃ b, Bo K m (M0 K ls goal) b /\ Sx.Fr K m b.bd /\ Sm b /\ SzB K m n0 b /\ (((∀ t, K <= t -> t < K + m -> 0 <= b.bd.R t K) /\ Yw [zcF K ls, eI goal] = .ok (.tuple [eB b, .none])) \/
   ∃ t, K <= t /\ t < K + m /\ b.bd.R t K < 0 /\ (∀ j, j < K -> hlp b K t j = false) /\ Yw [zcF K ls, eI goal] = .ok (.tuple [eB b, .int t])) := by
 obtain ⟨b, o, f, r⟩ := zd1 (d.mz hg h2) (d.bo0 hg) (JC d.k d.len d.m1 d.w hg) d.fu
 exact ⟨b, o, f, o.sm (d.mz hg h2), d.szb hg h2 o, r⟩
theorem pt_sz (o : SzB K m n0 b) (s : Sm b) : ∀ q ∈ pt K b, Sz n0 q := fun q hq => by
 obtain ⟨i, hi, rfl⟩ := List.mem_map.mp hq
 exact XE s.d0 (o.r i K (by have := List.mem_range.mp hi; omega) (Nat.le_refl _)) o.d
theorem zeX (o : SzB K m n0 b) (ht : t < K + m + 1) {i : Nat} : ∀ c, c <= K -> (shZ b K t c i).natAbs < 2 ^ n0
 | 0, _ => by simp only [shZ]; exact Nat.two_pow_pos n0
 | c + 1, hc => by
  unfold shZ
  split
  ·rw [Int.natAbs_neg]; exact o.r t c ht (by omega)
  ·exact zeX o ht c (by omega)
theorem shL_sz (o : SzB K m n0 b) (s : Sm b) (ht : t < K + m + 1) : ∀ q ∈ shL b K m t K, Sz n0 q := fun q hq => by
 obtain ⟨i, hi, rfl⟩ := List.mem_map.mp hq
 exact XE s.d0 (zeX o ht K (Nat.le_refl _)) o.d
theorem clL_sz (o : SzB K m n0 b) (s : Sm b) (ht : t < K + m + 1) : ∀ q ∈ clL b K m t, Sz n0 q := fun q hq => by
 obtain ⟨i, hi, rfl⟩ := List.mem_map.mp hq
 refine XE s.d0 ?_ o.d
 unfold clZ
 split
 ·exact o.d
 ·exact zeX o ht K (Nat.le_refl _)
theorem zdi {j : Nat} (h : hlp b K t j = false) : b.bd.R t j <= 0 /\ (b.bd.h j < K -> b.bd.R t j = 0) := by
 unfold hlp at h
 rw [Bool.or_eq_false_iff, Bool.and_eq_false_iff] at h
 obtain ⟨h1, h2⟩ := h
 have h1' : ¬ 0 < b.bd.R t j := of_decide_eq_false h1
 refine ⟨by omega, fun hh => ?_⟩
 rcases h2 with h2 | h2
 ·have := of_decide_eq_false h2; omega
 ·exact absurd hh (of_decide_eq_false h2)
theorem pt_keeps (d : DK K m B n0 ls) (o : Bo K m (M0 K ls goal) b) (s : Sm b) (h : ∀ t, K <= t -> t < K + m -> 0 <= b.bd.R t K) : ∀ l ∈ ls, dot l.1 (pt K b) <= (l.2 : Rat) := fun l hl => by
 obtain ⟨i, hi, rfl⟩ := List.getElem_of_mem hl
 have hi' : i < m := by rw [<- d.len]; exact hi
 rw [dot_pt (d.w _ hl) s.d0]
 refine div_le o.g.pos ?_
 have e := o.room d.len d.w hi' (Nat.le_refl K)
 rw [if_pos rfl] at e
 have eg : ls.getD i ([], 0) = ls[i] := (ZI hi).symm
 rw [eg] at e
 have := h (K + i) (by omega) (by omega)
 have e2 : Sx.sumN K (fun c => ls[i].1.getD c 0 * b.bd.R c K) = Sx.sumN K (fun c => colN c ls[i] * b.bd.R c K) := rfl
 rw [e2, e]
 show _ <= ls[i].2 * b.D
 omega
theorem cl_clash (d : DK K m B n0 ls) (o : Bo K m (M0 K ls goal) b) (s : Sm b) (ht : K <= t) (ht2 : t < K + m) (hsh : b.bd.R t K < 0) (hn : ∀ j, j < K -> hlp b K t j = false) :
  (∀ q ∈ clL b K m t, 0 <= q) /\ (∀ j, j < K -> dot (ls.map (colN j)) (clL b K m t) = 0) /\ zcX ls (clL b K m t) < 0 := by
 have hD : 0 < b.D := o.g.pos
 have rows := fun c hc => cl_rows (c := c) o ht ht2 hsh (fun j hj hh => (zdi (hn j hj)).2 hh) hc
 refine ⟨fun q hq => ?_, fun j hj => ?_, ?_⟩
 ·obtain ⟨i, hi, rfl⟩ := List.mem_map.mp hq
  refine zf2 hD ?_
  unfold clZ
  split
  ·omega
  ·exact zeZ K (Nat.le_refl _) fun j hj => (zdi (hn j hj)).1
 ·have e := V8 ([], (0 : Int)) (colN j) s.d0 ls (clZ b K t)
  rw [d.len] at e
  have e2 : Sx.sumN m (fun i => colN j (ls.getD i ([], 0)) * clZ b K t i) = 0 := by
   have r := rows j (by omega)
   rw [if_neg (by omega)] at r
   have e3 : Sx.sumN m (fun i => M0 K ls goal (K + i) j * clZ b K t i) = Sx.sumN m (fun i => (-1) * (colN j (ls.getD i ([], 0)) * clZ b K t i)) := Sx.ZL fun i hi => by
    rw [zbe d.w (by rw [d.len]; exact hi) hj]; grind
   rw [e3, Sx.X2] at r
   omega
  rw [e2, zdE] at e
  exact e
 ·have e := V8 ([], (0 : Int)) (fun l : Lim => l.2) s.d0 ls (clZ b K t)
  rw [d.len] at e
  have r := rows K (Nat.le_refl _)
  rw [if_pos rfl] at r
  have e3 : Sx.sumN m (fun i => M0 K ls goal (K + i) K * clZ b K t i) = Sx.sumN m (fun i => (ls.getD i ([], 0)).2 * clZ b K t i) := Sx.ZL fun i hi => by
   rw [Qt d.w (by rw [d.len]; exact hi)]
  rw [e3] at r
  rw [r] at e
  show dot (ls.map (·.2)) ((List.range m).map fun i => Rat.divInt (clZ b K t i) b.D) < 0
  rw [e]
  exact div_neg hD hsh
end
end Lw
namespace Lw
open PySem Fx
def VX : List Sl -> Nat := fun _ => 1000000000000
def JW : DS :=
  (dRet (d2 fSub (d1 fLen (d1 (fFld "rows") (dVar 0))) (dC (.int 1))))
def Yt : DF := runQ 1 1 JW
def zdK : DS :=
  (dRet (d2 fLt (d2 fMul (d2 fIx (dVar 0) (d1 fNeg (dC (.int 1)))) (d1 fNeg (d2 fIx (dVar 1) (dVar 2)))) (d2 fMul (d2 fIx (dVar 1) (d1 fNeg (dC (.int 1)))) (d1 fNeg (d2 fIx (dVar 0) (dVar 2))))))
def VG : DF := runQ 3 3 zdK
def Wq : DS :=
  (dRet (dVar 2))
def VS : DS :=
  dSeq (dFor (Zt 3) [] (iSeq (Zk Z7 (Zc (dVar 0) dNil)))
  (dSeq (dSet 4 [] (d2 fIx (d1 (fFld "rows") (dVar 0)) (dVar 3)))
  (dIf (tAnd (tV (d2 fLt (d2 fIx (dVar 4) (dVar 1)) (dC (.int 0)))) (tOr (tV (d1 fIsN (dVar 2))) (tV (Zk VG (Zc (dVar 4) (Zc (d2 fIx (d1 (fFld "rows") (dVar 0)) (dVar 2)) (Zc (dVar 1) dNil)))))))
  (dSet 2 [] (dVar 3))
  Z1)))
  Wq
def Qc : DS :=
  dSeq (dSet 2 [] (dC .none))
  VS
def ZS : DF := runQ 5 2 Qc
def JX : DS :=
  (dRet (dL (Xk 1 [2, 0, 1] (Zt 0) (iRng (d1 fLen (d1 (fFld "heads") (dVar 0)))) tT (Zk YJ (Zc (d2 fMul (dVar 1) (d2 fIx (d2 fIx (d1 (fFld "rows") (dVar 2)) (dVar 0)) (dVar 3))) (Zc (d1 (fFld "divisor") (dVar 2)) dNil))))))
def zdH : DS :=
  dSeq (dSet 2 [] (dIfE (tV (d2 fGt (d2 fIx (d2 fIx (d1 (fFld "rows") (dVar 0)) (Zk Yt (Zc (dVar 0) dNil))) (dVar 1)) (dC (.int 0)))) (dC (.int 1)) (d1 fNeg (dC (.int 1)))))
  JX
def VF : DF := runQ 3 2 zdH
def WY : DS :=
  (dRet (dTup (Zc (dC (.str (PySem.Str.ofString "best"))) (Zc (Zk Xu (Zc (dVar 0) dNil)) (Zc (Zk YV (Zc (dVar 0) (Zc (Zk Yt (Zc (dVar 0) dNil)) dNil))) dNil)))))
def Jj : DS :=
  dSeq (Qg VX (tV (d1 JD (dVar 1)))
  (dSeq (dSet 2 [] (Zk ZS (Zc (dVar 0) (Zc (dVar 1) dNil))))
  (dSeq (dIf (tV (d1 fIsN (dVar 2)))
  (dRet (dTup (Zc (dC (.str (PySem.Str.ofString "endless"))) (Zc (Zk Xu (Zc (dVar 0) dNil)) (Zc (Zk VF (Zc (dVar 0) (Zc (dVar 1) dNil))) dNil)))))
  Z1)
  (dSeq (dSet 0 [] (Zk Ym (Zc (dVar 0) (Zc (dVar 2) (Zc (dVar 1) dNil)))))
  (dSet 1 [] (Zk Zj (Zc (dVar 0) (Zc (Zk Yt (Zc (dVar 0) dNil)) dNil))))))))
  WY
def Jk : DS :=
  dSeq (dSet 1 [] (Zk Zj (Zc (dVar 0) (Zc (Zk Yt (Zc (dVar 0) dNil)) dNil))))
  Jj
def XB : DF := runQ 3 1 Jk
end Lw
namespace Lq
open PySem Fx Lw
def VU : DS :=
  (dIf (tNot (tV (d1 fAll (dL (Xk 1 [] (Zt 0) (iSeq (dVar 1)) tT (Zk Yu (Zc (dVar 0) dNil)))))))
  dNev
  Z1)
def Qf : DS :=
  dSeq (dIf (tOr (tNot (tV (d1 (fIs isList) (dVar 1)))) (tV (d2 fNe (d1 fLen (dVar 1)) (dVar 0))))
  dNev
  Z1)
  VU
def XC : DF := runQ 2 2 Qf
def zdO : DS :=
  (dRet (Zk XB (Zc (d2 fIx (dVar 2) (dC (.int 0))) dNil)))
def za6 : DS :=
  dSeq (dIf (tV (d1 JD (d2 fIx (dVar 2) (dC (.int 1)))))
  (dRet (dTup (Zc (dC (.str (PySem.Str.ofString "clash"))) (Zc (Zk X1 (Zc (d2 fIx (dVar 2) (dC (.int 0))) (Zc (d2 fIx (dVar 2) (dC (.int 1))) dNil))) dNil))))
  Z1)
  zdO
def za7 : DS :=
  dSeq (dSet 2 [] (Zk Yw (Zc (dVar 0) (Zc (dVar 1) dNil))))
  za6
def zf9 : DS :=
  dSeq (zcO (Zk XC (Zc (d2 fIx (dVar 0) (dC (.int 0))) (Zc (dVar 1) dNil))))
  za7
def JU : DF := runQ 3 2 zf9
end Lq
namespace Lw
open PySem Fx
section
variable {K m B n0 : Nat} {M : Sx.Mat} {b : LB} {t p : Nat}
theorem WH (w : WFb K m b) : Yt [eB b] = .ok (.int ((K + m : Nat) : Int)) := by
 have e : ((K + m + 1 : Nat) : Int) - 1 = ((K + m : Nat) : Int) := by omega
 simp [Yt, JW, runQ, runF, w.rl, e, -Int.natCast_add]
theorem zeT {row oth : List Int} {K : Nat} (hr : row.length = K + 1) (ho : oth.length = K + 1) (hp : p < K) (h1 : ∀ x ∈ row, x.natAbs < 2 ^ 1000) (h2 : ∀ x ∈ oth, x.natAbs < 2 ^ 1000) :
  VG [eI row, eI oth, .int p] = .ok (.bool (decide (row.getD K 0 * -(oth.getD p 0) < oth.getD K 0 * -(row.getD p 0)))) := by
 have e1 : fIx (eI row) (.int (-1)) = .ok (.int (row.getD K 0)) := zaS hr
 have e2 : fIx (eI oth) (.int (-1)) = .ok (.int (oth.getD K 0)) := zaS ho
 have e3 : fIx (eI row) (.int (p : Int)) = .ok (.int (row.getD p 0)) := VL (by omega)
 have e4 : fIx (eI oth) (.int (p : Int)) = .ok (.int (oth.getD p 0)) := VL (by omega)
 have s1 := h1 _ (Xf (xs := row) (i := K) (d := 0) (by omega))
 have s2 := h2 _ (Xf (xs := oth) (i := K) (d := 0) (by omega))
 have s3 := h1 _ (Xf (xs := row) (i := p) (d := 0) (by omega))
 have s4 := h2 _ (Xf (xs := oth) (i := p) (d := 0) (by omega))
 generalize row.getD K 0 = rK at *
 generalize oth.getD K 0 = oK at *
 generalize row.getD p 0 = rp at *
 generalize oth.getD p 0 = op at *
 have m1 : YN rK (-op) = true := Z9 s1 (by rw [Int.natAbs_neg]; exact s4) (by omega)
 have m2 : YN oK (-rp) = true := Z9 s2 (by rw [Int.natAbs_neg]; exact s3) (by omega)
 simp [VG, zdK, runQ, runF, e1, e2, e3, e4, m1, m2, -fIx]
theorem lt_frac {a b c x y z : Int} (hx : 0 < x) (hy : 0 < y) (hz : 0 < z) (h1 : a * y < b * x) (h2 : b * z <= c * y) : a * z < c * x := by
 have h3 := Int.mul_lt_mul_of_pos_right h1 hz
 have h4 := Int.mul_le_mul_of_nonneg_right h2 (Int.le_of_lt hx)
 have h5 : a * z * y < c * x * y := by
  have e1 : a * y * z = a * z * y := by grind
  have e2 : b * x * z = b * z * x := by grind
  have e3 : c * y * x = c * x * y := by grind
  rw [e1, e2] at h3
  rw [e3] at h4
  omega
 exact Int.lt_of_mul_lt_mul_right h5 (Int.le_of_lt hy)
def Stop (b : LB) (K p n : Nat) : Option Nat -> Prop
 | none => ∀ i, K <= i -> i < K + n -> 0 <= b.bd.R i p
 | some t => K <= t /\ t < K + n /\ b.bd.R t p < 0 /\ ∀ i, K <= i -> i < K + n -> b.bd.R i p < 0 -> b.bd.R t K * -b.bd.R i p <= b.bd.R i K * -b.bd.R t p /\ (i < t -> b.bd.R t K * -b.bd.R i p < b.bd.R i K * -b.bd.R t p)
def eO : Option Nat -> PyData
 | none => .none
 | some t => .int (t : Int)
def zb3 : DS := (dSeq (dSet 4 [] (d2 fIx (d1 (fFld "rows") (dVar 0)) (dVar 3)))
  (dIf (tAnd (tV (d2 fLt (d2 fIx (dVar 4) (dVar 1)) (dC (.int 0)))) (tOr (tV (d1 fIsN (dVar 2))) (tV (Zk VG (Zc (dVar 4) (Zc (d2 fIx (d1 (fFld "rows") (dVar 0)) (dVar 2)) (Zc (dVar 1) dNil)))))))
  (dSet 2 [] (dVar 3))
  Z1))
theorem zeP (w : WFb K m b) (s : Sm b) (hp : p < K) {n : Nat} (hn : n < m) (f : Option Nat) (hf : Stop b K p n f) (s4 : Sl) : ∃ f' s4', Stop b K p (n + 1) f' /\
  zb3 [.val (eB b), .val (.int p), .val (eO f), .val (.int ((K + n : Nat) : Int)), s4] = .ok (.nx [.val (eB b), .val (.int p), .val (eO f'), .val (.int ((K + n : Nat) : Int)), s4']) := by
 have e1 := VJ w (i := K + n) (by omega)
 have e2 : fIx (eI (b.rows.getD (K + n) [])) (.int (p : Int)) = .ok (.int (b.bd.R (K + n) p)) := VL (by rw [w.row (by omega)]; omega)
 by_cases hneg : b.bd.R (K + n) p < 0
 ·cases f with
  | none =>
   refine ⟨some (K + n), .val (eI (b.rows.getD (K + n) [])), ⟨by omega, by omega, hneg, fun i h1 h2 h3 => ?_⟩, ?_⟩
   ·by_cases z : i = K + n
    ·subst z; exact ⟨Int.le_refl _, fun q => by omega⟩
    ·have := hf i h1 (by omega); omega
   ·generalize b.bd.R (K + n) p = r at *
    simp [zb3, e1, e2, hneg, eO, -fIx, -List.getD_eq_getElem?_getD, -Int.natCast_add]
  | some t =>
   obtain ⟨t1, t2, t3, t4⟩ := hf
   have e3 := VJ w (i := t) (by omega)
   have e4 := zeT (row := b.rows.getD (K + n) []) (oth := b.rows.getD t []) (p := p) (K := K) (w.row (by omega)) (w.row (by omega)) hp (s.r _ (w.mem (by omega))) (s.r _ (w.mem (by omega)))
   have e5 : (b.rows.getD (K + n) []).getD K 0 * -(b.rows.getD t []).getD p 0 = b.bd.R (K + n) K * -b.bd.R t p := rfl
   have e6 : (b.rows.getD t []).getD K 0 * -(b.rows.getD (K + n) []).getD p 0 = b.bd.R t K * -b.bd.R (K + n) p := rfl
   rw [e5, e6] at e4
   by_cases hs : b.bd.R (K + n) K * -b.bd.R t p < b.bd.R t K * -b.bd.R (K + n) p
   ·refine ⟨some (K + n), .val (eI (b.rows.getD (K + n) [])), ⟨by omega, by omega, hneg, fun i h1 h2 h3 => ?_⟩, ?_⟩
    ·by_cases z : i = K + n
     ·subst z; exact ⟨Int.le_refl _, fun q => by omega⟩
     ·have := (t4 i h1 (by omega) h3).1
      have := lt_frac (x := -b.bd.R (K + n) p) (y := -b.bd.R t p) (z := -b.bd.R i p) (by omega) (by omega) (by omega) hs this
      exact ⟨by omega, fun _ => this⟩
    ·rw [decide_eq_true hs] at e4
     generalize b.bd.R (K + n) p = r at *
     simp [zb3, e1, e2, e3, e4, hneg, eO, -fIx, -List.getD_eq_getElem?_getD, -Int.natCast_add]
   ·refine ⟨some t, .val (eI (b.rows.getD (K + n) [])), ⟨by omega, by omega, t3, fun i h1 h2 h3 => ?_⟩, ?_⟩
    ·by_cases z : i = K + n
     ·subst z; exact ⟨by omega, fun q => by omega⟩
     ·exact t4 i h1 (by omega) h3
    ·rw [decide_eq_false hs] at e4
     generalize b.bd.R (K + n) p = r at *
     simp [zb3, e1, e2, e3, e4, hneg, eO, -fIx, -List.getD_eq_getElem?_getD, -Int.natCast_add]
 ·refine ⟨f, .val (eI (b.rows.getD (K + n) [])), ?_, ?_⟩
  ·cases f with
   | none =>
    intro i h1 h2
    by_cases z : i = K + n
    ·subst z; omega
    ·exact hf i h1 (by omega)
   | some t =>
    obtain ⟨t1, t2, t3, t4⟩ := hf
    refine ⟨t1, by omega, t3, fun i h1 h2 h3 => ?_⟩
    by_cases z : i = K + n
    ·subst z; omega
    ·exact t4 i h1 (by omega) h3
  ·generalize b.bd.R (K + n) p = r at *
   simp [zb3, e1, e2, hneg, -fIx, -List.getD_eq_getElem?_getD, -Int.natCast_add]
theorem zaW (w : WFb K m b) (s : Sm b) (hp : p < K) : ∃ f, Stop b K p m f /\ ZS [eB b, .int p] = .ok (eO f) := by
 have hrm := Qn w
 obtain ⟨G', e, f, s3, s4, hG, hf⟩ := WR (st := Zt 3) (b := zb3) (fun n G => ∃ f s3 s4, G = [.val (eB b), .val (.int p), .val (eO f), s3, s4] /\ Stop b K p n f) (rngT K m) 0
  [.val (eB b), .val (.int p), .val (eO none), .emp, .emp] ⟨none, .emp, .emp, rfl, fun i h1 h2 => by omega⟩ fun i x G hx ⟨f, s3, s4, hG, hf⟩ => by
   subst hG
   obtain ⟨hi, rfl⟩ := zfb hx
   rw [Nat.zero_add] at hf ⊢
   obtain ⟨f', s4', h1, h2⟩ := zeP w s hp hi f hf s4
   have ec : (K : Int) + (i : Int) = ((K + i : Nat) : Int) := by omega
   rw [ec]
   exact ⟨_, rfl, _, .inl h2, f', _, _, rfl, h1⟩
 rw [Xd, Nat.zero_add] at hf
 subst hG
 refine ⟨f, hf, ?_⟩
 have hd : VS = dSeq (dFor (Zt 3) [] (iSeq (Zk Z7 (Zc (dVar 0) dNil))) zb3) Wq := rfl
 have e' : forL (Zt 3) zb3 (rngT (K : Int) m) [.val (eB b), .val (.int p), .val .none, .emp, .emp] = .ok (.nx [.val (eB b), .val (.int p), .val (eO f), s3, s4]) := e
 simp [ZS, Qc, hd, Wq, runQ, runF, hrm, e']
end
end Lw
namespace Lw
open PySem Fx
def qOf (b : LB) (w : Nat) : Option Nat := match Zj [eB b, .int w] with
 | .ok (.int p) => some p.toNat
 | _ => none
def sOf (b : LB) (p : Nat) : Option Nat := match ZS [eB b, .int p] with
 | .ok (.int t) => some t.toNat
 | _ => none
def nxc (w : Nat) (b : LB) : Option LB := (qOf b w).bind fun p => (sOf b p).map fun t => lsw b t p
def EndC (w : Nat) : Nat -> LB -> Prop
 | 0, b => nxc w b = none
 | n + 1, b => nxc w b = none \/ ∃ b', nxc w b = some b' /\ EndC w n b'
def Fe (K m : Nat) (b : Sx.Bd) : Prop := ∀ t, K <= t -> t < K + m -> 0 <= b.R t K
section
variable {K m B : Nat} {M : Sx.Mat} {b : LB}
theorem Ug (o : Bo K m M b) (s : Sm b) (f : Sx.Fr K m b.bd) (fe : Fe K m b.bd) :
  ((∀ j, j < K -> hlp b K (K + m) j = false) /\ Zj [eB b, .int ((K + m : Nat) : Int)] = .ok .none /\ nxc (K + m) b = none) \/
  (∃ p, p < K /\ hlp b K (K + m) p = true /\ (∀ i, K <= i -> i < K + m -> 0 <= b.bd.R i p) /\ Zj [eB b, .int ((K + m : Nat) : Int)] = .ok (.int p) /\ ZS [eB b, .int p] = .ok .none /\ nxc (K + m) b = none) \/
  ∃ t p, t < K + m /\ Sx.Ch2 K (K + m + 1) (K + m) b.bd t p /\ (∀ i, K <= i -> i < K + m -> b.bd.R i p < 0 -> b.bd.R t K * -b.bd.R i p <= b.bd.R i K * -b.bd.R t p) /\ Zj [eB b, .int ((K + m : Nat) : Int)] = .ok (.int p) /\ ZS [eB b, .int p] = .ok (.int t) /\ nxc (K + m) b = some (lsw b t p) := by
 rcases VD o.wf (t := K + m) (by omega) with ⟨p, k1, k2, k3, k4⟩ | ⟨k1, k2⟩
 ·have e1 : qOf b (K + m) = some p := by unfold qOf; rw [k4]; simp
  obtain ⟨fd, h1, h2⟩ := zaW o.wf s k1
  cases fd with
  | none =>
   have h2' : ZS [eB b, .int p] = .ok .none := h2
   have e2 : sOf b p = none := by unfold sOf; rw [h2']
   exact .inr (.inl ⟨p, k1, k2, h1, k4, h2', by unfold nxc; rw [e1]; simp [e2]⟩)
  | some t =>
   have h2' : ZS [eB b, .int p] = .ok (.int t) := h2
   have e2 : sOf b p = some t := by unfold sOf; rw [h2']; simp
   obtain ⟨t1, t2, t3, t4⟩ := h1
   have hpK : K <= b.bd.h p := by
    rcases Nat.lt_or_ge (b.bd.h p) K with z | z
    ·have := f p k1 z t t1 t2; omega
    ·exact z
   have hpos : 0 < b.bd.R (K + m) p := by
    unfold hlp at k2
    rw [Bool.or_eq_true, Bool.and_eq_true] at k2
    rcases k2 with z | z
    ·exact of_decide_eq_true z
    ·have := of_decide_eq_true z.2; omega
   refine .inr (.inr ⟨t, p, t2, ⟨t1, by omega, k1, hpos, fun j hj hlt => ?_, fun j hj hh => ?_, t3, fe t t1 t2, fun i h1 h2 h3 => (t4 i h1 (by omega) h3).2 h2⟩, fun i h1 h2 h3 => (t4 i h1 h2 h3).1, k4, h2', by unfold nxc; rw [e1]; simp [e2]⟩)
   ·rcases (show b.bd.R (K + m) j <= 0 \/ 0 < b.bd.R (K + m) j by omega) with z | z
    ·exact z
    ·have := k3 j hj (by unfold hlp; rw [decide_eq_true z]; rfl)
     omega
   ·rcases (show b.bd.R (K + m) j = 0 \/ b.bd.R (K + m) j < 0 \/ 0 < b.bd.R (K + m) j by omega) with z | z | z
    ·exact z
    ·have := k3 j hj (by unfold hlp; rw [decide_eq_true z, decide_eq_true hh]; simp)
     omega
    ·have := k3 j hj (by unfold hlp; rw [decide_eq_true z]; rfl)
     omega
 ·have e1 : qOf b (K + m) = none := by unfold qOf; rw [k2]
  exact .inl ⟨k1, k2, by unfold nxc; rw [e1]; rfl⟩
theorem U1 (z : Mz K m M B) (o : Bo K m M b) (f : Sx.Fr K m b.bd) (fe : Fe K m b.bd) {b' : LB} (e : nxc (K + m) b = some b') : ∃ t p, t < K + m /\ Sx.Ch2 K (K + m + 1) (K + m) b.bd t p /\ b' = lsw b t p /\ Bo K m M b' /\ Sx.Fr K m b'.bd /\ Fe K m b'.bd := by
 rcases Ug o (o.sm z) f fe with ⟨_, _, h⟩ | ⟨_, _, _, _, _, _, h⟩ | ⟨t, p, h1, ch, mn, _, _, h⟩
 ·rw [h] at e; cases e
 ·rw [h] at e; cases e
 ·rw [h] at e
  cases e
  have hne : b.bd.R t p ≠ 0 := by have := ch.ng; omega
  refine ⟨t, p, h1, ch, rfl, o.swap ch.tK h1 ch.pK hne, ?_, ?_⟩
  ·rw [VV o.wf (by omega) ch.pK]
   exact Sx.zfT o.g rfl f ch.tK h1 ch.pK hne
  ·rw [VV o.wf (by omega) ch.pK]
   intro i h2 h3
   have e := (Sx.zeG o.g (by omega) ch.pK ch.ng (i := i) (j := K) (by omega) (Nat.le_refl K) (by have := ch.pK; omega)).2
   have hpos := o.g.pos
   have ge : 0 <= -b.bd.R t p * b.bd.R i K + b.bd.R i p * b.bd.R t K := by
    have f1 := fe i h2 h3
    have f2 := fe t ch.tK h1
    have f3 := ch.ng
    rcases (show b.bd.R i p < 0 \/ 0 <= b.bd.R i p by omega) with q | q
    ·have := mn i h2 h3 q
     have e1 : b.bd.R t K * -b.bd.R i p = -(b.bd.R i p * b.bd.R t K) := by grind
     have e2 : b.bd.R i K * -b.bd.R t p = -b.bd.R t p * b.bd.R i K := by grind
     omega
    ·have a1 := Int.mul_nonneg (show 0 <= -b.bd.R t p by omega) f1
     have a2 := Int.mul_nonneg q f2
     omega
   rw [<- e] at ge
   rcases (show (Sx.swp b.bd t p).R i K < 0 \/ 0 <= (Sx.swp b.bd t p).R i K by omega) with q | q
   ·have := Sx.JN hpos q; omega
   ·exact q
theorem endsC (z : Mz K m M B) (o : Bo K m M b) (f : Sx.Fr K m b.bd) (fe : Fe K m b.bd) : EndC (K + m) ((K + m + 1) ^ K) b := by
 refine Classical.byContradiction fun no => ?_
 let it : Nat -> LB := fun k => Nat.rec b (fun _ x => (nxc (K + m) x).getD x) k
 have it1 : ∀ k, it (k + 1) = (nxc (K + m) (it k)).getD (it k) := fun k => rfl
 have all : ∀ k, k <= (K + m + 1) ^ K -> ¬ EndC (K + m) ((K + m + 1) ^ K - k) (it k) /\ Bo K m M (it k) /\ Sx.Fr K m (it k).bd /\ Fe K m (it k).bd := by
  intro k
  induction k with
  | zero => exact fun _ => ⟨no, o, f, fe⟩
  | succ k ih =>
   intro hk
   obtain ⟨h1, h2, h3, h4⟩ := ih (by omega)
   obtain ⟨d, hd⟩ : ∃ d, (K + m + 1) ^ K - k = d + 1 := ⟨(K + m + 1) ^ K - k - 1, by omega⟩
   rw [hd] at h1
   cases e : nxc (K + m) (it k) with
   | none => exact absurd (.inl e) h1
   | some b' =>
    have e2 : it (k + 1) = b' := by rw [it1, e]; rfl
    obtain ⟨t, p, _, _, _, a5, a6, a7⟩ := U1 z h2 h3 h4 e
    rw [e2, show (K + m + 1) ^ K - (k + 1) = d by omega]
    exact ⟨fun z => h1 (.inr ⟨b', e, z⟩), a5, a6, a7⟩
 have step : ∀ k, ∃ q : Nat × Nat, k < (K + m + 1) ^ K -> Sx.Ch2 K (K + m + 1) (K + m) (it k).bd q.1 q.2 /\ (it (k + 1)).bd = Sx.swp (it k).bd q.1 q.2 := by
  intro k
  by_cases hk : k < (K + m + 1) ^ K
  ·obtain ⟨h1, h2, h3, h4⟩ := all k (by omega)
   obtain ⟨d, hd⟩ : ∃ d, (K + m + 1) ^ K - k = d + 1 := ⟨(K + m + 1) ^ K - k - 1, by omega⟩
   rw [hd] at h1
   cases e : nxc (K + m) (it k) with
   | none => exact absurd (.inl e) h1
   | some b' =>
    obtain ⟨t, p, a1, a2, a3, _, _, _⟩ := U1 z h2 h3 h4 e
    refine ⟨(t, p), fun _ => ⟨a2, ?_⟩⟩
    have e2 : it (k + 1) = b' := by rw [it1, e]; rfl
    rw [e2, a3, VV h2.wf (by omega) a2.pK]
  ·exact ⟨(0, 0), fun z => absurd z hk⟩
 obtain ⟨q, hq⟩ := Classical.axiomOfChoice step
 exact absurd (Sx.zer (K := K) (N := K + m + 1) (M := M) (B := fun k => (it k).bd) (T := fun k => (q k).1) (P := fun k => (q k).2) (L := (K + m + 1) ^ K) (w := K + m) (by omega) (fun k hk => (all k hk).2.1.g) (fun k hk => (hq k hk).1) fun k hk => (hq k hk).2) (Nat.lt_irrefl _)
def sgW (x : Int) : Int := if 0 < x then 1 else -1
def wayL (b : LB) (K m p : Nat) : List Rat := (List.range K).map fun i => Rat.divInt (sgW (b.bd.R (K + m) p) * b.bd.R i p) b.D
theorem sgW_abs (x y : Int) : (sgW x * y).natAbs = y.natAbs := by unfold sgW; split <;> simp [Int.natAbs_mul]
theorem way_ok {p : Nat} (o : Bo K m M b) (s : Sm b) (hp : p < K) : VF [eB b, .int p] = .ok (.list ((wayL b K m p).map fr)) := by
 have h1 : Xz (K : Int) = true := ZP (by have := o.wf.kk; omega)
 have h2 : (rngT 0 K).length <= 16777216 := by rw [Xd]; have := o.wf.kk; omega
 have e1 := WH o.wf
 have e2 := VJ o.wf (i := K + m) (by omega)
 have e3 : fIx (eI (b.rows.getD (K + m) [])) (.int (p : Int)) = .ok (.int (b.bd.R (K + m) p)) := VL (by rw [o.wf.row (by omega)]; omega)
 have eg : (if 0 < b.bd.R (K + m) p then (Res.ok (PyData.int 1)) else .ok (.int (-1))) = .ok (.int (sgW (b.bd.R (K + m) p))) := by unfold sgW; split <;> rfl
 have hsg : (sgW (b.bd.R (K + m) p)).natAbs < 18446744073709551616 := by unfold sgW; split <;> decide
 unfold wayL
 generalize hsw : sgW (b.bd.R (K + m) p) = sw at *
 have hc : Yx (Zt 0) tT (Zk YJ (Zc (d2 fMul (dVar 1) (d2 fIx (d2 fIx (d1 (fFld "rows") (dVar 2)) (dVar 0)) (dVar 3))) (Zc (d1 (fFld "divisor") (dVar 2)) dNil))) [.emp, .val (.int sw), .val (eB b), .val (.int p)] (rngT 0 K) = .ok ((List.range K).map fun i => fr (Rat.divInt (sw * b.bd.R i p) b.D)) := by
  rw [We]
  refine ZX (fun (k : Nat) => PyData.int (k : Int)) _ _ fun i hi => ⟨_, rfl, ?_⟩
  have hi' := List.mem_range.mp hi
  have a1 := VJ o.wf (i := i) (by omega)
  have a2 : fIx (eI (b.rows.getD i [])) (.int (p : Int)) = .ok (.int (b.bd.R i p)) := VL (by rw [o.wf.row (by omega)]; omega)
  have a3 := V5 (u := sw * b.bd.R i p) s.d0 s.d (by omega)
  have a4 : YN sw (b.bd.R i p) = true := zaL hsg
  generalize b.bd.R i p = r at *
  simp [a1, a2, a3, a4, -fIx, -List.getD_eq_getElem?_getD]
 generalize b.bd.R (K + m) p = rw' at *
 simp [VF, zdH, JX, runQ, runF, o.wf.hl, h1, h2, e1, e2, e3, eg, hc, -fIx, -List.getD_eq_getElem?_getD, -Int.natCast_add]
def cC : DT := tV (d1 JD (dVar 1))
def bC : DS := (dSeq (dSet 2 [] (Zk ZS (Zc (dVar 0) (Zc (dVar 1) dNil))))
  (dSeq (dIf (tV (d1 fIsN (dVar 2)))
  (dRet (dTup (Zc (dC (.str (PySem.Str.ofString "endless"))) (Zc (Zk Xu (Zc (dVar 0) dNil)) (Zc (Zk VF (Zc (dVar 0) (Zc (dVar 1) dNil))) dNil)))))
  Z1)
  (dSeq (dSet 0 [] (Zk Ym (Zc (dVar 0) (Zc (dVar 2) (Zc (dVar 1) dNil)))))
  (dSet 1 [] (Zk Zj (Zc (dVar 0) (Zc (Zk Yt (Zc (dVar 0) dNil)) dNil)))))))
theorem zeq (z : Mz K m M B) : ∀ (n : Nat) (b : LB), EndC (K + m) n b -> Bo K m M b -> Sx.Fr K m b.bd -> Fe K m b.bd -> ∀ (fuel : Nat), n < fuel -> ∀ (cl : PyData) (s2 : Sl), Zj [eB b, .int ((K + m : Nat) : Int)] = .ok cl ->
  ∃ b', Bo K m M b' /\ Sx.Fr K m b'.bd /\ Fe K m b'.bd /\ (((∀ j, j < K -> hlp b' K (K + m) j = false) /\ ∃ s2', Ye cC bC fuel [.val (eB b), .val cl, s2] = .ok (.nx [.val (eB b'), .val .none, s2'])) \/
   ∃ p, p < K /\ hlp b' K (K + m) p = true /\ (∀ i, K <= i -> i < K + m -> 0 <= b'.bd.R i p) /\ Ye cC bC fuel [.val (eB b), .val cl, s2] = .ok (.rt (.tuple [.str "endless", .list ((pt K b').map fr), .list ((wayL b' K m p).map fr)]))) := by
 intro n
 induction n with
 | zero =>
  intro b he o f fe fuel hf cl s2 hcl
  obtain ⟨fu, rfl⟩ : ∃ fu, fuel = fu + 1 := ⟨fuel - 1, by omega⟩
  have he' : nxc (K + m) b = none := he
  have s := o.sm z
  rcases Ug o s f fe with ⟨a1, a2, _⟩ | ⟨p, a1, a2, a3, a4, a5, _⟩ | ⟨t, p, _, _, _, _, _, a5⟩
  ·rw [hcl] at a2; cases a2
   refine ⟨b, o, f, fe, .inl ⟨a1, s2, ?_⟩⟩
   simp [Ye, cC]
  ·rw [hcl] at a4; cases a4
   have h1 := V2 o s
   have h2 := way_ok o s a1
   refine ⟨b, o, f, fe, .inr ⟨p, a1, a2, a3, ?_⟩⟩
   generalize pt K b = ps at *
   generalize wayL b K m p = ws at *
   simp [Ye, cC, bC, a5, h1, h2]
  ·rw [he'] at a5; cases a5
 | succ n ih =>
  intro b he o f fe fuel hf cl s2 hcl
  obtain ⟨fu, rfl⟩ : ∃ fu, fuel = fu + 1 := ⟨fuel - 1, by omega⟩
  have s := o.sm z
  rcases Ug o s f fe with ⟨a1, a2, _⟩ | ⟨p, a1, a2, a3, a4, a5, _⟩ | ⟨t, p, a0, ch, _, a3, a4, a5⟩
  ·rw [hcl] at a2; cases a2
   refine ⟨b, o, f, fe, .inl ⟨a1, s2, ?_⟩⟩
   simp [Ye, cC]
  ·rw [hcl] at a4; cases a4
   have h1 := V2 o s
   have h2 := way_ok o s a1
   refine ⟨b, o, f, fe, .inr ⟨p, a1, a2, a3, ?_⟩⟩
   generalize pt K b = ps at *
   generalize wayL b K m p = ws at *
   simp [Ye, cC, bC, a5, h1, h2]
  ·rw [hcl] at a3; cases a3
   have he2 : EndC (K + m) n (lsw b t p) := by
    have he' : nxc (K + m) b = none \/ ∃ b', nxc (K + m) b = some b' /\ EndC (K + m) n b' := he
    rcases he' with h | ⟨b', h, h'⟩
    ·rw [a5] at h; cases h
    ·rw [a5] at h; cases h; exact h'
   obtain ⟨_, _, _, _, _, o2, f2, fe2⟩ := U1 z o f fe a5
   obtain ⟨cl2, hcl2⟩ : ∃ cl2, Zj [eB (lsw b t p), .int ((K + m : Nat) : Int)] = .ok cl2 := by
    rcases VD o2.wf (t := K + m) (by omega) with ⟨_, _, _, _, h⟩ | ⟨_, h⟩
    ·exact ⟨_, h⟩
    ·exact ⟨_, h⟩
   have hs := UL o.wf s (t := t) (p := p) (by omega) ch.pK
   have hwo := WH o2.wf
   obtain ⟨b', o', f', fe', r⟩ := ih (lsw b t p) he2 o2 f2 fe2 fu (by omega) cl2 (.val (.int t)) hcl2
   have ew : Ye cC bC (fu + 1) [.val (eB b), .val (.int p), s2] = Ye cC bC fu [.val (eB (lsw b t p)), .val cl2, .val (.int t)] := by
    have ec : cC (frzA [.val (eB b), .val (.int p), s2]) = .ok true := by simp [cC]
    have eb : bC [.val (eB b), .val (.int p), s2] = .ok (.nx [.val (eB (lsw b t p)), .val cl2, .val (.int t)]) := by simp [bC, a4, hs, hwo, hcl2, -Int.natCast_add]
    rw [Ye, ec, Res.bind_ok, if_pos rfl, eb]
    rfl
   rw [ew]
   exact ⟨b', o', f', fe', r⟩
theorem zep (z : Mz K m M B) (o : Bo K m M b) (f : Sx.Fr K m b.bd) (fe : Fe K m b.bd) (hf : (K + m + 1) ^ K < 1000000000000) :
  ∃ b', Bo K m M b' /\ Sx.Fr K m b'.bd /\ Fe K m b'.bd /\ (((∀ j, j < K -> hlp b' K (K + m) j = false) /\ XB [eB b] = .ok (.tuple [.str "best", .list ((pt K b').map fr), .list ((shL b' K m (K + m) K).map fr)])) \/
   ∃ p, p < K /\ hlp b' K (K + m) p = true /\ (∀ i, K <= i -> i < K + m -> 0 <= b'.bd.R i p) /\ XB [eB b] = .ok (.tuple [.str "endless", .list ((pt K b').map fr), .list ((wayL b' K m p).map fr)])) := by
 obtain ⟨cl, hcl⟩ : ∃ cl, Zj [eB b, .int ((K + m : Nat) : Int)] = .ok cl := by
  rcases VD o.wf (t := K + m) (by omega) with ⟨_, _, _, _, h⟩ | ⟨_, h⟩
  ·exact ⟨_, h⟩
  ·exact ⟨_, h⟩
 have hwo := WH o.wf
 have hd : Jj = dSeq (Qg VX cC bC) WY := rfl
 have hu : ∀ G, VX G = 1000000000000 := fun _ => rfl
 obtain ⟨b', o', f', fe', r⟩ := zeq z _ b (endsC z o f fe) o f fe 1000000000000 hf cl .emp hcl
 refine ⟨b', o', f', fe', ?_⟩
 rcases r with ⟨r1, s2, r2⟩ | ⟨p, r1, r2, r3, r4⟩
 ·refine .inl ⟨r1, ?_⟩
  have h1 := V2 o' (o'.sm z)
  have h2 := zbq o' (o'.sm z) (t := K + m) (by omega)
  have h3 := WH o'.wf
  generalize pt K b' = ps at *
  generalize shL b' K m (K + m) K = ss at *
  simp [XB, Jk, hd, WY, runQ, runF, hwo, hcl, hu, r2, h1, h2, h3, -Int.natCast_add]
 ·refine .inr ⟨p, r1, r2, r3, ?_⟩
  generalize pt K b' = ps at *
  generalize wayL b' K m p = ws at *
  simp [XB, Jk, hd, WY, runQ, runF, hwo, hcl, hu, r4, -Int.natCast_add]
end
end Lw
namespace Lw
open PySem Fx
structure Pt (K n0 : Nat) (ls : List Lim) (ps : List Rat) : Prop where
 len : ps.length = K
 sz : ∀ q ∈ ps, Sz n0 q
 kp : ∀ l ∈ ls, dot l.1 ps <= (l.2 : Rat)
structure Cl (K n0 : Nat) (ls : List Lim) (ss : List Rat) : Prop where
 len : ss.length = ls.length
 sz : ∀ q ∈ ss, Sz n0 q
 nn : ∀ q ∈ ss, 0 <= q
 z : ∀ j, j < K -> dot (ls.map (colN j)) ss = 0
 b : zcX ls ss < 0
structure Pr (K n0 : Nat) (ls : List Lim) (goal : List Int) (ps ss : List Rat) : Prop where
 len : ss.length = ls.length
 sz : ∀ q ∈ ss, Sz n0 q
 nn : ∀ q ∈ ss, 0 <= q
 w : ∀ j, j < K -> dot (ls.map (colN j)) ss = ((goal.getD j 0 : Int) : Rat)
 b : zcX ls ss = dot goal ps
structure Wy (K n0 : Nat) (ls : List Lim) (goal : List Int) (ws : List Rat) : Prop where
 len : ws.length = K
 sz : ∀ q ∈ ws, Sz n0 q
 l : ∀ l ∈ ls, dot l.1 ws <= 0
 g : 0 < dot goal ws
inductive Best (K n0 : Nat) (ls : List Lim) (goal : List Int) : PyData -> Prop
 | clash {ss : List Rat} (c : Cl K n0 ls ss) : Best K n0 ls goal (.tuple [.str "clash", .list (ss.map fr)])
 | best {ps ss : List Rat} (p : Pt K n0 ls ps) (r : Pr K n0 ls goal ps ss) : Best K n0 ls goal (.tuple [.str "best", .list (ps.map fr), .list (ss.map fr)])
 | endless {ps ws : List Rat} (p : Pt K n0 ls ps) (w : Wy K n0 ls goal ws) : Best K n0 ls goal (.tuple [.str "endless", .list (ps.map fr), .list (ws.map fr)])
section
variable {K m B n0 : Nat} {ls : List Lim} {goal : List Int} {b : LB}
theorem zcQ (d : DK K m B n0 ls) (hg : goal.length = K) (o : Bo K m (M0 K ls goal) b) (s : Sm b) (sz : SzB K m n0 b) (hn : ∀ j, j < K -> hlp b K (K + m) j = false) : Pr K n0 ls goal (pt K b) (shL b K m (K + m) K) := by
 have hD : 0 < b.D := o.g.pos
 have rows := fun c hc => zeW (t := K + m) (c := c) o (by omega) (fun j hj hh => (zdi (hn j hj)).2 hh) hc
 refine ⟨by simp [shL, d.len], shL_sz sz s (by omega), fun q hq => ?_, fun j hj => ?_, ?_⟩
 ·obtain ⟨i, hi, rfl⟩ := List.mem_map.mp hq
  exact zf2 hD (zeZ K (Nat.le_refl _) fun j hj => (zdi (hn j hj)).1)
 ·have e := V8 ([], (0 : Int)) (colN j) s.d0 ls (shZ b K (K + m) K)
  rw [d.len] at e
  have e2 : Sx.sumN m (fun i => colN j (ls.getD i ([], 0)) * shZ b K (K + m) K i) = goal.getD j 0 * b.D := by
   have r := rows j (by omega)
   rw [if_neg (by omega), zcS d.len hg hj] at r
   have e3 : Sx.sumN m (fun i => M0 K ls goal (K + i) j * shZ b K (K + m) K i) = Sx.sumN m (fun i => (-1) * (colN j (ls.getD i ([], 0)) * shZ b K (K + m) K i)) := Sx.ZL fun i hi => by
    rw [zbe d.w (by rw [d.len]; exact hi) hj]; grind
   rw [e3, Sx.X2] at r
   have : b.D * goal.getD j 0 = goal.getD j 0 * b.D := Int.mul_comm _ _
   omega
  rw [e2] at e
  show dot (ls.map (colN j)) ((List.range m).map fun i => Rat.divInt (shZ b K (K + m) K i) b.D) = _
  rw [e, <- zf3, zf1 s.d0, Rat.mul_one]
 ·have e := V8 ([], (0 : Int)) (fun l : Lim => l.2) s.d0 ls (shZ b K (K + m) K)
  rw [d.len] at e
  have r := rows K (Nat.le_refl _)
  rw [if_pos rfl, zbf d.len hg, Int.mul_zero, Int.sub_zero] at r
  have e3 : Sx.sumN m (fun i => M0 K ls goal (K + i) K * shZ b K (K + m) K i) = Sx.sumN m (fun i => (ls.getD i ([], 0)).2 * shZ b K (K + m) K i) := Sx.ZL fun i hi => by
   rw [Qt d.w (by rw [d.len]; exact hi)]
  rw [e3] at r
  rw [r] at e
  show dot (ls.map (·.2)) ((List.range m).map fun i => Rat.divInt (shZ b K (K + m) K i) b.D) = _
  rw [e, dot_pt hg s.d0, o.worth d.len hg (Nat.le_refl K)]
theorem div_pos {a D : Int} (h : 0 < D) (hh : 0 < a) : 0 < Rat.divInt a D := by
 rw [<- Rat.not_le]
 intro z
 have h3 : Rat.divInt a D = 0 := Rat.le_antisymm z (zf2 h (by omega))
 have := zel (u := a) (l := D) (by omega) h3.symm
 simp at this
 omega
theorem sgW_pos {x : Int} (h : x ≠ 0) : 0 < sgW x * x := by unfold sgW; split <;> omega
theorem way_wy {p : Nat} (d : DK K m B n0 ls) (hg : goal.length = K) (o : Bo K m (M0 K ls goal) b) (f : Sx.Fr K m b.bd) (s : Sm b) (sz : SzB K m n0 b) (hp : p < K) (hh : hlp b K (K + m) p = true) (hr : ∀ i, K <= i -> i < K + m -> 0 <= b.bd.R i p) : Wy K n0 ls goal (wayL b K m p) := by
 have hD : 0 < b.D := o.g.pos
 have hne : b.bd.R (K + m) p ≠ 0 := by
  intro z
  unfold hlp at hh
  rw [z] at hh
  simp at hh
 have dw : ∀ ws : List Int, ws.length = K -> dot ws (wayL b K m p) = Rat.divInt (sgW (b.bd.R (K + m) p) * Sx.sumN K fun c => ws.getD c 0 * b.bd.R c p) b.D := fun ws hl => by
  have e := V8 (0 : Int) (fun x => x) s.d0 ws (fun i => sgW (b.bd.R (K + m) p) * b.bd.R i p)
  rw [hl, List.map_id''] at e
  ·show dot ws ((List.range K).map fun i => Rat.divInt (sgW (b.bd.R (K + m) p) * b.bd.R i p) b.D) = _
   rw [e, <- Sx.X2]
   congr 1
   exact Sx.ZL fun c _ => by rw [Int.mul_left_comm]
  ·intro x; rfl
 refine ⟨by simp [wayL], fun q hq => ?_, fun l hl => ?_, ?_⟩
 ·obtain ⟨i, hi, rfl⟩ := List.mem_map.mp hq
  have hi' := List.mem_range.mp hi
  exact XE s.d0 (by rw [sgW_abs]; exact sz.r i p (by omega) (by omega)) sz.d
 ·rw [dw _ (d.w l hl)]
  obtain ⟨i, hi, rfl⟩ := List.getElem_of_mem hl
  have hi' : i < m := by rw [<- d.len]; exact hi
  have e := o.room d.len d.w hi' (q := p) (by omega)
  rw [if_neg (by omega)] at e
  have eg : ls.getD i ([], 0) = ls[i] := (ZI hi).symm
  rw [eg] at e
  have e2 : Sx.sumN K (fun c => ls[i].1.getD c 0 * b.bd.R c p) = Sx.sumN K (fun c => colN c ls[i] * b.bd.R c p) := rfl
  rw [e2, e]
  have h0 : sgW (b.bd.R (K + m) p) * (0 - b.bd.R (K + i) p) <= 0 * b.D := by
   rw [Int.zero_mul]
   have h1 := hr (K + i) (by omega) (by omega)
   by_cases hk : b.bd.h p < K
   ·rw [f p hp hk (K + i) (by omega) (by omega)]; simp
   ·have : 0 < b.bd.R (K + m) p := by
     unfold hlp at hh
     rw [Bool.or_eq_true, Bool.and_eq_true] at hh
     rcases hh with z | z
     ·exact of_decide_eq_true z
     ·exact absurd (of_decide_eq_true z.2) hk
    have e1 : sgW (b.bd.R (K + m) p) = 1 := if_pos this
    rw [e1]; omega
  have := div_le (b := 0) hD h0
  simpa using this
 ·rw [dw goal hg, o.worth d.len hg (by omega)]
  exact div_pos hD (sgW_pos hne)
theorem zgf (d : DK K m B n0 ls) (hg : goal.length = K) (h2 : ∀ x ∈ goal, x.natAbs <= B) :
  (∃ b t ss, Cl K n0 ls ss /\ Yw [zcF K ls, eI goal] = .ok (.tuple [eB b, .int (t : Nat)]) /\ X1 [eB b, .int (t : Nat)] = .ok (.list (ss.map fr))) \/
  ∃ b r, Best K n0 ls goal r /\ Yw [zcF K ls, eI goal] = .ok (.tuple [eB b, .none]) /\ XB [eB b] = .ok r := by
 obtain ⟨b, o, f, s, sz, r⟩ := d.settled hg h2
 have z := d.mz hg h2
 rcases r with ⟨r1, r2⟩ | ⟨t, r1, r2, r3, r4, r5⟩
 ·obtain ⟨b', o', f', fe', r⟩ := zep z o f r1 d.fu
  have s' := o'.sm z
  have sz' := d.szb hg h2 o'
  have pp : Pt K n0 ls (pt K b') := ⟨by simp [pt], pt_sz sz' s', pt_keeps d o' s' fe'⟩
  rcases r with ⟨q1, q2⟩ | ⟨p, q1, q2, q3, q4⟩
  ·exact .inr ⟨b, _, .best pp (zcQ d hg o' s' sz' q1), r2, q2⟩
  ·exact .inr ⟨b, _, .endless pp (way_wy d hg o' f' s' sz' q1 q2 q3), r2, q4⟩
 ·obtain ⟨c1, c2, c3⟩ := cl_clash d o s r1 r2 r3 r4
  exact .inl ⟨b, t, clL b K m t, ⟨by simp [clL, d.len], clL_sz sz s (by omega), c1, c2, c3⟩, r5, clash_ok o s r1 r2⟩
end
end Lw
namespace Lq
open PySem Fx Lw
variable {K m B n0 : Nat} {ls : List Lim} {goal : List Int}
theorem zba (hg : goal.length = K) (hK : K <= 1000) : XC [.int K, eI goal] = .ok .none := by
 have e := ZX (st := Zt 0) (e := (Zk Yu (Zc (dVar 0) dNil))) (C := [.emp]) PyData.int (fun _ => PyData.bool true) goal fun x hx => ⟨[.val (.int x)], rfl, by simp [zbh]⟩
 have hl : K <= 16777216 := by omega
 have a := Jo goal
 simp [XC, Qf, VU, runQ, runF, hg, zcz, e, hl, a]
theorem best_ok (d : DK K m B n0 ls) (hg : goal.length = K) (h2 : ∀ x ∈ goal, x.natAbs <= B) : ∃ r, Best K n0 ls goal r /\ JU [zcF K ls, eI goal] = .ok r := by
 have hc := zba hg d.k
 rcases zgf d hg h2 with ⟨b, t, ss, c, e1, e2⟩ | ⟨b, r, c, e1, e2⟩
 ·refine ⟨_, .clash c, ?_⟩
  simp [JU, zf9, za7, za6, runQ, runF, at0, at1, hc, e1, e2]
 ·refine ⟨r, c, ?_⟩
  simp [JU, zf9, za7, za6, zdO, runQ, runF, at0, at1, hc, e1, e2]
end Lq
namespace Lw
open PySem Fx
theorem zdC {a b : Str} (ha : PyData.strOk a = true) (hb : PyData.strOk b = true) : fEq (.str a) (.str b) = .ok (.bool (decide (a = b))) := by
 simp only [fEq, Xb, PyData.canLay0, PyData.depth, PyData.eqv, ha, hb]
 by_cases h : a = b <;> simp [h]
end Lw
namespace Lq
open PySem Fx Lw
def zf5 : DS :=
  (dRet (dL (Xk 2 [2] (WL 0 1) (iZip (iSeq (dVar 0)) (iSeq (dVar 1))) tT (Zk JT (Zc (dVar 0) (Zc (Zk WS (Zc (dVar 2) (Zc (dVar 1) dNil))) dNil))))))
def UX : DF := runQ 3 3 zf5
end Lq
namespace Lw
open PySem Fx
section
variable {K B n0 p : Nat} {ls ls' : List Lim}
def mv (ps ws : List Rat) (t : Rat) : List Rat := (ps.zip ws).map fun q => q.1 + t * q.2
end
end Lw
namespace Lq
open PySem Fx Lw
variable {K B n0 p : Nat} {ls : List Lim}
theorem moved_ok {ps ws : List Rat} {t : Rat} {a c : Nat} (hp : ∀ q ∈ ps, Sz a q) (hw : ∀ q ∈ ws, Sz a q) (ht : Sz c t) (hs : c + a + a < 8999) (hl : ps.length <= 1000) :
  UX [.list (ps.map fr), .list (ws.map fr), fr t] = .ok (.list ((mv ps ws t).map fr)) := by
 have e := ZX (st := WL 0 1) (e := (Zk JT (Zc (dVar 0) (Zc (Zk WS (Zc (dVar 2) (Zc (dVar 1) dNil))) dNil)))) (C := [.emp, .emp, .val (fr t)]) (fun p : Rat × Rat => PyData.tuple [fr p.1, fr p.2]) (fun p => fr (p.1 + t * p.2)) (ps.zip ws) fun p hm => by
  have h1 := hp _ (List.of_mem_zip hm).1
  have h2 := hw _ (List.of_mem_zip hm).2
  have e1 := zcW ht h2 (by omega)
  have e2 := plus_ok h1 (ht.mul h2) (by omega)
  exact ⟨[.val (fr p.1), .val (fr p.2), .val (fr t)], rfl, by simp [e1, e2]⟩
 have hz : (zipT (ps.map fr) (ws.map fr)).length <= 16777216 := by rw [Y9]; simp; omega
 rw [<- Y9] at e
 have e3 : ((ps.zip ws).map fun p => fr (p.1 + t * p.2)) = (mv ps ws t).map fr := by simp [mv]
 rw [e3] at e
 simp [UX, zf5, runQ, runF, hz, e]
end Lq
namespace Lw
open PySem Fx
theorem at20 (x y : PyData) : atP [x, y] 0 = some x := rfl
theorem at3a (x y z : PyData) : atP [x, y, z] 0 = some x := rfl
theorem at3b (x y z : PyData) : atP [x, y, z] 1 = some y := rfl
theorem at3c (x y z : PyData) : atP [x, y, z] 2 = some z := rfl
end Lw
namespace Fx
open PySem
def dHs : List ((Str -> Bool) × (Str -> Bool) × DS) -> Str -> DS
 | [], _ => fun _ => .stuck
 | (y, n, h) :: r, c => fun G => if y c then noX (h G) else if n c then dHs r c G else .stuck
@[simp] theorem dHs_cons (y n : Str -> Bool) (h : DS) (r : List ((Str -> Bool) × (Str -> Bool) × DS)) (c : Str) (G : List Sl) : dHs ((y, n, h) :: r) c G = if y c then noX (h G) else if n c then dHs r c G else .stuck := rfl
end Fx
namespace L2
open PySem PySem.Spec PyProof.Rows
section
variable {κ : Type} [DecidableEq κ]
def valV (kvs : List (κ × V)) (k : κ) : Option V := (kvs.find? fun kv => decide (kv.1 = k)).map (·.2)
theorem valV_nil {k : κ} : valV ([] : List (κ × V)) k = none := rfl
end
end L2
namespace Fx
open PySem PySem.Spec PyProof.Rows L2
theorem star_tup {xs es : List Expr} {k : Nat} {pos : Pos} {env : Env} : starEach (.Tuple xs k pos :: es) env = (false, eval (.Tuple xs k pos) env) :: starEach es env := rfl
theorem star_lst {xs es : List Expr} {pos : Pos} {env : Env} : starEach (.List xs pos :: es) env = (false, eval (.List xs pos) env) :: starEach es env := rfl
end Fx
namespace Fx
open PySem PySem.Spec PyProof.Rows L2
def sumT : List PyData -> Res Int
 | [] => .ok 0
 | .int i :: r => (sumT r).bind fun j => .ok (i + j)
 | _ => .stuck
def fSum : PyData -> Res PyData
 | .list xs => (sumT xs).bind fun i => .ok (.int i)
 | _ => .stuck
theorem zeO : ∀ {xs : List PyData} {j : Int}, sumT xs = .ok j -> ∃ ks : List Int, xs = ks.map .int /\ j = ks.sum
 | [], j, h => by cases h; exact ⟨[], rfl, rfl⟩
 | x :: xs, j, h => by
  cases x <;> try (cases h)
  rename_i i
  simp only [sumT] at h
  cases e : sumT xs with
  | stuck => rw [e] at h; cases h
  | exc c => rw [e] at h; cases h
  | ok m =>
   rw [e] at h
   cases h
   obtain ⟨ks, rfl, rfl⟩ := zeO e
   exact ⟨i :: ks, rfl, by simp⟩
theorem zc1 : ∀ (xs : List PyData) (c : Str), sumT xs ≠ .exc c
 | [], c, h => by cases h
 | x :: xs, c, h => by
  cases x <;> try (cases h)
  simp only [sumT] at h
  cases e : sumT xs with
  | stuck => rw [e] at h; cases h
  | exc c => exact zc1 xs c e
  | ok m => rw [e] at h; cases h
section
variable {X : Cx} {W : Str -> Hp -> Prop} {a : Expr} {da : DE} {pos : Pos}
theorem zdr : ∀ {ks : List Int} {its : List Value}, Vals (ks.map V.int) its -> IntsAre its ks
 | [], _, h => by cases h; exact .nil
 | k :: ks, _, h => by
  cases h with
  | cons r rr =>
   obtain ⟨t, rfl⟩ := r
   exact .cons k t (zdr rr)
theorem zbz {K : PySem.W.Frag} {H : Hp} {P : Pv} : ∀ {ks : List Int} {vs : List V}, Rls K H P (ks.map .int) vs -> vs = ks.map V.int
 | [], vs, h => ZQ.mp h
 | k :: ks, vs, h => by
  obtain ⟨v, r, rfl, a, q⟩ := Zv.mp h
  rw [ZM.mp a, zbz q]
  rfl
theorem call_sum (hc : X.calm = true) : Jr X (.builtin "sum") (fun xs H Q => ∃ (p : Addr) (ks : List Int), xs = [.ref p] /\ SqL X.K H p (ks.map V.int) /\ Q (.int ks.sum) H) := by
 intro pins s σ H xs us Q I r h
 obtain ⟨l, ks, rfl, hq, q⟩ := h
 obtain ⟨u, rfl, ru⟩ := zaj r
 cases ru
 obtain ⟨its, rv, pl, hz⟩ := I.list hq
 have hl : s.heap.IsList l its.toArray := pl.isList
 have ia := zdr rv
 obtain ⟨xs, hxs⟩ := ia.allInts.items
 rw [hxs] at hl
 refine sum_intListG (I.ok.hd hc) hl fun h' tk t' kp => ?_
 have e : preSum (numAt xs) xs.size = ks.sum := by
  have n1 := ia.numsOf
  have n2 : numsOf its.toArray.toList = numsOf (intItems xs).toList := by rw [hxs]
  rw [nums_intItems] at n2
  rw [preSum_eq, List.take_of_length_le (by simp), <- n2]
  exact congrArg List.sum n1
 rw [e]
 exact ⟨.int _, H, I.kept (t' := tk) kp, ⟨_, rfl⟩, q⟩
theorem ev_sum {p : Pos} (hg : Gl X "sum") (hm : X.mg "sum" = none) (ha : EV X W a da) (hc : X.calm = true := by rfl) (hs : starEach [a] X.env = (false, eval a X.env) :: starEach [] X.env := by rfl) : EV X W (.Call (.Name "sum" p) [a] [] pos) (d1 fSum da) :=
 ZA (Uq (call_sum hc) hg hm (show bootBuiltins "sum" = some (.builtin "sum") by decide +kernel) (Yk ha XM hs) (he := hs)) fun σ H Q h => zbk (fun H P σ G x tx Q h rx q => by
  cases tx <;> try exact q.elim
  rename_i xs
  obtain ⟨l, vs, rfl, sl, rs⟩ := ZY.mp rx
  simp only [fSum] at q
  cases e : sumT xs with
  | stuck => rw [e] at q; exact q.elim
  | exc c => exact absurd e (zc1 xs c)
  | ok k =>
   rw [e, Res.bind_ok] at q
   obtain ⟨ks, rfl, rfl⟩ := zeO e
   have := zbz rs
   subst this
   exact ⟨l, ks, rfl, sl.sq, q (.int ks.sum) H (Same.refl H) (ZM.mpr rfl)⟩) h
end
end Fx
namespace K14
open PySem Fx Lw Lq
def W8 : DS :=
  (dFor (Zt 1) [] (iSeq (dVar 0))
  (zcO (Zk Z0 (Zc (d1 fLen (d2 fIx (dVar 0) (dC (.int 0)))) (Zc (dVar 1) dNil)))))
def W9 : DS :=
  dSeq (dIf (tOr (tNot (tV (d1 (fIs isList) (d2 fIx (dVar 0) (dC (.int 0)))))) (tOr (tV (d2 fLt (d1 fLen (d2 fIx (dVar 0) (dC (.int 0)))) (dC (.int 1)))) (tV (d2 fGt (d1 fLen (d2 fIx (dVar 0) (dC (.int 0)))) (dC (.int 4))))))
  dNev
  Z1)
  W8
def VT : DS :=
  dSeq (dIf (tOr (tNot (tV (d1 (fIs isList) (dVar 0)))) (tOr (tV (d2 fLt (d1 fLen (dVar 0)) (dC (.int 1)))) (tV (d2 fGt (d1 fLen (dVar 0)) (dC (.int 8))))))
  dNev
  Z1)
  W9
def YR : DF := runQ 2 1 VT
def zcG : DS :=
  (dRet (dVar 2))
def zf6 : DS :=
  dSeq (dFor (WL 3 4) [] (iZip (iSeq (dVar 0)) (iSeq (dVar 1)))
  (dSet 2 [] (Zk UX (Zc (dVar 2) (Zc (dVar 3) (Zc (dVar 4) dNil))))))
  zcG
def d_mix : DS :=
  dSeq (dSet 2 [] (dL (oRep (oLst (Zc (dTup (Zc (dC (.int 0)) (Zc (dC (.int 1)) dNil))) dNil)) (d1 fLen (d2 fIx (dVar 0) (dC (.int 0)))))))
  zf6
def zfX : DF := runQ 5 2 d_mix
def WT : DS :=
  (dRet (d2 fAdd (dL (Xk 1 [1] (Zt 0) (iSeq (dVar 0)) tT (d2 fMul (d2 fIx (dVar 0) (dC (.int 0))) (d2 fDiv (dVar 1) (d2 fIx (dVar 0) (dC (.int 1))))))) (dLst (Zc (d1 fNeg (dVar 1)) dNil))))
def Uw : DS :=
  dSeq (dFor (Zt 2) [] (iSeq (dVar 0))
  (dSet 1 [] (d2 fMul (dVar 1) (d2 fDiv (d2 fIx (dVar 2) (dC (.int 1))) (Zk ZE (Zc (dVar 1) (Zc (d2 fIx (dVar 2) (dC (.int 1))) dNil)))))))
  WT
def Q0 : DS :=
  dSeq (dSet 1 [] (dC (.int 1)))
  Uw
def YU : DF := runQ 3 1 Q0
def Q2 : DS :=
  (dRet (dTup (Zc (dC (.str (PySem.Str.ofString "mix"))) (Zc (dL (Xk 2 [3] (WL 0 1) (iZip (iSeq (d2 fIx (dVar 4) (dC (.int 2)))) (iSeq (dVar 2))) tT (Zk WS (Zc (dVar 0) (Zc (Zk YJ (Zc (d2 fIx (dVar 1) (d1 fNeg (dC (.int 1)))) (Zc (d2 fIx (dVar 2) (d1 fNeg (dC (.int 1)))) dNil))) dNil))))) dNil))))
def Ua : DS :=
  dSeq (dIf (tV (d2 fEq (d2 fIx (dVar 4) (dC (.int 0))) (dC (.str (PySem.Str.ofString "endless")))))
  (dRet (dTup (Zc (dC (.str (PySem.Str.ofString "split"))) (Zc (dL (oCut (d2 fIx (dVar 4) (dC (.int 2))) pNo (pAt (d1 fNeg (dC (.int 1)))))) (Zc (d2 fIx (d2 fIx (dVar 4) (dC (.int 2))) (d1 fNeg (dC (.int 1)))) dNil)))))
  Z1)
  Q2
def Ub : DS :=
  dSeq (dSet 4 [] (Zk JU (Zc (dTup (Zc (d1 fLen (dVar 3)) (Zc (d1 zdx (dL (Xk 1 [] (Zt 0) (iSeq (dVar 2)) tT (dTup (Zc (d1 zdx (dVar 0)) (Zc (dC (.int 0)) dNil)))))) dNil))) (Zc (dVar 3) dNil))))
  Ua
def Uc : DS :=
  dSeq (dSet 3 [] (Zk YU (Zc (dVar 1) dNil)))
  Ub
def Ud : DS :=
  dSeq (dSet 2 [] (dL (Xk 1 [] (Zt 0) (iSeq (dVar 0)) tT (Zk YU (Zc (dVar 0) dNil)))))
  Uc
def Ue : DS :=
  dSeq (zcO (Zk Z0 (Zc (d1 fLen (d2 fIx (dVar 0) (dC (.int 0)))) (Zc (dVar 1) dNil))))
  Ud
def Q3 : DS :=
  dSeq (zcO (Zk YR (Zc (dVar 0) dNil)))
  Ue
def WB : DF := runQ 5 2 Q3
def Wm : DS :=
  (dRet (dVar 3))
def VN : DS :=
  dSeq (dFor (Zt 4) [] (iRng (dVar 2))
  (dSeq (Qj 5 [] (oLst dNil))
  (dSeq (dFor (Zt 6) [] (iRng (dVar 1))
  (dSeq (dSet 7 [] (Zk Zr (Zc (dVar 0) (Zc (d2 fAdd (d2 fAdd (dC (.int 6)) (d2 fMul (dVar 1) (dVar 4))) (dVar 6)) dNil))))
  (dIf (tV (d2 fEq (d2 fMod (Zk Zr (Zc (dVar 0) (Zc (dC (.int 2)) dNil))) (dC (.int 2))) (dC (.int 1))))
  (dApp 5 [] (dTup (Zc (Zk Ya (Zc (dVar 7) (Zc (dC (.int 4)) dNil))) (Zc (dC (.int 1)) dNil))))
  (dApp 5 [] (Zk Yg (Zc (Zk Ya (Zc (dVar 7) (Zc (dC (.int 12)) dNil))) (Zc (d2 fAdd (dC (.int 1)) (d2 fMod (d2 fDiv (dVar 7) (dC (.int 25))) (dC (.int 5)))) dNil)))))))
  (dApp 3 [5] (dVar 5)))))
  Wm
def U8 : DS :=
  dSeq (Qj 3 [] (oLst dNil))
  VN
def Y7 : DF := runQ 8 3 U8
def WX : DS :=
  (dRet (dVar 3))
def UA : DS :=
  dSeq (dFor (Zt 4) [] (iRng (d1 fLen (dVar 0)))
  (dSet 3 [] (dL (Xk 1 [3, 0, 4, 1] (Zt 0) (iRng (dVar 2)) tT (Zk Yh (Zc (d2 fIx (dVar 1) (dVar 0)) (Zc (d2 fIx (d2 fIx (dVar 2) (dVar 3)) (dVar 0)) (Zc (d2 fIx (dVar 4) (dVar 3)) dNil))))))))
  WX
def Jc : DS :=
  dSeq (dSet 3 [] (dL (Xk 1 [] (Zt 0) (iRng (dVar 2)) tT (dTup (Zc (dC (.int 0)) (Zc (dC (.int 1)) dNil))))))
  UA
def YW : DF := runQ 5 3 Jc
def UB : DS :=
  (dRet (dVar 2))
def UC : DS :=
  dSeq (dFor (Zt 3) [] (iRng (d1 fLen (dVar 1)))
  (dSet 2 [] (Zk Yh (Zc (dVar 2) (Zc (d2 fIx (dVar 1) (dVar 3)) (Zc (d2 fIx (dVar 0) (dVar 3)) dNil))))))
  UB
def Jd : DS :=
  dSeq (dSet 2 [] (dTup (Zc (dC (.int 0)) (Zc (dC (.int 1)) dNil))))
  UC
def YX : DF := runQ 4 2 Jd
def Wp : DS :=
  (dRet (za8 (d2 fEq (dVar 3) (dTup (Zc (dC (.int 1)) (Zc (dC (.int 1)) dNil)))) (d2 fEq (Zk YW (Zc (dVar 0) (Zc (dVar 2) (Zc (d1 fLen (dVar 1)) dNil)))) (dVar 1))))
def VQ : DS :=
  dSeq (dFor (Zt 4) [] (iSeq (dVar 2))
  (dSet 3 [] (Zk Yh (Zc (dVar 3) (Zc (dVar 4) (Zc (dTup (Zc (dC (.int 1)) (Zc (dC (.int 1)) dNil))) dNil))))))
  Wp
def VR : DS :=
  dSeq (dSet 3 [] (dTup (Zc (dC (.int 0)) (Zc (dC (.int 1)) dNil))))
  VQ
def U9 : DS :=
  dSeq (dIf (tNot (tV (Zk Yn (Zc (dVar 2) (Zc (d1 fLen (dVar 0)) dNil)))))
  (dRet (dC (.bool false)))
  Z1)
  VR
def XA : DF := runQ 5 3 U9
def XI : DS :=
  (dRet (Zk Xw (Zc (dVar 3) (Zc (Zk YX (Zc (dVar 2) (Zc (dVar 1) dNil))) dNil))))
def W4 : DS :=
  dSeq (dFor (Zt 4) [] (iSeq (dVar 0))
  (dIf (tV (Zk Xw (Zc (dVar 3) (Zc (Zk YX (Zc (dVar 2) (Zc (dVar 4) dNil))) dNil))))
  (dRet (dC (.bool false)))
  Z1))
  XI
def VO : DS :=
  dSeq (dIf (tOr (tNot (tV (Zk Yd (Zc (dVar 2) (Zc (d1 fLen (dVar 1)) dNil))))) (tNot (tV (Zk ZG (Zc (dVar 3) dNil)))))
  (dRet (dC (.bool false)))
  Z1)
  W4
def YQ : DF := runQ 5 4 VO
def zdL : DS :=
  (dRet (Zk YQ (Zc (dVar 3) (Zc (dVar 4) (Zc (d2 fIx (dVar 9) (dC (.int 1))) (Zc (d2 fIx (dVar 9) (dC (.int 2))) dNil))))))
def zdM : DS :=
  dSeq (dIf (tOr (tV (d2 fNe (d2 fIx (dVar 9) (dC (.int 0))) (dC (.str (PySem.Str.ofString "split"))))) (tOr (tV (d2 fNe (d1 fLen (dVar 9)) (dC (.int 3)))) (tV (dVar 6))))
  (dRet (dC (.bool false)))
  Z1)
  zdL
def za4 : DS :=
  dSeq (dIf (tV (d2 fEq (d2 fIx (dVar 9) (dC (.int 0))) (dC (.str (PySem.Str.ofString "mix")))))
  (dRet (za8 (d2 fEq (d1 fLen (dVar 9)) (dC (.int 2))) (Zk XA (Zc (dVar 3) (Zc (dVar 4) (Zc (d2 fIx (dVar 9) (dC (.int 1))) dNil))))))
  Z1)
  zdM
def za5 : DS :=
  dSeq (dIf (tOr (tV (d2 fNe (dVar 8) (dVar 3))) (tOr (tNot (tV (d1 (fIs zaT) (dVar 9)))) (tV (d2 fLt (d1 fLen (dVar 9)) (dC (.int 2))))))
  (dRet (dC (.bool false)))
  Z1)
  za4
def zcI : DS :=
  dSeq (dSet 9 [] (Zk WB (Zc (dVar 8) (Zc (dL (zaI (dVar 4))) dNil))))
  za5
def za2 : DS :=
  dSeq (dSet 8 [] (dL (Xk 1 [] (Zt 0) (iSeq (dVar 3)) tT (dL (zaI (dVar 0))))))
  zcI
def za3 : DS :=
  dSeq (dIf (tV (dVar 6))
  (dSeq (dSet 7 [] (dL (Xk 1 [5] (Zt 0) (iSeq (dVar 5)) tT (Zk Yg (Zc (dVar 0) (Zc (d1 fSum (dVar 1)) dNil))))))
  (dSeq (dSet 4 [] (Zk YW (Zc (dVar 3) (Zc (dVar 7) (Zc (dVar 1) dNil)))))
  (dIf (tV (d2 fNe (Zk zfX (Zc (dL (Xk 1 [] (Zt 0) (iSeq (dVar 3)) tT (dL (zaI (dVar 0))))) (Zc (dL (zaI (dVar 7))) dNil))) (dVar 4)))
  (dRet (dC (.bool false)))
  Z1)))
  Z1)
  za2
def zcJ : DS :=
  dSeq (dSet 6 [] (za8 (d2 fEq (d2 fMod (Zk Zr (Zc (dVar 0) (Zc (dC (.int 4)) dNil))) (dC (.int 2))) (dC (.int 1))) (d2 fGt (d1 fSum (dVar 5)) (dC (.int 0)))))
  za3
def zcK : DS :=
  dSeq (dSet 5 [] (dL (Xk 1 [0] (Zt 0) (iRng (dVar 2)) tT (d2 fMod (Zk Zr (Zc (dVar 1) (Zc (d2 fAdd (dC (.int 40)) (dVar 0)) dNil))) (dC (.int 4))))))
  zcJ
def zcL : DS :=
  dSeq (dSet 4 [] (d2 fIx (Zk Y7 (Zc (dL (oCut (dVar 0) (pAt (dC (.int 1))) pNo)) (Zc (dVar 1) (Zc (dC (.int 1)) dNil)))) (dC (.int 0))))
  zcK
def U0 : DS :=
  dSeq (dSet 3 [] (Zk Y7 (Zc (dVar 0) (Zc (dVar 1) (Zc (dVar 2) dNil)))))
  zcL
def zcM : DS :=
  dSeq (dIf (tV (d2 fEq (d2 fMod (Zk Zr (Zc (dVar 0) (Zc (dC (.int 3)) dNil))) (dC (.int 6))) (dC (.int 5))))
  (dSet 2 [] (dC (.int 8)))
  Z1)
  U0
def zcN : DS :=
  dSeq (dSet 2 [] (d2 fAdd (dC (.int 1)) (d2 fMod (Zk Zr (Zc (dVar 0) (Zc (dC (.int 1)) dNil))) (dC (.int 5)))))
  zcM
def d_law : DS :=
  dSeq (dSet 1 [] (d2 fAdd (dC (.int 1)) (d2 fMod (Zk Zr (Zc (dVar 0) (Zc (dC (.int 0)) dNil))) (dC (.int 3)))))
  zcN
def zcy : DF := runQ 10 1 d_law
end K14
namespace K14
open PySem Fx Lw Lq
def rdot : List Rat -> List Rat -> Rat
 | x :: xs, y :: ys => x * y + rdot xs ys
 | _, _ => 0
theorem WN (xs : List Rat) : rdot xs [] = 0 := by cases xs <;> rfl
theorem Up : ∀ (xs ys : List Rat) (i : Nat) (x y : Rat), xs[i]? = some x -> ys[i]? = some y -> rdot (xs.take (i + 1)) (ys.take (i + 1)) = rdot (xs.take i) (ys.take i) + x * y
 | x :: xs, y :: ys, 0, x', y', h1, h2 => by
  simp at h1 h2; subst h1; subst h2
  simp [rdot, Rat.add_zero, Rat.zero_add]
 | x :: xs, y :: ys, i + 1, x', y', h1, h2 => by
  simp at h1 h2
  have ih := Up xs ys i x' y' h1 h2
  simp only [List.take_succ_cons, rdot]
  rw [ih, Rat.add_assoc]
 | [], _, i, _, _, h1, _ => by simp at h1
 | _ :: _, [], i, _, _, _, h2 => by simp at h2
theorem zda {α : Type} (a : Rat) (f g : α -> Rat) : ∀ (is : List α) (w : List Rat), rdot (is.map fun i => a * f i + g i) w = a * rdot (is.map f) w + rdot (is.map g) w
 | [], w => by simp [rdot]; grind
 | i :: is, [] => by simp [rdot]; grind
 | i :: is, x :: w => by
  simp only [List.map_cons, rdot]
  rw [zda a f g is w]
  grind
theorem QA {α : Type} : ∀ (is : List α) (w : List Rat), rdot (is.map fun _ => (0 : Rat)) w = 0
 | [], w => by simp [rdot]
 | i :: is, [] => by simp [rdot]
 | i :: is, x :: w => by
  simp only [List.map_cons, rdot]
  rw [QA is w]
  grind
def colR (i : Nat) (ps : List (List Rat)) : List Rat := ps.map fun p => p.getD i 0
def mixL (ps : List (List Rat)) (ts : List Rat) (k : Nat) : List Rat := (List.range k).map fun i => rdot ts (colR i ps)
theorem JL {p : List Rat} {k : Nat} (h : p.length = k) : ((List.range k).map fun i => p.getD i 0) = p := by
 apply List.ext_getElem
 ·simp [h]
 ·intro n h1 h2
  simp only [List.getElem_map, List.getElem_range]
  exact (ZI h2).symm
theorem JP {k : Nat} {w : List Rat} : ∀ (ps : List (List Rat)) (ts : List Rat), (∀ p ∈ ps, p.length = k) -> rdot (mixL ps ts k) w = rdot ts (ps.map fun p => rdot p w)
 | [], ts, _ => by
  unfold mixL colR
  rw [List.map_nil, WN]
  have : ((List.range k).map fun i => rdot ts (([] : List (List Rat)).map fun p => p.getD i 0)) = (List.range k).map fun _ => (0 : Rat) := by
   refine List.map_congr_left fun i _ => ?_
   rw [List.map_nil, WN]
  rw [this, QA]
 | p :: ps, [], _ => by
  unfold mixL
  have : ((List.range k).map fun i => rdot [] (colR i (p :: ps))) = (List.range k).map fun _ => (0 : Rat) := List.map_congr_left fun i _ => by simp [rdot]
  rw [this, QA]
  simp [rdot]
 | p :: ps, t :: ts, h => by
  have ih := JP (w := w) ps ts fun p hp => h p (List.mem_cons_of_mem _ hp)
  have e : mixL (p :: ps) (t :: ts) k = (List.range k).map fun i => t * p.getD i 0 + rdot ts (colR i ps) := rfl
  rw [e, zda, JL (h p List.mem_cons_self)]
  show t * rdot p w + rdot (mixL ps ts k) w = _
  rw [ih]
  rfl
theorem zax {b : Rat} : ∀ (ts xs : List Rat), ts.length = xs.length -> (∀ t ∈ ts, 0 <= t) -> (∀ x ∈ xs, x <= b) -> rdot ts xs <= b * rdot ts (xs.map fun _ => (1 : Rat))
 | [], [], _, _, _ => by simp [rdot]
 | t :: ts, x :: xs, hl, h1, h2 => by
  have ih := zax (b := b) ts xs (by simpa using hl) (fun t ht => h1 t (List.mem_cons_of_mem _ ht)) (fun x hx => h2 x (List.mem_cons_of_mem _ hx))
  simp only [List.map_cons, rdot]
  have a := Rat.mul_le_mul_of_nonneg_left (h2 x List.mem_cons_self) (h1 t List.mem_cons_self)
  grind
 | [], _ :: _, hl, _, _ => by simp at hl
 | _ :: _, [], hl, _, _ => by simp at hl
theorem zc9 : ∀ (ts xs : List Rat), rdot ts (xs.map fun x => -x) = -(rdot ts xs)
 | [], xs => by simp [rdot]
 | t :: ts, [] => by simp [rdot]
 | t :: ts, x :: xs => by
  simp only [List.map_cons, rdot]
  rw [zc9 ts xs]
  grind
def oft : List Rat -> Nat -> Nat
 | [], o => o
 | q :: r, o => oft r (o * (q.den / Nat.gcd o q.den))
theorem lcm_eq (o d : Nat) : o * (d / Nat.gcd o d) = Nat.lcm o d := by
 unfold Nat.lcm
 rw [Nat.mul_div_assoc _ (Nat.gcd_dvd_right o d)]
theorem zdg : ∀ (p : List Rat) (o : Nat), 0 < o -> 0 < oft p o /\ o ∣ oft p o /\ (∀ q ∈ p, q.den ∣ oft p o) /\ ∀ D, o ∣ D -> (∀ q ∈ p, q.den ∣ D) -> oft p o ∣ D
 | [], o, h => ⟨h, Nat.dvd_refl _, fun q hq => absurd hq List.not_mem_nil, fun D hD _ => hD⟩
 | q :: r, o, h => by
  have hl : 0 < Nat.lcm o q.den := Nat.lcm_pos h q.den_pos
  obtain ⟨h1, h2, h3, h4⟩ := zdg r (Nat.lcm o q.den) hl
  have e : oft (q :: r) o = oft r (Nat.lcm o q.den) := by
   show oft r (o * (q.den / Nat.gcd o q.den)) = _
   rw [lcm_eq]
  rw [e]
  refine ⟨h1, Nat.dvd_trans (Nat.dvd_lcm_left _ _) h2, fun x hx => ?_, fun D hD hd => h4 D (Nat.lcm_dvd hD (hd q List.mem_cons_self)) fun x hx => hd x (List.mem_cons_of_mem _ hx)⟩
  rcases List.mem_cons.mp hx with rfl | hx
  ·exact Nat.dvd_trans (Nat.dvd_lcm_right _ _) h2
  ·exact h3 x hx
abbrev off (p : List Rat) : Nat := oft p 1
def wrow (p : List Rat) : List Int := (p.map fun q => q.num * ((off p / q.den : Nat) : Int)) ++ [-(off p : Int)]
theorem V4 (p : List Rat) : 0 < off p := (zdg p 1 (by decide)).1
theorem zaH {p : List Rat} {q : Rat} (h : q ∈ p) : q.den ∣ off p := (zdg p 1 (by decide)).2.2.1 q h
theorem off_dvd {p : List Rat} {D : Nat} (h : ∀ q ∈ p, q.den ∣ D) : off p ∣ D := (zdg p 1 (by decide)).2.2.2 D (Nat.one_dvd _) h
theorem num_eq (q : Rat) : (q.num : Rat) = q * (q.den : Rat) := by
 have hd : (q.den : Int) ≠ 0 := by have := q.den_pos; omega
 have hr : ((q.den : Int) : Rat) ≠ 0 := fun z => hd (by exact_mod_cast z)
 have e : q = (q.num : Rat) / ((q.den : Int) : Rat) := by
  rw [<- Rat.divInt_eq_div]; exact (Rat.num_divInt_den q).symm
 have : q * ((q.den : Int) : Rat) = (q.num : Rat) := by
  have := Rat.div_mul_cancel (a := (q.num : Rat)) hr
  rwa [<- e] at this
 exact this.symm
theorem den_dvd {q : Rat} {D : Nat} {z : Int} (h : q * (D : Rat) = (z : Rat)) : q.den ∣ D := by
 have e : q = Rat.divInt q.num q.den := (Rat.num_divInt_den q).symm
 have hd : (q.den : Int) ≠ 0 := by have := q.den_pos; omega
 have hr : (q.den : Rat) ≠ 0 := fun z => hd (by exact_mod_cast z)
 have h1 : (q.num : Rat) * (D : Rat) = (z : Rat) * (q.den : Rat) := by
  have : (q.num : Rat) = q * (q.den : Rat) := (num_eq q)
  rw [this, <- h]
  grind
 have h2 : q.num * (D : Int) = z * (q.den : Int) := by exact_mod_cast h1
 have h3 : (q.den : Int) ∣ q.num * (D : Int) := ⟨z, by rw [h2, Int.mul_comm]⟩
 have h4 : q.den ∣ q.num.natAbs * D := by
  have := Int.natAbs_dvd_natAbs.mpr h3
  rwa [Int.natAbs_mul, Int.natAbs_natCast, Int.natAbs_natCast] at this
 exact (Nat.Coprime.dvd_of_dvd_mul_left (Nat.Coprime.symm q.reduced) h4)
theorem Qp {q : Rat} {o : Nat} (h : q.den ∣ o) : ((q.num * ((o / q.den : Nat) : Int) : Int) : Rat) = q * (o : Rat) := by
 obtain ⟨c, rfl⟩ := h
 rw [Nat.mul_div_cancel_left _ q.den_pos]
 have : (q.num : Rat) = q * (q.den : Rat) := (num_eq q)
 push_cast
 rw [this]
 grind
end K14
namespace K14
open PySem Fx Lw Lq
theorem V6 (i j : Int) : fEq (.int i) (.int j) = .ok (.bool (decide (i = j))) := by simp [fEq]
structure Pk (D A : Nat) (p : List Rat) : Prop where
 z : ∀ q ∈ p, ∃ z : Int, q * (D : Rat) = (z : Rat)
 lo : ∀ q ∈ p, -(A : Rat) <= q
 hi : ∀ q ∈ p, q <= (A : Rat)
section
variable {D A k : Nat} {p : List Rat}
theorem Pk.den (h : Pk D A p) {q : Rat} (hq : q ∈ p) : q.den ∣ D := let ⟨z, e⟩ := h.z q hq; den_dvd e
theorem Pk.off (h : Pk D A p) : off p ∣ D := off_dvd fun q hq => h.den hq
theorem Pk.off_le (h : Pk D A p) (hD : 0 < D) : K14.off p <= D := Nat.le_of_dvd hD h.off
theorem zgk {x : Int} {m : Nat} (h1 : -(m : Rat) <= (x : Rat)) (h2 : (x : Rat) <= (m : Rat)) : x.natAbs <= m := by
 have h1' : ((-(m : Int) : Int) : Rat) <= (x : Rat) := by rw [Rat.intCast_neg]; exact h1
 have h2' : (x : Rat) <= (((m : Int)) : Rat) := h2
 have a : -(m : Int) <= x := Rat.intCast_le_intCast.mp h1'
 have b : x <= (m : Int) := Rat.intCast_le_intCast.mp h2'
 omega
theorem Pk.num_le (h : Pk D A p) {q : Rat} (hq : q ∈ p) {o : Nat} (ho : q.den ∣ o) : (q.num * ((o / q.den : Nat) : Int)).natAbs <= A * o := by
 have e := Qp ho
 have o0 : (0 : Rat) <= (o : Rat) := by exact_mod_cast Nat.zero_le o
 have a := Rat.mul_le_mul_of_nonneg_right (h.lo q hq) o0
 have b := Rat.mul_le_mul_of_nonneg_right (h.hi q hq) o0
 refine zgk ?_ ?_
 ·rw [e]; push_cast; grind
 ·rw [e]; push_cast; grind
theorem Pk.wrow_le (h : Pk D A p) (hD : 0 < D) (hA : 1 <= A) : ∀ x ∈ wrow p, x.natAbs <= A * D := fun x hx => by
 have ho := h.off_le hD
 unfold wrow at hx
 rcases List.mem_append.mp hx with hx | hx
 ·obtain ⟨q, hq, rfl⟩ := List.mem_map.mp hx
  exact Nat.le_trans (h.num_le hq (zaH hq)) (Nat.mul_le_mul_left _ ho)
 ·rw [List.mem_singleton.mp hx, Int.natAbs_neg, Int.natAbs_natCast]
  exact Nat.le_trans ho (Nat.le_mul_of_pos_left _ hA)
theorem Pk.sz (h : Pk D A p) (hD : 0 < D) {n : Nat} (hn : A * D < 2 ^ n) (hA : 1 <= A) : ∀ q ∈ p, Sz n q := fun q hq => by
 have hd := Nat.le_of_dvd hD (h.den hq)
 have h1 := h.num_le hq (Nat.dvd_refl q.den)
 rw [Nat.div_self q.den_pos] at h1
 have h2 : q.num.natAbs <= A * q.den := by simpa using h1
 exact ⟨Nat.lt_of_le_of_lt (Nat.le_trans h2 (Nat.mul_le_mul_left _ hd)) hn, Nat.lt_of_le_of_lt (Nat.le_trans hd (Nat.le_mul_of_pos_left _ hA)) hn⟩
theorem zcV (p : List Rat) : (wrow p).length = p.length + 1 := by simp [wrow]
def bW : DS := (dSet 1 [] (d2 fMul (dVar 1) (d2 fDiv (d2 fIx (dVar 2) (dC (.int 1))) (Zk ZE (Zc (dVar 1) (Zc (d2 fIx (dVar 2) (dC (.int 1))) dNil))))))
theorem zc5 (hD : 0 < D) (hD2 : D <= 100000) (t : PyData) : ∀ (p : List Rat) (o : Nat) (s : Sl), 0 < o -> o ∣ D -> (∀ q ∈ p, q.den ∣ D) -> ∃ s', forL (Zt 2) bW (p.map fr) [.val t, .val (.int o), s] = .ok (.nx [.val t, .val (.int (oft p o)), s'])
 | [], o, s, _, _, _ => ⟨s, rfl⟩
 | q :: r, o, s, ho, hoD, h => by
  have hd := h q List.mem_cons_self
  have hl : Nat.lcm o q.den ∣ D := Nat.lcm_dvd hoD hd
  have e1 := lcm_eq o q.den
  obtain ⟨s', e⟩ := zc5 hD hD2 t r (o * (q.den / Nat.gcd o q.den)) (.val (fr q)) (by rw [e1]; exact Nat.lcm_pos ho q.den_pos) (by rw [e1]; exact hl) fun x hx => h x (List.mem_cons_of_mem _ hx)
  refine ⟨s', ?_⟩
  have g := zgd (o : Int) (q.den : Int)
  rw [Int.gcd_natCast_natCast] at g
  have gp : 0 < Nat.gcd o q.den := Nat.gcd_pos_of_pos_left _ ho
  have gl : Nat.gcd o q.den <= D := Nat.le_trans (Nat.gcd_le_left _ ho) (Nat.le_of_dvd hD hoD)
  have dk : UZ ((Nat.gcd o q.den : Nat) : Int) = true := Uv (m := 20) (by omega) (by rw [Int.natAbs_natCast]; omega) (by decide)
  have mo : ∀ j : Int, YN (o : Int) j = true := fun j => zaL (by rw [Int.natAbs_natCast]; have := Nat.le_of_dvd hD hoD; omega)
  have fd : Int.fdiv (q.den : Int) ((Nat.gcd o q.den : Nat) : Int) = ((q.den / Nat.gcd o q.den : Nat) : Int) := by rw [Qo]; exact (Int.natCast_ediv _ _).symm
  have a1 : fIx (fr q) (.int 1) = .ok (.int q.den) := by simp [fr, at1]
  have bb : bW [.val t, .val (.int o), .val (fr q)] = .ok (.nx [.val t, .val (.int ((o * (q.den / Nat.gcd o q.den) : Nat) : Int)), .val (fr q)]) := by
   simp only [bW, dSet_nil, d2, dVar, dC, Zk, Zc, dNil, List.getElem?_cons_zero, List.getElem?_cons_succ, Res.bind_ok, a1, g, fDiv, dk, if_true, fMul, mo, fd, List.set]
   push_cast
   rfl
  rw [List.map_cons]
  unfold forL
  simp only [Zt, List.set, Res.bind_ok, bb]
  exact e
theorem U4 (h : Pk D A p) (hD : 0 < D) (hD2 : D <= 100000) (hl : p.length <= 1000) : YU [.list (p.map fr)] = .ok (eI (wrow p)) := by
 obtain ⟨s', e⟩ := zc5 hD hD2 (.list (p.map fr)) p 1 .emp (by decide) (Nat.one_dvd _) fun q hq => h.den hq
 have ho := h.off_le hD
 have c := ZX (st := Zt 0) (e := (d2 fMul (d2 fIx (dVar 0) (dC (.int 0))) (d2 fDiv (dVar 1) (d2 fIx (dVar 0) (dC (.int 1)))))) (C := [.emp, .val (.int (off p))]) fr (fun q => PyData.int (q.num * ((off p / q.den : Nat) : Int))) p fun q hq => ⟨[.val (fr q), .val (.int (off p))], rfl, by
  have hd := Nat.le_of_dvd hD (h.den hq)
  have dk : UZ (q.den : Int) = true := Uv (m := 20) (by have := q.den_pos; omega) (by rw [Int.natAbs_natCast]; omega) (by decide)
  have fd : Int.fdiv (off p : Int) (q.den : Int) = ((off p / q.den : Nat) : Int) := by rw [Qo]; exact (Int.natCast_ediv _ _).symm
  have mo : YN q.num ((off p / q.den : Nat) : Int) = true := zfw (by rw [Int.natAbs_natCast]; have := Nat.div_le_self (off p) q.den; omega)
  have a0 : fIx (fr q) (.int 0) = .ok (.int q.num) := by simp [fr, at0]
  have a1 : fIx (fr q) (.int 1) = .ok (.int q.den) := by simp [fr, at1]
  simp only [d2, dVar, dC, List.getElem?_cons_zero, List.getElem?_cons_succ, Res.bind_ok, a0, a1, fDiv, dk, if_true, fd, fMul, mo]⟩
 have e5 : (p.map fun q => PyData.int (q.num * ((off p / q.den : Nat) : Int))) = (p.map fun q => q.num * ((off p / q.den : Nat) : Int)).map PyData.int := by rw [List.map_map]; rfl
 rw [e5] at c
 have hw : eI (wrow p) = .list ((p.map fun q => q.num * ((off p / q.den : Nat) : Int)).map PyData.int ++ [.int (-(off p : Int))]) := by simp [eI, wrow]
 rw [hw]
 have lz : (p.map fun q => q.num * ((off p / q.den : Nat) : Int)).length = p.length := by simp
 generalize (p.map fun q => q.num * ((off p / q.den : Nat) : Int)) = z at *
 have l1 : p.length <= 16777216 := by omega
 have l2 : p.length + 1 <= 16777216 := by omega
 have h1 : Uw = dSeq (dFor (Zt 2) [] (iSeq (dVar 0)) bW) WT := rfl
 have e' : forL (Zt 2) bW (p.map fr) [.val (.list (p.map fr)), .val (.int 1), .emp] = .ok (.nx [.val (.list (p.map fr)), .val (.int (off p)), s']) := e
 have lp : (p.map fr).length = p.length := by simp
 generalize p.map fr = P at *
 generalize (off p) = o at *
 simp [YU, Q0, h1, WT, runQ, runF, e', lp, lz, l1, l2, c]
end
end K14
namespace K14
open PySem Fx Lw Lq
theorem zf0 : ∀ (as bs : List Int) (xs ys : List Rat), as.length = xs.length -> dot (as ++ bs) (xs ++ ys) = dot as xs + dot bs ys
 | [], bs, [], ys, _ => by simp [dot, Rat.zero_add]
 | a :: as, bs, x :: xs, ys, h => by
  have ih := zf0 as bs xs ys (by simpa using h)
  simp only [List.cons_append, dot]
  rw [ih, Rat.add_assoc]
 | [], _, _ :: _, _, h => by simp at h
 | _ :: _, _, [], _, h => by simp at h
theorem dot_one (a : Int) (x : Rat) : dot [a] [x] = (a : Rat) * x := by simp [dot, Rat.add_zero]
theorem zcB {ws : List Int} : ∀ {xs : List Rat}, (∀ w ∈ ws, w = 0) -> dot ws xs = 0 := by
 induction ws with
 | nil => intro xs _; cases xs <;> simp [dot]
 | cons w ws ih =>
  intro xs h
  cases xs with
  | nil => simp [dot]
  | cons x xs =>
   simp only [dot]
   rw [ih fun w hw => h w (List.mem_cons_of_mem _ hw), h w List.mem_cons_self]
   simp [Rat.add_zero]
theorem QX (o : Nat) : ∀ (r w : List Rat), (∀ q ∈ r, q.den ∣ o) -> dot (r.map fun q => q.num * ((o / q.den : Nat) : Int)) w = (o : Rat) * rdot w r
 | [], w, _ => by simp [dot, WN]
 | q :: r, [], _ => by simp [dot, rdot]
 | q :: r, x :: w, h => by
  simp only [List.map_cons, dot, rdot]
  rw [QX o r w fun q hq => h q (List.mem_cons_of_mem _ hq), Qp (h q List.mem_cons_self)]
  grind
theorem zdD {p w : List Rat} {b : Rat} (h : p.length = w.length) : dot (wrow p) (w ++ [b]) = (off p : Rat) * (rdot w p - b) := by
 unfold wrow
 rw [zf0 _ _ _ _ (by simp [h]), QX _ _ _ fun q hq => zaH hq, dot_one]
 push_cast
 grind
def WM (ps : List (List Rat)) : List Lim := ps.map fun p => (wrow p, 0)
def ptL (p : List Rat) : PyData := .list (p.map fr)
structure Pts (D k : Nat) (ps : List (List Rat)) (q : List Rat) : Prop where
 k1 : 1 <= k
 k3 : k <= 3
 n1 : 1 <= ps.length
 n8 : ps.length <= 8
 d0 : 0 < D
 d1 : D <= 1440
 len : ∀ p ∈ ps, p.length = k
 pk : ∀ p ∈ ps, Pk 60 12 p
 lq : q.length = k
 pq : Pk D 12 q
def dvf (p q : List Rat) : Rat := Rat.divInt (-(off p : Int)) (-(off q : Int))
def tsh (ss : List Rat) (ps : List (List Rat)) (q : List Rat) : List Rat := (ss.zip ps).map fun x => x.1 * dvf x.2 q
theorem zcA (p q : List Rat) : dvf p q * (off q : Rat) = (off p : Rat) := by
 have h : (-(off q : Int)) ≠ 0 := by have := V4 q; omega
 have hr : ((-(off q : Int) : Int) : Rat) ≠ 0 := fun z => h (by exact_mod_cast z)
 unfold dvf
 rw [Rat.divInt_eq_div]
 have := Rat.div_mul_cancel (a := ((-(off p : Int) : Int) : Rat)) hr
 push_cast at this ⊢
 grind
theorem dvf_nn (p q : List Rat) : 0 <= dvf p q := by
 have h := zcA p q
 have ho : (0 : Rat) < (off q : Rat) := by exact_mod_cast V4 q
 have hp : (0 : Rat) <= (off p : Rat) := by exact_mod_cast Nat.zero_le _
 rw [<- h] at hp
 exact Rat.not_lt.mp fun z => by
  have := Rat.mul_pos (show (0 : Rat) < -(dvf p q) by grind) ho
  grind
theorem off_ne (q : List Rat) : (off q : Rat) ≠ 0 := fun z => by
 have := V4 q
 have : (off q : Int) = 0 := by exact_mod_cast z
 omega
theorem zeE {j k : Nat} (hj : j < k) (q : List Rat) : ∀ (ps : List (List Rat)) (ss : List Rat), ss.length = ps.length -> (∀ p ∈ ps, p.length = k) -> rdot (tsh ss ps q) (colR j ps) * (off q : Rat) = dot ((WM ps).map (colN j)) ss
 | [], ss, _, _ => by cases ss <;> simp [WM, colR, dot, WN]
 | p :: ps, [], h, _ => by simp at h
 | p :: ps, s :: ss, h, hl => by
  have ih := zeE hj q ps ss (by simpa using h) fun p hp => hl p (List.mem_cons_of_mem _ hp)
  have e1 : tsh (s :: ss) (p :: ps) q = (s * dvf p q) :: tsh ss ps q := rfl
  have e2 : colR j (p :: ps) = p.getD j 0 :: colR j ps := rfl
  have e3 : (WM (p :: ps)).map (colN j) = (wrow p).getD j 0 :: (WM ps).map (colN j) := rfl
  have hp := hl p List.mem_cons_self
  have e4 : (((wrow p).getD j 0 : Int) : Rat) = p.getD j 0 * (off p : Rat) := by
   have hj' : j < p.length := by omega
   have : (wrow p).getD j 0 = (p.getD j 0).num * ((off p / (p.getD j 0).den : Nat) : Int) := by
    unfold wrow
    rw [List.getD_eq_getElem?_getD, List.getElem?_append_left (by simpa using hj'), List.getElem?_map, List.getD_eq_getElem?_getD]
    simp [hj']
   rw [this]
   exact Qp (zaH (by rw [<- ZI hj']; exact List.getElem_mem hj'))
  rw [e1, e2, e3]
  simp only [rdot, dot]
  rw [e4, <- ih]
  have := zcA p q
  grind
theorem zeD (q : List Rat) {k : Nat} : ∀ (ps : List (List Rat)) (ss : List Rat), ss.length = ps.length -> (∀ p ∈ ps, p.length = k) -> rdot (tsh ss ps q) (ps.map fun _ => (1 : Rat)) * (off q : Rat) = -(dot ((WM ps).map (colN k)) ss)
 | [], ss, _, _ => by cases ss <;> simp [WM, dot, WN]
 | p :: ps, [], h, _ => by simp at h
 | p :: ps, s :: ss, h, hl => by
  have ih := zeD q ps ss (by simpa using h) fun p hp => hl p (List.mem_cons_of_mem _ hp)
  have e1 : tsh (s :: ss) (p :: ps) q = (s * dvf p q) :: tsh ss ps q := rfl
  have e3 : (WM (p :: ps)).map (colN k) = (wrow p).getD k 0 :: (WM ps).map (colN k) := rfl
  have hp := hl p List.mem_cons_self
  have e4 : (wrow p).getD k 0 = -(off p : Int) := by
   unfold wrow
   rw [List.getD_eq_getElem?_getD, List.getElem?_append_right (by simp [hp])]
   simp [hp]
  rw [e1, e3, e4, List.map_cons]
  simp only [rdot, dot]
  have := zcA p q
  push_cast
  grind
theorem tsh_len {ss : List Rat} {ps : List (List Rat)} {q : List Rat} (h : ss.length = ps.length) : (tsh ss ps q).length = ps.length := by simp [tsh, h]
section
variable {D k : Nat} {ps : List (List Rat)} {q : List Rat}
theorem Pts.dk (h : Pts D k ps q) : DK (k + 1) ps.length 17280 80 (WM ps) := by
 have k1 := h.k1
 have k3 := h.k3
 have n1 := h.n1
 have n8 := h.n8
 refine ⟨by omega, by omega, by simp [WM], fun l hl => ?_, by decide, fun l hl => ?_, ?_, by decide, ?_⟩
 ·obtain ⟨p, hp, rfl⟩ := List.mem_map.mp hl
  show (wrow p).length = _
  rw [zcV, h.len p hp]
 ·obtain ⟨p, hp, rfl⟩ := List.mem_map.mp hl
  exact ⟨fun x hx => Nat.le_trans ((h.pk p hp).wrow_le (by decide) (by decide) x hx) (by decide), by show Int.natAbs 0 <= 17280; decide⟩
 ·rcases (show k = 1 \/ k = 2 \/ k = 3 by omega) with e | e | e <;> rw [e] <;> decide
 ·exact Nat.lt_of_le_of_lt (Nat.le_trans (Nat.pow_le_pow_left (show k + 1 + ps.length + 1 <= 13 by omega) (k + 1)) (Nat.pow_le_pow_right (by decide) (show k + 1 <= 4 by omega))) (by decide)
theorem Pts.goal (h : Pts D k ps q) : (wrow q).length = k + 1 /\ ∀ x ∈ wrow q, x.natAbs <= 17280 := by
 have d1 := h.d1
 exact ⟨by rw [zcV, h.lq], fun x hx => Nat.le_trans (h.pq.wrow_le h.d0 (by decide) x hx) (by omega)⟩
inductive Told (k : Nat) (ps : List (List Rat)) (q : List Rat) : PyData -> Prop
 | mix {ts : List Rat} (len : ts.length = ps.length) (nn : ∀ t ∈ ts, 0 <= t) (one : rdot ts (ps.map fun _ => (1 : Rat)) = 1) (is : mixL ps ts k = q) (sz : ∀ t ∈ ts, Sz 120 t) : Told k ps q (.tuple [.str "mix", .list (ts.map fr)])
 | split {w : List Rat} {b : Rat} (len : w.length = k) (sw : ∀ t ∈ w, Sz 120 t) (sb : Sz 120 b) (le : ∀ p ∈ ps, rdot w p <= b) (gt : b < rdot w q) : Told k ps q (.tuple [.str "split", .list (w.map fr), fr b])
theorem zd0 {ps : List Rat} {n : Nat} (h : ps.length = n + 1) : ∃ xs v, ps = xs ++ [v] /\ xs.length = n := by
 refine ⟨ps.dropLast, ps.getLast (fun z => by rw [z] at h; simp at h), (List.dropLast_concat_getLast _).symm, by simp [h]⟩
theorem dvf_sz (hD : Pts D k ps q) {p : List Rat} (hp : p ∈ ps) : Sz 15 (dvf p q) := by
 have a := (hD.pk p hp).off_le (by decide)
 have b := hD.pq.off_le hD.d0
 have c := hD.d1
 have d := V4 q
 exact XE (by omega) (by rw [Int.natAbs_neg, Int.natAbs_natCast]; omega) (by rw [Int.natAbs_neg, Int.natAbs_natCast]; omega)
theorem mix_told (h : Pts D k ps q) {xs ss : List Rat} (r : Pr (k + 1) 80 (WM ps) (wrow q) xs ss) : Told k ps q (.tuple [.str "mix", .list ((tsh ss ps q).map fr)]) := by
 have hl : ss.length = ps.length := by rw [r.len]; simp [WM]
 have o0 := off_ne q
 refine .mix (tsh_len hl) (fun t ht => ?_) ?_ ?_ fun t ht => ?_
 ·obtain ⟨x, hx, rfl⟩ := List.mem_map.mp ht
  exact Rat.mul_nonneg (r.nn _ (List.of_mem_zip hx).1) (dvf_nn _ _)
 ·have a := zeD q ps ss hl h.len
  rw [r.w k (by omega)] at a
  have e4 : (wrow q).getD k 0 = -(off q : Int) := by
   unfold wrow
   rw [List.getD_eq_getElem?_getD, List.getElem?_append_right (by simp [h.lq])]
   simp [h.lq]
  rw [e4] at a
  push_cast at a
  have : (rdot (tsh ss ps q) (ps.map fun _ => (1 : Rat)) - 1) * (off q : Rat) = 0 := by grind
  rcases Rat.mul_eq_zero.mp this with z | z
  ·grind
  ·exact absurd z o0
 ·have e : ∀ j, j < k -> rdot (tsh ss ps q) (colR j ps) = q.getD j 0 := fun j hj => by
   have a := zeE hj q ps ss hl h.len
   rw [r.w j (by omega)] at a
   have hj' : j < q.length := by rw [h.lq]; exact hj
   have e4 : (((wrow q).getD j 0 : Int) : Rat) = q.getD j 0 * (off q : Rat) := by
    have : (wrow q).getD j 0 = (q.getD j 0).num * ((off q / (q.getD j 0).den : Nat) : Int) := by
     unfold wrow
     rw [List.getD_eq_getElem?_getD, List.getElem?_append_left (by simpa using hj'), List.getElem?_map, List.getD_eq_getElem?_getD]
     simp [hj']
    rw [this]
    exact Qp (zaH (by rw [<- ZI hj']; exact List.getElem_mem hj'))
   rw [e4] at a
   have : (rdot (tsh ss ps q) (colR j ps) - q.getD j 0) * (off q : Rat) = 0 := by grind
   rcases Rat.mul_eq_zero.mp this with z | z
   ·grind
   ·exact absurd z o0
  unfold mixL
  rw [List.map_congr_left fun j hj => e j (List.mem_range.mp hj)]
  exact JL h.lq
 ·obtain ⟨x, hx, rfl⟩ := List.mem_map.mp ht
  exact ((r.sz _ (List.of_mem_zip hx).1).mul (dvf_sz h (List.of_mem_zip hx).2)).mono (by decide)
theorem zdZ (h : Pts D k ps q) {w : List Rat} {b : Rat} (hw : w.length = k) (y : Wy (k + 1) 80 (WM ps) (wrow q) (w ++ [b])) : Told k ps q (.tuple [.str "split", .list (w.map fr), fr b]) := by
 refine .split hw (fun t ht => (y.sz t (List.mem_append_left _ ht)).mono (by decide)) ((y.sz b (List.mem_append_right _ List.mem_cons_self)).mono (by decide)) (fun p hp => ?_) ?_
 ·have a := y.l (wrow p, 0) (List.mem_map.mpr ⟨p, hp, rfl⟩)
  rw [show ((wrow p, (0 : Int)) : Lim).1 = wrow p from rfl, zdD (by rw [h.len p hp, hw])] at a
  have o : (0 : Rat) < (off p : Rat) := by exact_mod_cast V4 p
  exact Rat.not_lt.mp fun z => by
   have := Rat.mul_pos o (show (0 : Rat) < rdot w p - b by grind)
   grind
 ·have a := y.g
  rw [zdD (by rw [h.lq, hw])] at a
  have o : (0 : Rat) < (off q : Rat) := by exact_mod_cast V4 q
  exact Rat.not_le.mp fun z => by
   have : (off q : Rat) * (rdot w q - b) <= (off q : Rat) * 0 := Rat.mul_le_mul_of_nonneg_left (by grind) (Rat.le_of_lt o)
   grind
theorem no_clash {ss : List Rat} {n K : Nat} (c : Cl K n (WM ps) ss) : False := by
 have := c.b
 unfold zcX at this
 rw [zcB fun w hw => by
  obtain ⟨l, hl, rfl⟩ := List.mem_map.mp hw
  obtain ⟨p, _, rfl⟩ := List.mem_map.mp hl
  rfl] at this
 exact Rat.lt_irrefl this
theorem at0n (x : PyData) (xs : List PyData) : atP (x :: xs) 0 = some x := by
 have : ixP (x :: xs).length 0 = some 0 := by
  unfold ixP
  rw [if_pos (by decide), if_pos (by simp)]
  rfl
 unfold atP
 rw [this]
 rfl
def bCk : DS := (zcO (Zk Z0 (Zc (d1 fLen (d2 fIx (dVar 0) (dC (.int 0)))) (Zc (dVar 1) dNil))))
theorem zgc {P : List PyData} {p0 : List Rat} (h0 : atP P 0 = some (ptL p0)) (hk : p0.length <= 1000) : ∀ (ps : List (List Rat)) (s : Sl), (∀ p ∈ ps, p.length = p0.length) -> ∃ s', forL (Zt 1) bCk (ps.map ptL) [.val (.list P), s] = .ok (.nx [.val (.list P), s'])
 | [], s, _ => ⟨s, rfl⟩
 | p :: ps, s, h => by
  obtain ⟨s', r⟩ := zgc h0 hk ps (.val (ptL p)) fun p hp => h p (List.mem_cons_of_mem _ hp)
  refine ⟨s', ?_⟩
  have c := zdQ (h p List.mem_cons_self) hk
  have b : bCk [.val (.list P), .val (ptL p)] = .ok (.nx [.val (.list P), .val (ptL p)]) := by
   simp only [ptL] at h0 ⊢
   simp [bCk, h0, c]
  rw [List.map_cons]
  unfold forL
  simp only [Zt, List.set, Res.bind_ok, b]
  exact r
theorem zdw (h : Pts D k ps q) : ∃ p0, p0 ∈ ps /\ atP (ps.map ptL) 0 = some (ptL p0) /\ p0.length = k := by
 cases ps with
 | nil => have := h.n1; simp at this
 | cons p ps => exact ⟨p, List.mem_cons_self, at0n _ _, h.len p List.mem_cons_self⟩
theorem Jn (h : Pts D k ps q) : YR [.list (ps.map ptL)] = .ok .none := by
 obtain ⟨p0, _, h0, hl⟩ := zdw h
 have k1 := h.k1
 have k3 := h.k3
 have n1 := h.n1
 have n8 := h.n8
 obtain ⟨s', e⟩ := zgc h0 (by omega) ps .emp fun p hp => by rw [h.len p hp, hl]
 have z1 : ¬ ((ps.length : Int) < 1) := by omega
 have z2 : ¬ ((8 : Int) < (ps.length : Int)) := by omega
 have z3 : ¬ ((k : Int) < 1) := by omega
 have z4 : ¬ ((4 : Int) < (k : Int)) := by omega
 have h2 : W8 = dFor (Zt 1) [] (iSeq (dVar 0)) bCk := rfl
 have lp : (ps.map ptL).length = ps.length := by simp
 have l0 : (p0.map fr).length = k := by simp [hl]
 simp only [ptL] at h0
 generalize ps.map ptL = P at *
 generalize p0.map fr = P0 at *
 simp [YR, VT, W9, h2, runQ, runF, lp, h0, l0, z1, z2, z3, z4, e]
theorem cut_last {xs : List Rat} {v : Rat} : cutT ((xs ++ [v]).map fr) none (some (-1)) = xs.map fr := by
 have e : ((-1 : Int) + (((xs ++ [v]).map fr).length : Int)).toNat = xs.length := by simp; omega
 have e2 : sIxT ((xs ++ [v]).map fr).length ((xs ++ [v]).map fr).length (some (-1)) = xs.length := by
  simp only [sIxT]
  rw [if_pos (by decide), e]
 unfold cutT
 rw [e2]
 simp [sIxT]
theorem zbc {α : Type} {f : α -> PyData} {xs : List α} {v : α} : atP ((xs ++ [v]).map f) (-1) = some (f v) := by
 unfold atP ixP
 rw [if_neg (by decide), if_pos (by simp; omega)]
 have e : ((-1 : Int) + (((xs ++ [v]).map f).length : Int)).toNat = xs.length := by simp; omega
 rw [Option.bind_some, e]
 simp
theorem at_off (p : List Rat) : atP ((wrow p).map .int) (-1) = some (.int (-(off p : Int))) := zbc
theorem told_ok (h : Pts D k ps q) : ∃ r, Told k ps q r /\ WB [.list (ps.map ptL), .list (q.map fr)] = .ok r := by
 obtain ⟨p0, _, h0, hl⟩ := zdw h
 have k1 := h.k1
 have k3 := h.k3
 have n1 := h.n1
 have n8 := h.n8
 have d0 := h.d0
 have d1 := h.d1
 have e1 := Jn h
 have e2 : Z0 [.int k, .list (q.map fr)] = .ok .none := zdQ h.lq (by omega)
 have e3 := ZX (st := Zt 0) (e := (Zk YU (Zc (dVar 0) dNil))) (C := [.emp]) ptL (fun p => eI (wrow p)) ps fun p hp => ⟨[.val (ptL p)], rfl, by
  have := U4 (h.pk p hp) (by decide) (by decide) (by rw [h.len p hp]; omega)
  simp only [ptL]
  simp [this]⟩
 have e4 := U4 h.pq d0 (by omega) (by rw [h.lq]; omega)
 have e5 := ZX (st := Zt 0) (e := (dTup (Zc (Fx.d1 zdx (dVar 0)) (Zc (dC (.int 0)) dNil)))) (C := [.emp]) (fun p => eI (wrow p)) (fun p => limT (wrow p, 0)) ps fun p hp => ⟨[.val (eI (wrow p))], rfl, by simp [eI, limT]⟩
 have hL : (ps.map fun p => limT (wrow p, 0)) = (WM ps).map limT := by simp [WM, List.map_map, Function.comp_def]
 rw [hL] at e5
 obtain ⟨gl, gs⟩ := h.goal
 obtain ⟨r, b, e⟩ := best_ok h.dk gl gs
 have lp : (ps.map ptL).length = ps.length := by simp
 have l0 : (p0.map fr).length = k := by simp [hl]
 have lr : (ps.map fun p => eI (wrow p)).length = ps.length := by simp
 have lg : ((wrow q).map PyData.int).length = k + 1 := by simp [gl]
 have z1 : ps.length <= 16777216 := by omega
 have a0 : ∀ x y z : PyData, atP [x, y, z] 0 = some x := fun _ _ _ => rfl
 have a2 : ∀ x y z : PyData, atP [x, y, z] 2 = some z := fun _ _ _ => rfl
 have at_q := at_off q
 have gE : eI (wrow q) = .list ((wrow q).map .int) := rfl
 have kk : ((k : Int) + 1) = ((k + 1 : Nat) : Int) := by push_cast; rfl
 have s1 : fEq (.str "best") (.str "endless") = .ok (.bool false) := by rw [zdC (by decide +kernel) (by decide +kernel)]; rfl
 have s2 : fEq (.str "endless") (.str "endless") = .ok (.bool true) := by rw [zdC (by decide +kernel) (by decide +kernel)]; rfl
 simp only [ptL] at h0
 cases b with
 | clash c => exact (no_clash c).elim
 | @endless xs ws pp w =>
  obtain ⟨y, v, rfl, hy⟩ := zd0 w.len
  refine ⟨_, zdZ h hy w, ?_⟩
  have c1 := cut_last (xs := y) (v := v)
  have c3 := zbc (f := fr) (xs := y) (v := v)
  rw [gE] at e4 e
  simp only [zcF, <- kk] at e
  generalize ps.map ptL = P at *
  generalize (WM ps).map limT = P2 at *
  generalize (ps.map fun p => eI (wrow p)) = P3 at *
  generalize (wrow q).map PyData.int = W at *
  generalize q.map fr = Q at *
  generalize (y ++ [v]).map fr = Y at *
  generalize xs.map fr = X at *
  generalize p0.map fr = P0 at *
  simp [WB, Q3, Ue, Ud, Uc, Ub, Ua, runQ, runF, e1, h0, l0, e2, lp, z1, e3, e4, lg, lr, e5, e, a0, a2, s2, c1, c3]
 | @best xs ss pp r =>
  refine ⟨_, mix_told h r, ?_⟩
  have hsl : ss.length = ps.length := by rw [r.len]; simp [WM]
  have e6 := ZX (st := WL 0 1) (e := (Zk WS (Zc (dVar 0) (Zc (Zk YJ (Zc (d2 fIx (dVar 1) (Fx.d1 fNeg (dC (.int 1)))) (Zc (d2 fIx (dVar 2) (Fx.d1 fNeg (dC (.int 1)))) dNil))) dNil)))) (C := [.emp, .emp, .val (eI (wrow q))]) (fun x : Rat × List Rat => PyData.tuple [fr x.1, eI (wrow x.2)]) (fun x => fr (x.1 * dvf x.2 q)) (ss.zip ps) fun x hx => ⟨[.val (fr x.1), .val (eI (wrow x.2)), .val (eI (wrow q))], rfl, by
   have op := V4 q
   have ol := h.pq.off_le d0
   have f1 : YJ [.int (-(off x.2 : Int)), .int (-(off q : Int))] = .ok (fr (dvf x.2 q)) := V5 (n := 20) (by omega) (by rw [Int.natAbs_neg, Int.natAbs_natCast]; omega) (by decide)
   have f2 := zcW (r.sz _ (List.of_mem_zip hx).1) (dvf_sz h (List.of_mem_zip hx).2) (by decide)
   have a1 := at_off x.2
   simp only [eI]
   simp [a1, at_q, f1, f2]⟩
  have e7 : ((ss.zip ps).map fun x => fr (x.1 * dvf x.2 q)) = (tsh ss ps q).map fr := by simp [tsh, List.map_map, Function.comp_def]
  rw [e7, <- Y9 (f := fr) (g := fun p => eI (wrow p))] at e6
  have lz : (zipT (ss.map fr) (ps.map fun p => eI (wrow p))).length <= 16777216 := by rw [Y9]; simp; omega
  rw [gE] at e4 e e6
  simp only [zcF, <- kk] at e
  generalize ps.map ptL = P at *
  generalize (WM ps).map limT = P2 at *
  generalize (ps.map fun p => eI (wrow p)) = P3 at *
  generalize (wrow q).map PyData.int = W at *
  generalize q.map fr = Q at *
  generalize xs.map fr = X at *
  generalize ss.map fr = S at *
  generalize (tsh ss ps q).map fr = TT at *
  generalize p0.map fr = P0 at *
  simp [WB, Q3, Ue, Ud, Uc, Ub, Ua, Q2, runQ, runF, e1, h0, l0, e2, lp, z1, e3, e4, lg, lr, e5, e, a0, a2, s1, lz, e6]
end
end K14
namespace K14
open PySem Fx Lw Lq
def Pk1 (D A : Nat) (q : Rat) : Prop := (∃ z : Int, q * (D : Rat) = (z : Rat)) /\ -(A : Rat) <= q /\ q <= (A : Rat)
theorem pk_of {D A : Nat} {p : List Rat} (h : ∀ q ∈ p, Pk1 D A q) : Pk D A p := ⟨fun q hq => (h q hq).1, fun q hq => (h q hq).2.1, fun q hq => (h q hq).2.2⟩
theorem pk_int {n : Int} (h1 : -12 <= n) (h2 : n <= 12) : Pk1 60 12 (n : Rat) := by
 refine ⟨⟨n * 60, by push_cast; rfl⟩, ?_, ?_⟩
 ·have : ((-12 : Int) : Rat) <= (n : Rat) := Rat.intCast_le_intCast.mpr h1
  simpa using this
 ·have : (n : Rat) <= ((12 : Int) : Rat) := Rat.intCast_le_intCast.mpr h2
  simpa using this
theorem pk_frac {n : Int} {m : Nat} (h1 : -12 <= n) (h2 : n <= 12) (hm : m < 5) : Pk1 60 12 (Rat.divInt n (1 + (m : Int))) := by
 have hne : ((1 + (m : Int) : Int) : Rat) ≠ 0 := fun z => by
  have : (1 + (m : Int)) = 0 := by exact_mod_cast z
  omega
 have e : Rat.divInt n (1 + (m : Int)) * ((1 + (m : Int) : Int) : Rat) = (n : Rat) := by
  rw [Rat.divInt_eq_div]
  exact Rat.div_mul_cancel hne
 have l1 : ((-12 : Int) : Rat) <= (n : Rat) := Rat.intCast_le_intCast.mpr h1
 have l2 : (n : Rat) <= ((12 : Int) : Rat) := Rat.intCast_le_intCast.mpr h2
 generalize Rat.divInt n (1 + (m : Int)) = x at *
 rcases (show m = 0 \/ m = 1 \/ m = 2 \/ m = 3 \/ m = 4 by omega) with rfl | rfl | rfl | rfl | rfl
 ·refine ⟨⟨n * 60, ?_⟩, ?_, ?_⟩ <;> push_cast at * <;> grind
 ·refine ⟨⟨n * 30, ?_⟩, ?_, ?_⟩ <;> push_cast at * <;> grind
 ·refine ⟨⟨n * 20, ?_⟩, ?_, ?_⟩ <;> push_cast at * <;> grind
 ·refine ⟨⟨n * 15, ?_⟩, ?_, ?_⟩ <;> push_cast at * <;> grind
 ·refine ⟨⟨n * 12, ?_⟩, ?_, ?_⟩ <;> push_cast at * <;> grind
def bIn : DS := (dSeq (dSet 7 [] (Zk Zr (Zc (dVar 0) (Zc (d2 fAdd (d2 fAdd (dC (.int 6)) (d2 fMul (dVar 1) (dVar 4))) (dVar 6)) dNil))))
  (dIf (tV (d2 fEq (d2 fMod (Zk Zr (Zc (dVar 0) (Zc (dC (.int 2)) dNil))) (dC (.int 2))) (dC (.int 1))))
  (dApp 5 [] (dTup (Zc (Zk Ya (Zc (dVar 7) (Zc (dC (.int 4)) dNil))) (Zc (dC (.int 1)) dNil))))
  (dApp 5 [] (Zk Yg (Zc (Zk Ya (Zc (dVar 7) (Zc (dC (.int 12)) dNil))) (Zc (d2 fAdd (dC (.int 1)) (d2 fMod (d2 fDiv (dVar 7) (dC (.int 25))) (dC (.int 5)))) dNil))))))
theorem in_step (ns : List Int) (k m j i : Nat) (M row : List PyData) (hk : k <= 100) (hr : row.length < 100) (s7 : Sl) : ∃ (q : Rat) (s : Sl), Pk1 60 12 q /\
  bIn [.val (.list (ns.map .int)), .val (.int k), .val (.int m), .own M, .val (.int j), .own row, .val (.int i), s7] = .ok (.nx [.val (.list (ns.map .int)), .val (.int k), .val (.int m), .own M, .val (.int j), .own (row ++ [fr q]), .val (.int i), s]) := by
 obtain ⟨c, e1⟩ := Uh ns (6 + (k : Int) * (j : Int) + (i : Int)) (by have := Int.mul_nonneg (Int.natCast_nonneg k) (Int.natCast_nonneg j); omega)
 obtain ⟨c2, e2⟩ := Uh ns 2 (by omega)
 obtain ⟨n4, e4, l4, u4⟩ := zbL c 4 (by omega) (by decide)
 obtain ⟨n12, e12, l12, u12⟩ := zbL c 12 (by omega) (by decide)
 obtain ⟨m5, em, hm⟩ : ∃ r : Nat, Int.fmod (Int.fdiv c 25) 5 = (r : Int) /\ r < 5 := zdk (n := 5) (by decide)
 have hl : row.length < 16777216 := by omega
 have dk : UZ 25 = true := by decide
 have mo : YN (k : Int) (j : Int) = true := zaL (by omega)
 have f := zaQ (u := n12) (l := 1 + (m5 : Int)) (n := 10) (by omega) (by omega) (by decide)
 by_cases z : Int.fmod c2 2 = 1
 ·refine ⟨(n4 : Rat), .val (.int c), pk_int (by omega) (by omega), ?_⟩
  rw [<- zfU]
  simp [bIn, mo, e1, e2, V6, z, e4, hl]
 ·refine ⟨Rat.divInt n12 (1 + (m5 : Int)), .val (.int c), pk_frac (by omega) (by omega) hm, ?_⟩
  simp [bIn, mo, e1, e2, V6, z, e12, dk, em, f, hl]
def bOut : DS := (dSeq (Qj 5 [] (oLst dNil))
  (dSeq (dFor (Zt 6) [] (iRng (dVar 1)) bIn)
  (dApp 3 [5] (dVar 5))))
theorem out_step (ns : List Int) (k m j : Nat) (M : List PyData) (hk : k <= 50) (hM : M.length < 100) (s5 s6 s7 : Sl) : ∃ (p : List Rat) (t5 t6 t7 : Sl), p.length = k /\ Pk 60 12 p /\
  bOut [.val (.list (ns.map .int)), .val (.int k), .val (.int m), .own M, .val (.int j), s5, s6, s7] = .ok (.nx [.val (.list (ns.map .int)), .val (.int k), .val (.int m), .own (M ++ [ptL p]), .val (.int j), t5, t6, t7]) := by
 obtain ⟨G', e, hG⟩ := QU (st := Zt 6) (b := bIn) (n := k) (G := [.val (.list (ns.map .int)), .val (.int k), .val (.int m), .own M, .val (.int j), .own [], s6, s7]) (fun i G => ∃ (p : List Rat) (t6 t7 : Sl), p.length = i /\ (∀ q ∈ p, Pk1 60 12 q) /\ G = [.val (.list (ns.map .int)), .val (.int k), .val (.int m), .own M, .val (.int j), .own (p.map fr), t6, t7])
  ⟨[], s6, s7, rfl, fun q hq => absurd hq List.not_mem_nil, rfl⟩ fun i G hi ⟨p, t6, t7, hp, hq, hG⟩ => by
   subst hG
   obtain ⟨q, s, h1, h2⟩ := in_step ns k m j i M (p.map fr) (by omega) (by simp [hp]; omega) t7
   refine ⟨_, rfl, _, .inl h2, ⟨p ++ [q], .val (.int i), s, by simp [hp], fun x hx => ?_, by simp⟩⟩
   rcases List.mem_append.mp hx with hx | hx
   ·exact hq x hx
   ·rw [List.mem_singleton.mp hx]; exact h1
 obtain ⟨p, t6, t7, hp, hq, rfl⟩ := hG
 refine ⟨p, .val (ptL p), t6, t7, hp, pk_of hq, ?_⟩
 have hr : Xz (k : Int) = true := ZP (by omega)
 have hl : M.length < 16777216 := by omega
 simp only [ptL]
 generalize p.map fr = P at *
 simp [bOut, hr, e, dApp, hl]
theorem zbC (ns : List Int) (k m : Nat) (hk : k <= 50) (hm : m <= 50) : ∃ ps : List (List Rat), ps.length = m /\ (∀ p ∈ ps, p.length = k /\ Pk 60 12 p) /\ Y7 [.list (ns.map .int), .int k, .int m] = .ok (.list (ps.map ptL)) := by
 obtain ⟨G', e, hG⟩ := QU (st := Zt 4) (b := bOut) (n := m) (G := [.val (.list (ns.map .int)), .val (.int k), .val (.int m), .own [], .emp, .emp, .emp, .emp]) (fun i G => ∃ (ps : List (List Rat)) (t4 t5 t6 t7 : Sl), ps.length = i /\ (∀ p ∈ ps, p.length = k /\ Pk 60 12 p) /\ G = [.val (.list (ns.map .int)), .val (.int k), .val (.int m), .own (ps.map ptL), t4, t5, t6, t7])
  ⟨[], .emp, .emp, .emp, .emp, rfl, fun q hq => absurd hq List.not_mem_nil, rfl⟩ fun i G hi ⟨ps, t4, t5, t6, t7, hp, hq, hG⟩ => by
   subst hG
   obtain ⟨p, u5, u6, u7, h1, h2, h3⟩ := out_step ns k m i (ps.map ptL) hk (by simp [hp]; omega) t5 t6 t7
   refine ⟨_, rfl, _, .inl h3, ⟨ps ++ [p], .val (.int i), u5, u6, u7, by simp [hp], fun x hx => ?_, by simp⟩⟩
   rcases List.mem_append.mp hx with hx | hx
   ·exact hq x hx
   ·rw [List.mem_singleton.mp hx]; exact ⟨h1, h2⟩
 obtain ⟨ps, t4, t5, t6, t7, hp, hq, rfl⟩ := hG
 refine ⟨ps, hp, hq, ?_⟩
 have hr : Xz (m : Int) = true := ZP (by omega)
 have h1 : VN = dSeq (dFor (Zt 4) [] (iRng (dVar 2)) bOut) Wm := rfl
 generalize ps.map ptL = P at *
 simp [Y7, U8, h1, Wm, runQ, runF, hr, e]
def mixP (ps : List (List Rat)) (ts : List Rat) (k j : Nat) : List Rat := (List.range k).map fun i => rdot (ts.take j) ((colR i ps).take j)
theorem zdm {ps : List (List Rat)} {ts : List Rat} {k : Nat} (h : ts.length = ps.length) : mixP ps ts k ps.length = mixL ps ts k := by
 unfold mixP mixL
 refine List.map_congr_left fun i _ => ?_
 rw [<- h, List.take_length, h, List.take_of_length_le (by simp [colR])]
theorem zaM {ps : List (List Rat)} {ts : List Rat} {k j : Nat} : (mixP ps ts k j).length = k := by simp [mixP]
theorem zaw {c : Nat} {ts xs : List Rat} (h1 : ∀ t ∈ ts, Sz c t) (h2 : ∀ x ∈ xs, Sz 15 x) (hl : ts.length = xs.length) : ∀ j, j <= ts.length -> Sz (1 + j * (c + 16)) (rdot (ts.take j) (xs.take j))
 | 0, _ => by simpa [rdot] using Sz.zero
 | j + 1, hj => by
  have hx : j < xs.length := by omega
  rw [Up ts xs j ts[j] xs[j] (List.getElem?_eq_getElem (by omega)) (by simp [hx])]
  have a := (zaw h1 h2 hl j (by omega)).add ((h1 _ (List.getElem_mem (show j < ts.length by omega))).mul (h2 _ (List.getElem_mem hx)))
  exact a.mono (by simp only [Nat.succ_mul]; omega)
structure Sh (k c : Nat) (ps : List (List Rat)) (ts : List Rat) : Prop where
 k1 : 1 <= k
 k3 : k <= 3
 n1 : 1 <= ps.length
 n8 : ps.length <= 8
 len : ∀ p ∈ ps, p.length = k
 sp : ∀ p ∈ ps, ∀ q ∈ p, Sz 15 q
 lt : ts.length = ps.length
 st : ∀ t ∈ ts, Sz c t
 c1 : c <= 130
section
variable {k c : Nat} {ps : List (List Rat)} {ts : List Rat}
theorem Sh.col (h : Sh k c ps ts) {i : Nat} (hi : i < k) : (∀ x ∈ colR i ps, Sz 15 x) /\ (colR i ps).length = ps.length := by
 refine ⟨fun x hx => ?_, by simp [colR]⟩
 obtain ⟨p, hp, rfl⟩ := List.mem_map.mp hx
 have : i < p.length := by rw [h.len p hp]; exact hi
 rw [<- ZI this]
 exact h.sp p hp _ (List.getElem_mem this)
theorem Sh.psz (h : Sh k c ps ts) {j : Nat} (hj : j <= ps.length) : ∀ q ∈ mixP ps ts k j, Sz (1 + j * (c + 16)) q := fun q hq => by
 obtain ⟨i, hi, rfl⟩ := List.mem_map.mp hq
 obtain ⟨a, b⟩ := h.col (List.mem_range.mp hi)
 exact zaw h.st a (by rw [h.lt, b]) j (by rw [h.lt]; exact hj)
theorem Sh.bound (h : Sh k c ps ts) {j : Nat} (hj : j <= ps.length) : 1 + j * (c + 16) <= 1169 := by
 have := h.n8
 have := h.c1
 have : j * (c + 16) <= 8 * 146 := Nat.mul_le_mul (by omega) (by omega)
 omega
theorem Sh.next (h : Sh k c ps ts) {j : Nat} (hj : j < ps.length) {i : Nat} (hi : i < k) : rdot (ts.take (j + 1)) ((colR i ps).take (j + 1)) = rdot (ts.take j) ((colR i ps).take j) + ts.getD j 0 * (ps.getD j []).getD i 0 := by
 have ht : j < ts.length := by rw [h.lt]; exact hj
 rw [Up ts (colR i ps) j (ts.getD j 0) ((ps.getD j []).getD i 0)]
 ·rw [List.getElem?_eq_getElem ht, ZI ht]
 ·unfold colR
  rw [List.getElem?_map, List.getElem?_eq_getElem hj, ZI (d := []) hj]
  rfl
def bMx : DS := (dSet 3 [] (dL (Xk 1 [3, 0, 4, 1] (Zt 0) (iRng (dVar 2)) tT (Zk Yh (Zc (d2 fIx (dVar 1) (dVar 0)) (Zc (d2 fIx (d2 fIx (dVar 2) (dVar 3)) (dVar 0)) (Zc (d2 fIx (dVar 4) (dVar 3)) dNil)))))))
theorem Sh.mix_step (h : Sh k c ps ts) {j : Nat} (hj : j < ps.length) : bMx [.val (.list (ps.map ptL)), .val (.list (ts.map fr)), .val (.int k), .val (.list ((mixP ps ts k j).map fr)), .val (.int j)] = .ok (.nx [.val (.list (ps.map ptL)), .val (.list (ts.map fr)), .val (.int k), .val (.list ((mixP ps ts k (j + 1)).map fr)), .val (.int j)]) := by
 have k3 := h.k3
 have ht : j < ts.length := by rw [h.lt]; exact hj
 have bd := h.bound (Nat.le_of_lt hj)
 have c1 := h.c1
 have e := ZX (st := Zt 0) (e := (Zk Yh (Zc (d2 fIx (dVar 1) (dVar 0)) (Zc (d2 fIx (d2 fIx (dVar 2) (dVar 3)) (dVar 0)) (Zc (d2 fIx (dVar 4) (dVar 3)) dNil))))) (C := [.emp, .val (.list ((mixP ps ts k j).map fr)), .val (.list (ps.map ptL)), .val (.int j), .val (.list (ts.map fr))]) (fun t : Nat => PyData.int (t : Int)) (fun i => fr (rdot (ts.take (j + 1)) ((colR i ps).take (j + 1)))) (List.range k) fun i hi => ⟨[.val (.int i), .val (.list ((mixP ps ts k j).map fr)), .val (.list (ps.map ptL)), .val (.int j), .val (.list (ts.map fr))], rfl, by
  have hik := List.mem_range.mp hi
  have a1 : atP ((mixP ps ts k j).map fr) (i : Int) = some (fr (rdot (ts.take j) ((colR i ps).take j))) := by
   rw [Ui (by rw [zaM]; exact hik)]
   simp [mixP]
  have a2 : atP (ps.map ptL) (j : Int) = some (.list ((ps.getD j []).map fr)) := by
   rw [Ui hj, ptL, ZI (d := []) hj]
  have hpl : (ps.getD j []).length = k := by rw [<- ZI hj]; exact h.len _ (List.getElem_mem hj)
  have a3 : atP ((ps.getD j []).map fr) (i : Int) = some (fr ((ps.getD j []).getD i 0)) := by
   rw [Ui (by rw [hpl]; exact hik), ZI (d := 0)]
  have a4 : atP (ts.map fr) (j : Int) = some (fr (ts.getD j 0)) := by rw [Ui ht, ZI (d := 0)]
  have s1 := h.psz (Nat.le_of_lt hj) (rdot (ts.take j) ((colR i ps).take j)) (List.mem_map.mpr ⟨i, hi, rfl⟩)
  have s2 : Sz 15 ((ps.getD j []).getD i 0) := by
   rw [<- ZI (show i < (ps.getD j []).length by rw [hpl]; exact hik)]
   have hm : ps.getD j [] ∈ ps := by rw [<- ZI hj]; exact List.getElem_mem hj
   exact h.sp _ hm _ (List.getElem_mem _)
  have s3 : Sz c (ts.getD j 0) := by rw [<- ZI ht]; exact h.st _ (List.getElem_mem ht)
  have ad := zgj s1 s2 s3 (by omega)
  rw [h.next hj hik]
  generalize rdot (ts.take j) ((colR i ps).take j) = x1 at *
  generalize (ps.getD j []).getD i 0 = x2 at *
  generalize ts.getD j 0 = x3 at *
  generalize (mixP ps ts k j).map fr = L1 at *
  generalize (ps.getD j []).map fr = L2 at *
  simp [a1, a2, a3, a4, ad]⟩
 rw [<- We] at e
 have e2 : ((List.range k).map fun i => fr (rdot (ts.take (j + 1)) ((colR i ps).take (j + 1)))) = (mixP ps ts k (j + 1)).map fr := by simp [mixP, List.map_map, Function.comp_def]
 rw [e2] at e
 have hr : Xz (k : Int) = true := ZP (by omega)
 have hl : (rngT 0 k).length <= 16777216 := by rw [Xd]; omega
 generalize (mixP ps ts k j).map fr = L1 at *
 generalize (mixP ps ts k (j + 1)).map fr = L3 at *
 simp [bMx, hr, hl, e]
theorem zdl (h : Sh k c ps ts) : YW [.list (ps.map ptL), .list (ts.map fr), .int k] = .ok (.list ((mixL ps ts k).map fr)) := by
 have k3 := h.k3
 have n8 := h.n8
 have e0 := ZX (st := Zt 0) (e := (dTup (Zc (dC (.int 0)) (Zc (dC (.int 1)) dNil)))) (C := [.emp]) (fun t : Nat => PyData.int (t : Int)) (fun _ => fr 0) (List.range k) fun i _ => ⟨[.val (.int i)], rfl, by simp [QT]⟩
 rw [<- We] at e0
 have e1 : ((List.range k).map fun _ => fr 0) = (mixP ps ts k 0).map fr := by
  simp only [mixP, List.map_map, List.take_zero]
  rfl
 rw [e1] at e0
 obtain ⟨G', e, hG⟩ := QU (st := Zt 4) (b := bMx) (n := ps.length) (G := [.val (.list (ps.map ptL)), .val (.list (ts.map fr)), .val (.int k), .val (.list ((mixP ps ts k 0).map fr)), .emp]) (fun j G => ∃ s, G = [.val (.list (ps.map ptL)), .val (.list (ts.map fr)), .val (.int k), .val (.list ((mixP ps ts k j).map fr)), s]) ⟨.emp, rfl⟩ fun j G hj ⟨s, hG⟩ => by
  subst hG
  exact ⟨_, rfl, _, .inl (h.mix_step hj), ⟨_, rfl⟩⟩
 obtain ⟨s, rfl⟩ := hG
 rw [zdm h.lt] at e
 have hr : Xz (k : Int) = true := ZP (by omega)
 have hr2 : Xz (ps.length : Int) = true := ZP (by omega)
 have hl : (rngT 0 k).length <= 16777216 := by rw [Xd]; omega
 have h1 : UA = dSeq (dFor (Zt 4) [] (iRng (d1 fLen (dVar 0))) bMx) WX := rfl
 have lp : (ps.map ptL).length = ps.length := by simp
 generalize (mixP ps ts k 0).map fr = L1 at *
 generalize (mixL ps ts k).map fr = L3 at *
 generalize ps.map ptL = P at *
 simp [YW, Jc, h1, WX, runQ, runF, hr, hr2, hl, lp, e0, e]
def bPm : DS := (dSet 2 [] (Zk UX (Zc (dVar 2) (Zc (dVar 3) (Zc (dVar 4) dNil)))))
theorem Sh.mv_next (h : Sh k c ps ts) {j : Nat} (hj : j < ps.length) : mv (mixP ps ts k j) (ps.getD j []) (ts.getD j 0) = mixP ps ts k (j + 1) := by
 have hpl : (ps.getD j []).length = k := by rw [<- ZI hj]; exact h.len _ (List.getElem_mem hj)
 unfold mv
 apply List.ext_getElem
 ·simp only [List.length_map, List.length_zip, zaM, hpl, Nat.min_self]
 ·intro n h1 h2
  have hn : n < k := by simpa [mixP] using h2
  simp only [List.getElem_map, List.getElem_zip, mixP, List.getElem_range]
  rw [h.next hj hn, ZI (d := 0)]
theorem mix_ok (h : Sh k c ps ts) : zfX [.list (ps.map ptL), .list (ts.map fr)] = .ok (.list ((mixL ps ts k).map fr)) := by
 have k3 := h.k3
 have n1 := h.n1
 have n8 := h.n8
 have lz : (zipT (ps.map ptL) (ts.map fr)).length = ps.length := by rw [Y9]; simp [h.lt]
 obtain ⟨G', e, hG⟩ := WR (st := WL 3 4) (b := bPm) (fun j G => ∃ s3 s4, G = [.val (.list (ps.map ptL)), .val (.list (ts.map fr)), .val (.list ((mixP ps ts k j).map fr)), s3, s4]) (zipT (ps.map ptL) (ts.map fr)) 0 [.val (.list (ps.map ptL)), .val (.list (ts.map fr)), .val (.list ((mixP ps ts k 0).map fr)), .emp, .emp] ⟨.emp, .emp, rfl⟩ fun j t G ht ⟨s3, s4, hG⟩ => by
  subst hG
  have hj : j < ps.length := by
   have := (List.getElem?_eq_some_iff.mp ht).1
   omega
  have htl : j < ts.length := by rw [h.lt]; exact hj
  have et : t = .tuple [ptL (ps.getD j []), fr (ts.getD j 0)] := by
   have hz : (ps.zip ts)[j]? = some (ps[j], ts[j]) := by
    rw [List.getElem?_eq_getElem (by rw [List.length_zip]; omega), List.getElem_zip]
   rw [Y9, List.getElem?_map, hz] at ht
   rw [<- ZI hj, <- ZI htl]
   exact (Option.some.inj ht).symm
  subst et
  have bd := h.bound (Nat.le_of_lt hj)
  have c1 := h.c1
  have hm : ps.getD j [] ∈ ps := by rw [<- ZI hj]; exact List.getElem_mem hj
  have m := moved_ok (ps := mixP ps ts k j) (ws := ps.getD j []) (t := ts.getD j 0) (a := 1169) (c := c) (fun q hq => (h.psz (Nat.le_of_lt hj) q hq).mono bd) (fun q hq => (h.sp _ hm q hq).mono (by omega)) (by rw [<- ZI htl]; exact h.st _ (List.getElem_mem htl)) (by omega) (by rw [zaM]; omega)
  rw [h.mv_next hj] at m
  refine ⟨[.val (.list (ps.map ptL)), .val (.list (ts.map fr)), .val (.list ((mixP ps ts k j).map fr)), .val (ptL (ps.getD j [])), .val (fr (ts.getD j 0))], by rw [Nat.zero_add]; rfl, [.val (.list (ps.map ptL)), .val (.list (ts.map fr)), .val (.list ((mixP ps ts k (0 + j + 1)).map fr)), .val (ptL (ps.getD j [])), .val (fr (ts.getD j 0))], .inl ?_, ⟨_, _, rfl⟩⟩
  rw [Nat.zero_add]
  simp only [ptL] at m ⊢
  generalize (mixP ps ts k j).map fr = L1 at *
  generalize (mixP ps ts k (j + 1)).map fr = L3 at *
  generalize (ps.getD j []).map fr = L4 at m ⊢
  generalize fr (ts.getD j 0) = L5 at m ⊢
  simp [bPm, m]
 obtain ⟨s3, s4, rfl⟩ := hG
 rw [Nat.zero_add, lz, zdm h.lt] at e
 obtain ⟨p0, h0, hl⟩ : ∃ p0 : List Rat, atP (ps.map ptL) 0 = some (ptL p0) /\ p0.length = k := by
  cases ps with
  | nil => simp at n1
  | cons p ps => exact ⟨p, at0n _ _, h.len p List.mem_cons_self⟩
 have e1 : (List.replicate k [fr 0]).flatten = (mixP ps ts k 0).map fr := by
  have : (mixP ps ts k 0).map fr = List.replicate k (fr 0) := by
   simp only [mixP, List.map_map, List.take_zero]
   rw [show (fr ∘ fun i => rdot ([] : List Rat) []) = fun _ => fr 0 from rfl, List.map_const', List.length_range]
  rw [this]
  clear e this h0 hl h k3
  induction k with
  | zero => rfl
  | succ n ih => rw [List.replicate_succ, List.flatten_cons, ih, List.replicate_succ]; rfl
 have hr : Xz (k : Int) = true := ZP (by omega)
 have h1 : zf6 = dSeq (dFor (WL 3 4) [] (iZip (iSeq (dVar 0)) (iSeq (dVar 1))) bPm) zcG := rfl
 have l0 : (p0.map fr).length = k := by simp [hl]
 have hk : (k : Int) <= 16777216 := by omega
 have hk2 : k <= 16777216 := by omega
 simp only [ptL] at h0
 generalize (mixP ps ts k 0).map fr = L1 at *
 generalize (mixL ps ts k).map fr = L3 at *
 generalize ps.map ptL = P at *
 generalize p0.map fr = P0 at *
 simp [zfX, d_mix, h1, zcG, runQ, runF, h0, l0, QT, hr, hk, hk2, e1, e]
def bHv : DS := (dSet 2 [] (Zk Yh (Zc (dVar 2) (Zc (d2 fIx (dVar 1) (dVar 3)) (Zc (d2 fIx (dVar 0) (dVar 3)) dNil)))))
theorem zdt {w p : List Rat} {c : Nat} (hw : ∀ x ∈ w, Sz c x) (hp : ∀ x ∈ p, Sz 15 x) (hl : w.length = p.length) (h3 : p.length <= 4) (hc : c <= 130) : YX [.list (w.map fr), .list (p.map fr)] = .ok (fr (rdot w p)) /\ Sz 800 (rdot w p) := by
 have bd : ∀ i, i <= p.length -> 1 + i * (c + 16) <= 585 := fun i hi => by
  have : i * (c + 16) <= 4 * 146 := Nat.mul_le_mul (by omega) (by omega)
  omega
 obtain ⟨G', e, hG⟩ := QU (st := Zt 3) (b := bHv) (n := p.length) (G := [.val (.list (w.map fr)), .val (.list (p.map fr)), .val (fr 0), .emp]) (fun i G => ∃ s, G = [.val (.list (w.map fr)), .val (.list (p.map fr)), .val (fr (rdot (w.take i) (p.take i))), s]) ⟨.emp, by simp [rdot]⟩ fun i G hi ⟨s, hG⟩ => by
  subst hG
  have hwi : i < w.length := by omega
  have s1 := zaw hw hp hl i (by omega)
  have s2 := hp _ (List.getElem_mem hi)
  have s3 := hw _ (List.getElem_mem hwi)
  have b := bd i (by omega)
  have a := zgj s1 s2 s3 (by omega)
  have i1 : atP (p.map fr) (i : Int) = some (fr p[i]) := Ui hi
  have i2 : atP (w.map fr) (i : Int) = some (fr w[i]) := Ui hwi
  refine ⟨_, rfl, [.val (.list (w.map fr)), .val (.list (p.map fr)), .val (fr (rdot (w.take (i + 1)) (p.take (i + 1)))), .val (.int i)], .inl ?_, ⟨_, rfl⟩⟩
  rw [Up w p i w[i] p[i] (List.getElem?_eq_getElem hwi) (List.getElem?_eq_getElem hi)]
  simp [bHv, i1, i2, a]
 obtain ⟨s, rfl⟩ := hG
 have e1 : rdot (w.take p.length) (p.take p.length) = rdot w p := by rw [List.take_length, <- hl, List.take_length]
 have sz := zaw hw hp hl p.length (by omega)
 rw [e1] at e sz
 have hr := ZP (n := p.length) (by omega)
 simp only [bHv] at e
 refine ⟨by simp [YX, runQ, runF, Jd, UC, UB, QT, hr, e], sz.mono ?_⟩
 have := bd p.length (by omega)
 omega
def bSum : DS := (dSet 3 [] (Zk Yh (Zc (dVar 3) (Zc (dVar 4) (Zc (dTup (Zc (dC (.int 1)) (Zc (dC (.int 1)) dNil))) dNil)))))
theorem zcZ (t0 t1 t2 : PyData) : ∀ (ss : List Rat) (q : Rat) (n : Nat) (s : Sl), Sz n q -> (∀ x ∈ ss, Sz 120 x) -> n + ss.length * 122 + 300 < 8000 -> ∃ s', forL (Zt 4) bSum (ss.map fr) [.val t0, .val t1, .val t2, .val (fr q), s] = .ok (.nx [.val t0, .val t1, .val t2, .val (fr (q + rdot ss (ss.map fun _ => (1 : Rat)))), s'])
 | [], q, n, s, _, _, _ => ⟨s, by simp [forL, rdot, Rat.add_zero]⟩
 | x :: ss, q, n, s, hq, hs, hn => by
  have h1 := hs x List.mem_cons_self
  simp only [List.length_cons, Nat.succ_mul] at hn
  have one : Sz 1 (1 : Rat) := ⟨by decide, by decide⟩
  have a := zgj hq h1 one (by omega)
  have ha : Sz (n + 121 + 1) (q + 1 * x) := (hq.add (one.mul h1)).mono (by omega)
  obtain ⟨s', r⟩ := zcZ t0 t1 t2 ss (q + 1 * x) (n + 121 + 1) (.val (fr x)) ha (fun y hy => hs y (List.mem_cons_of_mem _ hy)) (by omega)
  refine ⟨s', ?_⟩
  have e : q + 1 * x + rdot ss (ss.map fun _ => (1 : Rat)) = q + rdot (x :: ss) ((x :: ss).map fun _ => (1 : Rat)) := by
   simp only [List.map_cons, rdot]
   grind
  rw [e] at r
  have f1 : PyData.tuple [.int 1, .int 1] = fr 1 := zfU 1
  have b : bSum [.val t0, .val t1, .val t2, .val (fr q), .val (fr x)] = .ok (.nx [.val t0, .val t1, .val t2, .val (fr (q + 1 * x)), .val (fr x)]) := by
   simp [bSum, f1, a]
  rw [List.map_cons]
  unfold forL
  simp only [Zt, List.set, Res.bind_ok, b]
  exact r
theorem zbO (l : List Rat) : fEq (.list (l.map fr)) (.list (l.map fr)) = .ok (.bool true) /\ fNe (.list (l.map fr)) (.list (l.map fr)) = .ok (.bool false) := by
 have s : Shp 2 (.list (l.map fr)) := zaq fun x _ => zbp x
 unfold fEq fNe
 simp [s.ok (by decide), Uu _ s.1]
theorem pts_same (l : List (List Rat)) : fNe (.list (l.map ptL)) (.list (l.map ptL)) = .ok (.bool false) := by
 have s : Shp 3 (.list (l.map ptL)) := zaq fun x _ => zaq fun y _ => zbp y
 unfold fNe
 simp [s.ok (by decide), Uu _ s.1]
theorem ones_eq {ts : List Rat} {ps : List (List Rat)} (h : ts.length = ps.length) : (ts.map fun _ => (1 : Rat)) = ps.map fun _ => (1 : Rat) := by
 rw [List.map_const', List.map_const', h]
theorem zfM (h : Sh k 120 ps ts) {q : List Rat} (hq : q.length = k) (nn : ∀ t ∈ ts, 0 <= t) (one : rdot ts (ps.map fun _ => (1 : Rat)) = 1) (is : mixL ps ts k = q) : XA [.list (ps.map ptL), .list (q.map fr), .list (ts.map fr)] = .ok (.bool true) := by
 have n8 := h.n8
 have e1 := zbd h.lt nn
 obtain ⟨s', e2⟩ := zcZ (.list (ps.map ptL)) (.list (q.map fr)) (.list (ts.map fr)) ts 0 1 .emp ⟨by decide, by decide⟩ h.st (by rw [h.lt]; omega)
 rw [ones_eq h.lt, one, Rat.zero_add] at e2
 have e3 := zdl h
 rw [is] at e3
 have f1 : PyData.tuple [.int 1, .int 1] = fr 1 := zfU 1
 have q1 := fEq_fr 1 1
 have q2 := (zbO q).1
 have h2 : VQ = dSeq (dFor (Zt 4) [] (iSeq (dVar 2)) bSum) Wp := rfl
 have lp : (ps.map ptL).length = ps.length := by simp
 have lq : (q.map fr).length = k := by simp [hq]
 generalize ps.map ptL = P at *
 generalize q.map fr = Q at *
 generalize ts.map fr = TT at *
 simp [XA, U9, VR, h2, Wp, runQ, runF, lp, lq, e1, QT, f1, e2, q1, e3, q2]
def bSp : DS := (dIf (tV (Zk Xw (Zc (dVar 3) (Zc (Zk YX (Zc (dVar 2) (Zc (dVar 4) dNil))) dNil))))
  (dRet (dC (.bool false)))
  Z1)
theorem zeS {t0 t1 : PyData} {w : List Rat} {b : Rat} (hw : ∀ x ∈ w, Sz 120 x) (sb : Sz 120 b) : ∀ (ps : List (List Rat)) (s : Sl), (∀ p ∈ ps, p.length = w.length /\ p.length <= 4 /\ (∀ x ∈ p, Sz 15 x) /\ rdot w p <= b) -> ∃ s', forL (Zt 4) bSp (ps.map ptL) [.val t0, .val t1, .val (.list (w.map fr)), .val (fr b), s] = .ok (.nx [.val t0, .val t1, .val (.list (w.map fr)), .val (fr b), s'])
 | [], s, _ => ⟨s, rfl⟩
 | p :: ps, s, h => by
  obtain ⟨h1, h2, h3, h4⟩ := h p List.mem_cons_self
  obtain ⟨e1, e2⟩ := zdt hw h3 h1.symm h2 (by decide)
  have bl := zbQ sb e2 (by decide)
  rw [decide_eq_false (Rat.not_lt.mpr h4)] at bl
  obtain ⟨s', r⟩ := zeS (t0 := t0) (t1 := t1) hw sb ps (.val (ptL p)) fun p hp => h p (List.mem_cons_of_mem _ hp)
  refine ⟨s', ?_⟩
  have bb : bSp [.val t0, .val t1, .val (.list (w.map fr)), .val (fr b), .val (ptL p)] = .ok (.nx [.val t0, .val t1, .val (.list (w.map fr)), .val (fr b), .val (ptL p)]) := by
   simp only [ptL]
   generalize w.map fr = W at *
   generalize p.map fr = PP at *
   simp [bSp, e1, bl]
  rw [List.map_cons]
  unfold forL
  simp only [Zt, List.set, Res.bind_ok, bb]
  exact r
theorem zcx {w q : List Rat} {b : Rat} (hl : w.length = k) (hk : k <= 4) (hw : ∀ x ∈ w, Sz 120 x) (sb : Sz 120 b) (hq : q.length = k) (sq : ∀ x ∈ q, Sz 15 x) (hp : ∀ p ∈ ps, p.length = k /\ (∀ x ∈ p, Sz 15 x) /\ rdot w p <= b) (gt : b < rdot w q) : YQ [.list (ps.map ptL), .list (q.map fr), .list (w.map fr), fr b] = .ok (.bool true) := by
 have e1 := QN hl
 have e2 := zfL b
 obtain ⟨e3, e4⟩ := zdt hw sq (by rw [hl, hq]) (by omega) (by decide)
 have bl := zbQ sb e4 (by decide)
 rw [decide_eq_true gt] at bl
 obtain ⟨s', e5⟩ := zeS (t0 := .list (ps.map ptL)) (t1 := .list (q.map fr)) hw sb ps .emp fun p hm => ⟨by rw [(hp p hm).1, hl], by rw [(hp p hm).1]; exact hk, (hp p hm).2.1, (hp p hm).2.2⟩
 have h1 : W4 = dSeq (dFor (Zt 4) [] (iSeq (dVar 0)) bSp) XI := rfl
 have lq : (q.map fr).length = k := by simp [hq]
 generalize ps.map ptL = P at *
 generalize q.map fr = Q at *
 generalize w.map fr = WW at *
 simp [YQ, VO, h1, XI, runQ, runF, lq, e1, e2, e5, e3, bl]
theorem QB : ∀ (xs ys : List Rat), rdot xs ys = rdot ys xs
 | [], ys => by rw [WN]; rfl
 | x :: xs, [] => by rw [WN]; rfl
 | x :: xs, y :: ys => by
  simp only [rdot]
  rw [QB xs ys]
  grind
theorem zfv {D : Nat} {q w : List Rat} {b : Rat} (h : Pts D k ps q) {ts : List Rat} (lt : ts.length = ps.length) (nn : ∀ t ∈ ts, 0 <= t) (one : rdot ts (ps.map fun _ => (1 : Rat)) = 1) (is : mixL ps ts k = q) (le : ∀ p ∈ ps, rdot w p <= b) (gt : b < rdot w q) : False := by
 rw [<- is, QB, JP ps ts h.len] at gt
 have a := zax (b := b) ts (ps.map fun p => rdot p w) (by simp [lt]) nn fun x hx => by
  obtain ⟨p, hp, rfl⟩ := List.mem_map.mp hx
  rw [QB]; exact le p hp
 rw [List.map_map] at a
 have e : (ps.map ((fun _ => (1 : Rat)) ∘ fun p => rdot p w)) = ps.map fun _ => (1 : Rat) := rfl
 rw [e, one] at a
 grind
theorem zeF {D : Nat} {q : List Rat} (h : Pts D k ps q) {g0 g1 g2 g5 : PyData} {s7 : Sl} (kn : Bool) (hk : kn = true -> ∃ ts : List Rat, ts.length = ps.length /\ (∀ t ∈ ts, 0 <= t) /\ rdot ts (ps.map fun _ => (1 : Rat)) = 1 /\ mixL ps ts k = q) :
  za2 [.val g0, .val g1, .val g2, .val (.list (ps.map ptL)), .val (.list (q.map fr)), .val g5, .val (.bool kn), s7, .emp, .emp] = .ok (.rt (.bool true)) := by
 have n8 := h.n8
 have k3 := h.k3
 have d1 := h.d1
 obtain ⟨r, t, e⟩ := told_ok h
 have sp : ∀ p ∈ ps, ∀ x ∈ p, Sz 15 x := fun p hp => (h.pk p hp).sz (by decide) (by decide) (by decide)
 have sq : ∀ x ∈ q, Sz 15 x := h.pq.sz h.d0 (by omega) (by decide)
 have cp := ZX (st := Zt 0) (e := dL (zaI (dVar 0))) (C := [.emp]) ptL ptL ps fun p _ => ⟨[.val (ptL p)], rfl, by simp [ptL]⟩
 have lp : (ps.map ptL).length <= 16777216 := by simp; omega
 have ne := pts_same ps
 have a0 : ∀ x y : PyData, atP [x, y] 0 = some x := fun _ _ => rfl
 have a1 : ∀ x y : PyData, atP [x, y] 1 = some y := fun _ _ => rfl
 have b0 : ∀ x y z : PyData, atP [x, y, z] 0 = some x := fun _ _ _ => rfl
 have b1 : ∀ x y z : PyData, atP [x, y, z] 1 = some y := fun _ _ _ => rfl
 have b2 : ∀ x y z : PyData, atP [x, y, z] 2 = some z := fun _ _ _ => rfl
 have s1 : fEq (.str "mix") (.str "mix") = .ok (.bool true) := by rw [zdC (by decide +kernel) (by decide +kernel)]; rfl
 have s2 : fEq (.str "split") (.str "mix") = .ok (.bool false) := by rw [zdC (by decide +kernel) (by decide +kernel)]; rfl
 have s3 : fNe (.str "split") (.str "split") = .ok (.bool false) := by
  have sh : Shp 0 (.str "split") := ⟨(show PyData.canLay0 (.str "split") = PyData.strOk "split" by simp [PyData.canLay0]).trans (by decide +kernel), by simp [PyData.depth]⟩
  unfold fNe
  simp [sh.ok (by decide), Uu _ sh.1]
 cases t with
 | @mix ts len nn one is sz =>
  have im := zfM ⟨h.k1, h.k3, h.n1, h.n8, h.len, sp, len, sz, by decide⟩ h.lq nn one is
  generalize ps.map ptL = P at *
  generalize q.map fr = Q at *
  generalize ts.map fr = TT at *
  simp [za2, zcI, za5, za4, lp, cp, e, ne, a0, a1, s1, V6, im]
 | @split w b len sw sb le gt =>
  have hkn : kn = false := by
   cases kn with
   | false => rfl
   | true =>
    obtain ⟨ts, t1, t2, t3, t4⟩ := hk rfl
    exact (zfv h t1 t2 t3 t4 le gt).elim
  subst hkn
  have im := zcx len (by omega) sw sb h.lq sq (fun p hp => ⟨h.len p hp, sp p hp, le p hp⟩) gt
  have n3 := zcz 3 3
  generalize ps.map ptL = P at *
  generalize q.map fr = Q at *
  generalize w.map fr = TT at *
  simp [za2, zcI, za5, za4, zdM, zdL, lp, cp, e, ne, b0, b1, b2, s2, s3, n3, im]
theorem cut_one (xs : List PyData) : cutT xs (some 1) none = xs.drop 1 := by
 unfold cutT
 simp only [sIxT]
 rw [if_neg (by decide)]
 cases xs with
 | nil => rfl
 | cons x xs => simp
theorem Jl (ns : List Int) : ∀ ks : List Nat, ∃ as : List Nat, as.length = ks.length /\ (∀ a ∈ as, a <= 3) /\ Yx (Zt 0) tT (d2 fMod (Zk Zr (Zc (dVar 1) (Zc (d2 fAdd (dC (.int 40)) (dVar 0)) dNil))) (dC (.int 4))) [.emp, .val (.list (ns.map .int))] (ks.map fun (k : Nat) => PyData.int (k : Int)) = .ok (as.map fun (a : Nat) => PyData.int (a : Int))
 | [] => ⟨[], rfl, fun a ha => absurd ha List.not_mem_nil, rfl⟩
 | k :: ks => by
  obtain ⟨as, h1, h2, e⟩ := Jl ns ks
  obtain ⟨c, e1⟩ := Uh ns (40 + (k : Int)) (by omega)
  obtain ⟨a, ma, ha⟩ : ∃ r : Nat, Int.fmod c 4 = (r : Int) /\ r < 4 := zdk (n := 4) (by decide)
  refine ⟨a :: as, by simp [h1], fun x hx => ?_, ?_⟩
  ·rcases List.mem_cons.mp hx with rfl | hx
   ·omega
   ·exact h2 x hx
  ·rw [List.map_cons]
   unfold Yx
   simp [e1, ma, e]
theorem zeL : ∀ as : List Nat, sumT (as.map fun (a : Nat) => PyData.int (a : Int)) = .ok ((as.sum : Nat) : Int)
 | [] => rfl
 | a :: as => by simp [sumT, zeL as]
theorem zc0 : ∀ {as : List Nat}, (∀ a ∈ as, a <= 3) -> as.sum <= 3 * as.length
 | [], _ => by simp
 | a :: as, h => by
  have := zc0 (as := as) fun x hx => h x (List.mem_cons_of_mem _ hx)
  have := h a List.mem_cons_self
  simp only [List.sum_cons, List.length_cons]
  omega
def part (S : Nat) (as : List Nat) : List Rat := as.map fun (a : Nat) => Rat.divInt (a : Int) (S : Int)
theorem zdf {S a : Nat} (h : 0 < S) : Rat.divInt (a : Int) (S : Int) * (S : Rat) = (a : Rat) := by
 have hne : ((S : Int) : Rat) ≠ 0 := fun z => by
  have : (S : Int) = 0 := by exact_mod_cast z
  omega
 rw [Rat.divInt_eq_div]
 exact Rat.div_mul_cancel hne
theorem part_nn {S : Nat} (h : 0 < S) {as : List Nat} : ∀ t ∈ part S as, 0 <= t := fun t ht => by
 obtain ⟨a, _, rfl⟩ := List.mem_map.mp ht
 exact (Rat.divInt_nonneg_iff_of_pos_right (by omega)).mpr (by omega)
theorem zde {S : Nat} (h : 0 < S) : ∀ as : List Nat, rdot (part S as) (as.map fun _ => (1 : Rat)) * (S : Rat) = ((as.sum : Nat) : Rat)
 | [] => by simp [part, rdot]
 | a :: as => by
  have ih := zde h as
  have e := zdf (a := a) h
  show (Rat.divInt (a : Int) (S : Int) * 1 + rdot (part S as) (as.map fun _ => (1 : Rat))) * (S : Rat) = _
  rw [List.sum_cons]
  push_cast
  grind
theorem JM {S : Nat} (h : 0 < S) : ∀ (as : List Nat) (xs : List Rat), (∀ x ∈ xs, ∃ z : Int, x * 60 = (z : Rat)) -> ∃ z : Int, rdot (part S as) xs * (60 * (S : Rat)) = (z : Rat)
 | [], xs, _ => ⟨0, by simp [part, rdot]⟩
 | a :: as, [], _ => ⟨0, by simp [part, rdot]⟩
 | a :: as, x :: xs, hx => by
  obtain ⟨z, ih⟩ := JM h as xs fun x hm => hx x (List.mem_cons_of_mem _ hm)
  obtain ⟨y, ey⟩ := hx x List.mem_cons_self
  have e := zdf (a := a) h
  refine ⟨(a : Int) * y + z, ?_⟩
  show (Rat.divInt (a : Int) (S : Int) * x + rdot (part S as) xs) * (60 * (S : Rat)) = _
  push_cast
  have : Rat.divInt (a : Int) (S : Int) * x * (60 * (S : Rat)) = (a : Rat) * (y : Rat) := by
   rw [<- ey, <- e]
   grind
  grind
theorem law_ok (ns : List Int) (_hl : ns.length <= 63) : zcy [.list (ns.map .int)] = .ok (.bool true) := by
 obtain ⟨c0, e0⟩ := Uh ns 0 (by omega)
 obtain ⟨c1, e1⟩ := Uh ns 1 (by omega)
 obtain ⟨c3, e3⟩ := Uh ns 3 (by omega)
 obtain ⟨c4, e4⟩ := Uh ns 4 (by omega)
 obtain ⟨a, ma, ha⟩ : ∃ r : Nat, Int.fmod c0 3 = (r : Int) /\ r < 3 := zdk (n := 3) (by decide)
 obtain ⟨b, mb, hb⟩ : ∃ r : Nat, Int.fmod c1 5 = (r : Int) /\ r < 5 := zdk (n := 5) (by decide)
 obtain ⟨m, hm1, hm8, em⟩ : ∃ m : Nat, 1 <= m /\ m <= 8 /\ ∀ t, U0 [.val (.list (ns.map .int)), .val (.int (1 + (a : Int))), .val (.int m), .emp, .emp, .emp, .emp, .emp, .emp, .emp] = .ok (.rt t) -> zcy [.list (ns.map .int)] = .ok t := by
  by_cases z : Int.fmod c3 6 = 5
  ·exact ⟨8, by decide, by decide, fun t ht => by
    have ht' : U0 [.val (.list (ns.map .int)), .val (.int (1 + (a : Int))), .val (.int 8), .emp, .emp, .emp, .emp, .emp, .emp, .emp] = .ok (.rt t) := ht
    simp [zcy, d_law, zcN, zcM, runQ, runF, e0, e1, e3, ma, mb, V6, z, ht']⟩
  ·exact ⟨1 + b, by omega, by omega, fun t ht => by
    push_cast at ht
    simp [zcy, d_law, zcN, zcM, runQ, runF, e0, e1, e3, ma, mb, V6, z, ht]⟩
 refine em _ ?_
 obtain ⟨ps, hn, hps, ep⟩ := zbC ns (1 + a) m (by omega) (by omega)
 obtain ⟨qs, hq1, hqs, eq⟩ := zbC (ns.drop 1) (1 + a) 1 (by omega) (by omega)
 obtain ⟨q0, rfl⟩ : ∃ q0, qs = [q0] := by
  cases qs with
  | nil => simp at hq1
  | cons q0 r => cases r with
   | nil => exact ⟨q0, rfl⟩
   | cons x r => simp at hq1
 obtain ⟨hq0, pq0⟩ := hqs q0 List.mem_cons_self
 obtain ⟨as, ha1, ha3, ea⟩ := Jl ns (List.range m)
 rw [<- We] at ea
 have hal : as.length = m := by simpa using ha1
 push_cast at ep eq
 have hd : (ns.map PyData.int).drop 1 = (ns.drop 1).map PyData.int := by rw [List.map_drop]
 have hcut := cut_one (ns.map PyData.int)
 rw [hd] at hcut
 have hr : Xz (m : Int) = true := ZP (by omega)
 have hl : (rngT 0 m).length <= 16777216 := by rw [Xd]; omega
 have at0q : atP [ptL q0] 0 = some (ptL q0) := rfl
 have sm := zeL as
 -- known?
 have top : ∀ t, za3 [.val (.list (ns.map .int)), .val (.int (1 + (a : Int))), .val (.int m), .val (.list (ps.map ptL)), .val (.list (q0.map fr)), .val (.list (as.map fun (a : Nat) => PyData.int (a : Int))), .val (.bool (decide (Int.fmod c4 2 = 1) && decide (0 < ((as.sum : Nat) : Int)))), .emp, .emp, .emp] = .ok (.rt t) ->
   U0 [.val (.list (ns.map .int)), .val (.int (1 + (a : Int))), .val (.int m), .emp, .emp, .emp, .emp, .emp, .emp, .emp] = .ok (.rt t) := fun t ht => by
  generalize (as.map fun (a : Nat) => PyData.int (a : Int)) = AS at *
  generalize ps.map ptL = P at *
  simp only [List.map_cons, List.map_nil, ptL] at eq at0q
  generalize q0.map fr = Q at *
  generalize (ns.drop 1).map PyData.int = N1 at *
  by_cases z : Int.fmod c4 2 = 1
  ·simp [z] at ht
   simp [U0, zcL, zcK, zcJ, ep, hcut, eq, at0q, hr, hl, ea, e4, V6, z, fSum, sm, ht]
  ·simp [z] at ht
   simp [U0, zcL, zcK, zcJ, ep, hcut, eq, at0q, hr, hl, ea, e4, V6, z, ht]
 refine top _ ?_
 have len : ∀ p ∈ ps, p.length = 1 + a := fun p hp => (hps p hp).1
 have pk : ∀ p ∈ ps, Pk 60 12 p := fun p hp => (hps p hp).2
 cases hkn : (decide (Int.fmod c4 2 = 1) && decide (0 < ((as.sum : Nat) : Int))) with
 | false =>
  have P0 : Pts 60 (1 + a) ps q0 := ⟨by omega, by omega, by omega, by omega, by decide, by decide, len, pk, hq0, pq0⟩
  have tl := zeF P0 (g0 := .list (ns.map .int)) (g1 := .int (1 + (a : Int))) (g2 := .int m) (g5 := .list (as.map fun (a : Nat) => PyData.int (a : Int))) (s7 := .emp) false fun z => by cases z
  generalize (as.map fun (a : Nat) => PyData.int (a : Int)) = AS at *
  generalize ps.map ptL = P at *
  generalize q0.map fr = Q at *
  simp [za3, tl]
 | true =>
  have S0 : 0 < as.sum := by
   rw [Bool.and_eq_true] at hkn
   have := of_decide_eq_true hkn.2
   omega
  have S24 : as.sum <= 24 := by
   have := zc0 ha3
   omega
  have lt : (part as.sum as).length = ps.length := by simp [part, hal, hn]
  have st : ∀ t ∈ part as.sum as, Sz 10 t := fun t ht => by
   obtain ⟨x, hx, rfl⟩ := List.mem_map.mp ht
   have := ha3 x hx
   exact XE (by omega) (by rw [Int.natAbs_natCast]; omega) (by rw [Int.natAbs_natCast]; omega)
  have sp : ∀ p ∈ ps, ∀ x ∈ p, Sz 15 x := fun p hp => (pk p hp).sz (by decide) (by decide) (by decide)
  have SH : Sh (1 + a) 10 ps (part as.sum as) := ⟨by omega, by omega, by omega, by omega, len, sp, lt, st, by decide⟩
  have one : rdot (part as.sum as) (ps.map fun _ => (1 : Rat)) = 1 := by
   have e := zde S0 as
   have e2 : (as.map fun _ => (1 : Rat)) = ps.map fun _ => (1 : Rat) := by rw [List.map_const', List.map_const', hal, hn]
   rw [e2] at e
   have hne : ((as.sum : Nat) : Rat) ≠ 0 := fun z => by
    have : ((as.sum : Nat) : Int) = 0 := by exact_mod_cast z
    omega
   have : (rdot (part as.sum as) (ps.map fun _ => (1 : Rat)) - 1) * ((as.sum : Nat) : Rat) = 0 := by grind
   rcases Rat.mul_eq_zero.mp this with z | z
   ·grind
   ·exact absurd z hne
  have nn := part_nn S0 (as := as)
  have pm : Pk (60 * as.sum) 12 (mixL ps (part as.sum as) (1 + a)) := by
   refine ⟨fun q hq => ?_, fun q hq => ?_, fun q hq => ?_⟩
   all_goals obtain ⟨i, hi, rfl⟩ := List.mem_map.mp hq
   all_goals have hi' := List.mem_range.mp hi
   all_goals have inp : ∀ p ∈ ps, p.getD i 0 ∈ p := fun p hp => by rw [<- ZI (show i < p.length by rw [len p hp]; exact hi')]; exact List.getElem_mem _
   ·obtain ⟨z, ez⟩ := JM S0 as (colR i ps) fun x hx => by
     obtain ⟨p, hp, rfl⟩ := List.mem_map.mp hx
     exact (pk p hp).z _ (inp p hp)
    refine ⟨z, ?_⟩
    rw [<- ez]
    push_cast
    rfl
   ·have l := zax (b := 12) (part as.sum as) ((colR i ps).map fun x => -x) (by simp [colR, lt]) nn fun x hx => by
     obtain ⟨y, hy, rfl⟩ := List.mem_map.mp hx
     obtain ⟨p, hp, rfl⟩ := List.mem_map.mp hy
     have := (pk p hp).lo _ (inp p hp)
     push_cast at this
     grind
    rw [zc9] at l
    have e2 : (((colR i ps).map fun x => -x).map fun _ => (1 : Rat)) = ps.map fun _ => (1 : Rat) := by simp [colR, List.map_map, Function.comp_def]
    rw [e2, one] at l
    push_cast
    grind
   ·have l := zax (b := 12) (part as.sum as) (colR i ps) (by simp [colR, lt]) nn fun x hx => by
     obtain ⟨p, hp, rfl⟩ := List.mem_map.mp hx
     have := (pk p hp).hi _ (inp p hp)
     push_cast at this
     exact this
    have e2 : ((colR i ps).map fun _ => (1 : Rat)) = ps.map fun _ => (1 : Rat) := by simp [colR, List.map_map, Function.comp_def]
    rw [e2, one] at l
    push_cast
    grind
  have P1 : Pts (60 * as.sum) (1 + a) ps (mixL ps (part as.sum as) (1 + a)) := ⟨by omega, by omega, by omega, by omega, by omega, by omega, len, pk, by simp [mixL], pm⟩
  have tl := zeF P1 (g0 := .list (ns.map .int)) (g1 := .int (1 + (a : Int))) (g2 := .int m) (g5 := .list (as.map fun (a : Nat) => PyData.int (a : Int))) (s7 := .val (.list ((part as.sum as).map fr))) true fun _ => ⟨_, lt, nn, one, rfl⟩
  have mo := mix_ok SH
  have ml := zdl SH
  push_cast at ml
  have ef := ZX (st := Zt 0) (e := (Zk Yg (Zc (dVar 0) (Zc (d1 fSum (dVar 1)) dNil)))) (C := [.emp, .val (.list (as.map fun (a : Nat) => PyData.int (a : Int)))]) (fun (a : Nat) => PyData.int (a : Int)) (fun (x : Nat) => fr (Rat.divInt (x : Int) ((as.sum : Nat) : Int))) as fun x hx => ⟨[.val (.int x), .val (.list (as.map fun (a : Nat) => PyData.int (a : Int)))], rfl, by
   have f := zaQ (u := (x : Int)) (l := ((as.sum : Nat) : Int)) (n := 10) (by omega) (by rw [Int.natAbs_natCast]; omega) (by decide)
   generalize (as.map fun (a : Nat) => PyData.int (a : Int)) = AS at *
   simp [fSum, sm, f]⟩
  have e9 : (as.map fun (x : Nat) => fr (Rat.divInt (x : Int) ((as.sum : Nat) : Int))) = (part as.sum as).map fr := by simp [part, List.map_map, Function.comp_def]
  rw [e9] at ef
  have cp := ZX (st := Zt 0) (e := dL (zaI (dVar 0))) (C := [.emp]) ptL ptL ps fun p _ => ⟨[.val (ptL p)], rfl, by simp [ptL]⟩
  have lp : (ps.map ptL).length <= 16777216 := by simp; omega
  have lA : (as.map fun (a : Nat) => PyData.int (a : Int)).length <= 16777216 := by simp; omega
  have ls := (zbO (mixL ps (part as.sum as) (1 + a))).2
  generalize (as.map fun (a : Nat) => PyData.int (a : Int)) = AS at *
  generalize ps.map ptL = P at *
  generalize (mixL ps (part as.sum as) (1 + a)).map fr = Q1 at *
  generalize (part as.sum as).map fr = TT at *
  simp [za3, lA, ef, ml, lp, cp, mo, ls, tl]
end
end K14
namespace K14
open PySem PySem.Spec PyProof.Rows L2 Fx Lw Lq
variable {P : Program} {w : World} {K : PySem.W.Frag} {mg : Str -> Option Value} {base : Heap} {k : Nat} {fa : Addr} {fd : FuncData}
set_option maxHeartbeats 0
set_option smartUnfolding false
def top (i : Nat) : Stmt := PySem.Challenge.pw_limitdesk_k14_whole_mixes.main.body.getD i (.Pass ⟨0, 0, 0, 0⟩)
def inClass (st : Stmt) (i : Nat) : Stmt := match st with | .ClassDef _ _ _ body _ _ _ _ _ _ _ => body.getD i (.Pass ⟨0, 0, 0, 0⟩) | st => st
abbrev Y5 : Stmt := inClass (top 15) 0
theorem zat : FnScope ["self", "heads", "divisor", "rows"] ["self", "heads", "divisor", "rows"] (Zd Y5) := ⟨rfl, rfl, rfl, by decide +kernel, rfl, by decide +kernel, by decide +kernel⟩
theorem zaG {P : Program} {w : World} {K : PySem.W.Frag} {mg : Str -> Option Value} {base : Heap} {f C : Addr} {fd : FuncData} (F : Fun K "__init__" "Board.__init__" Y5 f fd) (cl : Cls K C) (n0 : Wl K C "heads") (n1 : Wl K C "divisor") (n2 : Wl K C "rows") : FnOk P w K mg base CX0 1 f fd ["self", "heads", "divisor", "rows"] (Fx.spI C ["heads", "divisor", "rows"]) := by
 refine F.ok zat (fun vs H Q E h => Fx.spI_len h) fun cdv A outer s H vs Q E hr h => ⟨_, zay (zfi (pv 0) (pv 1) rfl) (zay (zfi (pv 0) (pv 2) rfl) (zfh (zfi (pv 0) (pv 3) rfl))), ?_⟩
 obtain ⟨x, dx, u1, u2, u3, rfl, hp, k⟩ := Fx.spI3 h
 refine ⟨_, rfl, _, rfl, x, C, dx, [], rfl, hp, cl, n0, (by show 0 < 1000; decide), _, rfl, _, rfl, x, C, dx, _, rfl, Zp, cl, n1, (by show 1 < 1000; decide), _, rfl, _, rfl, x, C, dx, _, rfl, Zp, cl, n2, (by show 2 < 1000; decide), ?_⟩
 rw [zeA, zeA, Fx.putF3 (by decide +kernel) (by decide +kernel) (by decide +kernel)]
 exact k
abbrev XY : Stmt := top 5
theorem zcg : FnScope ["value"] ["value"] (Zd XY) := ⟨rfl, rfl, rfl, by decide +kernel, rfl, by decide +kernel, by decide +kernel⟩
theorem zcs (F : Fun K "is_whole" "is_whole" XY fa fd) (hm : mg "is_whole" = some (.ref fa)) (b : ZF K fd ["value"] []) (z_isinstance : mg "isinstance" = none) (z_int : mg "int" = none) (z_bool : mg "bool" = none) :
  Fx.Cle P w K mg base (k + 1) "is_whole" 1 Yu := by
 exact Zz F hm b zcg rfl rfl fun cdv A outer s H E hr =>
  (Zi (Zn (QW (Yo zfG (show bootBuiltins "int" = some (.type "int") by decide +kernel) rfl z_isinstance rfl z_int (Za 0)) (U7 (Fx.ev_not (Yo zdp (show bootBuiltins "bool" = some (.type "bool") by decide +kernel) rfl z_isinstance rfl z_bool (Za 0)))))))
abbrev Z6 : Stmt := top 6
theorem Z2 : FnScope ["a", "b", "rest"] ["a", "b"] (Zd Z6) := ⟨rfl, rfl, rfl, by decide +kernel, rfl, by decide +kernel, by decide +kernel⟩
theorem UW (F : Fun K "common_divisor" "common_divisor" Z6 fa fd) (hm : mg "common_divisor" = some (.ref fa)) (b : ZF K fd ["a", "b"] []) (z_abs : mg "abs" = none) :
  Fx.Cle P w K mg base (k + 1) "common_divisor" 2 ZE := by
 exact Zz F hm b Z2 rfl rfl fun cdv A outer s H E hr =>
  (Zf (Zq (i := 0) Z2.nd rfl (Or.inl rfl) (JV rfl z_abs (Za 0)))
  (Zf (Zq (i := 1) Z2.nd rfl (Or.inl rfl) (JV rfl z_abs (Za 1)))
  (Zf (Ql PassesOwn.never (ZV (W2 hr.units) (Za 1) Ze (Zy _))
  (Zf (Zq (i := 2) Z2.nd rfl (Or.inl rfl) (ZB X4 (Za 0) (Za 1)))
  (Zf (Zq (i := 0) Z2.nd rfl (Or.inl rfl) (Za 1))
  (Zi (Zq (i := 1) Z2.nd rfl (Or.inl rfl) (Za 2))))))
  (Zi (Zn (Za 0))))))
abbrev YC : Stmt := top 7
theorem Ju : FnScope ["value"] ["value"] (Zd YC) := ⟨rfl, rfl, rfl, by decide +kernel, rfl, by decide +kernel, by decide +kernel⟩
theorem Jz (F : Fun K "is_fraction" "is_fraction" YC fa fd) (hm : mg "is_fraction" = some (.ref fa)) (b : ZF K fd ["value"] []) (z_isinstance : mg "isinstance" = none) (z_tuple : mg "tuple" = none) (z_len : mg "len" = none) (C_is_whole : Fx.Cle P w K mg base k "is_whole" 1 Yu) (C_common_divisor : Fx.Cle P w K mg base k "common_divisor" 2 ZE) :
  Fx.Cle P w K mg base (k + 1) "is_fraction" 1 YH := by
 exact Zz F hm b Ju rfl rfl fun cdv A outer s H E hr =>
  (Zf (Yj (Fx.tv_w (Va (Xa (Yv (Yo QK (show bootBuiltins "tuple" = some (.type "tuple") by decide +kernel) rfl z_isinstance rfl z_tuple (Za 0)) (fun _ => rfl))) (Wr (ZV (W2 hr.units) (ZW rfl z_len (Za 0)) Ze (Zy _)))))
  (Zi (Zn VI))
  ZJ)
  (Zf (Yj (Fx.tv_w (Va (Xa (Yv (Zh (Fx.Cle.cal C_is_whole) hr rfl (Zb (Zo (Za 0) Ze (fun _ _ => rfl)) Zg)) (fun _ => rfl))) (Wr (Xa (Yv (Zh (Fx.Cle.cal C_is_whole) hr rfl (Zb (Zo (Za 0) Ze (fun _ _ => rfl)) Zg)) (fun _ => rfl))))))
  (Zi (Zn VI))
  ZJ)
  (Zi (Zn (QW (WC Fx.op_geF (Zo (Za 0) Ze (fun _ _ => rfl)) Ze (Zy _)) (U7 (WC (W3 hr.units) (Zh (Fx.Cle.cal C_common_divisor) hr rfl (Zb (Zo (Za 0) Ze (fun _ _ => rfl)) (Zb (Zo (Za 0) Ze (fun _ _ => rfl)) Zg))) Ze (Zy _))))))))
abbrev JJ : Stmt := top 8
theorem zch : FnScope ["upper", "lower", "divisor"] ["upper", "lower"] (Zd JJ) := ⟨rfl, rfl, rfl, by decide +kernel, rfl, by decide +kernel, by decide +kernel⟩
theorem ok_frac (F : Fun K "frac" "frac" JJ fa fd) (hm : mg "frac" = some (.ref fa)) (b : ZF K fd ["upper", "lower"] []) (C_common_divisor : Fx.Cle P w K mg base k "common_divisor" 2 ZE) :
  Fx.Cle P w K mg base (k + 1) "frac" 2 YJ := by
 exact Zz F hm b zch rfl rfl fun cdv A outer s H E hr =>
  (Zf (Yj (ZV (W3 hr.units) (Za 1) Ze (Zy _))
  (Zi WJ)
  ZJ)
  (Zf (Zq (i := 2) zch.nd rfl (Or.inl rfl) (Zh (Fx.Cle.cal C_common_divisor) hr rfl (Zb (Za 0) (Zb (Za 1) Zg))))
  (Zf (Yj (ZV Wh (Za 1) Ze (Zy _))
  (Zi (Zq (i := 2) zch.nd rfl (Or.inl rfl) (XD (Za 2))))
  ZJ)
  (Zi (Zn (Y8 (Zb (ZB Vg (Za 0) (Za 2)) (Zb (ZB Vg (Za 1) (Za 2)) Zg))))))))
abbrev JI : Stmt := top 9
theorem sc_plus : FnScope ["a", "b"] ["a", "b"] (Zd JI) := ⟨rfl, rfl, rfl, by decide +kernel, rfl, by decide +kernel, by decide +kernel⟩
theorem ok_plus (F : Fun K "plus" "plus" JI fa fd) (hm : mg "plus" = some (.ref fa)) (b : ZF K fd ["a", "b"] []) (C_frac : Fx.Cle P w K mg base k "frac" 2 YJ) :
  Fx.Cle P w K mg base (k + 1) "plus" 2 JT := by
 exact Zz F hm b sc_plus rfl rfl fun cdv A outer s H E hr =>
  (Zi (Zn (Zh (Fx.Cle.cal C_frac) hr rfl (Zb (ZB YM (ZB ZZ (Zo (Za 0) Ze (fun _ _ => rfl)) (Zo (Za 1) Ze (fun _ _ => rfl))) (ZB ZZ (Zo (Za 1) Ze (fun _ _ => rfl)) (Zo (Za 0) Ze (fun _ _ => rfl)))) (Zb (ZB ZZ (Zo (Za 0) Ze (fun _ _ => rfl)) (Zo (Za 1) Ze (fun _ _ => rfl))) Zg)))))
abbrev UQ : Stmt := top 10
theorem sc_times : FnScope ["a", "b"] ["a", "b"] (Zd UQ) := ⟨rfl, rfl, rfl, by decide +kernel, rfl, by decide +kernel, by decide +kernel⟩
theorem ok_times (F : Fun K "times" "times" UQ fa fd) (hm : mg "times" = some (.ref fa)) (b : ZF K fd ["a", "b"] []) (C_frac : Fx.Cle P w K mg base k "frac" 2 YJ) :
  Fx.Cle P w K mg base (k + 1) "times" 2 WS := by
 exact Zz F hm b sc_times rfl rfl fun cdv A outer s H E hr =>
  (Zi (Zn (Zh (Fx.Cle.cal C_frac) hr rfl (Zb (ZB ZZ (Zo (Za 0) Ze (fun _ _ => rfl)) (Zo (Za 1) Ze (fun _ _ => rfl))) (Zb (ZB ZZ (Zo (Za 0) Ze (fun _ _ => rfl)) (Zo (Za 1) Ze (fun _ _ => rfl))) Zg)))))
abbrev YE : Stmt := top 13
theorem Jv : FnScope ["kinds", "point"] ["kinds", "point"] (Zd YE) := ⟨rfl, rfl, rfl, by decide +kernel, rfl, by decide +kernel, by decide +kernel⟩
theorem JB (F : Fun K "check_point" "check_point" YE fa fd) (hm : mg "check_point" = some (.ref fa)) (b : ZF K fd ["kinds", "point"] []) (z_isinstance : mg "isinstance" = none) (z_list : mg "list" = none) (z_len : mg "len" = none) (z_all : mg "all" = none) (C_is_fraction : Fx.Cle P w K mg base k "is_fraction" 1 YH) :
  Fx.Cle P w K mg base (k + 1) "check_point" 2 Z0 := by
 exact Zz F hm b Jv rfl rfl fun cdv A outer s H E hr =>
  (Zf (Yj (Fx.tv_w (Va (Xa (Yv (Yo Us (show bootBuiltins "list" = some (.type "list") by decide +kernel) rfl z_isinstance rfl z_list (Za 1)) (fun _ => rfl))) (Wr (ZV (W2 hr.units) (ZW rfl z_len (Za 1)) (Za 0) (Zy _)))))
  (Zi WJ)
  ZJ)
  (Zi (Yj (Xa (Yv (Fx.ev_all rfl z_all (YK (Xt (N := ["amount"]) (nv := 1) (cap := []) (YS rfl) rfl (ZN (by decide)) (Y6 (Za 1)) ZO (fun _ _ _ _ => (ZC (i := 0) (show List.Nodup (["amount"] : List Str) from by decide +kernel) rfl (Or.inl rfl))) (fun _ _ _ _ _ => Yi) (fun _ _ _ _ _ => (Zh (Fx.Cle.cal C_is_fraction) hr rfl (Zb (Za 0) Zg)))))) (fun _ => rfl)))
  (Zi WJ)
  ZJ)))
abbrev JG : Stmt := top 16
theorem ze2 : FnScope ["length", "place", "numbers"] ["length", "place"] (Zd JG) := ⟨rfl, rfl, rfl, by decide +kernel, rfl, by decide +kernel, by decide +kernel⟩
theorem ok_unit (F : Fun K "unit" "unit" JG fa fd) (hm : mg "unit" = some (.ref fa)) (b : ZF K fd ["length", "place"] []) :
  Fx.Cle P w K mg base (k + 1) "unit" 2 JS := by
 exact Zz F hm b ze2 rfl rfl fun cdv A outer s H E hr =>
  (Zf (UP (i := 2) ze2.nd rfl (Or.inl rfl) (zfq (zbE (Zb Ze Zg)) (Za 0)))
  (Zf (Uk (i := 2) rfl (Za 1) Ze)
  (Zi (Zn (Za 2)))))
abbrev XV : Stmt := top 17
theorem zce : FnScope ["limit"] ["limit"] (Zd XV) := ⟨rfl, rfl, rfl, by decide +kernel, rfl, by decide +kernel, by decide +kernel⟩
theorem zcp (F : Fun K "room_row" "room_row" XV fa fd) (hm : mg "room_row" = some (.ref fa)) (b : ZF K fd ["limit"] []) :
  Fx.Cle P w K mg base (k + 1) "room_row" 1 X0 := by
 exact Zz F hm b zce rfl rfl fun cdv A outer s H E hr =>
  (Zi (Zn (ZB YM (YK (Xt (N := ["number"]) (nv := 1) (cap := []) (YS rfl) rfl (ZN (by decide)) (Y6 (Zo (Za 0) Ze (fun _ _ => rfl))) ZO (fun _ _ _ _ => (ZC (i := 0) (show List.Nodup (["number"] : List Str) from by decide +kernel) rfl (Or.inl rfl))) (fun _ _ _ _ _ => Yi) (fun _ _ _ _ _ => (XD (Za 0))))) (zbT (Zb (Zo (Za 0) Ze (fun _ _ => rfl)) Zg)))))
abbrev YD : Stmt := top 18
theorem Xy : FnScope ["desk", "goal", "kinds", "amounts", "rooms"] ["desk", "goal"] (Zd YD) := ⟨rfl, rfl, rfl, by decide +kernel, rfl, by decide +kernel, by decide +kernel⟩
theorem JA (F : Fun K "first_board" "first_board" YD fa fd) (hm : mg "first_board" = some (.ref fa)) (b : ZF K fd ["desk", "goal"] []) (z_range : mg "range" = none) (z_list : mg "list" = none) (C_unit : Fx.Cle P w K mg base (k + 2) "unit" 2 JS) (C_room_row : Fx.Cle P w K mg base (k + 2) "room_row" 1 X0) (M_Board : Fx.Mko P w K mg base (k + 1) "Board" ["heads", "divisor", "rows"]) :
  Fx.Cle P w K mg base (k + 2 + 1) "first_board" 2 YI := by
 exact Zz F hm b Xy rfl rfl fun cdv A outer s H E hr =>
  (Zf (Zq (i := 2) Xy.nd rfl (Or.inr rfl) (Zo (Za 0) Ze (fun _ _ => rfl)))
  (Zf (VY (N := ["kind", "kinds"]) (nv := 1) (cap := [2]) (i := 3) (YS rfl) rfl (ZN (by decide)) (YT rfl z_range (Za 2)) ZO (fun _ _ _ _ => (ZC (i := 0) (show List.Nodup (["kind", "kinds"] : List Str) from by decide +kernel) rfl (Or.inl rfl))) (fun _ _ _ _ _ => Yi) (fun _ _ _ _ _ => (Zh (Fx.Cle.cal C_unit) hr rfl (Zb (ZB YM (Za 1) Ze) (Zb (Za 0) Zg)))) Xy.nd rfl (Or.inl rfl))
  (Zf (VY (N := ["limit"]) (nv := 1) (cap := []) (i := 4) (YS rfl) rfl (ZN (by decide)) (Y6 (Zo (Za 0) Ze (fun _ _ => rfl))) ZO (fun _ _ _ _ => (ZC (i := 0) (show List.Nodup (["limit"] : List Str) from by decide +kernel) rfl (Or.inl rfl))) (fun _ _ _ _ _ => Yi) (fun _ _ _ _ _ => (Zh (Fx.Cle.cal C_room_row) hr rfl (Zb (Za 0) Zg))) Xy.nd rfl (Or.inl rfl))
  (Zi (Zn (zfZ M_Board hr rfl (Zb (YK (Fx.ov_rng1 rfl z_list rfl z_range (Za 2))) (Zb Ze (Zb (ZB YM (ZB YM (Za 3) (Za 4)) (zbT (Zb (ZB YM (Za 1) (zbT (Zb Ze Zg))) Zg))) Zg)))))))))
abbrev XU : Stmt := top 19
theorem zcd : FnScope ["board"] ["board"] (Zd XU) := ⟨rfl, rfl, rfl, by decide +kernel, rfl, by decide +kernel, by decide +kernel⟩
theorem zco (F : Fun K "rooms_of" "rooms_of" XU fa fd) (hm : mg "rooms_of" = some (.ref fa)) (b : ZF K fd ["board"] []) (z_list : mg "list" = none) (z_range : mg "range" = none) (z_len : mg "len" = none) :
  Fx.Cle P w K mg base (k + 1) "rooms_of" 1 Z7 := by
 exact Zz F hm b zcd rfl rfl fun cdv A outer s H E hr =>
  (Zi (Zn (YK (Fx.ov_rng2 rfl z_list rfl z_range (ZW rfl z_len (Yb (Za 0))) (ZB V3 (ZW rfl z_len (Yb (Za 0))) Ze)))))
abbrev XT : Stmt := top 20
theorem zcc : FnScope ["board"] ["board"] (Zd XT) := ⟨rfl, rfl, rfl, by decide +kernel, rfl, by decide +kernel, by decide +kernel⟩
theorem zcn (F : Fun K "worth_of" "worth_of" XT fa fd) (hm : mg "worth_of" = some (.ref fa)) (b : ZF K fd ["board"] []) (z_len : mg "len" = none) :
  Fx.Cle P w K mg base (k + 1) "worth_of" 1 Yt := by
 exact Zz F hm b zcc rfl rfl fun cdv A outer s H E hr =>
  (Zi (Zn (ZB V3 (ZW rfl z_len (Yb (Za 0))) Ze)))
abbrev Yz : Stmt := top 21
theorem Xx : FnScope ["row", "line", "column", "divisor", "pivot", "taken", "told"] ["row", "line", "column", "divisor"] (Zd Yz) := ⟨rfl, rfl, rfl, by decide +kernel, rfl, by decide +kernel, by decide +kernel⟩
theorem Jw (F : Fun K "swapped_row" "swapped_row" Yz fa fd) (hm : mg "swapped_row" = some (.ref fa)) (b : ZF K fd ["row", "line", "column", "divisor"] []) (z_abs : mg "abs" = none) (z_zip : mg "zip" = none) :
  Fx.Cle P w K mg base (k + 1) "swapped_row" 4 YF := by
 exact Zz F hm b Xx rfl rfl fun cdv A outer s H E hr =>
  (Zf (Zq (i := 4) Xx.nd rfl (Or.inr rfl) (JV rfl z_abs (Zo (Za 1) (Za 2) (fun _ _ => rfl))))
  (Zf (Zq (i := 5) Xx.nd rfl (Or.inr rfl) (zdA (ZV QD (Zo (Za 1) (Za 2) (fun _ _ => rfl)) Ze (Zy _)) (Zo (Za 0) (Za 2) (fun _ _ => rfl)) (XD (Zo (Za 0) (Za 2) (fun _ _ => rfl)))))
  (Zf (Fx.ss_setCO (N := ["number", "other", "pivot", "taken", "divisor"]) (nv := 2) (cap := [4, 5, 3]) (i := 6) (YS rfl) rfl (QM (by decide) (by decide)) (zbR rfl z_zip (Za 0) (Za 1)) ZO (fun _ _ _ _ => (QQ (i := 0) (j := 1) rfl (show List.Nodup (["number", "other", "pivot", "taken", "divisor"] : List Str) from by decide +kernel) rfl (Or.inl rfl) rfl (Or.inl rfl))) (fun _ _ _ _ _ => Yi) (fun _ _ _ _ _ => (ZB Vg (ZB V3 (ZB ZZ (Za 2) (Za 0)) (ZB ZZ (Za 3) (Za 1))) (Za 4))) Xx.nd rfl (Or.inl rfl))
  (Zf (Uk (i := 6) rfl (Za 2) (Za 5))
  (Zi (Zn (Za 6)))))))
abbrev Wv : Stmt := top 22
theorem Vz : FnScope ["board", "thing", "column", "line", "heads", "rows"] ["board", "thing", "column"] (Zd Wv) := ⟨rfl, rfl, rfl, by decide +kernel, rfl, by decide +kernel, by decide +kernel⟩
theorem zd7 (F : Fun K "swapped" "swapped" Wv fa fd) (hm : mg "swapped" = some (.ref fa)) (b : ZF K fd ["board", "thing", "column"] []) (z_list : mg "list" = none) (z_abs : mg "abs" = none) (C_swapped_row : Fx.Cle P w K mg base (k + 2) "swapped_row" 4 YF) (M_Board : Fx.Mko P w K mg base (k + 1) "Board" ["heads", "divisor", "rows"]) :
  Fx.Cle P w K mg base (k + 2 + 1) "swapped" 3 Ym := by
 exact Zz F hm b Vz rfl rfl fun cdv A outer s H E hr =>
  (Zf (Zq (i := 3) Vz.nd rfl (Or.inr rfl) (Zo (Yb (Za 0)) (Za 1) (fun _ _ => rfl)))
  (Zf (UP (i := 4) Vz.nd rfl (Or.inl rfl) (QC rfl z_list (Yb (Za 0))))
  (Zf (Uk (i := 4) rfl (Za 2) (Za 1))
  (Zf (VY (N := ["row", "line", "column", "board"]) (nv := 1) (cap := [3, 2, 0]) (i := 5) (YS rfl) rfl (ZN (by decide)) (Y6 (Yb (Za 0))) ZO (fun _ _ _ _ => (ZC (i := 0) (show List.Nodup (["row", "line", "column", "board"] : List Str) from by decide +kernel) rfl (Or.inl rfl))) (fun _ _ _ _ _ => Yi) (fun _ _ _ _ _ => (Zh (Fx.Cle.cal C_swapped_row) hr rfl (Zb (Za 0) (Zb (Za 1) (Zb (Za 2) (Zb (Yb (Za 3)) Zg)))))) Vz.nd rfl (Or.inl rfl))
  (Zi (Zn (zfZ M_Board hr rfl (Zb (Za 4) (Zb (JV rfl z_abs (Zo (Za 3) (Za 2) (fun _ _ => rfl))) (Zb (Za 5) Zg))))))))))
abbrev Yf : Stmt := top 23
theorem W1 : FnScope ["board", "column", "thing"] ["board", "column"] (Zd Yf) := ⟨rfl, rfl, rfl, by decide +kernel, rfl, by decide +kernel, by decide +kernel⟩
theorem Qh (F : Fun K "first_room_on" "first_room_on" Yf fa fd) (hm : mg "first_room_on" = some (.ref fa)) (b : ZF K fd ["board", "column"] []) (C_rooms_of : Fx.Cle P w K mg base k "rooms_of" 1 Z7) :
  Fx.Cle P w K mg base (k + 1) "first_room_on" 2 ZT := by
 exact Zz F hm b W1 rfl rfl fun cdv A outer s H E hr =>
  (Zf (XJ PassesOwn.never rfl (Y6 (Zh (Fx.Cle.cal C_rooms_of) hr rfl (Zb (Za 0) Zg))) (ZC (i := 2) W1.nd rfl (Or.inl rfl))
  (Zi (Yj (ZV (W2 hr.units) (Zo (Zo (Yb (Za 0)) (Za 2) (fun _ _ => rfl)) (Za 1) (fun _ _ => rfl)) Ze (Zy _))
  (Zi (Zn (Za 2)))
  ZJ)))
  (Zi (Zn zdz)))
abbrev UT : Stmt := top 24
theorem Qm : FnScope ["board", "column", "thing"] ["board"] (Zd UT) := ⟨rfl, rfl, rfl, by decide +kernel, rfl, by decide +kernel, by decide +kernel⟩
theorem ok_freed (F : Fun K "freed" "freed" UT fa fd) (hm : mg "freed" = some (.ref fa)) (b : ZF K fd ["board"] []) (z_range : mg "range" = none) (z_len : mg "len" = none) (C_first_room_on : Fx.Cle P w K mg base k "first_room_on" 2 ZT) (C_swapped : Fx.Cle P w K mg base k "swapped" 3 Ym) :
  Fx.Cle P w K mg base (k + 1) "freed" 1 QV := by
 exact Zz F hm b Qm rfl rfl fun cdv A outer s H E hr =>
  (Zf (XJ PassesOwn.never rfl (YT rfl z_range (ZW rfl z_len (Yb (Za 0)))) (ZC (i := 1) Qm.nd rfl (Or.inl rfl))
  (Zf (Zq (i := 2) Qm.nd rfl (Or.inl rfl) (Zh (Fx.Cle.cal C_first_room_on) hr rfl (Zb (Za 0) (Zb (Za 1) Zg))))
  (Zi (Yj (zak (Za 2))
  (Zi (Zq (i := 0) Qm.nd rfl (Or.inl rfl) (Zh (Fx.Cle.cal C_swapped) hr rfl (Zb (Za 0) (Zb (Za 2) (Zb (Za 1) Zg))))))
  ZJ))))
  (Zi (Zn (Za 0))))
abbrev US : Stmt := top 25
theorem sc_helps : FnScope ["board", "column", "number"] ["board", "column", "number"] (Zd US) := ⟨rfl, rfl, rfl, by decide +kernel, rfl, by decide +kernel, by decide +kernel⟩
theorem ok_helps (F : Fun K "helps" "helps" US fa fd) (hm : mg "helps" = some (.ref fa)) (b : ZF K fd ["board", "column", "number"] []) (z_len : mg "len" = none) :
  Fx.Cle P w K mg base (k + 1) "helps" 3 UY := by
 exact Zz F hm b sc_helps rfl rfl fun cdv A outer s H E hr =>
  (Zi (Zn (Fx.ev_or (WC QD (Za 2) Ze (Zy _)) (U7 (QW (WC Wh (Za 2) Ze (Zy _)) (U7 (WC Wh (Zo (Yb (Za 0)) (Za 1) (fun _ _ => rfl)) (ZW rfl z_len (Yb (Za 0))) (Zy _))))))))
abbrev Z4 : Stmt := top 26
theorem Xm : FnScope ["board", "thing", "row", "columns"] ["board", "thing"] (Zd Z4) := ⟨rfl, rfl, rfl, by decide +kernel, rfl, by decide +kernel, by decide +kernel⟩
theorem UU {cL TL : Addr} (F : Fun K "raising_column" "raising_column" Z4 fa fd) (hm : mg "raising_column" = some (.ref fa)) (b : ZF K fd ["board", "thing"] []) (z_range : mg "range" = none) (z_len : mg "len" = none) (z_min : mg "min" = none) (C_helps : Fx.Cle P w K mg base (k + 2) "helps" 3 UY) (L_raising_column : Fx.LamHyp K mg base "raising_column" cL TL) (hcode : fd.code = .ref cL) :
  Fx.Cle P w K mg base (k + 2 + 1) "raising_column" 2 Zj := by
 exact Fx.cle_ofC F hcode hm b Xm rfl rfl fun A outer s H E hr =>
  (Zf (Zq (i := 2) Xm.nd rfl (Or.inr rfl) (Zo (Yb (Za 0)) (Za 1) (fun _ _ => rfl)))
  (Zf (VY (N := ["column", "board", "row"]) (nv := 1) (cap := [0, 2]) (i := 3) (YS rfl) rfl (ZN (by decide)) (YT rfl z_range (ZW rfl z_len (Yb (Za 0)))) ZO (fun _ _ _ _ => (ZC (i := 0) (show List.Nodup (["column", "board", "row"] : List Str) from by decide +kernel) rfl (Or.inl rfl))) (fun _ _ _ _ _ => (Fx.ct_one (Yv (Zh (Fx.Cle.cal C_helps) hr rfl (Zb (Za 1) (Zb (Za 0) (Zb (Zo (Za 2) (Za 0) (fun _ _ => rfl)) Zg)))) (fun _ => rfl)))) (fun _ _ _ _ _ => (Za 0)) Xm.nd rfl (Or.inl rfl))
  (Zi (Zn (Fx.ev_minK (k := k) (y := "column") (N := ["column", "board"]) (cap := [0]) (Fx.lam_at L_raising_column (List.mem_singleton.mpr rfl)) (Fx.lamok rfl) hr rfl z_min (Za 3) (fun _ _ _ _ => (Zo (Yb (Za 1)) (Za 0) (fun _ _ => rfl))))))))
abbrev YZ : Stmt := top 27
theorem Ul : FnScope ["board", "thing"] ["board"] (Zd YZ) := ⟨rfl, rfl, rfl, by decide +kernel, rfl, by decide +kernel, by decide +kernel⟩
theorem zaA (F : Fun K "short_room" "short_room" YZ fa fd) (hm : mg "short_room" = some (.ref fa)) (b : ZF K fd ["board"] []) (C_rooms_of : Fx.Cle P w K mg base k "rooms_of" 1 Z7) :
  Fx.Cle P w K mg base (k + 1) "short_room" 1 Zx := by
 exact Zz F hm b Ul rfl rfl fun cdv A outer s H E hr =>
  (Zf (XJ PassesOwn.never rfl (Y6 (Zh (Fx.Cle.cal C_rooms_of) hr rfl (Zb (Za 0) Zg))) (ZC (i := 1) Ul.nd rfl (Or.inl rfl))
  (Zi (Yj (ZV Wh (Zo (Zo (Yb (Za 0)) (Za 1) (fun _ _ => rfl)) (XD Ze) (fun _ _ => rfl)) Ze (Zy _))
  (Zi (Zn (Za 1)))
  ZJ)))
  (Zi (Zn zdz)))
abbrev Ww : Stmt := top 28
theorem XS : FnScope ["desk", "goal", "board", "thing", "column"] ["desk", "goal"] (Zd Ww) := ⟨rfl, rfl, rfl, by decide +kernel, rfl, by decide +kernel, by decide +kernel⟩
theorem zd8 (F : Fun K "settled" "settled" Ww fa fd) (hm : mg "settled" = some (.ref fa)) (b : ZF K fd ["desk", "goal"] []) (C_first_board : Fx.Cle P w K mg base k "first_board" 2 YI) (C_freed : Fx.Cle P w K mg base k "freed" 1 QV) (C_short_room : Fx.Cle P w K mg base k "short_room" 1 Zx) (C_raising_column : Fx.Cle P w K mg base k "raising_column" 2 Zj) (C_swapped : Fx.Cle P w K mg base k "swapped" 3 Ym) :
  Fx.Cle P w K mg base (k + 1) "settled" 2 Yw := by
 exact Zz F hm b XS rfl rfl fun cdv A outer s H E hr =>
  (Zf (Zq (i := 2) XS.nd rfl (Or.inl rfl) (Zh (Fx.Cle.cal C_freed) hr rfl (Zb (Zh (Fx.Cle.cal C_first_board) hr rfl (Zb (Za 0) (Zb (Za 1) Zg))) Zg)))
  (Zf (Zq (i := 3) XS.nd rfl (Or.inl rfl) (Zh (Fx.Cle.cal C_short_room) hr rfl (Zb (Za 2) Zg)))
  (Zf (Ql PassesOwn.never (zak (Za 3))
  (Zf (Zq (i := 4) XS.nd rfl (Or.inl rfl) (Zh (Fx.Cle.cal C_raising_column) hr rfl (Zb (Za 2) (Zb (Za 3) Zg))))
  (Zf (Yj (zeB (Za 4))
  (Zi (Zn (Y8 (Zb (Za 2) (Zb (Za 3) Zg)))))
  ZJ)
  (Zf (Zq (i := 2) XS.nd rfl (Or.inl rfl) (Zh (Fx.Cle.cal C_swapped) hr rfl (Zb (Za 2) (Zb (Za 3) (Zb (Za 4) Zg)))))
  (Zi (Zq (i := 3) XS.nd rfl (Or.inl rfl) (Zh (Fx.Cle.cal C_short_room) hr rfl (Zb (Za 2) Zg))))))))
  (Zi (Zn (Y8 (Zb (Za 2) (Zb zdz Zg))))))))
abbrev XW : Stmt := top 29
theorem zcf : FnScope ["board"] ["board"] (Zd XW) := ⟨rfl, rfl, rfl, by decide +kernel, rfl, by decide +kernel, by decide +kernel⟩
theorem zcq (F : Fun K "point_of" "point_of" XW fa fd) (hm : mg "point_of" = some (.ref fa)) (b : ZF K fd ["board"] []) (z_range : mg "range" = none) (z_len : mg "len" = none) (C_frac : Fx.Cle P w K mg base k "frac" 2 YJ) :
  Fx.Cle P w K mg base (k + 1) "point_of" 1 Xu := by
 exact Zz F hm b zcf rfl rfl fun cdv A outer s H E hr =>
  (Zi (Zn (YK (Xt (N := ["kind", "board"]) (nv := 1) (cap := [0]) (YS rfl) rfl (ZN (by decide)) (YT rfl z_range (ZW rfl z_len (Yb (Za 0)))) ZO (fun _ _ _ _ => (ZC (i := 0) (show List.Nodup (["kind", "board"] : List Str) from by decide +kernel) rfl (Or.inl rfl))) (fun _ _ _ _ _ => Yi) (fun _ _ _ _ _ => (Zh (Fx.Cle.cal C_frac) hr rfl (Zb (Zo (Zo (Yb (Za 1)) (Za 0) (fun _ _ => rfl)) (XD Ze) (fun _ _ => rfl)) (Zb (Yb (Za 1)) Zg))))))))
abbrev Xo : Stmt := top 30
theorem Wb : FnScope ["board", "thing", "kinds", "shares", "head", "number"] ["board", "thing"] (Zd Xo) := ⟨rfl, rfl, rfl, by decide +kernel, rfl, by decide +kernel, by decide +kernel⟩
theorem zbG (F : Fun K "shares_of" "shares_of" Xo fa fd) (hm : mg "shares_of" = some (.ref fa)) (b : ZF K fd ["board", "thing"] []) (z_len : mg "len" = none) (z_zip : mg "zip" = none) (C_rooms_of : Fx.Cle P w K mg base k "rooms_of" 1 Z7) (C_frac : Fx.Cle P w K mg base k "frac" 2 YJ) :
  Fx.Cln P w K mg base (k + 1) "shares_of" 2 YV := by
 exact Fx.cln_of F hm b Wb rfl rfl fun cdv A outer s H E hr =>
  (Zf (Zq (i := 2) Wb.nd rfl (Or.inl rfl) (ZW rfl z_len (Yb (Za 0))))
  (Zf (UP (i := 3) Wb.nd rfl (Or.inl rfl) (zfq (zbE (Zb (Y8 (Zb Ze (Zb Ze Zg))) Zg)) (ZW rfl z_len (Zh (Fx.Cle.cal C_rooms_of) hr rfl (Zb (Za 0) Zg)))))
  (Zf (XJ PassesOwn.never rfl (zbR rfl z_zip (Yb (Za 0)) (Zo (Yb (Za 0)) (Za 1) (fun _ _ => rfl))) (QQ (i := 4) (j := 5) rfl Wb.nd rfl (Or.inl rfl) rfl (Or.inl rfl))
  (Zi (Yj (ZV Fx.op_geF (Za 4) (Za 2) (Zy _))
  (Zi (Uk (i := 3) rfl (ZB V3 (Za 4) (Za 2)) (Zh (Fx.Cle.cal C_frac) hr rfl (Zb (XD (Za 5)) (Zb (Yb (Za 0)) Zg)))))
  ZJ)))
  (Zi (Fx.ss_retO 3)))))
abbrev XZ : Stmt := top 31
theorem Qx : FnScope ["board", "thing", "shares"] ["board", "thing"] (Zd XZ) := ⟨rfl, rfl, rfl, by decide +kernel, rfl, by decide +kernel, by decide +kernel⟩
theorem zct (F : Fun K "clash_of" "clash_of" XZ fa fd) (hm : mg "clash_of" = some (.ref fa)) (b : ZF K fd ["board", "thing"] []) (z_len : mg "len" = none) (C_shares_of : Fx.Cln P w K mg base k "shares_of" 2 YV) :
  Fx.Cle P w K mg base (k + 1) "clash_of" 2 X1 := by
 exact Zz F hm b Qx rfl rfl fun cdv A outer s H E hr =>
  (Zf (UP (i := 2) Qx.nd rfl (Or.inl rfl) (Fx.ov_call (Fx.Cln.cal C_shares_of) hr rfl (Zb (Za 0) (Zb (Za 1) Zg))))
  (Zf (Uk (i := 2) rfl (ZB V3 (Za 1) (ZW rfl z_len (Yb (Za 0)))) (Y8 (Zb Ze (Zb Ze Zg))))
  (Zi (Zn (Za 2)))))
abbrev Y4 : Stmt := top 33
theorem zas : FnScope ["kinds", "goal"] ["kinds", "goal"] (Zd Y4) := ⟨rfl, rfl, rfl, by decide +kernel, rfl, by decide +kernel, by decide +kernel⟩
theorem zaF (F : Fun K "check_goal" "check_goal" Y4 fa fd) (hm : mg "check_goal" = some (.ref fa)) (b : ZF K fd ["kinds", "goal"] []) (z_isinstance : mg "isinstance" = none) (z_list : mg "list" = none) (z_len : mg "len" = none) (z_all : mg "all" = none) (C_is_whole : Fx.Cle P w K mg base k "is_whole" 1 Yu) :
  Fx.Cle P w K mg base (k + 1) "check_goal" 2 XC := by
 exact Zz F hm b zas rfl rfl fun cdv A outer s H E hr =>
  (Zf (Yj (Fx.tv_w (Va (Xa (Yv (Yo Us (show bootBuiltins "list" = some (.type "list") by decide +kernel) rfl z_isinstance rfl z_list (Za 1)) (fun _ => rfl))) (Wr (ZV (W2 hr.units) (ZW rfl z_len (Za 1)) (Za 0) (Zy _)))))
  (Zi WJ)
  ZJ)
  (Zi (Yj (Xa (Yv (Fx.ev_all rfl z_all (YK (Xt (N := ["number"]) (nv := 1) (cap := []) (YS rfl) rfl (ZN (by decide)) (Y6 (Za 1)) ZO (fun _ _ _ _ => (ZC (i := 0) (show List.Nodup (["number"] : List Str) from by decide +kernel) rfl (Or.inl rfl))) (fun _ _ _ _ _ => Yi) (fun _ _ _ _ _ => (Zh (Fx.Cle.cal C_is_whole) hr rfl (Zb (Za 0) Zg)))))) (fun _ => rfl)))
  (Zi WJ)
  ZJ)))
abbrev VB : Stmt := top 34
theorem ze3 : FnScope ["row", "other", "column"] ["row", "other", "column"] (Zd VB) := ⟨rfl, rfl, rfl, by decide +kernel, rfl, by decide +kernel, by decide +kernel⟩
theorem zfs (F : Fun K "sooner" "sooner" VB fa fd) (hm : mg "sooner" = some (.ref fa)) (b : ZF K fd ["row", "other", "column"] []) :
  Fx.Cle P w K mg base (k + 1) "sooner" 3 VG := by
 exact Zz F hm b ze3 rfl rfl fun cdv A outer s H E hr =>
  (Zi (Zn (WC Wh (ZB ZZ (Zo (Za 0) (XD Ze) (fun _ _ => rfl)) (XD (Zo (Za 1) (Za 2) (fun _ _ => rfl)))) (ZB ZZ (Zo (Za 1) (XD Ze) (fun _ _ => rfl)) (XD (Zo (Za 0) (Za 2) (fun _ _ => rfl)))) (Zy _))))
abbrev Y3 : Stmt := top 35
theorem Xc : FnScope ["board", "column", "found", "thing", "row"] ["board", "column"] (Zd Y3) := ⟨rfl, rfl, rfl, by decide +kernel, rfl, by decide +kernel, by decide +kernel⟩
theorem zaE (F : Fun K "first_stop" "first_stop" Y3 fa fd) (hm : mg "first_stop" = some (.ref fa)) (b : ZF K fd ["board", "column"] []) (C_rooms_of : Fx.Cle P w K mg base k "rooms_of" 1 Z7) (C_sooner : Fx.Cle P w K mg base k "sooner" 3 VG) :
  Fx.Cle P w K mg base (k + 1) "first_stop" 2 ZS := by
 exact Zz F hm b Xc rfl rfl fun cdv A outer s H E hr =>
  (Zf (Zq (i := 2) Xc.nd rfl (Or.inl rfl) zdz)
  (Zf (XJ PassesOwn.never rfl (Y6 (Zh (Fx.Cle.cal C_rooms_of) hr rfl (Zb (Za 0) Zg))) (ZC (i := 3) Xc.nd rfl (Or.inl rfl))
  (Zf (Zq (i := 4) Xc.nd rfl (Or.inl rfl) (Zo (Yb (Za 0)) (Za 3) (fun _ _ => rfl)))
  (Zi (Yj (Fx.tv_w (Fx.tw_and (ZV Wh (Zo (Za 4) (Za 1) (fun _ _ => rfl)) Ze (Zy _)) (Fx.tw_and1 (Fx.tv_w (Va (zeB (Za 2)) (Wr (Yv (Zh (Fx.Cle.cal C_sooner) hr rfl (Zb (Za 4) (Zb (Zo (Yb (Za 0)) (Za 2) (fun _ _ => rfl)) (Zb (Za 1) Zg)))) (fun _ => rfl))))))))
  (Zi (Zq (i := 2) Xc.nd rfl (Or.inl rfl) (Za 3)))
  ZJ))))
  (Zi (Zn (Za 2)))))
abbrev VA : Stmt := top 36
theorem zbu : FnScope ["board", "column", "sign"] ["board", "column"] (Zd VA) := ⟨rfl, rfl, rfl, by decide +kernel, rfl, by decide +kernel, by decide +kernel⟩
theorem zfr (F : Fun K "way_of" "way_of" VA fa fd) (hm : mg "way_of" = some (.ref fa)) (b : ZF K fd ["board", "column"] []) (z_range : mg "range" = none) (z_len : mg "len" = none) (C_worth_of : Fx.Cle P w K mg base k "worth_of" 1 Yt) (C_frac : Fx.Cle P w K mg base k "frac" 2 YJ) :
  Fx.Cle P w K mg base (k + 1) "way_of" 2 VF := by
 exact Zz F hm b zbu rfl rfl fun cdv A outer s H E hr =>
  (Zf (Zq (i := 2) zbu.nd rfl (Or.inr rfl) (zdA (ZV QD (Zo (Zo (Yb (Za 0)) (Zh (Fx.Cle.cal C_worth_of) hr rfl (Zb (Za 0) Zg)) (fun _ _ => rfl)) (Za 1) (fun _ _ => rfl)) Ze (Zy _)) Ze (XD Ze)))
  (Zi (Zn (YK (Xt (N := ["kind", "sign", "board", "column"]) (nv := 1) (cap := [2, 0, 1]) (YS rfl) rfl (ZN (by decide)) (YT rfl z_range (ZW rfl z_len (Yb (Za 0)))) ZO (fun _ _ _ _ => (ZC (i := 0) (show List.Nodup (["kind", "sign", "board", "column"] : List Str) from by decide +kernel) rfl (Or.inl rfl))) (fun _ _ _ _ _ => Yi) (fun _ _ _ _ _ => (Zh (Fx.Cle.cal C_frac) hr rfl (Zb (ZB ZZ (Za 1) (Zo (Zo (Yb (Za 2)) (Za 0) (fun _ _ => rfl)) (Za 3) (fun _ _ => rfl))) (Zb (Yb (Za 2)) Zg)))))))))
abbrev Wz : Stmt := top 37
theorem Wt : FnScope ["board", "column", "thing"] ["board"] (Zd Wz) := ⟨rfl, rfl, rfl, by decide +kernel, rfl, by decide +kernel, by decide +kernel⟩
theorem zea (F : Fun K "climbed" "climbed" Wz fa fd) (hm : mg "climbed" = some (.ref fa)) (b : ZF K fd ["board"] []) (C_worth_of : Fx.Cle P w K mg base k "worth_of" 1 Yt) (C_raising_column : Fx.Cle P w K mg base k "raising_column" 2 Zj) (C_first_stop : Fx.Cle P w K mg base k "first_stop" 2 ZS) (C_point_of : Fx.Cle P w K mg base k "point_of" 1 Xu) (C_way_of : Fx.Cle P w K mg base k "way_of" 2 VF) (C_swapped : Fx.Cle P w K mg base k "swapped" 3 Ym) (C_shares_of : Fx.Cln P w K mg base k "shares_of" 2 YV) :
  Fx.Cle P w K mg base (k + 1) "climbed" 1 XB := by
 exact Zz F hm b Wt rfl rfl fun cdv A outer s H E hr =>
  (Zf (Zq (i := 1) Wt.nd rfl (Or.inl rfl) (Zh (Fx.Cle.cal C_raising_column) hr rfl (Zb (Za 0) (Zb (Zh (Fx.Cle.cal C_worth_of) hr rfl (Zb (Za 0) Zg)) Zg))))
  (Zf (Ql PassesOwn.never (zak (Za 1))
  (Zf (Zq (i := 2) Wt.nd rfl (Or.inl rfl) (Zh (Fx.Cle.cal C_first_stop) hr rfl (Zb (Za 0) (Zb (Za 1) Zg))))
  (Zf (Yj (zeB (Za 2))
  (Zi (Zn (Y8 (Zb U6 (Zb (Zh (Fx.Cle.cal C_point_of) hr rfl (Zb (Za 0) Zg)) (Zb (Zh (Fx.Cle.cal C_way_of) hr rfl (Zb (Za 0) (Zb (Za 1) Zg))) Zg))))))
  ZJ)
  (Zf (Zq (i := 0) Wt.nd rfl (Or.inl rfl) (Zh (Fx.Cle.cal C_swapped) hr rfl (Zb (Za 0) (Zb (Za 2) (Zb (Za 1) Zg)))))
  (Zi (Zq (i := 1) Wt.nd rfl (Or.inl rfl) (Zh (Fx.Cle.cal C_raising_column) hr rfl (Zb (Za 0) (Zb (Zh (Fx.Cle.cal C_worth_of) hr rfl (Zb (Za 0) Zg)) Zg)))))))))
  (Zi (Zn (Y8 (Zb U6 (Zb (Zh (Fx.Cle.cal C_point_of) hr rfl (Zb (Za 0) Zg)) (Zb (Zh (Fx.Cle.cal (Fx.Cln.cle C_shares_of)) hr rfl (Zb (Za 0) (Zb (Zh (Fx.Cle.cal C_worth_of) hr rfl (Zb (Za 0) Zg)) Zg))) Zg))))))))
abbrev JK : Stmt := top 38
theorem ze4 : FnScope ["desk", "goal", "told"] ["desk", "goal"] (Zd JK) := ⟨rfl, rfl, rfl, by decide +kernel, rfl, by decide +kernel, by decide +kernel⟩
theorem ok_best (F : Fun K "best" "best" JK fa fd) (hm : mg "best" = some (.ref fa)) (b : ZF K fd ["desk", "goal"] []) (C_check_goal : Fx.Cle P w K mg base k "check_goal" 2 XC) (C_settled : Fx.Cle P w K mg base k "settled" 2 Yw) (C_clash_of : Fx.Cle P w K mg base k "clash_of" 2 X1) (C_climbed : Fx.Cle P w K mg base k "climbed" 1 XB) :
  Fx.Cle P w K mg base (k + 1) "best" 2 JU := by
 exact Zz F hm b ze4 rfl rfl fun cdv A outer s H E hr =>
  (Zf (zan (Zh (Fx.Cle.cal C_check_goal) hr rfl (Zb (Zo (Za 0) Ze (fun _ _ => rfl)) (Zb (Za 1) Zg))))
  (Zf (Zq (i := 2) ze4.nd rfl (Or.inl rfl) (Zh (Fx.Cle.cal C_settled) hr rfl (Zb (Za 0) (Zb (Za 1) Zg))))
  (Zf (Yj (zak (Zo (Za 2) Ze (fun _ _ => rfl)))
  (Zi (Zn (Y8 (Zb U6 (Zb (Zh (Fx.Cle.cal C_clash_of) hr rfl (Zb (Zo (Za 2) Ze (fun _ _ => rfl)) (Zb (Zo (Za 2) Ze (fun _ _ => rfl)) Zg))) Zg)))))
  ZJ)
  (Zi (Zn (Zh (Fx.Cle.cal C_climbed) hr rfl (Zb (Zo (Za 2) Ze (fun _ _ => rfl)) Zg)))))))
abbrev UR : Stmt := top 40
theorem sc_moved : FnScope ["point", "way", "often"] ["point", "way", "often"] (Zd UR) := ⟨rfl, rfl, rfl, by decide +kernel, rfl, by decide +kernel, by decide +kernel⟩
theorem ok_moved (F : Fun K "moved" "moved" UR fa fd) (hm : mg "moved" = some (.ref fa)) (b : ZF K fd ["point", "way", "often"] []) (z_zip : mg "zip" = none) (C_times : Fx.Cle P w K mg base k "times" 2 WS) (C_plus : Fx.Cle P w K mg base k "plus" 2 JT) :
  Fx.Cle P w K mg base (k + 1) "moved" 3 UX := by
 exact Zz F hm b sc_moved rfl rfl fun cdv A outer s H E hr =>
  (Zi (Zn (YK (Xt (N := ["amount", "step", "often"]) (nv := 2) (cap := [2]) (YS rfl) rfl (QM (by decide) (by decide)) (zbR rfl z_zip (Za 0) (Za 1)) ZO (fun _ _ _ _ => (QQ (i := 0) (j := 1) rfl (show List.Nodup (["amount", "step", "often"] : List Str) from by decide +kernel) rfl (Or.inl rfl) rfl (Or.inl rfl))) (fun _ _ _ _ _ => Yi) (fun _ _ _ _ _ => (Zh (Fx.Cle.cal C_plus) hr rfl (Zb (Za 0) (Zb (Zh (Fx.Cle.cal C_times) hr rfl (Zb (Za 2) (Zb (Za 1) Zg))) Zg))))))))
abbrev Ys : Stmt := top 43
theorem Vf : FnScope ["points", "point"] ["points"] (Zd Ys) := ⟨rfl, rfl, rfl, by decide +kernel, rfl, by decide +kernel, by decide +kernel⟩
theorem QG (F : Fun K "check_points" "check_points" Ys fa fd) (hm : mg "check_points" = some (.ref fa)) (b : ZF K fd ["points"] []) (z_isinstance : mg "isinstance" = none) (z_list : mg "list" = none) (z_len : mg "len" = none) (g_MOST_POINTS : ∃ t, mg "MOST_POINTS" = some (.int 8 t)) (g_MOST_KINDS : ∃ t, mg "MOST_KINDS" = some (.int 4 t)) (C_check_point : Fx.Cle P w K mg base k "check_point" 2 Z0) :
  Fx.Cle P w K mg base (k + 1) "check_points" 1 YR := by
 obtain ⟨t_MOST_POINTS, g_MOST_POINTS⟩ := g_MOST_POINTS; obtain ⟨t_MOST_KINDS, g_MOST_KINDS⟩ := g_MOST_KINDS; exact Zz F hm b Vf rfl rfl fun cdv A outer s H E hr =>
  (Zf (Yj (Fx.tv_w (Va (Xa (Yv (Yo Us (show bootBuiltins "list" = some (.type "list") by decide +kernel) rfl z_isinstance rfl z_list (Za 0)) (fun _ => rfl))) (Va (ZV Wh (ZW rfl z_len (Za 0)) Ze (Zy _)) (Wr (ZV QD (ZW rfl z_len (Za 0)) (zdB rfl g_MOST_POINTS) (Zy _))))))
  (Zi WJ)
  ZJ)
  (Zf (Yj (Fx.tv_w (Va (Xa (Yv (Yo Us (show bootBuiltins "list" = some (.type "list") by decide +kernel) rfl z_isinstance rfl z_list (Zo (Za 0) Ze (fun _ _ => rfl))) (fun _ => rfl))) (Va (ZV Wh (ZW rfl z_len (Zo (Za 0) Ze (fun _ _ => rfl))) Ze (Zy _)) (Wr (ZV QD (ZW rfl z_len (Zo (Za 0) Ze (fun _ _ => rfl))) (zdB rfl g_MOST_KINDS) (Zy _))))))
  (Zi WJ)
  ZJ)
  (Zi (XJ PassesOwn.never rfl (Y6 (Za 0)) (ZC (i := 1) Vf.nd rfl (Or.inl rfl))
  (Zi (zan (Zh (Fx.Cle.cal C_check_point) hr rfl (Zb (ZW rfl z_len (Zo (Za 0) Ze (fun _ _ => rfl))) (Zb (Za 1) Zg)))))))))
abbrev zd4 : Stmt := top 44
theorem zc3 : FnScope ["points", "shares", "amounts", "point", "share"] ["points", "shares"] (Zd zd4) := ⟨rfl, rfl, rfl, by decide +kernel, rfl, by decide +kernel, by decide +kernel⟩
theorem ok_mix (F : Fun K "mix" "mix" zd4 fa fd) (hm : mg "mix" = some (.ref fa)) (b : ZF K fd ["points", "shares"] []) (z_len : mg "len" = none) (z_zip : mg "zip" = none) (C_moved : Fx.Cle P w K mg base k "moved" 3 UX) :
  Fx.Cle P w K mg base (k + 1) "mix" 2 zfX := by
 exact Zz F hm b zc3 rfl rfl fun cdv A outer s H E hr =>
  (Zf (Zq (i := 2) zc3.nd rfl (Or.inl rfl) (YK (zfq (zbE (Zb (Y8 (Zb Ze (Zb Ze Zg))) Zg)) (ZW rfl z_len (Zo (Za 0) Ze (fun _ _ => rfl))))))
  (Zf (XJ PassesOwn.never rfl (zbR rfl z_zip (Za 0) (Za 1)) (QQ (i := 3) (j := 4) rfl zc3.nd rfl (Or.inl rfl) rfl (Or.inl rfl))
  (Zi (Zq (i := 2) zc3.nd rfl (Or.inl rfl) (Zh (Fx.Cle.cal C_moved) hr rfl (Zb (Za 2) (Zb (Za 3) (Zb (Za 4) Zg)))))))
  (Zi (Zn (Za 2)))))
abbrev Xn : Stmt := top 45
theorem Wa : FnScope ["point", "often", "amount"] ["point"] (Zd Xn) := ⟨rfl, rfl, rfl, by decide +kernel, rfl, by decide +kernel, by decide +kernel⟩
theorem zbF (F : Fun K "whole_row" "whole_row" Xn fa fd) (hm : mg "whole_row" = some (.ref fa)) (b : ZF K fd ["point"] []) (C_common_divisor : Fx.Cle P w K mg base k "common_divisor" 2 ZE) :
  Fx.Cle P w K mg base (k + 1) "whole_row" 1 YU := by
 exact Zz F hm b Wa rfl rfl fun cdv A outer s H E hr =>
  (Zf (Zq (i := 1) Wa.nd rfl (Or.inr rfl) Ze)
  (Zf (XJ PassesOwn.never rfl (Y6 (Za 0)) (ZC (i := 2) Wa.nd rfl (Or.inl rfl))
  (Zi (Zq (i := 1) Wa.nd rfl (Or.inr rfl) (ZB ZZ (Za 1) (ZB Vg (Zo (Za 2) Ze (fun _ _ => rfl)) (Zh (Fx.Cle.cal C_common_divisor) hr rfl (Zb (Za 1) (Zb (Zo (Za 2) Ze (fun _ _ => rfl)) Zg))))))))
  (Zi (Zn (ZB YM (YK (Xt (N := ["amount", "often"]) (nv := 1) (cap := [1]) (YS rfl) rfl (ZN (by decide)) (Y6 (Za 0)) ZO (fun _ _ _ _ => (ZC (i := 0) (show List.Nodup (["amount", "often"] : List Str) from by decide +kernel) rfl (Or.inl rfl))) (fun _ _ _ _ _ => Yi) (fun _ _ _ _ _ => (ZB ZZ (Zo (Za 0) Ze (fun _ _ => rfl)) (ZB Vg (Za 1) (Zo (Za 0) Ze (fun _ _ => rfl))))))) (zbT (Zb (XD (Za 1)) Zg)))))))
abbrev Wu : Stmt := top 46
theorem Vy : FnScope ["points", "point", "rows", "goal", "told"] ["points", "point"] (Zd Wu) := ⟨rfl, rfl, rfl, by decide +kernel, rfl, by decide +kernel, by decide +kernel⟩
theorem zd6 (F : Fun K "told_as" "told_as" Wu fa fd) (hm : mg "told_as" = some (.ref fa)) (b : ZF K fd ["points", "point"] []) (z_len : mg "len" = none) (z_tuple : mg "tuple" = none) (z_zip : mg "zip" = none) (C_check_points : Fx.Cle P w K mg base k "check_points" 1 YR) (C_check_point : Fx.Cle P w K mg base k "check_point" 2 Z0) (C_whole_row : Fx.Cle P w K mg base k "whole_row" 1 YU) (C_best : Fx.Cle P w K mg base k "best" 2 JU) (C_frac : Fx.Cle P w K mg base k "frac" 2 YJ) (C_times : Fx.Cle P w K mg base k "times" 2 WS) :
  Fx.Cle P w K mg base (k + 1) "told_as" 2 WB := by
 exact Zz F hm b Vy rfl rfl fun cdv A outer s H E hr =>
  (Zf (zan (Zh (Fx.Cle.cal C_check_points) hr rfl (Zb (Za 0) Zg)))
  (Zf (zan (Zh (Fx.Cle.cal C_check_point) hr rfl (Zb (ZW rfl z_len (Zo (Za 0) Ze (fun _ _ => rfl))) (Zb (Za 1) Zg))))
  (Zf (VY (N := ["each"]) (nv := 1) (cap := []) (i := 2) (YS rfl) rfl (ZN (by decide)) (Y6 (Za 0)) ZO (fun _ _ _ _ => (ZC (i := 0) (show List.Nodup (["each"] : List Str) from by decide +kernel) rfl (Or.inl rfl))) (fun _ _ _ _ _ => Yi) (fun _ _ _ _ _ => (Zh (Fx.Cle.cal C_whole_row) hr rfl (Zb (Za 0) Zg))) Vy.nd rfl (Or.inl rfl))
  (Zf (Zq (i := 3) Vy.nd rfl (Or.inr rfl) (Zh (Fx.Cle.cal C_whole_row) hr rfl (Zb (Za 1) Zg)))
  (Zf (Zq (i := 4) Vy.nd rfl (Or.inl rfl) (Zh (Fx.Cle.cal C_best) hr rfl (Zb (Y8 (Zb (ZW rfl z_len (Za 3)) (Zb (zdy rfl z_tuple (YK (Xt (N := ["row"]) (nv := 1) (cap := []) (YS rfl) rfl (ZN (by decide)) (Y6 (Za 2)) ZO (fun _ _ _ _ => (ZC (i := 0) (show List.Nodup (["row"] : List Str) from by decide +kernel) rfl (Or.inl rfl))) (fun _ _ _ _ _ => Yi) (fun _ _ _ _ _ => (Y8 (Zb (zdy rfl z_tuple (Za 0)) (Zb Ze Zg))))))) Zg))) (Zb (Za 3) Zg))))
  (Zf (Yj (ZV (W3 hr.units) (Zo (Za 4) Ze (fun _ _ => rfl)) U6 (Zy _))
  (Zi (Zn (Y8 (Zb U6 (Zb (YK (Fx.ov_cut (Zo (Za 4) Ze (fun _ _ => rfl)) Fx.pv_no (Fx.pv_at (XD Ze)))) (Zb (Zo (Zo (Za 4) Ze (fun _ _ => rfl)) (XD Ze) (fun _ _ => rfl)) Zg))))))
  ZJ)
  (Zi (Zn (Y8 (Zb U6 (Zb (YK (Xt (N := ["price", "row", "goal"]) (nv := 2) (cap := [3]) (YS rfl) rfl (QM (by decide) (by decide)) (zbR rfl z_zip (Zo (Za 4) Ze (fun _ _ => rfl)) (Za 2)) ZO (fun _ _ _ _ => (QQ (i := 0) (j := 1) rfl (show List.Nodup (["price", "row", "goal"] : List Str) from by decide +kernel) rfl (Or.inl rfl) rfl (Or.inl rfl))) (fun _ _ _ _ _ => Yi) (fun _ _ _ _ _ => (Zh (Fx.Cle.cal C_times) hr rfl (Zb (Za 0) (Zb (Zh (Fx.Cle.cal C_frac) hr rfl (Zb (Zo (Za 1) (XD Ze) (fun _ _ => rfl)) (Zb (Zo (Za 2) (XD Ze) (fun _ _ => rfl)) Zg))) Zg)))))) Zg)))))))))))
abbrev YB : Stmt := top 48
theorem Jt : FnScope ["_law_script", "_law_k"] ["_law_script", "_law_k"] (Zd YB) := ⟨rfl, rfl, rfl, by decide +kernel, rfl, by decide +kernel, by decide +kernel⟩
theorem Jy (F : Fun K "_law_cell_at" "_law_cell_at" YB fa fd) (hm : mg "_law_cell_at" = some (.ref fa)) (b : ZF K fd ["_law_script", "_law_k"] []) (z_len : mg "len" = none) :
  Fx.Cle P w K mg base (k + 1) "_law_cell_at" 2 Zr := by
 exact Zz F hm b Jt rfl rfl fun cdv A outer s H E hr =>
  (Zf (Yj (ZV Wh (Za 1) (ZW rfl z_len (Za 0)) (Zy _))
  (Zi (Zn (Zo (Za 0) (Za 1) (fun _ _ => rfl))))
  ZJ)
  (Zf (Yj (ZV (W3 hr.units) (Za 0) (zbT Zg) (Zy _))
  (Zi (Zn Ze))
  ZJ)
  (Zi (Zn (ZB YM (ZB ZZ (Zo (Za 0) (ZB X4 (Za 1) (ZW rfl z_len (Za 0))) (fun _ _ => rfl)) Ze) (Za 1))))))
abbrev Y1 : Stmt := top 49
theorem Um : FnScope ["_law_cell", "_law_wide", "_law_number_here"] ["_law_cell", "_law_wide"] (Zd Y1) := ⟨rfl, rfl, rfl, by decide +kernel, rfl, by decide +kernel, by decide +kernel⟩
theorem zaC (F : Fun K "_law_number" "_law_number" Y1 fa fd) (hm : mg "_law_number" = some (.ref fa)) (b : ZF K fd ["_law_cell", "_law_wide"] []) :
  Fx.Cle P w K mg base (k + 1) "_law_number" 2 Ya := by
 exact Zz F hm b Um rfl rfl fun cdv A outer s H E hr =>
  (Zf (Zq (i := 2) Um.nd rfl (Or.inl rfl) (ZB X4 (Za 0) (ZB YM (ZB ZZ Ze (Za 1)) Ze)))
  (Zf (Yj (ZV QD (Za 2) (Za 1) (Zy _))
  (Zi (Zn (ZB V3 (ZB V3 (Za 2) (ZB ZZ Ze (Za 1))) Ze)))
  ZJ)
  (Zi (Zn (Za 2)))))
abbrev Xp : Stmt := top 50
theorem zbv : FnScope ["_law_found"] ["_law_found"] (Zd Xp) := ⟨rfl, rfl, rfl, by decide +kernel, rfl, by decide +kernel, by decide +kernel⟩
theorem zbH (F : Fun K "_law_whole" "_law_whole" Xp fa fd) (hm : mg "_law_whole" = some (.ref fa)) (b : ZF K fd ["_law_found"] []) (z_isinstance : mg "isinstance" = none) (z_int : mg "int" = none) (z_bool : mg "bool" = none) :
  Fx.Cle P w K mg base (k + 1) "_law_whole" 1 Xv := by
 exact Zz F hm b zbv rfl rfl fun cdv A outer s H E hr =>
  (Zi (Zn (QW (Yo zfG (show bootBuiltins "int" = some (.type "int") by decide +kernel) rfl z_isinstance rfl z_int (Za 0)) (U7 (Fx.ev_not (Yo zdp (show bootBuiltins "bool" = some (.type "bool") by decide +kernel) rfl z_isinstance rfl z_bool (Za 0)))))))
abbrev YA : Stmt := top 51
theorem Yp : FnScope ["_law_a", "_law_b", "_law_left"] ["_law_a", "_law_b"] (Zd YA) := ⟨rfl, rfl, rfl, by decide +kernel, rfl, by decide +kernel, by decide +kernel⟩
theorem Jx (F : Fun K "_law_divisor" "_law_divisor" YA fa fd) (hm : mg "_law_divisor" = some (.ref fa)) (b : ZF K fd ["_law_a", "_law_b"] []) (z_abs : mg "abs" = none) :
  Fx.Cle P w K mg base (k + 1) "_law_divisor" 2 YG := by
 exact Zz F hm b Yp rfl rfl fun cdv A outer s H E hr =>
  (Zf (Zq (i := 0) Yp.nd rfl (Or.inl rfl) (JV rfl z_abs (Za 0)))
  (Zf (Zq (i := 1) Yp.nd rfl (Or.inl rfl) (JV rfl z_abs (Za 1)))
  (Zf (Ql PassesOwn.never (ZV (W2 hr.units) (Za 1) Ze (Zy _))
  (Zf (Zq (i := 2) Yp.nd rfl (Or.inl rfl) (ZB X4 (Za 0) (Za 1)))
  (Zf (Zq (i := 0) Yp.nd rfl (Or.inl rfl) (Za 1))
  (Zi (Zq (i := 1) Yp.nd rfl (Or.inl rfl) (Za 2))))))
  (Zi (Zn (Za 0))))))
abbrev Z3 : Stmt := top 52
theorem Uo : FnScope ["_law_found"] ["_law_found"] (Zd Z3) := ⟨rfl, rfl, rfl, by decide +kernel, rfl, by decide +kernel, by decide +kernel⟩
theorem Ur (F : Fun K "_law_is_fraction" "_law_is_fraction" Z3 fa fd) (hm : mg "_law_is_fraction" = some (.ref fa)) (b : ZF K fd ["_law_found"] []) (z_isinstance : mg "isinstance" = none) (z_tuple : mg "tuple" = none) (z_len : mg "len" = none) (C_law_whole : Fx.Cle P w K mg base k "_law_whole" 1 Xv) (C_law_divisor : Fx.Cle P w K mg base k "_law_divisor" 2 YG) :
  Fx.Cle P w K mg base (k + 1) "_law_is_fraction" 1 ZG := by
 exact Zz F hm b Uo rfl rfl fun cdv A outer s H E hr =>
  (Zf (Yj (Fx.tv_w (Va (Xa (Yv (Yo QK (show bootBuiltins "tuple" = some (.type "tuple") by decide +kernel) rfl z_isinstance rfl z_tuple (Za 0)) (fun _ => rfl))) (Wr (ZV (W2 hr.units) (ZW rfl z_len (Za 0)) Ze (Zy _)))))
  (Zi (Zn VI))
  ZJ)
  (Zf (Yj (Fx.tv_w (Va (Xa (Yv (Zh (Fx.Cle.cal C_law_whole) hr rfl (Zb (Zo (Za 0) Ze (fun _ _ => rfl)) Zg)) (fun _ => rfl))) (Va (Xa (Yv (Zh (Fx.Cle.cal C_law_whole) hr rfl (Zb (Zo (Za 0) Ze (fun _ _ => rfl)) Zg)) (fun _ => rfl))) (Wr (ZV Wh (Zo (Za 0) Ze (fun _ _ => rfl)) Ze (Zy _))))))
  (Zi (Zn VI))
  ZJ)
  (Zi (Zn (WC (W3 hr.units) (Zh (Fx.Cle.cal C_law_divisor) hr rfl (Zb (Zo (Za 0) Ze (fun _ _ => rfl)) (Zb (Zo (Za 0) Ze (fun _ _ => rfl)) Zg))) Ze (Zy _))))))
abbrev Yr : Stmt := top 53
theorem Ve : FnScope ["_law_found", "_law_kinds", "_law_amount"] ["_law_found", "_law_kinds"] (Zd Yr) := ⟨rfl, rfl, rfl, by decide +kernel, rfl, by decide +kernel, by decide +kernel⟩
theorem QF (F : Fun K "_law_is_point" "_law_is_point" Yr fa fd) (hm : mg "_law_is_point" = some (.ref fa)) (b : ZF K fd ["_law_found", "_law_kinds"] []) (z_isinstance : mg "isinstance" = none) (z_list : mg "list" = none) (z_len : mg "len" = none) (C_law_is_fraction : Fx.Cle P w K mg base k "_law_is_fraction" 1 ZG) :
  Fx.Cle P w K mg base (k + 1) "_law_is_point" 2 Yd := by
 exact Zz F hm b Ve rfl rfl fun cdv A outer s H E hr =>
  (Zf (Yj (Fx.tv_w (Va (Xa (Yv (Yo Us (show bootBuiltins "list" = some (.type "list") by decide +kernel) rfl z_isinstance rfl z_list (Za 0)) (fun _ => rfl))) (Wr (ZV (W2 hr.units) (ZW rfl z_len (Za 0)) (Za 1) (Zy _)))))
  (Zi (Zn VI))
  ZJ)
  (Zf (XJ PassesOwn.never rfl (Y6 (Za 0)) (ZC (i := 2) Ve.nd rfl (Or.inl rfl))
  (Zi (Yj (Xa (Yv (Zh (Fx.Cle.cal C_law_is_fraction) hr rfl (Zb (Za 2) Zg)) (fun _ => rfl)))
  (Zi (Zn VI))
  ZJ)))
  (Zi (Zn VI))))
abbrev Z5 : Stmt := top 54
theorem Ws : FnScope ["_law_found", "_law_many", "_law_share"] ["_law_found", "_law_many"] (Zd Z5) := ⟨rfl, rfl, rfl, by decide +kernel, rfl, by decide +kernel, by decide +kernel⟩
theorem UV (F : Fun K "_law_are_shares" "_law_are_shares" Z5 fa fd) (hm : mg "_law_are_shares" = some (.ref fa)) (b : ZF K fd ["_law_found", "_law_many"] []) (C_law_is_point : Fx.Cle P w K mg base k "_law_is_point" 2 Yd) :
  Fx.Cle P w K mg base (k + 1) "_law_are_shares" 2 Yn := by
 exact Zz F hm b Ws rfl rfl fun cdv A outer s H E hr =>
  (Zf (Yj (Xa (Yv (Zh (Fx.Cle.cal C_law_is_point) hr rfl (Zb (Za 0) (Zb (Za 1) Zg))) (fun _ => rfl)))
  (Zi (Zn VI))
  ZJ)
  (Zf (XJ PassesOwn.never rfl (Y6 (Za 0)) (ZC (i := 2) Ws.nd rfl (Or.inl rfl))
  (Zi (Yj (ZV Wh (Zo (Za 2) Ze (fun _ _ => rfl)) Ze (Zy _))
  (Zi (Zn VI))
  ZJ)))
  (Zi (Zn VI))))
abbrev XX : Stmt := top 55
theorem V1 : FnScope ["_law_upper", "_law_lower", "_law_same"] ["_law_upper", "_law_lower"] (Zd XX) := ⟨rfl, rfl, rfl, by decide +kernel, rfl, by decide +kernel, by decide +kernel⟩
theorem zcr (F : Fun K "_law_frac" "_law_frac" XX fa fd) (hm : mg "_law_frac" = some (.ref fa)) (b : ZF K fd ["_law_upper", "_law_lower"] []) (C_law_divisor : Fx.Cle P w K mg base k "_law_divisor" 2 YG) :
  Fx.Cle P w K mg base (k + 1) "_law_frac" 2 Yg := by
 exact Zz F hm b V1 rfl rfl fun cdv A outer s H E hr =>
  (Zf (Zq (i := 2) V1.nd rfl (Or.inl rfl) (Zh (Fx.Cle.cal C_law_divisor) hr rfl (Zb (Za 0) (Zb (Za 1) Zg))))
  (Zf (Yj (ZV Wh (Za 1) Ze (Zy _))
  (Zi (Zq (i := 2) V1.nd rfl (Or.inl rfl) (XD (Za 2))))
  ZJ)
  (Zi (Zn (Y8 (Zb (ZB Vg (Za 0) (Za 2)) (Zb (ZB Vg (Za 1) (Za 2)) Zg)))))))
abbrev Wx : Stmt := top 56
theorem zd3 : FnScope ["_law_a", "_law_b", "_law_many"] ["_law_a", "_law_b", "_law_many"] (Zd Wx) := ⟨rfl, rfl, rfl, by decide +kernel, rfl, by decide +kernel, by decide +kernel⟩
theorem zd9 (F : Fun K "_law_add" "_law_add" Wx fa fd) (hm : mg "_law_add" = some (.ref fa)) (b : ZF K fd ["_law_a", "_law_b", "_law_many"] []) (C_law_frac : Fx.Cle P w K mg base k "_law_frac" 2 Yg) :
  Fx.Cle P w K mg base (k + 1) "_law_add" 3 Yh := by
 exact Zz F hm b zd3 rfl rfl fun cdv A outer s H E hr =>
  (Zi (Zn (Zh (Fx.Cle.cal C_law_frac) hr rfl (Zb (ZB YM (ZB ZZ (ZB ZZ (Zo (Za 0) Ze (fun _ _ => rfl)) (Zo (Za 1) Ze (fun _ _ => rfl))) (Zo (Za 2) Ze (fun _ _ => rfl))) (ZB ZZ (ZB ZZ (Zo (Za 2) Ze (fun _ _ => rfl)) (Zo (Za 1) Ze (fun _ _ => rfl))) (Zo (Za 0) Ze (fun _ _ => rfl)))) (Zb (ZB ZZ (ZB ZZ (Zo (Za 0) Ze (fun _ _ => rfl)) (Zo (Za 1) Ze (fun _ _ => rfl))) (Zo (Za 2) Ze (fun _ _ => rfl))) Zg)))))
abbrev Xs : Stmt := top 57
theorem zbw : FnScope ["_law_a", "_law_b"] ["_law_a", "_law_b"] (Zd Xs) := ⟨rfl, rfl, rfl, by decide +kernel, rfl, by decide +kernel, by decide +kernel⟩
theorem zbK (F : Fun K "_law_below" "_law_below" Xs fa fd) (hm : mg "_law_below" = some (.ref fa)) (b : ZF K fd ["_law_a", "_law_b"] []) :
  Fx.Cle P w K mg base (k + 1) "_law_below" 2 Xw := by
 exact Zz F hm b zbw rfl rfl fun cdv A outer s H E hr =>
  (Zi (Zn (WC Wh (ZB ZZ (Zo (Za 0) Ze (fun _ _ => rfl)) (Zo (Za 1) Ze (fun _ _ => rfl))) (ZB ZZ (Zo (Za 1) Ze (fun _ _ => rfl)) (Zo (Za 0) Ze (fun _ _ => rfl))) (Zy _))))
abbrev Y0 : Stmt := top 58
theorem Yy : FnScope ["_law_script", "_law_kinds", "_law_many", "_law_made", "_law_k", "_law_row", "_law_j", "_law_cell"] ["_law_script", "_law_kinds", "_law_many"] (Zd Y0) := ⟨rfl, rfl, rfl, by decide +kernel, rfl, by decide +kernel, by decide +kernel⟩
theorem zaB (F : Fun K "_law_points" "_law_points" Y0 fa fd) (hm : mg "_law_points" = some (.ref fa)) (b : ZF K fd ["_law_script", "_law_kinds", "_law_many"] []) (z_range : mg "range" = none) (C_law_cell_at : Fx.Cle P w K mg base k "_law_cell_at" 2 Zr) (C_law_number : Fx.Cle P w K mg base k "_law_number" 2 Ya) (C_law_frac : Fx.Cle P w K mg base k "_law_frac" 2 Yg) :
  Fx.Cle P w K mg base (k + 1) "_law_points" 3 Y7 := by
 exact Zz F hm b Yy rfl rfl fun cdv A outer s H E hr =>
  (Zf (UP (i := 3) Yy.nd rfl (Or.inl rfl) (zbE Zg))
  (Zf (XJ PassesOwn.never rfl (YT rfl z_range (Za 2)) (ZC (i := 4) Yy.nd rfl (Or.inl rfl))
  (Zf (UP (i := 5) Yy.nd rfl (Or.inl rfl) (zbE Zg))
  (Zf (XJ PassesOwn.never rfl (YT rfl z_range (Za 1)) (ZC (i := 6) Yy.nd rfl (Or.inl rfl))
  (Zf (Zq (i := 7) Yy.nd rfl (Or.inl rfl) (Zh (Fx.Cle.cal C_law_cell_at) hr rfl (Zb (Za 0) (Zb (ZB YM (ZB YM Ze (ZB ZZ (Za 1) (Za 4))) (Za 6)) Zg))))
  (Zi (Yj (ZV (W3 hr.units) (ZB X4 (Zh (Fx.Cle.cal C_law_cell_at) hr rfl (Zb (Za 0) (Zb Ze Zg))) Ze) Ze (Zy _))
  (Zi (zeQ (i := 5) rfl (Y8 (Zb (Zh (Fx.Cle.cal C_law_number) hr rfl (Zb (Za 7) (Zb Ze Zg))) (Zb Ze Zg)))))
  (Zi (zeQ (i := 5) rfl (Zh (Fx.Cle.cal C_law_frac) hr rfl (Zb (Zh (Fx.Cle.cal C_law_number) hr rfl (Zb (Za 7) (Zb Ze Zg))) (Zb (ZB YM Ze (ZB X4 (ZB Vg (Za 7) Ze) Ze)) Zg)))))))))
  (Zi (zeQ (i := 3) rfl (Za 5))))))
  (Zi (Zn (Za 3)))))
abbrev Xq : Stmt := top 59
theorem Wc : FnScope ["_law_points_here", "_law_shares", "_law_kinds", "_law_made", "_law_j"] ["_law_points_here", "_law_shares", "_law_kinds"] (Zd Xq) := ⟨rfl, rfl, rfl, by decide +kernel, rfl, by decide +kernel, by decide +kernel⟩
theorem zbI (F : Fun K "_law_mixed" "_law_mixed" Xq fa fd) (hm : mg "_law_mixed" = some (.ref fa)) (b : ZF K fd ["_law_points_here", "_law_shares", "_law_kinds"] []) (z_range : mg "range" = none) (z_len : mg "len" = none) (C_law_add : Fx.Cle P w K mg base k "_law_add" 3 Yh) :
  Fx.Cle P w K mg base (k + 1) "_law_mixed" 3 YW := by
 exact Zz F hm b Wc rfl rfl fun cdv A outer s H E hr =>
  (Zf (Zq (i := 3) Wc.nd rfl (Or.inr rfl) (YK (Xt (N := ["_law_k"]) (nv := 1) (cap := []) (YS rfl) rfl (ZN (by decide)) (YT rfl z_range (Za 2)) ZO (fun _ _ _ _ => (ZC (i := 0) (show List.Nodup (["_law_k"] : List Str) from by decide +kernel) rfl (Or.inl rfl))) (fun _ _ _ _ _ => Yi) (fun _ _ _ _ _ => (Y8 (Zb Ze (Zb Ze Zg)))))))
  (Zf (XJ PassesOwn.never rfl (YT rfl z_range (ZW rfl z_len (Za 0))) (ZC (i := 4) Wc.nd rfl (Or.inr rfl))
  (Zi (Zq (i := 3) Wc.nd rfl (Or.inr rfl) (YK (Xt (N := ["_law_k", "_law_made", "_law_points_here", "_law_j", "_law_shares"]) (nv := 1) (cap := [3, 0, 4, 1]) (YS rfl) rfl (ZN (by decide)) (YT rfl z_range (Za 2)) ZO (fun _ _ _ _ => (ZC (i := 0) (show List.Nodup (["_law_k", "_law_made", "_law_points_here", "_law_j", "_law_shares"] : List Str) from by decide +kernel) rfl (Or.inl rfl))) (fun _ _ _ _ _ => Yi) (fun _ _ _ _ _ => (Zh (Fx.Cle.cal C_law_add) hr rfl (Zb (Zo (Za 1) (Za 0) (fun _ _ => rfl)) (Zb (Zo (Zo (Za 2) (Za 3) (fun _ _ => rfl)) (Za 0) (fun _ _ => rfl)) (Zb (Zo (Za 4) (Za 3) (fun _ _ => rfl)) Zg))))))))))
  (Zi (Zn (Za 3)))))
abbrev Xr : Stmt := top 60
theorem Wd : FnScope ["_law_weights", "_law_point", "_law_made", "_law_k"] ["_law_weights", "_law_point"] (Zd Xr) := ⟨rfl, rfl, rfl, by decide +kernel, rfl, by decide +kernel, by decide +kernel⟩
theorem zbJ (F : Fun K "_law_heavy" "_law_heavy" Xr fa fd) (hm : mg "_law_heavy" = some (.ref fa)) (b : ZF K fd ["_law_weights", "_law_point"] []) (z_range : mg "range" = none) (z_len : mg "len" = none) (C_law_add : Fx.Cle P w K mg base k "_law_add" 3 Yh) :
  Fx.Cle P w K mg base (k + 1) "_law_heavy" 2 YX := by
 exact Zz F hm b Wd rfl rfl fun cdv A outer s H E hr =>
  (Zf (Zq (i := 2) Wd.nd rfl (Or.inl rfl) (Y8 (Zb Ze (Zb Ze Zg))))
  (Zf (XJ PassesOwn.never rfl (YT rfl z_range (ZW rfl z_len (Za 1))) (ZC (i := 3) Wd.nd rfl (Or.inl rfl))
  (Zi (Zq (i := 2) Wd.nd rfl (Or.inl rfl) (Zh (Fx.Cle.cal C_law_add) hr rfl (Zb (Za 2) (Zb (Zo (Za 1) (Za 3) (fun _ _ => rfl)) (Zb (Zo (Za 0) (Za 3) (fun _ _ => rfl)) Zg)))))))
  (Zi (Zn (Za 2)))))
abbrev Y2 : Stmt := top 61
theorem XN : FnScope ["_law_points_here", "_law_point", "_law_shares", "_law_whole_here", "_law_share"] ["_law_points_here", "_law_point", "_law_shares"] (Zd Y2) := ⟨rfl, rfl, rfl, by decide +kernel, rfl, by decide +kernel, by decide +kernel⟩
theorem zaD (F : Fun K "_law_is_mix" "_law_is_mix" Y2 fa fd) (hm : mg "_law_is_mix" = some (.ref fa)) (b : ZF K fd ["_law_points_here", "_law_point", "_law_shares"] []) (z_len : mg "len" = none) (C_law_are_shares : Fx.Cle P w K mg base k "_law_are_shares" 2 Yn) (C_law_add : Fx.Cle P w K mg base k "_law_add" 3 Yh) (C_law_mixed : Fx.Cle P w K mg base k "_law_mixed" 3 YW) :
  Fx.Cle P w K mg base (k + 1) "_law_is_mix" 3 XA := by
 exact Zz F hm b XN rfl rfl fun cdv A outer s H E hr =>
  (Zf (Yj (Xa (Yv (Zh (Fx.Cle.cal C_law_are_shares) hr rfl (Zb (Za 2) (Zb (ZW rfl z_len (Za 0)) Zg))) (fun _ => rfl)))
  (Zi (Zn VI))
  ZJ)
  (Zf (Zq (i := 3) XN.nd rfl (Or.inl rfl) (Y8 (Zb Ze (Zb Ze Zg))))
  (Zf (XJ PassesOwn.never rfl (Y6 (Za 2)) (ZC (i := 4) XN.nd rfl (Or.inl rfl))
  (Zi (Zq (i := 3) XN.nd rfl (Or.inl rfl) (Zh (Fx.Cle.cal C_law_add) hr rfl (Zb (Za 3) (Zb (Za 4) (Zb (Y8 (Zb Ze (Zb Ze Zg))) Zg)))))))
  (Zi (Zn (QW (WC (W3 hr.units) (Za 3) (Y8 (Zb Ze (Zb Ze Zg))) (Zy _)) (U7 (WC (W3 hr.units) (Zh (Fx.Cle.cal C_law_mixed) hr rfl (Zb (Za 0) (Zb (Za 2) (Zb (ZW rfl z_len (Za 1)) Zg)))) (Za 1) (Zy _)))))))))
abbrev Yq : Stmt := top 62
theorem Vd : FnScope ["_law_points_here", "_law_point", "_law_weights", "_law_bound", "_law_one"] ["_law_points_here", "_law_point", "_law_weights", "_law_bound"] (Zd Yq) := ⟨rfl, rfl, rfl, by decide +kernel, rfl, by decide +kernel, by decide +kernel⟩
theorem QE (F : Fun K "_law_is_split" "_law_is_split" Yq fa fd) (hm : mg "_law_is_split" = some (.ref fa)) (b : ZF K fd ["_law_points_here", "_law_point", "_law_weights", "_law_bound"] []) (z_len : mg "len" = none) (C_law_is_point : Fx.Cle P w K mg base k "_law_is_point" 2 Yd) (C_law_is_fraction : Fx.Cle P w K mg base k "_law_is_fraction" 1 ZG) (C_law_heavy : Fx.Cle P w K mg base k "_law_heavy" 2 YX) (C_law_below : Fx.Cle P w K mg base k "_law_below" 2 Xw) :
  Fx.Cle P w K mg base (k + 1) "_law_is_split" 4 YQ := by
 exact Zz F hm b Vd rfl rfl fun cdv A outer s H E hr =>
  (Zf (Yj (Fx.tv_w (Va (Xa (Yv (Zh (Fx.Cle.cal C_law_is_point) hr rfl (Zb (Za 2) (Zb (ZW rfl z_len (Za 1)) Zg))) (fun _ => rfl))) (Wr (Xa (Yv (Zh (Fx.Cle.cal C_law_is_fraction) hr rfl (Zb (Za 3) Zg)) (fun _ => rfl))))))
  (Zi (Zn VI))
  ZJ)
  (Zf (XJ PassesOwn.never rfl (Y6 (Za 0)) (ZC (i := 4) Vd.nd rfl (Or.inl rfl))
  (Zi (Yj (Yv (Zh (Fx.Cle.cal C_law_below) hr rfl (Zb (Za 3) (Zb (Zh (Fx.Cle.cal C_law_heavy) hr rfl (Zb (Za 2) (Zb (Za 4) Zg))) Zg))) (fun _ => rfl))
  (Zi (Zn VI))
  ZJ)))
  (Zi (Zn (Zh (Fx.Cle.cal C_law_below) hr rfl (Zb (Za 3) (Zb (Zh (Fx.Cle.cal C_law_heavy) hr rfl (Zb (Za 2) (Zb (Za 1) Zg))) Zg)))))))
abbrev zau : Stmt := top 63
theorem W0 : FnScope ["_law_script", "_law_kinds", "_law_many", "_law_points_here", "_law_point", "_law_shares", "_law_known", "_law_parted", "_law_handed", "_law_answer"] ["_law_script"] (Zd zau) := ⟨rfl, rfl, rfl, by decide +kernel, rfl, by decide +kernel, by decide +kernel⟩
theorem law_fn (F : Fun K "law" "law" zau fa fd) (z_range : mg "range" = none) (z_sum : mg "sum" = none) (z_list : mg "list" = none) (z_isinstance : mg "isinstance" = none) (z_tuple : mg "tuple" = none) (z_len : mg "len" = none) (C_law_cell_at : Fx.Cle P w K mg base k "_law_cell_at" 2 Zr) (C_law_points : Fx.Cle P w K mg base k "_law_points" 3 Y7) (C_law_frac : Fx.Cle P w K mg base k "_law_frac" 2 Yg) (C_law_mixed : Fx.Cle P w K mg base k "_law_mixed" 3 YW) (C_mix : Fx.Cle P w K mg base k "mix" 2 zfX) (C_told_as : Fx.Cle P w K mg base k "told_as" 2 WB) (C_law_is_mix : Fx.Cle P w K mg base k "_law_is_mix" 3 XA) (C_law_is_split : Fx.Cle P w K mg base k "_law_is_split" 4 YQ) :
  FnOk P w K mg base CX0 (k + 1) fa fd ["_law_script"] (Fx.spF K none 1 zcy) := by
 exact Fx.fn_ok F W0 rfl fun cdv A outer s H E hr =>
  (Zf (Zq (i := 1) W0.nd rfl (Or.inl rfl) (ZB YM Ze (ZB X4 (Zh (Fx.Cle.cal C_law_cell_at) hr rfl (Zb (Za 0) (Zb Ze Zg))) Ze)))
  (Zf (Zq (i := 2) W0.nd rfl (Or.inl rfl) (ZB YM Ze (ZB X4 (Zh (Fx.Cle.cal C_law_cell_at) hr rfl (Zb (Za 0) (Zb Ze Zg))) Ze)))
  (Zf (Yj (ZV (W3 hr.units) (ZB X4 (Zh (Fx.Cle.cal C_law_cell_at) hr rfl (Zb (Za 0) (Zb Ze Zg))) Ze) Ze (Zy _))
  (Zi (Zq (i := 2) W0.nd rfl (Or.inl rfl) Ze))
  ZJ)
  (Zf (Zq (i := 3) W0.nd rfl (Or.inl rfl) (Zh (Fx.Cle.cal C_law_points) hr rfl (Zb (Za 0) (Zb (Za 1) (Zb (Za 2) Zg)))))
  (Zf (Zq (i := 4) W0.nd rfl (Or.inl rfl) (Zo (Zh (Fx.Cle.cal C_law_points) hr rfl (Zb (YK (Fx.ov_cut (Za 0) (Fx.pv_at Ze) Fx.pv_no)) (Zb (Za 1) (Zb Ze Zg)))) Ze (fun _ _ => rfl)))
  (Zf (Zq (i := 5) W0.nd rfl (Or.inr rfl) (YK (Xt (N := ["_law_k", "_law_script"]) (nv := 1) (cap := [0]) (YS rfl) rfl (ZN (by decide)) (YT rfl z_range (Za 2)) ZO (fun _ _ _ _ => (ZC (i := 0) (show List.Nodup (["_law_k", "_law_script"] : List Str) from by decide +kernel) rfl (Or.inl rfl))) (fun _ _ _ _ _ => Yi) (fun _ _ _ _ _ => (ZB X4 (Zh (Fx.Cle.cal C_law_cell_at) hr rfl (Zb (Za 1) (Zb (ZB YM Ze (Za 0)) Zg))) Ze)))))
  (Zf (Zq (i := 6) W0.nd rfl (Or.inl rfl) (QW (WC (W3 hr.units) (ZB X4 (Zh (Fx.Cle.cal C_law_cell_at) hr rfl (Zb (Za 0) (Zb Ze Zg))) Ze) Ze (Zy _)) (U7 (WC QD (Fx.ev_sum rfl z_sum (Za 5)) Ze (Zy _)))))
  (Zf (Yj (Yv (Za 6) (fun _ => rfl))
  (Zf (VY (N := ["_law_share", "_law_shares"]) (nv := 1) (cap := [5]) (i := 7) (YS rfl) rfl (ZN (by decide)) (Y6 (Za 5)) ZO (fun _ _ _ _ => (ZC (i := 0) (show List.Nodup (["_law_share", "_law_shares"] : List Str) from by decide +kernel) rfl (Or.inl rfl))) (fun _ _ _ _ _ => Yi) (fun _ _ _ _ _ => (Zh (Fx.Cle.cal C_law_frac) hr rfl (Zb (Za 0) (Zb (Fx.ev_sum rfl z_sum (Za 1)) Zg)))) W0.nd rfl (Or.inl rfl))
  (Zf (Zq (i := 4) W0.nd rfl (Or.inl rfl) (Zh (Fx.Cle.cal C_law_mixed) hr rfl (Zb (Za 3) (Zb (Za 7) (Zb (Za 1) Zg)))))
  (Zi (Yj (ZV (W2 hr.units) (Zh (Fx.Cle.cal C_mix) hr rfl (Zb (YK (Xt (N := ["_law_one"]) (nv := 1) (cap := []) (YS rfl) rfl (ZN (by decide)) (Y6 (Za 3)) ZO (fun _ _ _ _ => (ZC (i := 0) (show List.Nodup (["_law_one"] : List Str) from by decide +kernel) rfl (Or.inl rfl))) (fun _ _ _ _ _ => Yi) (fun _ _ _ _ _ => (YK (QC rfl z_list (Za 0)))))) (Zb (YK (QC rfl z_list (Za 7))) Zg))) (Za 4) (Zy _))
  (Zi (Zn VI))
  ZJ))))
  ZJ)
  (Zf (VY (N := ["_law_one"]) (nv := 1) (cap := []) (i := 8) (YS rfl) rfl (ZN (by decide)) (Y6 (Za 3)) ZO (fun _ _ _ _ => (ZC (i := 0) (show List.Nodup (["_law_one"] : List Str) from by decide +kernel) rfl (Or.inl rfl))) (fun _ _ _ _ _ => Yi) (fun _ _ _ _ _ => (YK (QC rfl z_list (Za 0)))) W0.nd rfl (Or.inl rfl))
  (Zf (Zq (i := 9) W0.nd rfl (Or.inl rfl) (Zh (Fx.Cle.cal C_told_as) hr rfl (Zb (Za 8) (Zb (YK (QC rfl z_list (Za 4))) Zg))))
  (Zf (Yj (Fx.tv_w (Va (ZV (W2 hr.units) (Za 8) (Za 3) (Zy _)) (Va (Xa (Yv (Yo QK (show bootBuiltins "tuple" = some (.type "tuple") by decide +kernel) rfl z_isinstance rfl z_tuple (Za 9)) (fun _ => rfl))) (Wr (ZV Wh (ZW rfl z_len (Za 9)) Ze (Zy _))))))
  (Zi (Zn VI))
  ZJ)
  (Zf (Yj (ZV (W3 hr.units) (Zo (Za 9) Ze (fun _ _ => rfl)) U6 (Zy _))
  (Zi (Zn (QW (WC (W3 hr.units) (ZW rfl z_len (Za 9)) Ze (Zy _)) (U7 (Zh (Fx.Cle.cal C_law_is_mix) hr rfl (Zb (Za 3) (Zb (Za 4) (Zb (Zo (Za 9) Ze (fun _ _ => rfl)) Zg))))))))
  ZJ)
  (Zf (Yj (Fx.tv_w (Va (ZV (W2 hr.units) (Zo (Za 9) Ze (fun _ _ => rfl)) U6 (Zy _)) (Va (ZV (W2 hr.units) (ZW rfl z_len (Za 9)) Ze (Zy _)) (Wr (Yv (Za 6) (fun _ => rfl))))))
  (Zi (Zn VI))
  ZJ)
  (Zi (Zn (Zh (Fx.Cle.cal C_law_is_split) hr rfl (Zb (Za 3) (Zb (Za 4) (Zb (Zo (Za 9) Ze (fun _ _ => rfl)) (Zb (Zo (Za 9) Ze (fun _ _ => rfl)) Zg))))))))))))))))))))
theorem all_mk {l : PySem.W.OpenLaw} {w : World} {K : PySem.W.Frag} {h : Heap} {mg : Str -> Option Value} {fa : Addr} (X : K.In h) (G : h.Ns mainGlobals mg) (hfa : mg "law" = some (.ref fa))
  {f0 f1 f2 f3 f4 f5 f6 f7 f8 f9 f10 f11 f12 f13 f14 f15 f16 f18 f19 f20 f21 f22 f23 f24 f25 f26 f27 f28 f29 f30 f31 f32 f33 f34 f35 f36 f37 f38 f39 f40 f41 f42 f43 f44 f45 f46 f47 f48 f49 : Addr} {od0 an0 od1 an1 od2 an2 od3 an3 od4 an4 od5 an5 od6 an6 od7 an7 od8 an8 od9 an9 od10 an10 od11 an11 od12 an12 od13 an13 od14 an14 od15 an15 od16 an16 od18 an18 od19 an19 od20 an20 od21 an21 od22 an22 od23 an23 od24 an24 od25 an25 od26 an26 od27 an27 od28 an28 od29 an29 od30 an30 od31 an31 od32 an32 od33 an33 od34 an34 od35 an35 od36 an36 od37 an37 od38 an38 od39 an39 od40 an40 od41 an41 od42 an42 od43 an43 od44 an44 od45 an45 od46 an46 od47 an47 od48 an48 od49 an49 : Option Addr} {sl0 sl1 sl2 sl3 sl4 sl5 sl6 sl7 sl8 sl9 sl10 sl11 sl12 sl13 sl14 sl15 sl16 sl18 sl19 sl20 sl21 sl22 sl23 sl24 sl25 sl26 sl27 sl28 sl29 sl30 sl31 sl32 sl33 sl34 sl35 sl36 sl37 sl38 sl39 sl40 sl41 sl42 sl43 sl44 sl45 sl46 sl47 sl48 sl49 : Array (Option Value)} {oc0 kV0 dc0 pm0 cd0 ct0 oc1 kV1 dc1 pm1 cd1 ct1 oc2 kV2 dc2 pm2 cd2 ct2 oc3 kV3 dc3 pm3 cd3 ct3 oc4 kV4 dc4 pm4 cd4 ct4 oc5 kV5 dc5 pm5 cd5 ct5 oc6 kV6 dc6 pm6 cd6 ct6 oc7 kV7 dc7 pm7 cd7 ct7 oc8 kV8 dc8 pm8 cd8 ct8 oc9 kV9 dc9 pm9 cd9 ct9 oc10 kV10 dc10 pm10 cd10 ct10 oc11 kV11 dc11 pm11 cd11 ct11 oc12 kV12 dc12 pm12 cd12 ct12 oc13 kV13 dc13 pm13 cd13 ct13 oc14 kV14 dc14 pm14 cd14 ct14 oc15 kV15 dc15 pm15 cd15 ct15 oc16 kV16 dc16 pm16 cd16 ct16 oc18 kV18 dc18 pm18 cd18 ct18 oc19 kV19 dc19 pm19 cd19 ct19 oc20 kV20 dc20 pm20 cd20 ct20 oc21 kV21 dc21 pm21 cd21 ct21 oc22 kV22 dc22 pm22 cd22 ct22 oc23 kV23 dc23 pm23 cd23 ct23 oc24 kV24 dc24 pm24 cd24 ct24 oc25 kV25 dc25 pm25 cd25 ct25 oc26 kV26 dc26 pm26 cd26 ct26 oc27 kV27 dc27 pm27 cd27 ct27 oc28 kV28 dc28 pm28 cd28 ct28 oc29 kV29 dc29 pm29 cd29 ct29 oc30 kV30 dc30 pm30 cd30 ct30 oc31 kV31 dc31 pm31 cd31 ct31 oc32 kV32 dc32 pm32 cd32 ct32 oc33 kV33 dc33 pm33 cd33 ct33 oc34 kV34 dc34 pm34 cd34 ct34 oc35 kV35 dc35 pm35 cd35 ct35 oc36 kV36 dc36 pm36 cd36 ct36 oc37 kV37 dc37 pm37 cd37 ct37 oc38 kV38 dc38 pm38 cd38 ct38 oc39 kV39 dc39 pm39 cd39 ct39 oc40 kV40 dc40 pm40 cd40 ct40 oc41 kV41 dc41 pm41 cd41 ct41 oc42 kV42 dc42 pm42 cd42 ct42 oc43 kV43 dc43 pm43 cd43 ct43 oc44 kV44 dc44 pm44 cd44 ct44 oc45 kV45 dc45 pm45 cd45 ct45 oc46 kV46 dc46 pm46 cd46 ct46 oc47 kV47 dc47 pm47 cd47 ct47 oc48 kV48 dc48 pm48 cd48 ct48 oc49 kV49 dc49 pm49 cd49 ct49 : Value}
  {f17 : Addr} {od17 an17 : Option Addr} {sl17 : Array (Option Value)} {oc17 kV17 dc17 pm17 ct17 : Value}
  {tg_MOST_POINTS : Tok}
  {tg_MOST_KINDS : Tok}
  {C_Board fI_Board : Addr} {odI_Board anI_Board : Option Addr} {slI_Board : Array (Option Value)} {ocI_Board kVI_Board dcI_Board pmI_Board cdI_Board ctI_Board : Value}
  {cL_raising_column TL_raising_column : Addr} {occ_raising_column : Value} {odc_raising_column : Option Addr} {vsc_raising_column : Array Value} {slc_raising_column : Array (Option Value)}
  (a0 : PySem.W.nsIn K mainGlobals "is_whole" = some (some (.ref f0))) (l0 : K.lookup f0 = some ⟨oc0, od0, .func (PySem.W.fnOf "is_whole" "is_whole" (Zm XY) (Zl XY) (Zd XY) .none kV0 dc0 pm0 an0 cd0 ct0), sl0⟩) (c0 : PySem.W.codeIn K cd0 "is_whole" = true) (k0 : PySem.W.keepIn K (.ref f0) = true)
  (a1 : PySem.W.nsIn K mainGlobals "common_divisor" = some (some (.ref f1))) (l1 : K.lookup f1 = some ⟨oc1, od1, .func (PySem.W.fnOf "common_divisor" "common_divisor" (Zm Z6) (Zl Z6) (Zd Z6) .none kV1 dc1 pm1 an1 cd1 ct1), sl1⟩) (c1 : PySem.W.codeIn K cd1 "common_divisor" = true) (k1 : PySem.W.keepIn K (.ref f1) = true)
  (a2 : PySem.W.nsIn K mainGlobals "is_fraction" = some (some (.ref f2))) (l2 : K.lookup f2 = some ⟨oc2, od2, .func (PySem.W.fnOf "is_fraction" "is_fraction" (Zm YC) (Zl YC) (Zd YC) .none kV2 dc2 pm2 an2 cd2 ct2), sl2⟩) (c2 : PySem.W.codeIn K cd2 "is_fraction" = true) (k2 : PySem.W.keepIn K (.ref f2) = true)
  (a3 : PySem.W.nsIn K mainGlobals "frac" = some (some (.ref f3))) (l3 : K.lookup f3 = some ⟨oc3, od3, .func (PySem.W.fnOf "frac" "frac" (Zm JJ) (Zl JJ) (Zd JJ) .none kV3 dc3 pm3 an3 cd3 ct3), sl3⟩) (c3 : PySem.W.codeIn K cd3 "frac" = true) (k3 : PySem.W.keepIn K (.ref f3) = true)
  (a4 : PySem.W.nsIn K mainGlobals "plus" = some (some (.ref f4))) (l4 : K.lookup f4 = some ⟨oc4, od4, .func (PySem.W.fnOf "plus" "plus" (Zm JI) (Zl JI) (Zd JI) .none kV4 dc4 pm4 an4 cd4 ct4), sl4⟩) (c4 : PySem.W.codeIn K cd4 "plus" = true) (k4 : PySem.W.keepIn K (.ref f4) = true)
  (a5 : PySem.W.nsIn K mainGlobals "times" = some (some (.ref f5))) (l5 : K.lookup f5 = some ⟨oc5, od5, .func (PySem.W.fnOf "times" "times" (Zm UQ) (Zl UQ) (Zd UQ) .none kV5 dc5 pm5 an5 cd5 ct5), sl5⟩) (c5 : PySem.W.codeIn K cd5 "times" = true) (k5 : PySem.W.keepIn K (.ref f5) = true)
  (a6 : PySem.W.nsIn K mainGlobals "check_point" = some (some (.ref f6))) (l6 : K.lookup f6 = some ⟨oc6, od6, .func (PySem.W.fnOf "check_point" "check_point" (Zm YE) (Zl YE) (Zd YE) .none kV6 dc6 pm6 an6 cd6 ct6), sl6⟩) (c6 : PySem.W.codeIn K cd6 "check_point" = true) (k6 : PySem.W.keepIn K (.ref f6) = true)
  (a7 : PySem.W.nsIn K mainGlobals "unit" = some (some (.ref f7))) (l7 : K.lookup f7 = some ⟨oc7, od7, .func (PySem.W.fnOf "unit" "unit" (Zm JG) (Zl JG) (Zd JG) .none kV7 dc7 pm7 an7 cd7 ct7), sl7⟩) (c7 : PySem.W.codeIn K cd7 "unit" = true) (k7 : PySem.W.keepIn K (.ref f7) = true)
  (a8 : PySem.W.nsIn K mainGlobals "room_row" = some (some (.ref f8))) (l8 : K.lookup f8 = some ⟨oc8, od8, .func (PySem.W.fnOf "room_row" "room_row" (Zm XV) (Zl XV) (Zd XV) .none kV8 dc8 pm8 an8 cd8 ct8), sl8⟩) (c8 : PySem.W.codeIn K cd8 "room_row" = true) (k8 : PySem.W.keepIn K (.ref f8) = true)
  (a9 : PySem.W.nsIn K mainGlobals "first_board" = some (some (.ref f9))) (l9 : K.lookup f9 = some ⟨oc9, od9, .func (PySem.W.fnOf "first_board" "first_board" (Zm YD) (Zl YD) (Zd YD) .none kV9 dc9 pm9 an9 cd9 ct9), sl9⟩) (c9 : PySem.W.codeIn K cd9 "first_board" = true) (k9 : PySem.W.keepIn K (.ref f9) = true)
  (a10 : PySem.W.nsIn K mainGlobals "rooms_of" = some (some (.ref f10))) (l10 : K.lookup f10 = some ⟨oc10, od10, .func (PySem.W.fnOf "rooms_of" "rooms_of" (Zm XU) (Zl XU) (Zd XU) .none kV10 dc10 pm10 an10 cd10 ct10), sl10⟩) (c10 : PySem.W.codeIn K cd10 "rooms_of" = true) (k10 : PySem.W.keepIn K (.ref f10) = true)
  (a11 : PySem.W.nsIn K mainGlobals "worth_of" = some (some (.ref f11))) (l11 : K.lookup f11 = some ⟨oc11, od11, .func (PySem.W.fnOf "worth_of" "worth_of" (Zm XT) (Zl XT) (Zd XT) .none kV11 dc11 pm11 an11 cd11 ct11), sl11⟩) (c11 : PySem.W.codeIn K cd11 "worth_of" = true) (k11 : PySem.W.keepIn K (.ref f11) = true)
  (a12 : PySem.W.nsIn K mainGlobals "swapped_row" = some (some (.ref f12))) (l12 : K.lookup f12 = some ⟨oc12, od12, .func (PySem.W.fnOf "swapped_row" "swapped_row" (Zm Yz) (Zl Yz) (Zd Yz) .none kV12 dc12 pm12 an12 cd12 ct12), sl12⟩) (c12 : PySem.W.codeIn K cd12 "swapped_row" = true) (k12 : PySem.W.keepIn K (.ref f12) = true)
  (a13 : PySem.W.nsIn K mainGlobals "swapped" = some (some (.ref f13))) (l13 : K.lookup f13 = some ⟨oc13, od13, .func (PySem.W.fnOf "swapped" "swapped" (Zm Wv) (Zl Wv) (Zd Wv) .none kV13 dc13 pm13 an13 cd13 ct13), sl13⟩) (c13 : PySem.W.codeIn K cd13 "swapped" = true) (k13 : PySem.W.keepIn K (.ref f13) = true)
  (a14 : PySem.W.nsIn K mainGlobals "first_room_on" = some (some (.ref f14))) (l14 : K.lookup f14 = some ⟨oc14, od14, .func (PySem.W.fnOf "first_room_on" "first_room_on" (Zm Yf) (Zl Yf) (Zd Yf) .none kV14 dc14 pm14 an14 cd14 ct14), sl14⟩) (c14 : PySem.W.codeIn K cd14 "first_room_on" = true) (k14 : PySem.W.keepIn K (.ref f14) = true)
  (a15 : PySem.W.nsIn K mainGlobals "freed" = some (some (.ref f15))) (l15 : K.lookup f15 = some ⟨oc15, od15, .func (PySem.W.fnOf "freed" "freed" (Zm UT) (Zl UT) (Zd UT) .none kV15 dc15 pm15 an15 cd15 ct15), sl15⟩) (c15 : PySem.W.codeIn K cd15 "freed" = true) (k15 : PySem.W.keepIn K (.ref f15) = true)
  (a16 : PySem.W.nsIn K mainGlobals "helps" = some (some (.ref f16))) (l16 : K.lookup f16 = some ⟨oc16, od16, .func (PySem.W.fnOf "helps" "helps" (Zm US) (Zl US) (Zd US) .none kV16 dc16 pm16 an16 cd16 ct16), sl16⟩) (c16 : PySem.W.codeIn K cd16 "helps" = true) (k16 : PySem.W.keepIn K (.ref f16) = true)
  (a17 : PySem.W.nsIn K mainGlobals "raising_column" = some (some (.ref f17))) (l17 : K.lookup f17 = some ⟨oc17, od17, .func (PySem.W.fnOf "raising_column" "raising_column" (Zm Z4) (Zl Z4) (Zd Z4) .none kV17 dc17 pm17 an17 (.ref cL_raising_column) ct17), sl17⟩) (c17 : PySem.W.codeIn K (.ref cL_raising_column) "raising_column" = true) (k17 : PySem.W.keepIn K (.ref f17) = true)
  (a18 : PySem.W.nsIn K mainGlobals "short_room" = some (some (.ref f18))) (l18 : K.lookup f18 = some ⟨oc18, od18, .func (PySem.W.fnOf "short_room" "short_room" (Zm YZ) (Zl YZ) (Zd YZ) .none kV18 dc18 pm18 an18 cd18 ct18), sl18⟩) (c18 : PySem.W.codeIn K cd18 "short_room" = true) (k18 : PySem.W.keepIn K (.ref f18) = true)
  (a19 : PySem.W.nsIn K mainGlobals "settled" = some (some (.ref f19))) (l19 : K.lookup f19 = some ⟨oc19, od19, .func (PySem.W.fnOf "settled" "settled" (Zm Ww) (Zl Ww) (Zd Ww) .none kV19 dc19 pm19 an19 cd19 ct19), sl19⟩) (c19 : PySem.W.codeIn K cd19 "settled" = true) (k19 : PySem.W.keepIn K (.ref f19) = true)
  (a20 : PySem.W.nsIn K mainGlobals "point_of" = some (some (.ref f20))) (l20 : K.lookup f20 = some ⟨oc20, od20, .func (PySem.W.fnOf "point_of" "point_of" (Zm XW) (Zl XW) (Zd XW) .none kV20 dc20 pm20 an20 cd20 ct20), sl20⟩) (c20 : PySem.W.codeIn K cd20 "point_of" = true) (k20 : PySem.W.keepIn K (.ref f20) = true)
  (a21 : PySem.W.nsIn K mainGlobals "shares_of" = some (some (.ref f21))) (l21 : K.lookup f21 = some ⟨oc21, od21, .func (PySem.W.fnOf "shares_of" "shares_of" (Zm Xo) (Zl Xo) (Zd Xo) .none kV21 dc21 pm21 an21 cd21 ct21), sl21⟩) (c21 : PySem.W.codeIn K cd21 "shares_of" = true) (k21 : PySem.W.keepIn K (.ref f21) = true)
  (a22 : PySem.W.nsIn K mainGlobals "clash_of" = some (some (.ref f22))) (l22 : K.lookup f22 = some ⟨oc22, od22, .func (PySem.W.fnOf "clash_of" "clash_of" (Zm XZ) (Zl XZ) (Zd XZ) .none kV22 dc22 pm22 an22 cd22 ct22), sl22⟩) (c22 : PySem.W.codeIn K cd22 "clash_of" = true) (k22 : PySem.W.keepIn K (.ref f22) = true)
  (a23 : PySem.W.nsIn K mainGlobals "check_goal" = some (some (.ref f23))) (l23 : K.lookup f23 = some ⟨oc23, od23, .func (PySem.W.fnOf "check_goal" "check_goal" (Zm Y4) (Zl Y4) (Zd Y4) .none kV23 dc23 pm23 an23 cd23 ct23), sl23⟩) (c23 : PySem.W.codeIn K cd23 "check_goal" = true) (k23 : PySem.W.keepIn K (.ref f23) = true)
  (a24 : PySem.W.nsIn K mainGlobals "sooner" = some (some (.ref f24))) (l24 : K.lookup f24 = some ⟨oc24, od24, .func (PySem.W.fnOf "sooner" "sooner" (Zm VB) (Zl VB) (Zd VB) .none kV24 dc24 pm24 an24 cd24 ct24), sl24⟩) (c24 : PySem.W.codeIn K cd24 "sooner" = true) (k24 : PySem.W.keepIn K (.ref f24) = true)
  (a25 : PySem.W.nsIn K mainGlobals "first_stop" = some (some (.ref f25))) (l25 : K.lookup f25 = some ⟨oc25, od25, .func (PySem.W.fnOf "first_stop" "first_stop" (Zm Y3) (Zl Y3) (Zd Y3) .none kV25 dc25 pm25 an25 cd25 ct25), sl25⟩) (c25 : PySem.W.codeIn K cd25 "first_stop" = true) (k25 : PySem.W.keepIn K (.ref f25) = true)
  (a26 : PySem.W.nsIn K mainGlobals "way_of" = some (some (.ref f26))) (l26 : K.lookup f26 = some ⟨oc26, od26, .func (PySem.W.fnOf "way_of" "way_of" (Zm VA) (Zl VA) (Zd VA) .none kV26 dc26 pm26 an26 cd26 ct26), sl26⟩) (c26 : PySem.W.codeIn K cd26 "way_of" = true) (k26 : PySem.W.keepIn K (.ref f26) = true)
  (a27 : PySem.W.nsIn K mainGlobals "climbed" = some (some (.ref f27))) (l27 : K.lookup f27 = some ⟨oc27, od27, .func (PySem.W.fnOf "climbed" "climbed" (Zm Wz) (Zl Wz) (Zd Wz) .none kV27 dc27 pm27 an27 cd27 ct27), sl27⟩) (c27 : PySem.W.codeIn K cd27 "climbed" = true) (k27 : PySem.W.keepIn K (.ref f27) = true)
  (a28 : PySem.W.nsIn K mainGlobals "best" = some (some (.ref f28))) (l28 : K.lookup f28 = some ⟨oc28, od28, .func (PySem.W.fnOf "best" "best" (Zm JK) (Zl JK) (Zd JK) .none kV28 dc28 pm28 an28 cd28 ct28), sl28⟩) (c28 : PySem.W.codeIn K cd28 "best" = true) (k28 : PySem.W.keepIn K (.ref f28) = true)
  (a29 : PySem.W.nsIn K mainGlobals "moved" = some (some (.ref f29))) (l29 : K.lookup f29 = some ⟨oc29, od29, .func (PySem.W.fnOf "moved" "moved" (Zm UR) (Zl UR) (Zd UR) .none kV29 dc29 pm29 an29 cd29 ct29), sl29⟩) (c29 : PySem.W.codeIn K cd29 "moved" = true) (k29 : PySem.W.keepIn K (.ref f29) = true)
  (a30 : PySem.W.nsIn K mainGlobals "check_points" = some (some (.ref f30))) (l30 : K.lookup f30 = some ⟨oc30, od30, .func (PySem.W.fnOf "check_points" "check_points" (Zm Ys) (Zl Ys) (Zd Ys) .none kV30 dc30 pm30 an30 cd30 ct30), sl30⟩) (c30 : PySem.W.codeIn K cd30 "check_points" = true) (k30 : PySem.W.keepIn K (.ref f30) = true)
  (a31 : PySem.W.nsIn K mainGlobals "mix" = some (some (.ref f31))) (l31 : K.lookup f31 = some ⟨oc31, od31, .func (PySem.W.fnOf "mix" "mix" (Zm zd4) (Zl zd4) (Zd zd4) .none kV31 dc31 pm31 an31 cd31 ct31), sl31⟩) (c31 : PySem.W.codeIn K cd31 "mix" = true) (k31 : PySem.W.keepIn K (.ref f31) = true)
  (a32 : PySem.W.nsIn K mainGlobals "whole_row" = some (some (.ref f32))) (l32 : K.lookup f32 = some ⟨oc32, od32, .func (PySem.W.fnOf "whole_row" "whole_row" (Zm Xn) (Zl Xn) (Zd Xn) .none kV32 dc32 pm32 an32 cd32 ct32), sl32⟩) (c32 : PySem.W.codeIn K cd32 "whole_row" = true) (k32 : PySem.W.keepIn K (.ref f32) = true)
  (a33 : PySem.W.nsIn K mainGlobals "told_as" = some (some (.ref f33))) (l33 : K.lookup f33 = some ⟨oc33, od33, .func (PySem.W.fnOf "told_as" "told_as" (Zm Wu) (Zl Wu) (Zd Wu) .none kV33 dc33 pm33 an33 cd33 ct33), sl33⟩) (c33 : PySem.W.codeIn K cd33 "told_as" = true) (k33 : PySem.W.keepIn K (.ref f33) = true)
  (a34 : PySem.W.nsIn K mainGlobals "_law_cell_at" = some (some (.ref f34))) (l34 : K.lookup f34 = some ⟨oc34, od34, .func (PySem.W.fnOf "_law_cell_at" "_law_cell_at" (Zm YB) (Zl YB) (Zd YB) .none kV34 dc34 pm34 an34 cd34 ct34), sl34⟩) (c34 : PySem.W.codeIn K cd34 "_law_cell_at" = true) (k34 : PySem.W.keepIn K (.ref f34) = true)
  (a35 : PySem.W.nsIn K mainGlobals "_law_number" = some (some (.ref f35))) (l35 : K.lookup f35 = some ⟨oc35, od35, .func (PySem.W.fnOf "_law_number" "_law_number" (Zm Y1) (Zl Y1) (Zd Y1) .none kV35 dc35 pm35 an35 cd35 ct35), sl35⟩) (c35 : PySem.W.codeIn K cd35 "_law_number" = true) (k35 : PySem.W.keepIn K (.ref f35) = true)
  (a36 : PySem.W.nsIn K mainGlobals "_law_whole" = some (some (.ref f36))) (l36 : K.lookup f36 = some ⟨oc36, od36, .func (PySem.W.fnOf "_law_whole" "_law_whole" (Zm Xp) (Zl Xp) (Zd Xp) .none kV36 dc36 pm36 an36 cd36 ct36), sl36⟩) (c36 : PySem.W.codeIn K cd36 "_law_whole" = true) (k36 : PySem.W.keepIn K (.ref f36) = true)
  (a37 : PySem.W.nsIn K mainGlobals "_law_divisor" = some (some (.ref f37))) (l37 : K.lookup f37 = some ⟨oc37, od37, .func (PySem.W.fnOf "_law_divisor" "_law_divisor" (Zm YA) (Zl YA) (Zd YA) .none kV37 dc37 pm37 an37 cd37 ct37), sl37⟩) (c37 : PySem.W.codeIn K cd37 "_law_divisor" = true) (k37 : PySem.W.keepIn K (.ref f37) = true)
  (a38 : PySem.W.nsIn K mainGlobals "_law_is_fraction" = some (some (.ref f38))) (l38 : K.lookup f38 = some ⟨oc38, od38, .func (PySem.W.fnOf "_law_is_fraction" "_law_is_fraction" (Zm Z3) (Zl Z3) (Zd Z3) .none kV38 dc38 pm38 an38 cd38 ct38), sl38⟩) (c38 : PySem.W.codeIn K cd38 "_law_is_fraction" = true) (k38 : PySem.W.keepIn K (.ref f38) = true)
  (a39 : PySem.W.nsIn K mainGlobals "_law_is_point" = some (some (.ref f39))) (l39 : K.lookup f39 = some ⟨oc39, od39, .func (PySem.W.fnOf "_law_is_point" "_law_is_point" (Zm Yr) (Zl Yr) (Zd Yr) .none kV39 dc39 pm39 an39 cd39 ct39), sl39⟩) (c39 : PySem.W.codeIn K cd39 "_law_is_point" = true) (k39 : PySem.W.keepIn K (.ref f39) = true)
  (a40 : PySem.W.nsIn K mainGlobals "_law_are_shares" = some (some (.ref f40))) (l40 : K.lookup f40 = some ⟨oc40, od40, .func (PySem.W.fnOf "_law_are_shares" "_law_are_shares" (Zm Z5) (Zl Z5) (Zd Z5) .none kV40 dc40 pm40 an40 cd40 ct40), sl40⟩) (c40 : PySem.W.codeIn K cd40 "_law_are_shares" = true) (k40 : PySem.W.keepIn K (.ref f40) = true)
  (a41 : PySem.W.nsIn K mainGlobals "_law_frac" = some (some (.ref f41))) (l41 : K.lookup f41 = some ⟨oc41, od41, .func (PySem.W.fnOf "_law_frac" "_law_frac" (Zm XX) (Zl XX) (Zd XX) .none kV41 dc41 pm41 an41 cd41 ct41), sl41⟩) (c41 : PySem.W.codeIn K cd41 "_law_frac" = true) (k41 : PySem.W.keepIn K (.ref f41) = true)
  (a42 : PySem.W.nsIn K mainGlobals "_law_add" = some (some (.ref f42))) (l42 : K.lookup f42 = some ⟨oc42, od42, .func (PySem.W.fnOf "_law_add" "_law_add" (Zm Wx) (Zl Wx) (Zd Wx) .none kV42 dc42 pm42 an42 cd42 ct42), sl42⟩) (c42 : PySem.W.codeIn K cd42 "_law_add" = true) (k42 : PySem.W.keepIn K (.ref f42) = true)
  (a43 : PySem.W.nsIn K mainGlobals "_law_below" = some (some (.ref f43))) (l43 : K.lookup f43 = some ⟨oc43, od43, .func (PySem.W.fnOf "_law_below" "_law_below" (Zm Xs) (Zl Xs) (Zd Xs) .none kV43 dc43 pm43 an43 cd43 ct43), sl43⟩) (c43 : PySem.W.codeIn K cd43 "_law_below" = true) (k43 : PySem.W.keepIn K (.ref f43) = true)
  (a44 : PySem.W.nsIn K mainGlobals "_law_points" = some (some (.ref f44))) (l44 : K.lookup f44 = some ⟨oc44, od44, .func (PySem.W.fnOf "_law_points" "_law_points" (Zm Y0) (Zl Y0) (Zd Y0) .none kV44 dc44 pm44 an44 cd44 ct44), sl44⟩) (c44 : PySem.W.codeIn K cd44 "_law_points" = true) (k44 : PySem.W.keepIn K (.ref f44) = true)
  (a45 : PySem.W.nsIn K mainGlobals "_law_mixed" = some (some (.ref f45))) (l45 : K.lookup f45 = some ⟨oc45, od45, .func (PySem.W.fnOf "_law_mixed" "_law_mixed" (Zm Xq) (Zl Xq) (Zd Xq) .none kV45 dc45 pm45 an45 cd45 ct45), sl45⟩) (c45 : PySem.W.codeIn K cd45 "_law_mixed" = true) (k45 : PySem.W.keepIn K (.ref f45) = true)
  (a46 : PySem.W.nsIn K mainGlobals "_law_heavy" = some (some (.ref f46))) (l46 : K.lookup f46 = some ⟨oc46, od46, .func (PySem.W.fnOf "_law_heavy" "_law_heavy" (Zm Xr) (Zl Xr) (Zd Xr) .none kV46 dc46 pm46 an46 cd46 ct46), sl46⟩) (c46 : PySem.W.codeIn K cd46 "_law_heavy" = true) (k46 : PySem.W.keepIn K (.ref f46) = true)
  (a47 : PySem.W.nsIn K mainGlobals "_law_is_mix" = some (some (.ref f47))) (l47 : K.lookup f47 = some ⟨oc47, od47, .func (PySem.W.fnOf "_law_is_mix" "_law_is_mix" (Zm Y2) (Zl Y2) (Zd Y2) .none kV47 dc47 pm47 an47 cd47 ct47), sl47⟩) (c47 : PySem.W.codeIn K cd47 "_law_is_mix" = true) (k47 : PySem.W.keepIn K (.ref f47) = true)
  (a48 : PySem.W.nsIn K mainGlobals "_law_is_split" = some (some (.ref f48))) (l48 : K.lookup f48 = some ⟨oc48, od48, .func (PySem.W.fnOf "_law_is_split" "_law_is_split" (Zm Yq) (Zl Yq) (Zd Yq) .none kV48 dc48 pm48 an48 cd48 ct48), sl48⟩) (c48 : PySem.W.codeIn K cd48 "_law_is_split" = true) (k48 : PySem.W.keepIn K (.ref f48) = true)
  (a49 : PySem.W.nsIn K mainGlobals "law" = some (some (.ref f49))) (l49 : K.lookup f49 = some ⟨oc49, od49, .func (PySem.W.fnOf "law" "law" (Zm zau) (Zl zau) (Zd zau) .none kV49 dc49 pm49 an49 cd49 ct49), sl49⟩) (c49 : PySem.W.codeIn K cd49 "law" = true) (k49 : PySem.W.keepIn K (.ref f49) = true)
  (z_isinstance : PySem.W.nsIn K mainGlobals "isinstance" = some none)
  (z_int : PySem.W.nsIn K mainGlobals "int" = some none)
  (z_bool : PySem.W.nsIn K mainGlobals "bool" = some none)
  (z_abs : PySem.W.nsIn K mainGlobals "abs" = some none)
  (z_tuple : PySem.W.nsIn K mainGlobals "tuple" = some none)
  (z_len : PySem.W.nsIn K mainGlobals "len" = some none)
  (z_list : PySem.W.nsIn K mainGlobals "list" = some none)
  (z_all : PySem.W.nsIn K mainGlobals "all" = some none)
  (z_range : PySem.W.nsIn K mainGlobals "range" = some none)
  (z_zip : PySem.W.nsIn K mainGlobals "zip" = some none)
  (z_min : PySem.W.nsIn K mainGlobals "min" = some none)
  (z_sum : PySem.W.nsIn K mainGlobals "sum" = some none)
  (g_MOST_POINTS : PySem.W.nsIn K mainGlobals "MOST_POINTS" = some (some (.int 8 tg_MOST_POINTS)))
  (g_MOST_KINDS : PySem.W.nsIn K mainGlobals "MOST_KINDS" = some (some (.int 4 tg_MOST_KINDS)))
  (aC_Board : PySem.W.nsIn K mainGlobals "Board" = some (some (.ref C_Board))) (iI_Board : PySem.W.findIn K (.ref C_Board) "__init__" = some (some (.ref fI_Board))) (jI_Board : PySem.W.isFn K (.ref fI_Board) = true) (lI_Board : K.lookup fI_Board = some ⟨ocI_Board, odI_Board, .func (PySem.W.fnOf "__init__" "Board.__init__" (Zm Y5) (Zl Y5) (Zd Y5) .none kVI_Board dcI_Board pmI_Board anI_Board cdI_Board ctI_Board), slI_Board⟩) (cI_Board : PySem.W.codeIn K cdI_Board "Board.__init__" = true) (kI_Board : PySem.W.keepIn K (.ref fI_Board) = true)
  (pg_Board : PySem.W.plainGet K C_Board Str.empty = true) (hd_Board : PySem.W.hasDictIn K C_Board = true) (po_Board : PySem.W.plainOver K C_Board = true) (sa_Board : PySem.W.findIn K (.ref C_Board) "__setattr__" = some (some (.builtin "object.__setattr__"))) (mk_Board : PySem.W.makesIn K C_Board = true) (kc_Board : PySem.W.keepIn K (.ref C_Board) = true)
  (nA0_Board : PySem.W.findIn K (.ref C_Board) "heads" = some none)
  (nA1_Board : PySem.W.findIn K (.ref C_Board) "divisor" = some none)
  (nA2_Board : PySem.W.findIn K (.ref C_Board) "rows" = some none)
  (lc_raising_column : K.lookup cL_raising_column = some ⟨occ_raising_column, odc_raising_column, .fields vsc_raising_column, slc_raising_column⟩) (v11_raising_column : vsc_raising_column[11]? = some (.ref TL_raising_column)) (hno : PySem.W.noTabs K = true) :
  ∃ (fd : FuncData) (c T : Addr), PySem.W.tabIn K "raising_column" = some (c, T) /\ PySem.W.noTabs K = true /\ (∀ (s : Shared) (v : Value), BindsTo s fd ⟨[v], []⟩ [("_law_script", v)]) /\ ∀ base : Heap, K.In base -> base.Ns mainGlobals mg -> zbg mg base -> PySem.W.CodeHd base c T -> FnOk l.prog w K mg base CX0 8 fa fd ["_law_script"] (Fx.spF K none 1 zcy) := by
 have e := hfa.symm.trans (PySem.W.mg_of X G a49)
 cases e
 have F0 := Zu (st := XY) l0 c0 k0
 have b0 := F0.binds (ps := ["value"]) fun _ _ _ _ _ _ us hl => match us, hl with | [_], _ => rfl
 have F1 := Zu (st := Z6) l1 c1 k1
 have b1 := F1.binds (ps := ["a", "b"]) fun _ _ _ _ _ _ us hl => match us, hl with | [_, _], _ => rfl
 have F2 := Zu (st := YC) l2 c2 k2
 have b2 := F2.binds (ps := ["value"]) fun _ _ _ _ _ _ us hl => match us, hl with | [_], _ => rfl
 have F3 := Zu (st := JJ) l3 c3 k3
 have b3 := F3.binds (ps := ["upper", "lower"]) fun _ _ _ _ _ _ us hl => match us, hl with | [_, _], _ => rfl
 have F4 := Zu (st := JI) l4 c4 k4
 have b4 := F4.binds (ps := ["a", "b"]) fun _ _ _ _ _ _ us hl => match us, hl with | [_, _], _ => rfl
 have F5 := Zu (st := UQ) l5 c5 k5
 have b5 := F5.binds (ps := ["a", "b"]) fun _ _ _ _ _ _ us hl => match us, hl with | [_, _], _ => rfl
 have F6 := Zu (st := YE) l6 c6 k6
 have b6 := F6.binds (ps := ["kinds", "point"]) fun _ _ _ _ _ _ us hl => match us, hl with | [_, _], _ => rfl
 have F7 := Zu (st := JG) l7 c7 k7
 have b7 := F7.binds (ps := ["length", "place"]) fun _ _ _ _ _ _ us hl => match us, hl with | [_, _], _ => rfl
 have F8 := Zu (st := XV) l8 c8 k8
 have b8 := F8.binds (ps := ["limit"]) fun _ _ _ _ _ _ us hl => match us, hl with | [_], _ => rfl
 have F9 := Zu (st := YD) l9 c9 k9
 have b9 := F9.binds (ps := ["desk", "goal"]) fun _ _ _ _ _ _ us hl => match us, hl with | [_, _], _ => rfl
 have F10 := Zu (st := XU) l10 c10 k10
 have b10 := F10.binds (ps := ["board"]) fun _ _ _ _ _ _ us hl => match us, hl with | [_], _ => rfl
 have F11 := Zu (st := XT) l11 c11 k11
 have b11 := F11.binds (ps := ["board"]) fun _ _ _ _ _ _ us hl => match us, hl with | [_], _ => rfl
 have F12 := Zu (st := Yz) l12 c12 k12
 have b12 := F12.binds (ps := ["row", "line", "column", "divisor"]) fun _ _ _ _ _ _ us hl => match us, hl with | [_, _, _, _], _ => rfl
 have F13 := Zu (st := Wv) l13 c13 k13
 have b13 := F13.binds (ps := ["board", "thing", "column"]) fun _ _ _ _ _ _ us hl => match us, hl with | [_, _, _], _ => rfl
 have F14 := Zu (st := Yf) l14 c14 k14
 have b14 := F14.binds (ps := ["board", "column"]) fun _ _ _ _ _ _ us hl => match us, hl with | [_, _], _ => rfl
 have F15 := Zu (st := UT) l15 c15 k15
 have b15 := F15.binds (ps := ["board"]) fun _ _ _ _ _ _ us hl => match us, hl with | [_], _ => rfl
 have F16 := Zu (st := US) l16 c16 k16
 have b16 := F16.binds (ps := ["board", "column", "number"]) fun _ _ _ _ _ _ us hl => match us, hl with | [_, _, _], _ => rfl
 have F17 := Zu (st := Z4) l17 c17 k17
 have b17 := F17.binds (ps := ["board", "thing"]) fun _ _ _ _ _ _ us hl => match us, hl with | [_, _], _ => rfl
 have F18 := Zu (st := YZ) l18 c18 k18
 have b18 := F18.binds (ps := ["board"]) fun _ _ _ _ _ _ us hl => match us, hl with | [_], _ => rfl
 have F19 := Zu (st := Ww) l19 c19 k19
 have b19 := F19.binds (ps := ["desk", "goal"]) fun _ _ _ _ _ _ us hl => match us, hl with | [_, _], _ => rfl
 have F20 := Zu (st := XW) l20 c20 k20
 have b20 := F20.binds (ps := ["board"]) fun _ _ _ _ _ _ us hl => match us, hl with | [_], _ => rfl
 have F21 := Zu (st := Xo) l21 c21 k21
 have b21 := F21.binds (ps := ["board", "thing"]) fun _ _ _ _ _ _ us hl => match us, hl with | [_, _], _ => rfl
 have F22 := Zu (st := XZ) l22 c22 k22
 have b22 := F22.binds (ps := ["board", "thing"]) fun _ _ _ _ _ _ us hl => match us, hl with | [_, _], _ => rfl
 have F23 := Zu (st := Y4) l23 c23 k23
 have b23 := F23.binds (ps := ["kinds", "goal"]) fun _ _ _ _ _ _ us hl => match us, hl with | [_, _], _ => rfl
 have F24 := Zu (st := VB) l24 c24 k24
 have b24 := F24.binds (ps := ["row", "other", "column"]) fun _ _ _ _ _ _ us hl => match us, hl with | [_, _, _], _ => rfl
 have F25 := Zu (st := Y3) l25 c25 k25
 have b25 := F25.binds (ps := ["board", "column"]) fun _ _ _ _ _ _ us hl => match us, hl with | [_, _], _ => rfl
 have F26 := Zu (st := VA) l26 c26 k26
 have b26 := F26.binds (ps := ["board", "column"]) fun _ _ _ _ _ _ us hl => match us, hl with | [_, _], _ => rfl
 have F27 := Zu (st := Wz) l27 c27 k27
 have b27 := F27.binds (ps := ["board"]) fun _ _ _ _ _ _ us hl => match us, hl with | [_], _ => rfl
 have F28 := Zu (st := JK) l28 c28 k28
 have b28 := F28.binds (ps := ["desk", "goal"]) fun _ _ _ _ _ _ us hl => match us, hl with | [_, _], _ => rfl
 have F29 := Zu (st := UR) l29 c29 k29
 have b29 := F29.binds (ps := ["point", "way", "often"]) fun _ _ _ _ _ _ us hl => match us, hl with | [_, _, _], _ => rfl
 have F30 := Zu (st := Ys) l30 c30 k30
 have b30 := F30.binds (ps := ["points"]) fun _ _ _ _ _ _ us hl => match us, hl with | [_], _ => rfl
 have F31 := Zu (st := zd4) l31 c31 k31
 have b31 := F31.binds (ps := ["points", "shares"]) fun _ _ _ _ _ _ us hl => match us, hl with | [_, _], _ => rfl
 have F32 := Zu (st := Xn) l32 c32 k32
 have b32 := F32.binds (ps := ["point"]) fun _ _ _ _ _ _ us hl => match us, hl with | [_], _ => rfl
 have F33 := Zu (st := Wu) l33 c33 k33
 have b33 := F33.binds (ps := ["points", "point"]) fun _ _ _ _ _ _ us hl => match us, hl with | [_, _], _ => rfl
 have F34 := Zu (st := YB) l34 c34 k34
 have b34 := F34.binds (ps := ["_law_script", "_law_k"]) fun _ _ _ _ _ _ us hl => match us, hl with | [_, _], _ => rfl
 have F35 := Zu (st := Y1) l35 c35 k35
 have b35 := F35.binds (ps := ["_law_cell", "_law_wide"]) fun _ _ _ _ _ _ us hl => match us, hl with | [_, _], _ => rfl
 have F36 := Zu (st := Xp) l36 c36 k36
 have b36 := F36.binds (ps := ["_law_found"]) fun _ _ _ _ _ _ us hl => match us, hl with | [_], _ => rfl
 have F37 := Zu (st := YA) l37 c37 k37
 have b37 := F37.binds (ps := ["_law_a", "_law_b"]) fun _ _ _ _ _ _ us hl => match us, hl with | [_, _], _ => rfl
 have F38 := Zu (st := Z3) l38 c38 k38
 have b38 := F38.binds (ps := ["_law_found"]) fun _ _ _ _ _ _ us hl => match us, hl with | [_], _ => rfl
 have F39 := Zu (st := Yr) l39 c39 k39
 have b39 := F39.binds (ps := ["_law_found", "_law_kinds"]) fun _ _ _ _ _ _ us hl => match us, hl with | [_, _], _ => rfl
 have F40 := Zu (st := Z5) l40 c40 k40
 have b40 := F40.binds (ps := ["_law_found", "_law_many"]) fun _ _ _ _ _ _ us hl => match us, hl with | [_, _], _ => rfl
 have F41 := Zu (st := XX) l41 c41 k41
 have b41 := F41.binds (ps := ["_law_upper", "_law_lower"]) fun _ _ _ _ _ _ us hl => match us, hl with | [_, _], _ => rfl
 have F42 := Zu (st := Wx) l42 c42 k42
 have b42 := F42.binds (ps := ["_law_a", "_law_b", "_law_many"]) fun _ _ _ _ _ _ us hl => match us, hl with | [_, _, _], _ => rfl
 have F43 := Zu (st := Xs) l43 c43 k43
 have b43 := F43.binds (ps := ["_law_a", "_law_b"]) fun _ _ _ _ _ _ us hl => match us, hl with | [_, _], _ => rfl
 have F44 := Zu (st := Y0) l44 c44 k44
 have b44 := F44.binds (ps := ["_law_script", "_law_kinds", "_law_many"]) fun _ _ _ _ _ _ us hl => match us, hl with | [_, _, _], _ => rfl
 have F45 := Zu (st := Xq) l45 c45 k45
 have b45 := F45.binds (ps := ["_law_points_here", "_law_shares", "_law_kinds"]) fun _ _ _ _ _ _ us hl => match us, hl with | [_, _, _], _ => rfl
 have F46 := Zu (st := Xr) l46 c46 k46
 have b46 := F46.binds (ps := ["_law_weights", "_law_point"]) fun _ _ _ _ _ _ us hl => match us, hl with | [_, _], _ => rfl
 have F47 := Zu (st := Y2) l47 c47 k47
 have b47 := F47.binds (ps := ["_law_points_here", "_law_point", "_law_shares"]) fun _ _ _ _ _ _ us hl => match us, hl with | [_, _, _], _ => rfl
 have F48 := Zu (st := Yq) l48 c48 k48
 have b48 := F48.binds (ps := ["_law_points_here", "_law_point", "_law_weights", "_law_bound"]) fun _ _ _ _ _ _ us hl => match us, hl with | [_, _, _, _], _ => rfl
 have F49 := Zu (st := zau) l49 c49 k49
 have b49 := F49.binds (ps := ["_law_script"]) fun _ _ _ _ _ _ us hl => match us, hl with | [_], _ => rfl
 have FI_Board := Zu (st := Y5) lI_Board cI_Board kI_Board
 have bI_Board := FI_Board.binds (ps := ["self", "heads", "divisor", "rows"]) fun _ _ _ _ _ _ us hl => match us, hl with | [_, _, _, _], _ => rfl
 have tL_raising_column : PySem.W.tabIn K "raising_column" = some (cL_raising_column, TL_raising_column) := Fx.tab_mk a17 l17 rfl lc_raising_column v11_raising_column
 have m_isinstance := PySem.W.mg_none_of X G z_isinstance
 have m_int := PySem.W.mg_none_of X G z_int
 have m_bool := PySem.W.mg_none_of X G z_bool
 have m_abs := PySem.W.mg_none_of X G z_abs
 have m_tuple := PySem.W.mg_none_of X G z_tuple
 have m_len := PySem.W.mg_none_of X G z_len
 have m_list := PySem.W.mg_none_of X G z_list
 have m_all := PySem.W.mg_none_of X G z_all
 have m_range := PySem.W.mg_none_of X G z_range
 have m_zip := PySem.W.mg_none_of X G z_zip
 have m_min := PySem.W.mg_none_of X G z_min
 have m_sum := PySem.W.mg_none_of X G z_sum
 have n_MOST_POINTS := PySem.W.mg_of X G g_MOST_POINTS
 have n_MOST_KINDS := PySem.W.mg_of X G g_MOST_KINDS
 refine ⟨PySem.W.fnOf "law" "law" (Zm zau) (Zl zau) (Zd zau) .none kV49 dc49 pm49 an49 cd49 ct49, cL_raising_column, TL_raising_column, tL_raising_column, hno, fun s v => .of_eq rfl, fun base hKb _ hB hC => ?_⟩
 have L_raising_column : Fx.LamHyp K mg base "raising_column" cL_raising_column TL_raising_column := ⟨tL_raising_column, zaf tL_raising_column hKb hC, hB⟩
 have hcode_raising_column := PySem.W.law_code X G tL_raising_column (PySem.W.mg_of X G a17) (X _ _ l17) rfl
 have M_Board : Fx.Mko l.prog w K mg base 1 "Board" ["heads", "divisor", "rows"] := ⟨C_Board, fI_Board, _, _, ⟨mk_Board, iI_Board, jI_Board, kc_Board⟩, zaG FI_Board ⟨pg_Board, hd_Board, po_Board, sa_Board⟩ nA0_Board nA1_Board nA2_Board, PySem.W.mg_of X G aC_Board, bI_Board, ⟨pg_Board, hd_Board, po_Board, sa_Board⟩, fun n hn => by
  rcases List.mem_cons.mp hn with rfl | hn
  ·exact nA0_Board
  ·rcases List.mem_cons.mp hn with rfl | hn
   ·exact nA1_Board
   ·rw [List.mem_singleton.mp hn]; exact nA2_Board⟩
 have R_is_whole := zcs (P := l.prog) (w := w) (base := base) (k := 0) F0 (PySem.W.mg_of X G a0) b0 m_isinstance m_int m_bool
 have R_common_divisor := UW (P := l.prog) (w := w) (base := base) (k := 0) F1 (PySem.W.mg_of X G a1) b1 m_abs
 have R_is_fraction := Jz (P := l.prog) (w := w) (base := base) (k := 1) F2 (PySem.W.mg_of X G a2) b2 m_isinstance m_tuple m_len (R_is_whole.mono (by decide)) (R_common_divisor.mono (by decide))
 have R_frac := ok_frac (P := l.prog) (w := w) (base := base) (k := 1) F3 (PySem.W.mg_of X G a3) b3 (R_common_divisor.mono (by decide))
 have R_plus := ok_plus (P := l.prog) (w := w) (base := base) (k := 2) F4 (PySem.W.mg_of X G a4) b4 (R_frac.mono (by decide))
 have R_times := ok_times (P := l.prog) (w := w) (base := base) (k := 2) F5 (PySem.W.mg_of X G a5) b5 (R_frac.mono (by decide))
 have R_check_point := JB (P := l.prog) (w := w) (base := base) (k := 2) F6 (PySem.W.mg_of X G a6) b6 m_isinstance m_list m_len m_all (R_is_fraction.mono (by decide))
 have R_unit := ok_unit (P := l.prog) (w := w) (base := base) (k := 0) F7 (PySem.W.mg_of X G a7) b7 
 have R_room_row := zcp (P := l.prog) (w := w) (base := base) (k := 0) F8 (PySem.W.mg_of X G a8) b8 
 have R_first_board := JA (P := l.prog) (w := w) (base := base) (k := 0) F9 (PySem.W.mg_of X G a9) b9 m_range m_list (R_unit.mono (by decide)) (R_room_row.mono (by decide)) (M_Board.mono (by decide))
 have R_rooms_of := zco (P := l.prog) (w := w) (base := base) (k := 0) F10 (PySem.W.mg_of X G a10) b10 m_list m_range m_len
 have R_worth_of := zcn (P := l.prog) (w := w) (base := base) (k := 0) F11 (PySem.W.mg_of X G a11) b11 m_len
 have R_swapped_row := Jw (P := l.prog) (w := w) (base := base) (k := 0) F12 (PySem.W.mg_of X G a12) b12 m_abs m_zip
 have R_swapped := zd7 (P := l.prog) (w := w) (base := base) (k := 0) F13 (PySem.W.mg_of X G a13) b13 m_list m_abs (R_swapped_row.mono (by decide)) (M_Board.mono (by decide))
 have R_first_room_on := Qh (P := l.prog) (w := w) (base := base) (k := 1) F14 (PySem.W.mg_of X G a14) b14 (R_rooms_of.mono (by decide))
 have R_freed := ok_freed (P := l.prog) (w := w) (base := base) (k := 3) F15 (PySem.W.mg_of X G a15) b15 m_range m_len (R_first_room_on.mono (by decide)) (R_swapped.mono (by decide))
 have R_helps := ok_helps (P := l.prog) (w := w) (base := base) (k := 0) F16 (PySem.W.mg_of X G a16) b16 m_len
 have R_raising_column := UU (P := l.prog) (w := w) (base := base) (k := 0) F17 (PySem.W.mg_of X G a17) b17 m_range m_len m_min (R_helps.mono (by decide)) L_raising_column hcode_raising_column
 have R_short_room := zaA (P := l.prog) (w := w) (base := base) (k := 1) F18 (PySem.W.mg_of X G a18) b18 (R_rooms_of.mono (by decide))
 have R_settled := zd8 (P := l.prog) (w := w) (base := base) (k := 4) F19 (PySem.W.mg_of X G a19) b19 (R_first_board.mono (by decide)) (R_freed.mono (by decide)) (R_short_room.mono (by decide)) (R_raising_column.mono (by decide)) (R_swapped.mono (by decide))
 have R_point_of := zcq (P := l.prog) (w := w) (base := base) (k := 2) F20 (PySem.W.mg_of X G a20) b20 m_range m_len (R_frac.mono (by decide))
 have R_shares_of := zbG (P := l.prog) (w := w) (base := base) (k := 2) F21 (PySem.W.mg_of X G a21) b21 m_len m_zip (R_rooms_of.mono (by decide)) (R_frac.mono (by decide))
 have R_clash_of := zct (P := l.prog) (w := w) (base := base) (k := 3) F22 (PySem.W.mg_of X G a22) b22 m_len (R_shares_of.mono (by decide))
 have R_check_goal := zaF (P := l.prog) (w := w) (base := base) (k := 1) F23 (PySem.W.mg_of X G a23) b23 m_isinstance m_list m_len m_all (R_is_whole.mono (by decide))
 have R_sooner := zfs (P := l.prog) (w := w) (base := base) (k := 0) F24 (PySem.W.mg_of X G a24) b24 
 have R_first_stop := zaE (P := l.prog) (w := w) (base := base) (k := 1) F25 (PySem.W.mg_of X G a25) b25 (R_rooms_of.mono (by decide)) (R_sooner.mono (by decide))
 have R_way_of := zfr (P := l.prog) (w := w) (base := base) (k := 2) F26 (PySem.W.mg_of X G a26) b26 m_range m_len (R_worth_of.mono (by decide)) (R_frac.mono (by decide))
 have R_climbed := zea (P := l.prog) (w := w) (base := base) (k := 3) F27 (PySem.W.mg_of X G a27) b27 (R_worth_of.mono (by decide)) (R_raising_column.mono (by decide)) (R_first_stop.mono (by decide)) (R_point_of.mono (by decide)) (R_way_of.mono (by decide)) (R_swapped.mono (by decide)) (R_shares_of.mono (by decide))
 have R_best := ok_best (P := l.prog) (w := w) (base := base) (k := 5) F28 (PySem.W.mg_of X G a28) b28 (R_check_goal.mono (by decide)) (R_settled.mono (by decide)) (R_clash_of.mono (by decide)) (R_climbed.mono (by decide))
 have R_moved := ok_moved (P := l.prog) (w := w) (base := base) (k := 3) F29 (PySem.W.mg_of X G a29) b29 m_zip (R_times.mono (by decide)) (R_plus.mono (by decide))
 have R_check_points := QG (P := l.prog) (w := w) (base := base) (k := 3) F30 (PySem.W.mg_of X G a30) b30 m_isinstance m_list m_len ⟨_, n_MOST_POINTS⟩ ⟨_, n_MOST_KINDS⟩ (R_check_point.mono (by decide))
 have R_mix := ok_mix (P := l.prog) (w := w) (base := base) (k := 4) F31 (PySem.W.mg_of X G a31) b31 m_len m_zip (R_moved.mono (by decide))
 have R_whole_row := zbF (P := l.prog) (w := w) (base := base) (k := 1) F32 (PySem.W.mg_of X G a32) b32 (R_common_divisor.mono (by decide))
 have R_told_as := zd6 (P := l.prog) (w := w) (base := base) (k := 6) F33 (PySem.W.mg_of X G a33) b33 m_len m_tuple m_zip (R_check_points.mono (by decide)) (R_check_point.mono (by decide)) (R_whole_row.mono (by decide)) (R_best.mono (by decide)) (R_frac.mono (by decide)) (R_times.mono (by decide))
 have R_law_cell_at := Jy (P := l.prog) (w := w) (base := base) (k := 0) F34 (PySem.W.mg_of X G a34) b34 m_len
 have R_law_number := zaC (P := l.prog) (w := w) (base := base) (k := 0) F35 (PySem.W.mg_of X G a35) b35 
 have R_law_whole := zbH (P := l.prog) (w := w) (base := base) (k := 0) F36 (PySem.W.mg_of X G a36) b36 m_isinstance m_int m_bool
 have R_law_divisor := Jx (P := l.prog) (w := w) (base := base) (k := 0) F37 (PySem.W.mg_of X G a37) b37 m_abs
 have R_law_is_fraction := Ur (P := l.prog) (w := w) (base := base) (k := 1) F38 (PySem.W.mg_of X G a38) b38 m_isinstance m_tuple m_len (R_law_whole.mono (by decide)) (R_law_divisor.mono (by decide))
 have R_law_is_point := QF (P := l.prog) (w := w) (base := base) (k := 2) F39 (PySem.W.mg_of X G a39) b39 m_isinstance m_list m_len (R_law_is_fraction.mono (by decide))
 have R_law_are_shares := UV (P := l.prog) (w := w) (base := base) (k := 3) F40 (PySem.W.mg_of X G a40) b40 (R_law_is_point.mono (by decide))
 have R_law_frac := zcr (P := l.prog) (w := w) (base := base) (k := 1) F41 (PySem.W.mg_of X G a41) b41 (R_law_divisor.mono (by decide))
 have R_law_add := zd9 (P := l.prog) (w := w) (base := base) (k := 2) F42 (PySem.W.mg_of X G a42) b42 (R_law_frac.mono (by decide))
 have R_law_below := zbK (P := l.prog) (w := w) (base := base) (k := 0) F43 (PySem.W.mg_of X G a43) b43 
 have R_law_points := zaB (P := l.prog) (w := w) (base := base) (k := 2) F44 (PySem.W.mg_of X G a44) b44 m_range (R_law_cell_at.mono (by decide)) (R_law_number.mono (by decide)) (R_law_frac.mono (by decide))
 have R_law_mixed := zbI (P := l.prog) (w := w) (base := base) (k := 3) F45 (PySem.W.mg_of X G a45) b45 m_range m_len (R_law_add.mono (by decide))
 have R_law_heavy := zbJ (P := l.prog) (w := w) (base := base) (k := 3) F46 (PySem.W.mg_of X G a46) b46 m_range m_len (R_law_add.mono (by decide))
 have R_law_is_mix := zaD (P := l.prog) (w := w) (base := base) (k := 4) F47 (PySem.W.mg_of X G a47) b47 m_len (R_law_are_shares.mono (by decide)) (R_law_add.mono (by decide)) (R_law_mixed.mono (by decide))
 have R_law_is_split := QE (P := l.prog) (w := w) (base := base) (k := 4) F48 (PySem.W.mg_of X G a48) b48 m_len (R_law_is_point.mono (by decide)) (R_law_is_fraction.mono (by decide)) (R_law_heavy.mono (by decide)) (R_law_below.mono (by decide))
 exact law_fn F49 m_range m_sum m_list m_isinstance m_tuple m_len (R_law_cell_at.mono (by decide)) (R_law_points.mono (by decide)) (R_law_frac.mono (by decide)) (R_law_mixed.mono (by decide)) (R_mix.mono (by decide)) (R_told_as.mono (by decide)) (R_law_is_mix.mono (by decide)) (R_law_is_split.mono (by decide))
end K14
namespace K14
open PySem PySem.Spec PyProof.Rows L2 Fx Lw Lq
theorem walk {l : PySem.W.OpenLaw} {q : Program} {loose : List Str} {XP : (Str -> Option Value) -> Heap -> Prop} {YP : World -> Heap -> Prop} {d : DefRec} {K : Params -> PySem.W.Frag} (hn : l.most = some 63) (hdf : d.params.defaults = [])
  (hrec : ∃ d0, (recsOf q).find? (fun e => e.name == ("raising_column" : Str)) = some d0) (hY : ∀ (w : World) (h : Heap), YP w h -> (K w.params).In h)
  (F : ∀ (w : World) (mg : Str -> Option Value) (fa : Addr) (h : Heap), (K w.params).In h -> h.Ns mainGlobals mg -> mg d.name = some (.ref fa) ->
   ∃ (fd : FuncData) (c T : Addr), PySem.W.tabIn (K w.params) "raising_column" = some (c, T) /\ PySem.W.noTabs (K w.params) = true /\ (∀ (s : Shared) (u : Value), BindsTo s fd ⟨[u], []⟩ [("_law_script", u)]) /\ ∀ base : Heap, (K w.params).In base -> base.Ns mainGlobals mg -> zbg mg base -> PySem.W.CodeHd base c T -> FnOk l.prog w (K w.params) mg base CX0 8 fa fd ["_law_script"] (Fx.spF (K w.params) none 1 zcy)) :
  PySem.W.WalkO q loose XP YP l.row.toRowW d [] (fun f vs => PySem.call f vs) :=
 let ⟨d0, h0⟩ := hrec
 Fx.walk_T (n := 63) (k := 8) (x := "_law_script") (x0 := "raising_column") hn (by decide) hdf ⟨rfl, by decide, by decide⟩ (List.mem_singleton.mpr rfl) h0 hY F (fun ns hl => law_ok ns hl)
end K14
open PySem PySem.W PyProof.Rows
namespace PySem.W.Fast
def tw6986212733771961962:=0
def tw8335879687035192047:=0
def tw826241213771780206:=0
def tw16423229664473475952:=0
def tw5339648298138461473:=0
def tw17552452419001592425:=0
def tw11601878459592416608:=0
def tw5756190724614814337:=0
def tw9340303574330970047:=0
def tw14906091944157861482:=0
def tw732655150222692911:=0
def tw12258018574658763833:=0
def tw7930545896418274924:=0
def tw4113323473856111423:=0
def tw3044824255746488071:=0
def tw9036327549574059843:=0
def tw4769521651406430515:=0
def tw5204404451383735969:=0
def tw4323728351329707694:=0
def tw16620222287029046076:=0
def tw17018659149078029925:=0
def tw800084986887933013:=0
def tw15441835625513417102:=0
def tw10224489585350481724:=0
def tw12301719685065352333:=0
def tw11486323856826744291:=0
def tw9613883988353475189:=0
def tw10295113022193557871:=0
def tw3682086582545869940:=0
def tw13132689038340600696:=0
def tw9264803076980470617:=0
def tw16057985698588549994:=0
def tw362928673480889083:=0
def tw15850479020025498718:=0
def tw15150272184708408334:=0
def tw11797837967447111994:=0
def tw2790087842567406529:=0
def tw721053628590642135:=0
def tw5478921549415141215:=0
def tw11390230475295186778:=0
def tw8071944227508032606:=0
def tw8065617930057138488:=0
def tw14471994690720987009:=0
def tw10649923778495118406:=0
def tw7662214246141246426:=0
def tw15673703686064482106:=0
def tw2359297738867203614:=0
def tw9975233279220299567:=0
def tw18267158488280076799:=0
def tw11718229550797765785:=0
def tw5867061918452277131:=0
def tw89219618481907833:=0
def tw3423623859051662970:=0
def tw3722706935260265916:=0
def tw12108839636813830082:=0
def tw3342794719154952311:=0
def tw7020268789680101230:=0
def tw85103505023531508:=0
def tw9220557538176541348:=0
def tw5718762550329491579:=0
def tw9452753101601406642:=0
def tw7393500299525449625:=0
def tw2755378139787262240:=0
def tw8214873460114870022:=0
def tw9365357877097544958:=0
def tw6059969456908700113:=0
def tw4460240367603491540:=0
def tw3053504215540293385:=0
def tw15054801782577567393:=0
def tw12220791697273844204:=0
def tw6868056861714067556:=0
def tw9410705534115503629:=0
def tw16126578058216752948:=0
def tw4364905871230046991:=0
def tw12660528835367623220:=0
def tw9198692197446297524:=0
def tw8869803251213006190:=0
def tw11626218465466080875:=0
def tw15727685574133492939:=0
def tw16603792188477935376:=0
def tw6305990473133552388:=0
def tw17908818829843688858:=0
def tw1682547830495874493:=0
def tw9748173359927506838:=0
def tw7888664040917855298:=0
def tw7573539606604951738:=0
def tw12404334492441226875:=0
def tw2676418372403821038:=0
def tw4021631103885202225:=0
def tw8268955873619044399:=0
def tw15958138697332979651:=0
def tw15963353407542137485:=0
def tw1404769389090293615:=0
def tw5901826487301122573:=0
def tw10780099265745830728:=0
def tw7052067364741742368:=0
def tw9666512306045560829:=0
def tw13220691783410624748:=0
def tw14099789122281086044:=0
def tw16945976756198634871:=0
def tw7512977147256378195:=0
def tw15581920930472825725:=0
def tw2802713426107417012:=0
def tw2558123506398065929:=0
def tw5775002015826857946:=0
def tw13973336227405894158:=0
def tw16995930972509228224:=0
def tw17418951573723349287:=0
def tw16334147901608099682:=0
def tw1456400459044739330:=0
def tw3553471863769952512:=0
def tw1724555233082804839:=0
def tw17356457607257619515:=0
def tw17499904702062950846:=0
def tw6185429001473597949:=0
def tw14655502735387009978:=0
def tw17792637724116894396:=0
def tw3397484437133875581:=0
def tw4004064934929267310:=0
def tw14918768149562606709:=0
def tw12680483626769327584:=0
def tw9138319457752666472:=0
def tw12780265672975516360:=0
def tw9805624988207799156:=0
def tw16553877719534162106:=0
def tw8603774310450827355:=0
def tw8481889678963206616:=0
def tw11129252324594188565:=0
def tw15739572631505624007:=0
def tw13287748154704651736:=0
def tw3453266235667343003:=0
def tw6868157260541547440:=0
def tw16211096207612569554:=0
def tw12998165510095472665:=0
def tw6557437798374996741:=0
def tw13860037326212700034:=0
def tw4890131954621999778:=0
def tw9996461698972367674:=0
def tw1952824353859019124:=0
def tw3428063063174817508:=0
def tw4532844200352683387:=0
def tw3604900748100148998:=0
def tw12696216095902874010:=0
def tw6145018521039326568:=0
def tw9145418059296221281:=0
def tw10107326485755614024:=0
def tw13449719509395049205:=0
def tw8714141657792728899:=0
def tw15744549834141267703:=0
def tw12296330508658249011:=0
def tw17824877537765493173:=0
def tw13918069244391507079:=0
def tw3176188686390785630:=0
def tw3017004914145583823:=0
def tw1971115392540581444:=0
def tw13230891786845726738:=0
def tw9913006706114209202:=0
def tw14109047773699046841:=0
def tw8729937582462783247:=0
def tw11915494608406138245:=0
def tw402318511571880893:=0
def tw11141461930969222673:=0
def tw9029750840910690646:=0
def tw761477463239373903:=0
def tw15178977929895806770:=0
def tw15321413929969676154:=0
def tw2075288772649673414:=0
def tw2592481783772981898:=0
def tw15032418411005471448:=0
def tw15497718792405855531:=0
def tw12566440640177214097:=0
def tw7621532153527866996:=0
def tw8033203162821454390:=0
def tw2625521330692298930:=0
def tw1676002634772492281:=0
def tw876219268040371074:=0
def tw569015984857527016:=0
def tw12898563390510703889:=0
def tw9277323549809397636:=0
def tw1470916409961707133:=0
def tw9210188283190590426:=0
def tw6239959350327163175:=0
def tw15617780394493856426:=0
def tw1536828776559220471:=0
def tw4416222289559437682:=0
def tw7085362003783734866:=0
def tw11402874621745629475:=0
def tw7005808725933215094:=0
def tw6774425044336341060:=0
def tw12180404192083974063:=0
def tw655829849909768071:=0
def tw3116566753395684054:=0
def tw8714192093488085862:=0
def tw4473066546796820746:=0
def tw1236395722851826617:=0
def tw11516902859986518949:=0
def tw8941386817924357962:=0
def tw12725075328338070061:=0
def tw17714111655061727191:=0
def tw5967687516213001327:=0
def tw11224247403640945144:=0
def tw951742208940215228:=0
def tw18266035911471607218:=0
def tw10535441887587986254:=0
def tw15278187794238102601:=0
def tw15023138003182306531:=0
def tw9217746272134660498:=0
def tw1221892765264324684:=0
def tw4862656838356623438:=0
def tw10662653490624846101:=0
def tw13218641247042681878:=0
def tw9660756031488205320:=0
def tw384209659009675463:=0
def tw16932664758965673200:=0
def tw3931530898908970365:=0
def tw14335180163336029609:=0
def tw15527313913516007429:=0
def tw18298908696297359293:=0
def tw22902678722695297:=0
def tw10178861538198220302:=0
def tw194316791945469145:=0
def tw4413821531673349931:=0
def tw4558018900055048794:=0
def tw8542039216585419115:=0
def tw11915597856648564708:=0
def tw15542652813359311385:=0
def tw15301663694584361005:=0
def tw4622347091087886065:=0
def tw5255772900655031853:=0
def tw6416982934502056803:=0
def tw11209943160980920997:=0
def tw2826838707859237672:=0
def tw18015514219560471139:=0
def tw12040837839329840949:=0
def tw2990643491324369884:=0
def tw12860212605884667733:=0
def tw5588628270118144288:=0
def tw10665059841066669881:=0
def tw5129300108153622312:=0
def tw4126589630963429206:=0
def tw2951327312301172276:=0
def tw783089860636776697:=0
def tw1604686286467126796:=0
def tw14740549227579529498:=0
def tw1840957322984565107:=0
def tw8685024625291826323:=0
def tw5054232246847784520:=0
def tw2553506254138801004:=0
def tw5078539074912217582:=0
def tw16062310603500759223:=0
def tw4696968950386978242:=0
def tw3278987252697367935:=0
def tw10973725333238385999:=0
def tw6884293575023355770:=0
def tw14707537108139664667:=0
def tw17469124490784035844:=0
def tw3713787163757627107:=0
def tw6228022423870830062:=0
def tw1967177503244486323:=0
def tw2545309260899927231:=0
def tw11833156749980401502:=0
def tw128552181852012532:=0
def tw7686061598414969519:=0
def tw5313636857889201374:=0
def tw12951792404479347566:=0
def tw198644015275338559:=0
def tw10070878817048147327:=0
def tw17355267133778156539:=0
def tw12966820572984920285:=0
def tw9075262253826909081:=0
def tw11695004395166119252:=0
def tw17733507112214870352:=0
def tw732758452239105679:=0
def tw435634421789141322:=0
def tw10632152317173888739:=0
def tw11178759294887901043:=0
def tw16839014969528591410:=0
def tw12421607280289764663:=0
def tw10474688752993708578:=0
def tw18047840413620939715:=0
def tw3379272791494160215:=0
def tw3265606745209563051:=0
def tw8540861863886600582:=0
def tw17894382173857651403:=0
def tw3761656915106130008:=0
def tw7853554392535511507:=0
def tw12434463294776265017:=0
def tw2517798223107770607:=0
def tw13014394257881566876:=0
def tw11913589422001034887:=0
def tw3488345035613930061:=0
def tw14603056055737475154:=0
def tw5892087547253068575:=0
def tw12777304353116640371:=0
def tw2714733670639471763:=0
def tw13332544175581124991:=0
def tw34290469789327661:=0
def tw5852135011877148732:=0
def tw8431748672673055629:=0
def tw244605165489797441:=0
def tw4551889230119190196:=0
def tw4102302924338522473:=0
def tw3601618180270249088:=0
def tw14053695710999804716:=0
def tw15670955656611919182:=0
def tw5082635220987636210:=0
def tw1749997283462358912:=0
def tw14611582657636667473:=0
def tw9077793068882643491:=0
def tw15508215811018953833:=0
def tw1476622136452630859:=0
def tw11154655219694688860:=0
def tw13249420215808445156:=0
def tw14376535010994701403:=0
def tw6023296700880693408:=0
def tw11472896224479254098:=0
def tw12849442265110778113:=0
def tw3041337319843164505:=0
def tw4411983367754844299:=0
def tw16466505015534365652:=0
def tw4100279573688867288:=0
def tw7144965533291061683:=0
def tw371785063223543637:=0
def tw13274019524900323727:=0
def tw6703531510919185514:=0
def tw9848777350763393827:=0
def tw4040793236141235886:=0
def tw6374324918771064961:=0
def tw671220593748607912:=0
def tw3826358252279416947:=0
def tw13971355082917766295:=0
def tw11536596226670367388:=0
def tw14411691475021072627:=0
def tw113230140455919749:=0
def tw10256827407450299952:=0
def tw11301131282657913690:=0
def tw9484976847528557634:=0
def tw4175183611707964480:=0
def tw12562891807883350639:=0
def tw5297351727767408576:=0
def tw6095988374571241482:=0
def tw17641247872599026638:=0
def tw4181468299231786997:=0
def tw8144370408054911515:=0
def tw17733055038178795889:=0
def tw9125307891145877496:=0
def tw2950073110541421652:=0
def tw111842855777996776:=0
def tw1380430083305461715:=0
def tw3481970893946200594:=0
def tw3660815371741340203:=0
def tw9663909898973074298:=0
def tw12562664318902483191:=0
def tw6874518829622145012:=0
def tw11008288383478696362:=0
def tw13261069119758632410:=0
def tw11196973058863905378:=0
def tw3054192172647913524:=0
def tw8740270660369242490:=0
def tw15118886891336119491:=0
def tw9033947344442743260:=0
def tw1137754743747345652:=0
end PySem.W.Fast
set_option maxRecDepth 100000 in
set_option maxHeartbeats 0 in
theorem PySem.Challenge.cw_limitdesk_k14_whole_mixes_holds : PySem.Challenge.rw_limitdesk_k14_whole_mixes.Holds := by
 w_on; o_law; k_head; (case hw => w_witness2)
 k_fill
 refine K14.walk (l := PySem.Challenge.rw_limitdesk_k14_whole_mixes) rfl rfl ⟨_, rfl⟩ (fun w h Y => PySem.W.km_in_of Y) ?F
 case F =>
  intro w mg fa h KX G hmg
  refine' K14.all_mk KX G hmg ?a0 ?l0 ?c0 ?k0 ?a1 ?l1 ?c1 ?k1 ?a2 ?l2 ?c2 ?k2 ?a3 ?l3 ?c3 ?k3 ?a4 ?l4 ?c4 ?k4 ?a5 ?l5 ?c5 ?k5 ?a6 ?l6 ?c6 ?k6 ?a7 ?l7 ?c7 ?k7 ?a8 ?l8 ?c8 ?k8 ?a9 ?l9 ?c9 ?k9 ?a10 ?l10 ?c10 ?k10 ?a11 ?l11 ?c11 ?k11 ?a12 ?l12 ?c12 ?k12 ?a13 ?l13 ?c13 ?k13 ?a14 ?l14 ?c14 ?k14 ?a15 ?l15 ?c15 ?k15 ?a16 ?l16 ?c16 ?k16 ?a17 ?l17 ?c17 ?k17 ?a18 ?l18 ?c18 ?k18 ?a19 ?l19 ?c19 ?k19 ?a20 ?l20 ?c20 ?k20 ?a21 ?l21 ?c21 ?k21 ?a22 ?l22 ?c22 ?k22 ?a23 ?l23 ?c23 ?k23 ?a24 ?l24 ?c24 ?k24 ?a25 ?l25 ?c25 ?k25 ?a26 ?l26 ?c26 ?k26 ?a27 ?l27 ?c27 ?k27 ?a28 ?l28 ?c28 ?k28 ?a29 ?l29 ?c29 ?k29 ?a30 ?l30 ?c30 ?k30 ?a31 ?l31 ?c31 ?k31 ?a32 ?l32 ?c32 ?k32 ?a33 ?l33 ?c33 ?k33 ?a34 ?l34 ?c34 ?k34 ?a35 ?l35 ?c35 ?k35 ?a36 ?l36 ?c36 ?k36 ?a37 ?l37 ?c37 ?k37 ?a38 ?l38 ?c38 ?k38 ?a39 ?l39 ?c39 ?k39 ?a40 ?l40 ?c40 ?k40 ?a41 ?l41 ?c41 ?k41 ?a42 ?l42 ?c42 ?k42 ?a43 ?l43 ?c43 ?k43 ?a44 ?l44 ?c44 ?k44 ?a45 ?l45 ?c45 ?k45 ?a46 ?l46 ?c46 ?k46 ?a47 ?l47 ?c47 ?k47 ?a48 ?l48 ?c48 ?k48 ?a49 ?l49 ?c49 ?k49 ?z_isinstance ?z_int ?z_bool ?z_abs ?z_tuple ?z_len ?z_list ?z_all ?z_range ?z_zip ?z_min ?z_sum ?g_MOST_POINTS ?g_MOST_KINDS ?aC_Board ?iI_Board ?jI_Board ?lI_Board ?cI_Board ?kI_Board ?pg_Board ?hd_Board ?po_Board ?sa_Board ?mk_Board ?kc_Board ?nA0_Board ?nA1_Board ?nA2_Board ?lc_raising_column ?v11_raising_column ?hno
  (case a0 => k_is)
  (case l0 => k_is)
  (case c0 => k_is)
  (case k0 => k_is)
  (case a1 => k_is)
  (case l1 => k_is)
  (case c1 => k_is)
  (case k1 => k_is)
  (case a2 => k_is)
  (case l2 => k_is)
  (case c2 => k_is)
  (case k2 => k_is)
  (case a3 => k_is)
  (case l3 => k_is)
  (case c3 => k_is)
  (case k3 => k_is)
  (case a4 => k_is)
  (case l4 => k_is)
  (case c4 => k_is)
  (case k4 => k_is)
  (case a5 => k_is)
  (case l5 => k_is)
  (case c5 => k_is)
  (case k5 => k_is)
  (case a6 => k_is)
  (case l6 => k_is)
  (case c6 => k_is)
  (case k6 => k_is)
  (case a7 => k_is)
  (case l7 => k_is)
  (case c7 => k_is)
  (case k7 => k_is)
  (case a8 => k_is)
  (case l8 => k_is)
  (case c8 => k_is)
  (case k8 => k_is)
  (case a9 => k_is)
  (case l9 => k_is)
  (case c9 => k_is)
  (case k9 => k_is)
  (case a10 => k_is)
  (case l10 => k_is)
  (case c10 => k_is)
  (case k10 => k_is)
  (case a11 => k_is)
  (case l11 => k_is)
  (case c11 => k_is)
  (case k11 => k_is)
  (case a12 => k_is)
  (case l12 => k_is)
  (case c12 => k_is)
  (case k12 => k_is)
  (case a13 => k_is)
  (case l13 => k_is)
  (case c13 => k_is)
  (case k13 => k_is)
  (case a14 => k_is)
  (case l14 => k_is)
  (case c14 => k_is)
  (case k14 => k_is)
  (case a15 => k_is)
  (case l15 => k_is)
  (case c15 => k_is)
  (case k15 => k_is)
  (case a16 => k_is)
  (case l16 => k_is)
  (case c16 => k_is)
  (case k16 => k_is)
  (case a17 => k_is)
  (case l17 => k_is)
  (case c17 => k_is)
  (case k17 => k_is)
  (case a18 => k_is)
  (case l18 => k_is)
  (case c18 => k_is)
  (case k18 => k_is)
  (case a19 => k_is)
  (case l19 => k_is)
  (case c19 => k_is)
  (case k19 => k_is)
  (case a20 => k_is)
  (case l20 => k_is)
  (case c20 => k_is)
  (case k20 => k_is)
  (case a21 => k_is)
  (case l21 => k_is)
  (case c21 => k_is)
  (case k21 => k_is)
  (case a22 => k_is)
  (case l22 => k_is)
  (case c22 => k_is)
  (case k22 => k_is)
  (case a23 => k_is)
  (case l23 => k_is)
  (case c23 => k_is)
  (case k23 => k_is)
  (case a24 => k_is)
  (case l24 => k_is)
  (case c24 => k_is)
  (case k24 => k_is)
  (case a25 => k_is)
  (case l25 => k_is)
  (case c25 => k_is)
  (case k25 => k_is)
  (case a26 => k_is)
  (case l26 => k_is)
  (case c26 => k_is)
  (case k26 => k_is)
  (case a27 => k_is)
  (case l27 => k_is)
  (case c27 => k_is)
  (case k27 => k_is)
  (case a28 => k_is)
  (case l28 => k_is)
  (case c28 => k_is)
  (case k28 => k_is)
  (case a29 => k_is)
  (case l29 => k_is)
  (case c29 => k_is)
  (case k29 => k_is)
  (case a30 => k_is)
  (case l30 => k_is)
  (case c30 => k_is)
  (case k30 => k_is)
  (case a31 => k_is)
  (case l31 => k_is)
  (case c31 => k_is)
  (case k31 => k_is)
  (case a32 => k_is)
  (case l32 => k_is)
  (case c32 => k_is)
  (case k32 => k_is)
  (case a33 => k_is)
  (case l33 => k_is)
  (case c33 => k_is)
  (case k33 => k_is)
  (case a34 => k_is)
  (case l34 => k_is)
  (case c34 => k_is)
  (case k34 => k_is)
  (case a35 => k_is)
  (case l35 => k_is)
  (case c35 => k_is)
  (case k35 => k_is)
  (case a36 => k_is)
  (case l36 => k_is)
  (case c36 => k_is)
  (case k36 => k_is)
  (case a37 => k_is)
  (case l37 => k_is)
  (case c37 => k_is)
  (case k37 => k_is)
  (case a38 => k_is)
  (case l38 => k_is)
  (case c38 => k_is)
  (case k38 => k_is)
  (case a39 => k_is)
  (case l39 => k_is)
  (case c39 => k_is)
  (case k39 => k_is)
  (case a40 => k_is)
  (case l40 => k_is)
  (case c40 => k_is)
  (case k40 => k_is)
  (case a41 => k_is)
  (case l41 => k_is)
  (case c41 => k_is)
  (case k41 => k_is)
  (case a42 => k_is)
  (case l42 => k_is)
  (case c42 => k_is)
  (case k42 => k_is)
  (case a43 => k_is)
  (case l43 => k_is)
  (case c43 => k_is)
  (case k43 => k_is)
  (case a44 => k_is)
  (case l44 => k_is)
  (case c44 => k_is)
  (case k44 => k_is)
  (case a45 => k_is)
  (case l45 => k_is)
  (case c45 => k_is)
  (case k45 => k_is)
  (case a46 => k_is)
  (case l46 => k_is)
  (case c46 => k_is)
  (case k46 => k_is)
  (case a47 => k_is)
  (case l47 => k_is)
  (case c47 => k_is)
  (case k47 => k_is)
  (case a48 => k_is)
  (case l48 => k_is)
  (case c48 => k_is)
  (case k48 => k_is)
  (case a49 => k_is)
  (case l49 => k_is)
  (case c49 => k_is)
  (case k49 => k_is)
  (case z_isinstance => k_is)
  (case z_int => k_is)
  (case z_bool => k_is)
  (case z_abs => k_is)
  (case z_tuple => k_is)
  (case z_len => k_is)
  (case z_list => k_is)
  (case z_all => k_is)
  (case z_range => k_is)
  (case z_zip => k_is)
  (case z_min => k_is)
  (case z_sum => k_is)
  (case g_MOST_POINTS => k_is)
  (case g_MOST_KINDS => k_is)
  (case aC_Board => k_is)
  (case iI_Board => k_is)
  (case jI_Board => k_is)
  (case lI_Board => k_is)
  (case cI_Board => k_is)
  (case kI_Board => k_is)
  (case pg_Board => k_is)
  (case hd_Board => k_is)
  (case po_Board => k_is)
  (case sa_Board => k_is)
  (case mk_Board => k_is)
  (case kc_Board => k_is)
  (case nA0_Board => k_is)
  (case nA1_Board => k_is)
  (case nA2_Board => k_is)
  (case lc_raising_column => k_is)
  (case v11_raising_column => rfl)
  (case hno => kernel_rfl)
#print axioms PySem.Challenge.cw_limitdesk_k14_whole_mixes_holds
