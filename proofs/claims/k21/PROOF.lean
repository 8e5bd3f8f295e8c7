import PyProof.Rows.All
import Wide.All
import OpenK.AllK
import Wide.FinOn
import Lean
import PyProof.EqAt
import PyProof.EqKinds
import PyProof.EqLayable
import PyProof.TupleCall
import PyProof.P3Statements
import PySem.Challenge.RW_limitdesk_k21_arguments_refused
set_option Elab.async false
set_option linter.all false
set_option maxRecDepth 100000
namespace L2
open PySem PySem.Spec PyProof.Rows
abbrev Key := Sum Int Str
def keyIs : Key -> Value -> Bool
 | .inl k, v => Value.isInt k v
 | .inr x, v => Value.isStrOf x v
def keyH (w : World) : Key -> Int
 | .inl k => hashInt k
 | .inr x => hashStr w x
theorem ZZ : ∀ {k : Key} {v : Value}, keyIs k v = true -> (∃ i t, k = Sum.inl i /\ v = Value.int i t) \/ (∃ x t, k = Sum.inr x /\ v = Value.str x t)
 | .inl i, v, h => by
  obtain ⟨t, e⟩ := Value.isInt_shape (k := i) (v := v) h
  exact .inl ⟨i, t, rfl, e⟩
 | .inr x, v, h => by
  obtain ⟨t, e⟩ := Value.isStrOf_shape (x := x) (v := v) h
  exact .inr ⟨x, t, rfl, e⟩
theorem key_ll (a b : Int) : decide ((Sum.inl a : Key) = Sum.inl b) = (a == b) := by
 by_cases e : a = b
 ·subst e; simp
 ·have h : ¬ (Sum.inl a : Key) = Sum.inl b := fun q => e (Sum.inl.inj q)
  rw [decide_eq_false h]
  exact (beq_eq_false_iff_ne.mpr e).symm
theorem key_rr (a b : Str) : decide ((Sum.inr a : Key) = Sum.inr b) = decide (a = b) := by
 by_cases e : a = b
 ·subst e; simp
 ·have h : ¬ (Sum.inr a : Key) = Sum.inr b := fun q => e (Sum.inr.inj q)
  rw [decide_eq_false h, decide_eq_false e]
theorem key_lr (a : Int) (b : Str) : decide ((Sum.inl a : Key) = Sum.inr b) = false := decide_eq_false (fun q => nomatch q)
theorem key_rl (a : Str) (b : Int) : decide ((Sum.inr a : Key) = Sum.inl b) = false := decide_eq_false (fun q => nomatch q)
def V3 (prog : Program) (w : World) : PySem.KeyKind prog w Key where
 is := keyIs
 hash := keyH w
 inj := fun v a b ha hb => by
  rcases ZZ ha with ⟨i, t, rfl, rfl⟩ | ⟨x, t, rfl, rfl⟩
  ·rcases ZZ hb with ⟨j, u, rfl, e⟩ | ⟨y, u, rfl, e⟩
   ·injection e with e1 _; rw [e1]
   ·exact nomatch e
  ·rcases ZZ hb with ⟨j, u, rfl, e⟩ | ⟨y, u, rfl, e⟩
   ·exact nomatch e
   ·injection e with e1 _; rw [e1]
 byValue := fun k v h => by
  rcases ZZ h with ⟨i, t, rfl, rfl⟩ | ⟨x, t, rfl, rfl⟩ <;> rfl
 pyHash := fun hv h => by
  rcases ZZ hv with ⟨i, t, rfl, rfl⟩ | ⟨x, t, rfl, rfl⟩
  ·exact wpAny_pyHash_int h
  ·exact wpAny_pyHash_str h
 eqBool := fun hu hv h => by
  rcases ZZ hu with ⟨i, t, rfl, rfl⟩ | ⟨x, t, rfl, rfl⟩
  ·rcases ZZ hv with ⟨j, u, rfl, rfl⟩ | ⟨y, u, rfl, rfl⟩
   ·rw [key_ll] at h; exact wpAny_eqBool_int h
   ·rw [key_lr] at h; exact SeqAt.EqAt.int_str i t y u _ _ _ _ h
  ·rcases ZZ hv with ⟨j, u, rfl, rfl⟩ | ⟨y, u, rfl, rfl⟩
   ·rw [key_rl] at h; exact SeqAt.EqAt.str_int x t j u _ _ _ _ h
   ·rw [key_rr] at h; exact wpAny_eqBool_str h
 «strs» := fun k x t v h => by
  rcases ZZ h with ⟨i, u, rfl, e⟩ | ⟨y, u, rfl, e⟩
  ·exact nomatch e
  ·injection e with e1 _
   subst e1
   cases v <;> rfl
theorem mixKind_is (prog : Program) (w : World) (k : Key) (v : Value) : (V3 prog w).is k v = keyIs k v := rfl
end L2
namespace L2
open PySem PySem.Spec PyProof.Rows
inductive V where
 | non | bl (b : Bool) | int (i : Int) | str (x : Str) | byt (b : Array UInt8) | flt (b : UInt64) | ref (a : Addr) | ty (n : String)
 deriving DecidableEq
def RelV : V -> Value -> Prop
 | .non, u => u = Value.none
 | .bl b, u => u = Value.bool b
 | .int i, u => ∃ t, u = Value.int i t
 | .str x, u => ∃ t, u = Value.str x t
 | .byt b, u => ∃ t, u = Value.bytes b t
 | .flt b, u => ∃ t, u = Value.float b t
 | .ref a, u => u = Value.ref a
 | .ty n, u => u = Value.type n
abbrev Vals : List V -> List Value -> Prop := Paired RelV
theorem Vals.length {xs : List V} {us : List Value} (r : Vals xs us) : xs.length = us.length := Paired.length r
theorem Vals.get : ∀ {xs : List V} {us : List Value} {i : Nat} {x : V}, Vals xs us -> xs[i]? = some x -> ∃ u, us[i]? = some u /\ RelV x u
 | _, _, _, _, .nil, e => by simp at e
 | _, _, 0, _, .cons r _, e => by simp at e; subst e; exact ⟨_, rfl, r⟩
 | _, _, i + 1, x, .cons _ t, e => by
  obtain ⟨u, h1, h2⟩ := Vals.get (i := i) (x := x) t (by simpa using e)
  exact ⟨u, by simpa using h1, h2⟩
theorem Vals.set {x : V} {u : Value} (r : RelV x u) : ∀ {xs : List V} {us : List Value} (i : Nat), Vals xs us -> Vals (xs.set i x) (us.set i u)
 | _, _, _, .nil => .nil
 | _, _, 0, .cons _ t => .cons r t
 | _, _, i + 1, .cons q t => .cons q (Vals.set r i t)
theorem Vals.append : ∀ {xs ys : List V} {us ws : List Value}, Vals xs us -> Vals ys ws -> Vals (xs ++ ys) (us ++ ws)
 | _, _, _, _, .nil, s => s
 | _, _, _, _, .cons r t, s => .cons r (Vals.append t s)
def RelO : Option V -> Option Value -> Prop
 | some v, some u => RelV v u
 | none, none => True
 | _, _ => False
def KV {κ : Type} : List (κ × V) -> List (κ × Value) -> Prop := Paired fun (p : κ × V) (q : κ × Value) => p.1 = q.1 /\ RelV p.2 q.2
def kV : Key -> V
 | .inl i => .int i
 | .inr x => .str x
inductive HO where
 /-- a list -/
 | lst (xs : List V)
 /-- a tuple (never changes) -/
 | tup (xs : List V)
 /-- a dict whose keys are ints and texts; one whose keys are tuples of ints and texts (the empty one is both) -/
 | dK (kvs : List (Key × V)) | dT (kvs : List (List Key × V))
 /-- a set of ints: its members, its size -/
 | set (S : Int -> Bool) (n : Nat)
 /-- an instance of the class at C, its dict at dx, its attributes -/
 | ins (C dx : Addr) (fs : List (Str × V))
 /-- the dict of the instance at x -/
 | own (x : Addr)
 /-- the dict of an exception -/
 | xd (fs : List (Str × V))
 /-- a bound method, f of x -/
 | met (f x : Addr)
 /-- a range object lo, lo + 1, .. below hi -/
 | rng (lo hi : Int)
 /-- a thing that is known to the object (the script; a dict while a loop walks it): read, never written while it is so -/
 | frz (o : Obj) (u : HO)
 /-- a code object's table -/
 | tbl (ps : Array Value)
 /-- any other thing, by what is true of its one object (a def of one's own: SetO a S n := HO.ext fun h => ..) -/
 | ext (φ : Heap -> Prop)
abbrev Hp := Addr -> Option HO
def upd (H : Hp) (a : Addr) (o : HO) : Hp := fun b => if b = a then some o else H b
theorem ZQ {H : Hp} {a : Addr} {o : HO} : upd H a o a = some o := by unfold upd; rw [if_pos rfl]
theorem Zy {H : Hp} {a b : Addr} {o : HO} (h : b ≠ a) : upd H a o b = H b := by unfold upd; rw [if_neg h]
theorem ZM {H : Hp} {a b : Addr} {o : HO} (h : H a = some o) (h' : H b = none) : a ≠ b := by
 intro e; subst e; rw [h] at h'; cases h'
section
variable (P : Program) (w : World)
def X9 (H : Hp) (h : Heap) (a : Addr) : HO -> Prop
 | .lst xs => xs.length <= sizeLine /\ ∃ (its : List Value) (n : Nat), Vals xs its /\ h.get? a = some { cls := .type "list", data := .seq its.toArray n }
 | .tup xs => xs.length <= sizeLine /\ ∃ its : List Value, Vals xs its /\ IsTup h a its.toArray
 | .dK kvs => kvs.length <= sizeLine /\ (a == sysModules) = false /\ ∃ vs, KV kvs vs /\ h.DictOf (V3 P w) a vs
 | .dT kvs => kvs.length <= sizeLine /\ (a == sysModules) = false /\ ∃ xs : List (List Key × Addr × Value),
   Paired (fun (p : List Key × V) (q : List Key × Addr × Value) => p.1 = q.1 /\ H q.2.1 = some (.tup (p.1.map kV)) /\ RelV p.2 q.2.2) kvs xs /\
   ∃ o es ep, h.get? a = some o /\ o.ExactDict /\ o.data = .dict es ep /\ es.toList = xs.map (entryOfKey (tupleKind (V3 P w))) /\ (xs.map (·.1)).Nodup
 | .set S n => h.SetOf (intKind P w) a S n
 | .ins C dx fs => H dx = some (.own a) /\ fs.length <= 1000 /\ dx ≠ a /\ h.get? a = some (PySem.W.instObj C dx) /\
   ∃ mA, h.Ns1 dx mA /\ (∀ f, RelO (fs.lookup f) (mA f)) /\ PySem.Within mA (fs.map (·.1))
 | .own _ => ∃ o, h.get? a = some o
 | .xd fs => ∃ mA, h.Ns1 a mA /\ ∀ f, RelO (fs.lookup f) (mA f)
 | .rng lo hi => ∃ t u v, h.get? a = some { cls := .type "range", data := .fields #[.int lo t, .int hi u, .int 1 v] }
 | .frz o u => h.get? a = some o /\ X9 H h a u
 | .tbl ps => h.get? a = some { cls := .none, data := .fields ps }
 | .met f x => h.get? a = some (PySem.W.methodObj (.ref f) (.ref x))
 | .ext φ => φ h /\ (∃ o, h.get? a = some o) /\ ∀ h1 h2 : Heap, φ h1 -> (∀ o, h1.get? a = some o -> h2.get? a = some o) -> φ h2
def HOk (H : Hp) (h : Heap) : Prop := ∀ a o, H a = some o -> X9 P w H h a o
end
section
variable {P : Program} {w : World} {H H' : Hp} {h h' : Heap} {a : Addr} {o : HO}
theorem X9.lt (x : X9 P w H h a o) : a < h.objs.size := by
 cases o with
 | lst xs => obtain ⟨_, _, _, _, e⟩ := x; exact Heap.lt_size e
 | tup xs => obtain ⟨_, _, _, p⟩ := x; exact p.lt
 | dK kvs => obtain ⟨_, _, _, _, o, _, _, e, _⟩ := x; exact Heap.lt_size e
 | dT kvs => obtain ⟨_, _, _, _, o, _, _, e, _⟩ := x; exact Heap.lt_size e
 | set S n => obtain ⟨o, _, _, _, e, _⟩ := x; exact Heap.lt_size e
 | ins C dx fs => obtain ⟨_, _, _, e, _⟩ := x; exact Heap.lt_size e
 | own y => obtain ⟨_, e⟩ := x; exact Heap.lt_size e
 | xd fs => obtain ⟨_, ⟨_, _, _, e, _⟩, _⟩ := x; exact Heap.lt_size e
 | rng lo hi => obtain ⟨_, _, _, e⟩ := x; exact Heap.lt_size e
 | frz ob u => obtain ⟨e, _⟩ := x; exact Heap.lt_size e
 | tbl ps => exact Heap.lt_size (show h.get? a = some _ from x)
 | met f y => exact Heap.lt_size (show h.get? a = some _ from x)
 | ext φ => obtain ⟨_, ⟨_, e⟩, _⟩ := x; exact Heap.lt_size e
theorem Paired.mapP {α β : Type} {F G : α -> β -> Prop} : ∀ {l₁ : List α} {l₂ : List β}, Paired F l₁ l₂ -> (∀ a b, F a b -> G a b) -> Paired G l₁ l₂
 | _, _, .nil, _ => .nil
 | _, _, .cons r t, f => .cons (f _ _ r) (Paired.mapP t f)
theorem X9.stay (x : X9 P w H h a o) (k : ∀ b u, (b = a \/ H b = some (.own a)) -> h.get? b = some u -> h'.get? b = some u)
  (ho : ∀ b, H b = some (.own a) -> H' b = some (.own a)) (ht : ∀ b xs, H b = some (.tup xs) -> H' b = some (.tup xs)) : X9 P w H' h' a o := by
 induction o with
 | lst xs => obtain ⟨z, its, n, r, e⟩ := x; exact ⟨z, its, n, r, k _ _ (.inl rfl) e⟩
 | tup xs => obtain ⟨z, its, r, ob, e, c⟩ := x; exact ⟨z, its, r, ob, k _ _ (.inl rfl) e, c⟩
 | dK kvs => obtain ⟨z, y, vs, r, ob, es, ep, e, c⟩ := x; exact ⟨z, y, vs, r, ob, es, ep, k _ _ (.inl rfl) e, c⟩
 | dT kvs =>
  obtain ⟨z, y, xs, r, ob, es, ep, e, c⟩ := x
  exact ⟨z, y, xs, Paired.mapP r fun p q z => ⟨z.1, ht _ _ z.2.1, z.2.2⟩, ob, es, ep, k _ _ (.inl rfl) e, c⟩
 | set S n => obtain ⟨ob, es, ep, t, e, c⟩ := x; exact ⟨ob, es, ep, t, k _ _ (.inl rfl) e, c⟩
 | ins C dx fs =>
  obtain ⟨d, z, ne, e, mA, ⟨od, es, ep, e2, c⟩, r⟩ := x
  exact ⟨ho _ d, z, ne, k _ _ (.inl rfl) e, mA, ⟨od, es, ep, k _ _ (.inr d) e2, c⟩, r⟩
 | own y => obtain ⟨ob, e⟩ := x; exact ⟨ob, k _ _ (.inl rfl) e⟩
 | xd fs => obtain ⟨mA, ⟨od, es, ep, e, c⟩, r⟩ := x; exact ⟨mA, ⟨od, es, ep, k _ _ (.inl rfl) e, c⟩, r⟩
 | rng lo hi => obtain ⟨t, u, v, e⟩ := x; exact ⟨t, u, v, k _ _ (.inl rfl) e⟩
 | frz ob u ih => obtain ⟨e, q⟩ := x; exact ⟨k _ _ (.inl rfl) e, ih q⟩
 | tbl ps =>
  have e : h.get? a = some { cls := .none, data := .fields ps } := x
  show h'.get? a = some { cls := .none, data := .fields ps }
  exact k a _ (.inl rfl) e
 | met f y =>
  have e : h.get? a = some (PySem.W.methodObj (.ref f) (.ref y)) := x
  show h'.get? a = some (PySem.W.methodObj (.ref f) (.ref y))
  exact k a _ (.inl rfl) e
 | ext φ => obtain ⟨p, ⟨o, e⟩, st⟩ := x; exact ⟨st _ _ p fun o q => k _ _ (.inl rfl) q, ⟨o, k _ _ (.inl rfl) e⟩, st⟩
theorem HOk.lt (x : HOk P w H h) (e : H a = some o) : a < h.objs.size := (x a o e).lt
theorem HOk.fresh (x : HOk P w H h) (e : h.objs.size <= a) : H a = none := by
 cases q : H a with
 | none => rfl
 | some u => exact absurd (Nat.lt_of_lt_of_le (x.lt q) e) (Nat.lt_irrefl _)
theorem HOk.kept (x : HOk P w H h) (k : ∀ b u, h.get? b = some u -> h'.get? b = some u) : HOk P w H h' := fun a o e =>
 (x a o e).stay (fun b u _ q => k b u q) (fun _ q => q) fun _ _ q => q
theorem HOk.laid (x : HOk P w H h) (k : ∀ b u, h.get? b = some u -> h'.get? b = some u) (hp : h.objs.size <= a) (new : X9 P w (upd H a o) h' a o) : HOk P w (upd H a o) h' := fun b u e => by
 have hn := x.fresh hp
 by_cases hb : b = a
 ·subst hb; rw [ZQ] at e; cases e; exact new
 ·rw [Zy hb] at e
  exact (x b u e).stay (fun c v _ q => k c v q) (fun c q => by rw [Zy (ZM q hn)]; exact q) fun c xs q => by rw [Zy (ZM q hn)]; exact q
end
def Rd (H : Hp) (a : Addr) (u : HO) : Prop := H a = some u \/ ∃ o, H a = some (.frz o u)
theorem Rd.ok {P : Program} {w : World} {H : Hp} {h : Heap} {a : Addr} {u : HO} (r : Rd H a u) (x : HOk P w H h) : X9 P w H h a u := by
 rcases r with r | ⟨o, r⟩
 ·exact x a u r
 ·obtain ⟨_, q⟩ := x a _ r
  exact q
def Mut : Option HO -> Prop
 | some (.lst _) => True
 | some (.dK _) => True
 | some (.dT _) => True
 | some (.set _ _) => True
 | some (.ins _ _ _) => True
 | some (.ext _) => True
 | _ => False
section
variable {P : Program} {w : World} {H : Hp} {h h' : Heap} {x e : Addr} {o' : HO}
theorem HOk.write (ok : HOk P w H h) (mu : Mut (H x)) (he : e = x \/ H e = some (.own x)) (k : ∀ b u, b ≠ e -> h.get? b = some u -> h'.get? b = some u) (heo : ∃ u, h'.get? e = some u)
  (new : X9 P w (upd H x o') h' x o') : HOk P w (upd H x o') h' := fun b u q => by
 have nown : ∀ c y, H c = some (.own y) -> c ≠ x := fun c y r z => by subst z; rw [r] at mu; exact mu
 have ntup : ∀ c xs, H c = some (.tup xs) -> c ≠ x := fun c xs r z => by subst z; rw [r] at mu; exact mu
 by_cases hb : b = x
 ·subst hb; rw [ZQ] at q; cases q; exact new
 ·rw [Zy hb] at q
  by_cases hbe : b = e
  ·have q' : H b = some (.own x) := by
    rcases he with z | z
    ·exact absurd (hbe.trans z) hb
    ·rw [hbe]; exact z
   rw [q] at q'; cases q'
   obtain ⟨v, hv⟩ := heo
   exact ⟨v, by rw [hbe]; exact hv⟩
  ·refine (ok b u q).stay (fun c v hc r => k c v ?_ r) (fun c r => by rw [Zy (nown c b r)]; exact r) fun c xs r => by rw [Zy (ntup c xs r)]; exact r
   rcases hc with rfl | hc
   ·exact hbe
   ·rintro rfl
    rcases he with z | z
    ·exact nown c b hc z
    ·rw [hc] at z; cases z; exact hb rfl
end
structure Un (fs ex : List Addr) (H H' : Hp) (h h' : Heap) : Prop where
 keep : ∀ b o, h.get? b = some o -> H b = none -> b ∉ fs -> b ∉ ex -> h'.get? b = some o
 slot : ∀ b o, h.get? b = some o -> H b = none -> b ∈ fs -> b ∉ ex -> ∃ sl, h'.get? b = some { o with slots := sl }
 free : ∀ b o, h.get? b = some o -> H b = none -> b ∉ ex -> H' b = none
 there : ∀ b o, h.get? b = some o -> b ∉ ex -> ∃ o', h'.get? b = some o'
 tups : ∀ b xs, H b = some (.tup xs) -> H' b = some (.tup xs)
 frzs : ∀ b o u, H b = some (.frz o u) -> H' b = some (.frz o u)
 tbls : ∀ b ps, H b = some (.tbl ps) -> ∃ more, H' b = some (.tbl (ps ++ more))
section
variable {fs fs' ex ex' : List Addr} {H H1 H2 : Hp} {h h1 h2 h' : Heap} {a x e : Addr} {o : HO}
theorem Un.any (u : Un fs ex H H1 h h1) {b : Addr} {ob : Obj} (q : h.get? b = some ob) (n : H b = none) (hx : b ∉ ex) : ∃ sl, h1.get? b = some { ob with slots := sl } := by
 by_cases hb : b ∈ fs
 ·exact u.slot b ob q n hb hx
 ·exact ⟨ob.slots, u.keep b ob q n hb hx⟩
theorem Un.kept (k : ∀ b u, h.get? b = some u -> h'.get? b = some u) : Un fs ex H H h h' :=
 ⟨fun b ob q _ _ _ => k b ob q, fun b ob q _ _ _ => ⟨ob.slots, k b ob q⟩, fun _ _ _ n _ => n, fun b ob q _ => ⟨ob, k b ob q⟩, fun _ _ q => q, fun _ _ _ q => q, fun _ ps q => ⟨#[], by rw [q]; simp⟩⟩
theorem Un.refl : Un fs ex H H h h := Un.kept fun _ _ q => q
theorem Un.laid (k : ∀ b u, h.get? b = some u -> h'.get? b = some u) (hp : h.objs.size <= a) (hn : H a = none) : Un fs ex H (upd H a o) h h' where
 keep := fun b u q _ _ _ => k b u q
 slot := fun b u q _ _ _ => ⟨u.slots, k b u q⟩
 free := fun b u q n _ => by rw [Zy (Nat.ne_of_lt (Nat.lt_of_lt_of_le (Heap.lt_size q) hp))]; exact n
 there := fun b u q _ => ⟨u, k b u q⟩
 tups := fun b xs q => by rw [Zy (ZM q hn)]; exact q
 frzs := fun b u xs q => by rw [Zy (ZM q hn)]; exact q
 tbls := fun b ps q => ⟨#[], by rw [Zy (ZM q hn), q]; simp⟩
theorem Un.write (mu : Mut (H x)) (he : e = x \/ H e = some (.own x)) (k : ∀ b u, b ≠ e -> h.get? b = some u -> h'.get? b = some u) (heo : ∃ u, h'.get? e = some u) : Un fs ex H (upd H x o) h h' := by
 have hx : ∀ b, H b = none -> b ≠ x := fun b n z => by subst z; rw [n] at mu; exact mu
 have hb : ∀ b, H b = none -> b ≠ e := fun b n z => by
  subst z
  rcases he with r | r
  ·exact hx b n r
  ·rw [n] at r; cases r
 have hm : ∀ b u, H b = some u -> ¬ Mut (some u) -> b ≠ x := fun b u q nm z => by subst z; rw [q] at mu; exact nm mu
 refine ⟨fun b u q n _ _ => k b u (hb b n) q, fun b u q n _ _ => ⟨u.slots, k b u (hb b n) q⟩, fun b u q n _ => by rw [Zy (hx b n)]; exact n, fun b u q _ => ?_,
  fun b xs q => by rw [Zy (hm b _ q fun z => z)]; exact q, fun b u xs q => by rw [Zy (hm b _ q fun z => z)]; exact q, fun b ps q => ⟨#[], by rw [Zy (hm b _ q fun z => z), q]; simp⟩⟩
 by_cases hbe : b = e
 ·subst hbe; exact heo
 ·exact ⟨u, k b u hbe q⟩
end
def trk (h : Heap) (H : Hp) : List Addr := (List.range h.objs.size).filter fun a => (H a).isSome
def hidT (h : Heap) (H : Hp) : Heap := PySem.W.hideAll h (trk h H)
theorem JE (h : Heap) (H : Hp) : (hidT h H).objs.size = h.objs.size := PySem.W.hideAll_size _ _
theorem hidT_get {h : Heap} {H : Hp} {b : Addr} {o : Obj} (e : h.get? b = some o) (n : H b = none) : (hidT h H).get? b = some o :=
 PySem.W.hideAll_get _ e fun hm => by
  have q : (H b).isSome = true := (List.mem_filter.mp hm).2
  rw [n] at q; simp at q
theorem of_hidT {h : Heap} {H : Hp} {b : Addr} {o : Obj} (e : (hidT h H).get? b = some o) : h.get? b = some o /\ H b = none := by
 have e' : h.get? b = some o := PySem.W.of_hideAll (trk h H) e
 refine ⟨e', ?_⟩
 cases q : H b with
 | none => rfl
 | some x =>
  have hm : b ∈ trk h H := List.mem_filter.mpr ⟨List.mem_range.mpr (Heap.lt_size e'), by simp [q]⟩
  have z : (hidT h H).get? b = none := PySem.W.hideAll_none (trk h H) hm
  rw [z] at e; cases e
end L2
namespace L2
open PySem PySem.Spec PyProof.Rows
structure Mod (K : PySem.W.Frag) (mg : Str -> Option Value) (base : Heap) : Prop where
 kin : K.In base
 glob : base.Ns mainGlobals mg
 blt : ∃ mb, base.Ns builtinsNs mb /\ ∀ x : Str, x ≠ "__name__" -> mb x = bootBuiltins x
 nolimit : base.NoLimit
structure Cx where
 prog : Program
 w : World
 K : PySem.W.Frag
 mg : Str -> Option Value
 base : Heap
 A : Around
 N : List Str
 s₀ : Shared
 H₀ : Hp
 env : Env
 outer : List Env
 stack : List Env
 ex : List Addr
 fn : Str -> Bool
 calm : Bool
 pn : List (Addr × Obj)
 xe : Value -> Shared -> Prop
def frs (l : List Env) : List Addr := l.filterMap (·.frame)
abbrev Cx.fs (X : Cx) : List Addr := frs X.outer
def Vis (sc : Scope) (x : Str) : Prop := sc.names.lookup x = some .local \/ sc.names.lookup x = some .cell \/ sc.names.lookup x = some .free
def Loc (sc : Scope) (x : Str) : Prop := sc.names.lookup x = some .local \/ sc.names.lookup x = some .cell
def Look (env : Env) (h : Heap) (m : Str -> Option Value) (x : Str) (u : Value) : Prop :=
 (env.kindOf x = some .local /\ m x = some u) \/ ((env.kindOf x = some .cell \/ env.kindOf x = some .free) /\ ∃ c, env.cells.lookup x = some c /\ h.IsCell c (some u))
structure Cx.Ok (X : Cx) : Prop where
 mod : Mod X.K X.mg X.base
 kind : X.env.scope.kind = .function
 glob : X.env.globals = mainGlobals
 blt : X.env.builtins = builtinsNs
 above : X.s₀.heap.objs.size <= X.env.locals
 inj : ∀ x y c, X.env.cells.lookup x = some c -> X.env.cells.lookup y = some c -> x = y
 has : ∀ x, (X.env.kindOf x = some .cell \/ X.env.kindOf x = some .free) -> ∃ c, X.env.cells.lookup x = some c
 cab : ∀ x c, X.fn x = true -> X.env.cells.lookup x = some c -> X.s₀.heap.objs.size <= c
 hd : X.calm = true -> X.A.handled = none
 frames : X.A.frames = some X.stack
 stk : X.stack = X.outer \/ (X.stack = X.env :: X.outer /\ X.env.frame = some X.env.locals)
 exf : ∀ b ∈ X.ex, b ≠ X.env.locals /\ ∀ x c, X.env.cells.lookup x = some c -> c ≠ b
 bs : ∀ b o, X.base.get? b = some o -> X.s₀.heap.get? b = some o /\ X.H₀ b = none
 bsz : X.base.objs.size <= X.s₀.heap.objs.size
 noex : ∀ b o, X.base.get? b = some o -> b ∉ X.ex
 exfs : ∀ b ∈ X.ex, b ∉ X.fs
 funs : X.s₀.heap.FunFrames X.base X.outer
 frf : ∀ b ∈ X.fs, X.H₀ b = none
structure Inv (X : Cx) (pins : List (Addr × Obj)) (σ : List (Option V)) (H : Hp) (s : Shared) : Prop where
 ok : X.Ok
 os : s.os = X.s₀.os
 bare : AllBare s.gens
 base : Un X.fs X.ex X.H₀ H X.s₀.heap s.heap
 loc : ∃ m, s.heap.Ns X.env.locals m /\ ∀ (i : Nat) (x : Str) (v : V), X.N[i]? = some x -> σ[i]? = some (some v) -> Vis X.env.scope x -> ∃ u, RelV v u /\ Look X.env s.heap m x u
 cell : ∀ x c, X.env.cells.lookup x = some c -> ∃ v, s.heap.IsCell c v
 free : H X.env.locals = none
 freeC : ∀ x c, X.env.cells.lookup x = some c -> H c = none
 pin : ∀ p ∈ X.pn ++ pins, s.heap.get? p.1 = some p.2 /\ H p.1 = none /\ p.1 ≠ X.env.locals /\ p.1 ∉ X.fs /\ ∀ v, p.2.data ≠ .cell v
 hok : HOk X.prog X.w H s.heap
 len : σ.length = X.N.length
section
variable {X : Cx} {pins : List (Addr × Obj)} {σ : List (Option V)} {H H' : Hp} {s : Shared} {h' : Heap}
theorem Cx.Ok.nofr (ok : X.Ok) {b : Addr} {o : Obj} (e : X.base.get? b = some o) : b ∉ X.fs := fun hb => by
 have := (ok.funs.mem hb).1
 rw [e] at this; cases this
theorem Inv.bs (I : Inv X pins σ H s) : ∀ b o, X.base.get? b = some o -> s.heap.get? b = some o /\ H b = none := fun b o e =>
 ⟨I.base.keep b o (I.ok.bs b o e).1 (I.ok.bs b o e).2 (I.ok.nofr e) (I.ok.noex b o e), I.base.free b o (I.ok.bs b o e).1 (I.ok.bs b o e).2 (I.ok.noex b o e)⟩
theorem Inv.bk (I : Inv X pins σ H s) : ∀ b o, X.base.get? b = some o -> s.heap.get? b = some o := fun b o e => (I.bs b o e).1
theorem Inv.mod (I : Inv X pins σ H s) : Mod X.K X.mg X.base := I.ok.mod
theorem Inv.kIn (I : Inv X pins σ H s) : X.K.In s.heap := I.ok.mod.kin.keeps I.bk
theorem Inv.lt (I : Inv X pins σ H s) : X.env.locals < s.heap.objs.size := let ⟨_, hn, _⟩ := I.loc; hn.lt
theorem Inv.sz (I : Inv X pins σ H s) : X.s₀.heap.objs.size <= s.heap.objs.size := Nat.le_trans I.ok.above (Nat.le_of_lt I.lt)
theorem Inv.nofs (I : Inv X pins σ H s) {a : Addr} (h : s.heap.objs.size <= a) : a ∉ X.fs := fun hb => by
 obtain ⟨_, o, ho, _⟩ := I.ok.funs.mem hb
 exact absurd (Nat.lt_of_lt_of_le (Heap.lt_size ho) (Nat.le_trans I.sz h)) (Nat.lt_irrefl _)
theorem Inv.cne (I : Inv X pins σ H s) : ∀ x c, X.env.cells.lookup x = some c -> c ≠ X.env.locals := fun x c e z => by
 obtain ⟨v, o, ho, hd⟩ := I.cell x c e
 obtain ⟨m, ⟨o', es, ep, ho', hd', _⟩, _⟩ := I.loc
 rw [z, ho'] at ho; cases ho; rw [hd'] at hd; cases hd
theorem Inv.funs (I : Inv X pins σ H s) : s.heap.FunFrames X.base X.outer := by
 have all : ∀ (l : List Env), (∀ b ∈ frs l, b ∈ X.fs) -> X.s₀.heap.FunFrames X.base l -> s.heap.FunFrames X.base l := by
  intro l
  induction l with
  | nil => intro _ _; trivial
  | cons env r ih =>
   intro hs hl
   obtain ⟨hk, ⟨L, o, hf, hn, ho, hd⟩, hr⟩ := hl
   have hL : L ∈ X.fs := hs L (by unfold frs; rw [List.filterMap_cons, hf]; exact List.mem_cons_self)
   obtain ⟨sl, e⟩ := I.base.slot L o ho (I.ok.frf L hL) hL fun z => I.ok.exfs L z hL
   exact ⟨hk, ⟨L, _, hf, hn, e, hd⟩, ih (fun b hb => hs b (by unfold frs; rw [List.filterMap_cons, hf]; exact List.mem_cons_of_mem _ hb)) hr⟩
 exact all X.outer (fun _ hb => hb) I.ok.funs
theorem Inv.stack (I : Inv X pins σ H s) : s.heap.FunFrames X.base X.stack := by
 rcases I.ok.stk with e | ⟨e, hf⟩
 ·rw [e]; exact I.funs
 ·rw [e]
  obtain ⟨m, hn, _⟩ := I.loc
  refine .cons (by rw [I.ok.kind]; decide) hf hn ?_ I.funs
  exact Heap.get?_none_of_le (Nat.le_trans I.ok.bsz I.ok.above)
theorem Inv.stkSub (I : Inv X pins σ H s) : ∀ b ∈ frs X.stack, b ∈ X.env.locals :: X.fs := fun b hb => by
 rcases I.ok.stk with e | ⟨e, hf⟩
 ·rw [e] at hb; exact List.mem_cons_of_mem _ hb
 ·rw [e] at hb
  unfold frs at hb
  rw [List.filterMap_cons, hf] at hb
  exact hb
theorem Inv.stkFree (I : Inv X pins σ H s) : ∀ b ∈ frs X.stack, H b = none := fun b hb => by
 rcases List.mem_cons.mp (I.stkSub b hb) with e | hb
 ·rw [e]; exact I.free
 ·obtain ⟨_, o, ho, _⟩ := I.ok.funs.mem hb
  exact I.base.free b o ho (I.ok.frf b hb) fun z => I.ok.exfs b z hb
theorem Inv.step {g' : Array GenState} {t' : Nat} {d' : Drawn} {ch : List Addr} (I : Inv X pins σ H s)
  (hch : ∀ b ∈ ch, (b ∈ X.ex \/ X.s₀.heap.objs.size <= b) /\ b ≠ X.env.locals /\ (∀ x c, X.env.cells.lookup x = some c -> c ≠ b) /\ ∀ p ∈ X.pn ++ pins, p.1 ≠ b)
  (keep : ∀ b o, b ≠ X.env.locals -> b ∉ X.fs -> b ∉ ch -> s.heap.get? b = some o -> H b = none -> h'.get? b = some o)
  (slot : ∀ b o, b ≠ X.env.locals -> b ∈ X.fs -> b ∉ ch -> s.heap.get? b = some o -> H b = none -> ∃ sl, h'.get? b = some { o with slots := sl }) (free : ∀ b o, b ∉ ch -> s.heap.get? b = some o -> H b = none -> H' b = none)
  (there : ∀ b o, b ∉ ch -> s.heap.get? b = some o -> ∃ o', h'.get? b = some o')
  (tups : ∀ b xs, H b = some (.tup xs) -> H' b = some (.tup xs)) (frzs : ∀ b o u, H b = some (.frz o u) -> H' b = some (.frz o u)) (tbls : ∀ b ps, H b = some (.tbl ps) -> ∃ more, H' b = some (.tbl (ps ++ more)))
  (ns : ∀ m, s.heap.Ns X.env.locals m -> h'.Ns X.env.locals m) (hok : HOk X.prog X.w H' h') (hg : AllBare g') :
  Inv X pins σ H' { s with heap := h', gens := g', drawn := d', toks := t' } := by
 have neL : ∀ b o, X.s₀.heap.get? b = some o -> b ≠ X.env.locals := fun b o e => Nat.ne_of_lt (Nat.lt_of_lt_of_le (Heap.lt_size e) I.ok.above)
 have neC : ∀ b o, X.s₀.heap.get? b = some o -> b ∉ X.ex -> b ∉ ch := fun b o e hx hb => by
  rcases (hch b hb).1 with z | z
  ·exact hx z
  ·exact absurd (Nat.lt_of_lt_of_le (Heap.lt_size e) z) (Nat.lt_irrefl _)
 have cellK : ∀ x c, X.env.cells.lookup x = some c -> ∀ v, s.heap.IsCell c v -> h'.IsCell c v := fun x c e v ⟨o, ho, hd⟩ => by
  have nch : c ∉ ch := fun z => (hch c z).2.2.1 x c e rfl
  by_cases hc : c ∈ X.fs
  ·obtain ⟨sl, q⟩ := slot c o (I.cne x c e) hc nch ho (I.freeC x c e)
   exact ⟨_, q, hd⟩
  ·exact ⟨o, keep c o (I.cne x c e) hc nch ho (I.freeC x c e), hd⟩
 refine ⟨I.ok, I.os, hg, ⟨fun b o e n hb hx => ?_, fun b o e n hb hx => ?_, fun b o e n hx => ?_, fun b o e hx => ?_, fun b xs e => tups b xs (I.base.tups b xs e), fun b o xs e => frzs b o xs (I.base.frzs b o xs e), fun b ps e => ?_⟩, ?_, fun x c e => ?_, ?_, fun x c e => ?_, fun p hp => ?_, hok, I.len⟩
 ·exact keep b o (neL b o e) hb (neC b o e hx) (I.base.keep b o e n hb hx) (I.base.free b o e n hx)
 ·obtain ⟨sl, e1⟩ := I.base.slot b o e n hb hx
  obtain ⟨sl', e2⟩ := slot b _ (neL b o e) hb (neC b o e hx) e1 (I.base.free b o e n hx)
  exact ⟨sl', e2⟩
 ·obtain ⟨o', e1⟩ := I.base.there b o e hx
  exact free b o' (neC b o e hx) e1 (I.base.free b o e n hx)
 ·obtain ⟨o', e1⟩ := I.base.there b o e hx
  exact there b o' (neC b o e hx) e1
 ·obtain ⟨m1, e1⟩ := I.base.tbls b ps e
  obtain ⟨m2, e2⟩ := tbls b _ e1
  exact ⟨m1 ++ m2, by rw [e2, Array.append_assoc]⟩
 ·obtain ⟨m, hn, hl⟩ := I.loc
  refine ⟨m, ns m hn, fun i x v e1 e2 e3 => ?_⟩
  obtain ⟨u, r, l⟩ := hl i x v e1 e2 e3
  refine ⟨u, r, ?_⟩
  rcases l with l | ⟨k, c, e, z⟩
  ·exact .inl l
  ·exact .inr ⟨k, c, e, cellK x c e _ z⟩
 ·obtain ⟨v, z⟩ := I.cell x c e
  exact ⟨v, cellK x c e v z⟩
 ·obtain ⟨m, ⟨o, _, _, ho, _⟩, _⟩ := I.loc
  exact free _ o (fun z => (hch _ z).2.1 rfl) ho I.free
 ·obtain ⟨v, o, ho, hd⟩ := I.cell x c e
  exact free c o (fun z => (hch c z).2.2.1 x c e rfl) ho (I.freeC x c e)
 ·obtain ⟨e, n, ne, nf, d⟩ := I.pin p hp
  have nch : p.1 ∉ ch := fun z => (hch p.1 z).2.2.2 p hp rfl
  exact ⟨keep p.1 p.2 ne nf nch e n, free p.1 p.2 nch e n, ne, nf, d⟩
theorem Inv.un {t' : Nat} (I : Inv X pins σ H s) (u : Un X.fs [] H H' s.heap h') (hok : HOk X.prog X.w H' h') : Inv X pins σ H' { s with heap := h', toks := t' } := by
 obtain ⟨m, ⟨o, es, ep, ho, r⟩, _⟩ := id I.loc
 obtain ⟨sl, hL⟩ := u.any ho I.free (by simp)
 exact I.step (g' := s.gens) (d' := s.drawn) (ch := []) (fun _ z => nomatch z) (fun b o _ hb _ e n => u.keep b o e n hb (by simp)) (fun b o _ hb _ e n => u.slot b o e n hb (by simp)) (fun b o _ e n => u.free b o e n (by simp)) (fun b o _ e => u.there b o e (by simp)) u.tups u.frzs u.tbls (fun m' hm => by
  obtain ⟨o', es', ep', ho', r'⟩ := hm
  rw [ho] at ho'; cases ho'
  exact ⟨_, es', ep', hL, r'⟩) hok I.bare
theorem Inv.call {g' : Array GenState} {t' : Nat} {d' : Drawn} {ch : List Addr} (I : Inv X pins σ H s) (u : Un (frs X.stack) ch H H' s.heap h') (hok : HOk X.prog X.w H' h') (hg : AllBare g')
  (hch : ∀ b ∈ ch, (b ∈ X.ex \/ X.s₀.heap.objs.size <= b) /\ b ≠ X.env.locals /\ (∀ x c, X.env.cells.lookup x = some c -> c ≠ b) /\ ∀ p ∈ X.pn ++ pins, p.1 ≠ b) :
  Inv X pins σ H' { s with heap := h', gens := g', drawn := d', toks := t' } := by
 obtain ⟨m, ⟨o, es, ep, ho, r⟩, _⟩ := id I.loc
 obtain ⟨sl, hL⟩ := u.any ho I.free fun z => (hch _ z).2.1 rfl
 exact I.step (ch := ch) hch (fun b o hL hb hc e n => u.keep b o e n (fun z => (List.mem_cons.mp (I.stkSub b z)).elim hL hb) hc) (fun b o _ _ hc e n => u.any e n hc) (fun b o hc e n => u.free b o e n hc) (fun b o hc e => u.there b o e hc) u.tups u.frzs u.tbls (fun m' hm => by
  obtain ⟨o', es', ep', ho', r'⟩ := hm
  rw [ho] at ho'; cases ho'
  exact ⟨_, es', ep', hL, r'⟩) hok hg
theorem Inv.turned {t' : Nat} {it : Addr} (I : Inv X pins σ H s) (k : ∀ b o, b ≠ it -> s.heap.get? b = some o -> h'.get? b = some o) (hn : H it = none) (hL : it ≠ X.env.locals)
  (h1 : it ∈ X.ex \/ X.s₀.heap.objs.size <= it) (h2 : ∀ x c, X.env.cells.lookup x = some c -> c ≠ it) (h3 : ∀ p ∈ X.pn ++ pins, p.1 ≠ it) : Inv X pins σ H { s with heap := h', toks := t' } := by
 have nit : ∀ b u, H b = some u -> b ≠ it := fun b u e z => by rw [z, hn] at e; cases e
 refine I.step (g' := s.gens) (d' := s.drawn) (ch := [it]) (fun b hb => ?_) (fun b o _ _ hc e _ => k b o (fun z => hc (by simp [z])) e) (fun b o _ _ hc e _ => ⟨o.slots, k b o (fun z => hc (by simp [z])) e⟩) (fun _ _ _ _ n => n)
  (fun b o hc e => ⟨o, k b o (fun z => hc (by simp [z])) e⟩) (fun _ _ e => e) (fun _ _ _ e => e) (fun b ps e => ⟨#[], by rw [e]; simp⟩) (fun m hm => ?_) (fun b u e => ?_) I.bare
 ·have e : b = it := by simpa using hb
  subst e
  exact ⟨h1, hL, h2, h3⟩
 ·obtain ⟨o, es, ep, ho, r⟩ := hm
  exact ⟨o, es, ep, k _ o (Ne.symm hL) ho, r⟩
 ·refine (I.hok b u e).stay (fun c v hc q => k c v ?_ q) (fun _ q => q) fun _ _ q => q
  rcases hc with z | z
  ·rw [z]; exact nit b u e
  ·exact nit c _ z
theorem Inv.tok (I : Inv X pins σ H s) (t : Nat) : Inv X pins σ H { s with toks := t } := I.un (h' := s.heap) (t' := t) Un.refl I.hok
theorem Inv.kept {t' : Nat} (I : Inv X pins σ H s) (k : ∀ b u, s.heap.get? b = some u -> h'.get? b = some u) : Inv X pins σ H { s with heap := h', toks := t' } := I.un (Un.kept k) (I.hok.kept k)
theorem Inv.laid {a : Addr} {o : HO} {t' : Nat} (I : Inv X pins σ H s) (k : ∀ b u, s.heap.get? b = some u -> h'.get? b = some u) (hp : s.heap.objs.size <= a) (new : X9 X.prog X.w (upd H a o) h' a o) :
  Inv X pins σ (upd H a o) { s with heap := h', toks := t' } := I.un (Un.laid k hp (I.hok.fresh hp)) (I.hok.laid k hp new)
theorem Inv.write {x e : Addr} {o : HO} {t' : Nat} (I : Inv X pins σ H s) (mu : Mut (H x)) (he : e = x \/ H e = some (.own x)) (k : ∀ b u, b ≠ e -> s.heap.get? b = some u -> h'.get? b = some u) (heo : ∃ u, h'.get? e = some u)
  (new : X9 X.prog X.w (upd H x o) h' x o) : Inv X pins σ (upd H x o) { s with heap := h', toks := t' } := I.un (Un.write mu he k heo) (I.hok.write mu he k heo new)
theorem Inv.pins_of {pins' : List (Addr × Obj)} (I : Inv X pins σ H s) (h : ∀ p ∈ pins', s.heap.get? p.1 = some p.2 /\ H p.1 = none /\ p.1 ≠ X.env.locals /\ p.1 ∉ X.fs /\ ∀ v, p.2.data ≠ .cell v) : Inv X pins' σ H s :=
 ⟨I.ok, I.os, I.bare, I.base, I.loc, I.cell, I.free, I.freeC, fun p hp => (List.mem_append.mp hp).elim (fun z => I.pin p (List.mem_append_left _ z)) (h p), I.hok, I.len⟩
theorem V2 {N : List Str} (hN : N.Nodup) {i j : Nat} {x : Str} (a : N[i]? = some x) (b : N[j]? = some x) : i = j := by
 obtain ⟨h1, e1⟩ := List.getElem?_eq_some_iff.mp a
 obtain ⟨h2, e2⟩ := List.getElem?_eq_some_iff.mp b
 exact (List.getElem_inj hN).mp (e1.trans e2.symm)
theorem Ue {M : Model} {A : Around} {E : Value -> Shared -> Prop} {i : Nat} {x : Str} {v : V} {u : Value} {Q : Unit -> Shared -> Prop} (I : Inv X pins σ H s) (hN : X.N.Nodup) (hi : X.N[i]? = some x) (hx : Loc X.env.scope x) (r : RelV v u)
  (h : ∀ s', Inv X pins (σ.set i (some v)) H s' -> (∃ a, Heap.SameBut a s.heap s'.heap /\ (a = X.env.locals \/ X.env.cells.lookup x = some a)) -> Q () s') (hf : X.fn x = true \/ X.env.scope.names.lookup x = some .local := by first | exact .inl rfl | exact .inr rfl | assumption) : wpAny M A (storeName X.env x u) Q E s := by
 obtain ⟨m, hn, hl⟩ := id I.loc
 have hcls : (X.env.scope.kind == .class || (X.env.scope.kind == .module && X.env.locals != X.env.globals)) = false := by rw [I.ok.kind]; rfl
 have hiσ : i < σ.length := by rw [I.len]; exact (List.getElem?_eq_some_iff.mp hi).1
 have cne := I.cne
 have tracked : ∀ {a : Addr} {h' : Heap}, (∃ o, s.heap.get? a = some o /\ H a = none) -> Heap.SameBut a s.heap h' -> HOk X.prog X.w H h' := fun {a h'} ha hs b ob e => by
  obtain ⟨_, _, hfree⟩ := ha
  refine (I.hok b ob e).stay (fun c w' hc q => (hs.2 c ?_).trans q) (fun _ q => q) fun _ _ q => q
  rintro rfl
  rcases hc with rfl | hc
  ·rw [hfree] at e; cases e
  ·rw [hfree] at hc; cases hc
 rcases hx with hk | hk
 ·refine wpAny_storeName_local hk hn (fun h' hn' hs => ?_) hcls
  obtain ⟨oL, _, _, hoL, _⟩ := id hn
  refine h _ ⟨I.ok, I.os, I.bare, ⟨fun b o e n hb hx => ?_, fun b o e n hb hx => ?_, I.base.free, fun b o e hx => ?_, I.base.tups, I.base.frzs, I.base.tbls⟩, ⟨_, hn', fun j y v' e1 e2 e3 => ?_⟩, fun y c e => ?_, I.free, I.freeC, fun p hp => ?_, tracked ⟨oL, hoL, I.free⟩ hs, by simpa using I.len⟩ ⟨_, hs, .inl rfl⟩
  ·exact (hs.2 b (Nat.ne_of_lt (Nat.lt_of_lt_of_le (Heap.lt_size e) I.ok.above))).trans (I.base.keep b o e n hb hx)
  ·obtain ⟨sl, e1⟩ := I.base.slot b o e n hb hx
   exact ⟨sl, (hs.2 b (Nat.ne_of_lt (Nat.lt_of_lt_of_le (Heap.lt_size e) I.ok.above))).trans e1⟩
  ·obtain ⟨o', e1⟩ := I.base.there b o e hx
   exact ⟨o', (hs.2 b (Nat.ne_of_lt (Nat.lt_of_lt_of_le (Heap.lt_size e) I.ok.above))).trans e1⟩
  ·by_cases hj : j = i
   ·subst hj
    rw [hi] at e1; cases e1
    rw [List.getElem?_set_self hiσ] at e2
    cases e2
    exact ⟨u, r, .inl ⟨hk, by simp⟩⟩
   ·rw [List.getElem?_set_ne (Ne.symm hj)] at e2
    obtain ⟨u', r', q⟩ := hl j y v' e1 e2 e3
    refine ⟨u', r', ?_⟩
    rcases q with ⟨k, e⟩ | ⟨k, c, e, z⟩
    ·refine .inl ⟨k, ?_⟩
     have : y ≠ x := fun e => hj (V2 hN e1 (e ▸ hi))
     simp [this, e]
    ·exact .inr ⟨k, c, e, z.sameBut hs (cne y c e)⟩
  ·obtain ⟨w', z⟩ := I.cell y c e
   exact ⟨w', z.sameBut hs (cne y c e)⟩
  ·obtain ⟨e, n, ne, nf, d⟩ := I.pin p hp
   exact ⟨(hs.2 p.1 ne).trans e, n, ne, nf, d⟩
 ·have hfn : X.fn x = true := by
   rcases hf with z | z
   ·exact z
   ·rw [z] at hk; cases hk
  obtain ⟨c, hc⟩ := I.ok.has x (.inl hk)
  obtain ⟨w', z⟩ := I.cell x c hc
  refine wpAny_storeName_cell I.ok.kind hk hc z (fun h' hc' hs => ?_)
  obtain ⟨oc, hoc, hocd⟩ := id z
  refine h { s with heap := h' } ⟨I.ok, I.os, I.bare, ⟨fun b o e n hb hx => ?_, fun b o e n hb hx => ?_, I.base.free, fun b o e hx => ?_, I.base.tups, I.base.frzs, I.base.tbls⟩, ⟨m, hn.sameBut hs (Ne.symm (cne x c hc)), fun j y v' e1 e2 e3 => ?_⟩, fun y c' e => ?_, I.free, I.freeC, fun p hp => ?_, tracked ⟨oc, hoc, I.freeC x c hc⟩ hs, by simpa using I.len⟩ ⟨c, hs, .inr hc⟩
  ·exact (hs.2 b (Nat.ne_of_lt (Nat.lt_of_lt_of_le (Heap.lt_size e) (I.ok.cab x c hfn hc)))).trans (I.base.keep b o e n hb hx)
  ·obtain ⟨sl, e1⟩ := I.base.slot b o e n hb hx
   exact ⟨sl, (hs.2 b (Nat.ne_of_lt (Nat.lt_of_lt_of_le (Heap.lt_size e) (I.ok.cab x c hfn hc)))).trans e1⟩
  ·obtain ⟨o', e1⟩ := I.base.there b o e hx
   exact ⟨o', (hs.2 b (Nat.ne_of_lt (Nat.lt_of_lt_of_le (Heap.lt_size e) (I.ok.cab x c hfn hc)))).trans e1⟩
  ·by_cases hj : j = i
   ·subst hj
    rw [hi] at e1; cases e1
    rw [List.getElem?_set_self hiσ] at e2
    cases e2
    exact ⟨u, r, .inr ⟨.inl hk, c, hc, hc'⟩⟩
   ·rw [List.getElem?_set_ne (Ne.symm hj)] at e2
    obtain ⟨u', r', q⟩ := hl j y v' e1 e2 e3
    refine ⟨u', r', ?_⟩
    rcases q with q | ⟨k, c', e, z'⟩
    ·exact .inl q
    ·refine .inr ⟨k, c', e, z'.sameBut hs ?_⟩
     rintro rfl
     exact hj (V2 hN e1 (I.ok.inj _ _ _ e hc ▸ hi))
  ·by_cases hcc : c' = c
   ·subst hcc; exact ⟨_, hc'⟩
   ·obtain ⟨w2, z2⟩ := I.cell y c' e
    exact ⟨w2, z2.sameBut hs hcc⟩
  ·obtain ⟨e, n, ne, nf, d⟩ := I.pin p hp
   refine ⟨(hs.2 p.1 ?_).trans e, n, ne, nf, d⟩
   intro q
   rw [q, hoc] at e
   have q' : oc = p.2 := Option.some.inj e
   exact d w' (by rw [<- q']; exact hocd)
theorem W2 {M : Model} {A : Around} {E : Value -> Shared -> Prop} {i : Nat} {x : Str} {v : V} {u : Value} {Q : Unit -> Shared -> Prop} (I : Inv X pins σ H s) (hN : X.N.Nodup) (hi : X.N[i]? = some x) (hx : Loc X.env.scope x) (r : RelV v u)
  (h : ∀ s', Inv X pins (σ.set i (some v)) H s' -> Q () s') (hf : X.fn x = true \/ X.env.scope.names.lookup x = some .local := by first | exact .inl rfl | exact .inr rfl | assumption) : wpAny M A (storeName X.env x u) Q E s :=
 Ue I hN hi hx r (fun s' I' _ => h s' I') hf
theorem Inv.call' {s' : Shared} {ch : List Addr} (I : Inv X pins σ H s) (ho : s'.os = s.os) (u : Un (frs X.stack) ch H H' s.heap s'.heap) (hok : HOk X.prog X.w H' s'.heap) (hg : AllBare s'.gens)
  (hch : ∀ b ∈ ch, (b ∈ X.ex \/ X.s₀.heap.objs.size <= b) /\ b ≠ X.env.locals /\ (∀ x c, X.env.cells.lookup x = some c -> c ≠ b) /\ ∀ p ∈ X.pn ++ pins, p.1 ≠ b) : Inv X pins σ H' s' := by
 obtain ⟨h', g', d', t', o'⟩ := s'
 have e : o' = s.os := ho
 subst e
 exact I.call (g' := g') (t' := t') (d' := d') u hok hg hch
end
abbrev XK := Value -> Option Addr -> Hp -> Prop
abbrev St := List (Option V)
abbrev VK := V -> Hp -> Prop
abbrev TE := St -> Hp -> VK -> Prop
abbrev TT := St -> Hp -> (Bool -> Hp -> Prop) -> Prop
abbrev TA := St -> Hp -> (List V -> Hp -> Prop) -> Prop
structure Ends where
 nx : St -> Hp -> Prop
 rt : VK
 bk : St -> Hp -> Prop := fun _ _ => False
 ct : St -> Hp -> Prop := fun _ _ => False
abbrev TS := Ends -> St -> Hp -> Prop
def EP (X : Cx) (pins : List (Addr × Obj)) (σ : St) (Q : VK) (u : Value) (s' : Shared) : Prop := ∃ v H', Inv X pins σ H' s' /\ RelV v u /\ Q v H'
def TP (X : Cx) (pins : List (Addr × Obj)) (σ : St) (Q : Bool -> Hp -> Prop) (b : Bool) (s' : Shared) : Prop := ∃ H', Inv X pins σ H' s' /\ Q b H'
def AP (X : Cx) (pins : List (Addr × Obj)) (σ : St) (Q : List V -> Hp -> Prop) (us : List Value) (s' : Shared) : Prop := ∃ vs H', Inv X pins σ H' s' /\ Vals vs us /\ Q vs H'
def SP (X : Cx) (pins : List (Addr × Obj)) (D : Ends) (f : Flow) (s' : Shared) : Prop :=
 match f with
 | .next => ∃ σ' H', Inv X pins σ' H' s' /\ D.nx σ' H'
 | .brk => ∃ σ' H', Inv X pins σ' H' s' /\ D.bk σ' H'
 | .cont => ∃ σ' H', Inv X pins σ' H' s' /\ D.ct σ' H'
 | .ret u => ∃ v σ' H', Inv X pins σ' H' s' /\ RelV v u /\ D.rt v H'
def PE (X : Cx) (e : Expr) (t : TE) : Prop :=
 ∀ (pins : List (Addr × Obj)) (s : Shared) (σ : St) (H : Hp) (Q : VK), Inv X pins σ H s -> t σ H Q -> wpAny (model X.prog X.w) X.A (eval e X.env) (EP X pins σ Q) X.xe s
def PT (X : Cx) (e : Expr) (t : TT) : Prop :=
 ∀ (pins : List (Addr × Obj)) (s : Shared) (σ : St) (H : Hp) (Q : Bool -> Hp -> Prop), Inv X pins σ H s -> t σ H Q -> wpAny (model X.prog X.w) X.A (isTrue e X.env (eval e X.env)) (TP X pins σ Q) X.xe s
def PW (X : Cx) (e : Expr) (t : TT) : Prop :=
 ∀ (whole : Sem Value) (pins : List (Addr × Obj)) (s : Shared) (σ : St) (H : Hp) (Q : Bool -> Hp -> Prop), Inv X pins σ H s -> t σ H Q -> wpAny (model X.prog X.w) X.A (isTrue e X.env whole) (TP X pins σ Q) X.xe s
theorem PW.pt {X : Cx} {e : Expr} {t : TT} (h : PW X e t) : PT X e t := h _
def PA (X : Cx) (es : List Expr) (t : TA) : Prop :=
 ∀ (pos : Pos) (pins : List (Addr × Obj)) (s : Shared) (σ : St) (H : Hp) (Q : List V -> Hp -> Prop), Inv X pins σ H s -> t σ H Q -> wpAny (model X.prog X.w) X.A (spliced (backTo pos (starEach es X.env))) (AP X pins σ Q) X.xe s
def PS (X : Cx) (st : Stmt) (t : TS) : Prop :=
 ∀ (pins : List (Addr × Obj)) (s : Shared) (σ : St) (H : Hp) (D : Ends), Inv X pins σ H s -> t D σ H -> wpAny (model X.prog X.w) X.A (exec st X.env) (SP X pins D) X.xe s
def PSs (X : Cx) (st : List Stmt) (t : TS) : Prop :=
 ∀ (pins : List (Addr × Obj)) (s : Shared) (σ : St) (H : Hp) (D : Ends), Inv X pins σ H s -> t D σ H -> wpAny (model X.prog X.w) X.A (execs st X.env) (SP X pins D) X.xe s
theorem thn {α : Type} {t : Sem α} {Q Q' : α -> Shared -> Prop} {M : Model} {A : Around} {E : Value -> Shared -> Prop} {s : Shared} (h : wpAny M A t Q E s) (hQ : ∀ a s, Q a s -> Q' a s) : wpAny M A t Q' E s := wpAny_mono h hQ fun _ _ x => x
end L2
namespace L2
open PySem PySem.Spec PyProof.Rows
section
variable {X : Cx}
def tVar (i : Nat) : TE := fun σ H Q => ∃ v, σ[i]? = some (some v) /\ Q v H
def tC (v : V) : TE := fun _ H Q => Q v H
theorem Jq {i : Nat} {x : Str} {pos : Pos} (hN : X.N[i]? = some x) (hv : Vis X.env.scope x) (hd : (x == ("__debug__" : Str)) = false := by decide) (hcd : (x == ("__classdict__" : Str)) = false := by decide) : PE X (.Name x pos) (tVar i) := by
 intro pins s σ H Q I h
 obtain ⟨v, e, h⟩ := h
 obtain ⟨m, hn, hl⟩ := I.loc
 obtain ⟨u, r, l⟩ := hl i x v hN e hv
 have fin : EP X pins σ Q u s := ⟨v, H, I, r, h⟩
 rcases l with ⟨hk, hm⟩ | ⟨hk, c, hc, hcell⟩
 ·exact wpAny_Name (wpAny_loadName_local I.ok.kind hk hn hm fin) hd
 ·rcases hk with hk | hk
  ·exact wpAny_Name (wpAny_loadName_cell I.ok.kind hk hc hcell fin) hd
  ·exact wpAny_Name (wpAny_loadName_free I.ok.kind hk hc hcell fin hcd) hd
theorem pe_int {i j pos} : PE X (.Constant (.int i) j pos) (tC (.int i)) := fun _ _ _ H _ I h => wpAny_Constant_int ⟨.int i, H, I.tok _, ⟨_, rfl⟩, h⟩
theorem pe_bl {b j pos} : PE X (.Constant (.bool b) j pos) (tC (.bl b)) := fun _ _ _ H _ I h => Constant_bool ⟨.bl b, H, I, rfl, h⟩
theorem pe_non {j pos} : PE X (.Constant .none j pos) (tC .non) := fun _ _ _ H _ I h => Constant_none ⟨.non, H, I, rfl, h⟩
theorem pe_str {x j pos} : PE X (.Constant (.str x) j pos) (tC (.str x)) := fun _ _ _ H _ I h => Calls.Constant_str ⟨.str x, H, I.tok _, ⟨_, rfl⟩, h⟩
def Gl (X : Cx) (x : Str) : Prop := X.env.kindOf x = some .globalImplicit
theorem WD {E : Value -> Shared -> Prop} {pins : List (Addr × Obj)} {s : Shared} {σ : St} {H : Hp} {x : Str} {u : Value} {pos : Pos} {Q : Value -> Shared -> Prop} (I : Inv X pins σ H s) (hg : Gl X x) (hm : X.mg x = some u) (h : Q u s)
  (hd : (x == ("__debug__" : Str)) = false := by decide) : wpAny (model X.prog X.w) X.A (eval (.Name x pos) X.env) Q E s :=
 Calls.Name_function_global I.ok.kind hg (Calls.loadGlobal_global (by rw [I.ok.glob]; exact I.mod.glob.keeps I.bk) hm h) hd
theorem Qs {E : Value -> Shared -> Prop} {pins : List (Addr × Obj)} {s : Shared} {σ : St} {H : Hp} {x : Str} {u : Value} {pos : Pos} {Q : Value -> Shared -> Prop} (I : Inv X pins σ H s) (hg : Gl X x) (hm : X.mg x = none) (hv : bootBuiltins x = some u) (h : Q u s)
  (hn : x ≠ "__name__" := by decide) (hd : (x == ("__debug__" : Str)) = false := by decide) : wpAny (model X.prog X.w) X.A (eval (.Name x pos) X.env) Q E s := by
 obtain ⟨mb, h1, h2⟩ := I.mod.blt
 exact Calls.Name_function_global I.ok.kind hg (Calls.loadGlobal_builtin (by rw [I.ok.glob]; exact I.mod.glob.keeps I.bk) hm (by rw [I.ok.blt]; exact h1.keeps I.bk) ((h2 x hn).trans hv) h) hd
theorem pe_glob {x : Str} {v : V} {u : Value} {pos : Pos} (hg : Gl X x) (hm : X.mg x = some u) (r : RelV v u) (hd : (x == ("__debug__" : Str)) = false := by decide) : PE X (.Name x pos) (tC v) :=
 fun _ _ _ H _ I h => WD I hg hm ⟨v, H, I, r, h⟩ hd
theorem Jr {x : Str} {v : V} {u : Value} {pos : Pos} (hg : Gl X x) (hm : X.mg x = none) (hv : bootBuiltins x = some u) (r : RelV v u) (hn : x ≠ "__name__" := by decide) (hd : (x == ("__debug__" : Str)) = false := by decide) : PE X (.Name x pos) (tC v) :=
 fun _ _ _ H _ I h => Qs I hg hm hv ⟨v, H, I, r, h⟩ hn hd
variable {a b : Expr} {ta tb : TE} {pos : Pos}
variable {tA tB' : TT} {rest : List Expr}
def tOr (t u : TT) : TT := fun σ H Q => t σ H fun c H1 => if c = true then Q true H1 else u σ H1 Q
def tNot (t : TT) : TT := fun σ H Q => t σ H fun c H1 => Q (!c) H1
theorem pw_or1 (ha : PT X a tA) : PW X (.BoolOp .Or [a] pos) tA := by
 intro wh pins s σ H Q I h
 refine isTrue_or (thn (ha pins s σ H Q I h) fun c s1 e => ?_)
 cases c with
 | false => exact isTrue_or_nil e
 | true => exact e
theorem pw_or (ha : PT X a tA) (hb : PW X (.BoolOp .Or (b :: rest) pos) tB') : PW X (.BoolOp .Or (a :: b :: rest) pos) (tOr tA tB') := by
 intro wh pins s σ H Q I h
 refine isTrue_or (thn (ha pins s σ H _ I h) fun c s1 ⟨H1, I1, q1⟩ => ?_)
 cases c with
 | true => exact ⟨H1, I1, q1⟩
 | false => exact hb wh pins s1 σ H1 Q I1 q1
theorem pt_not (ha : PT X a tA) : PT X (.UnaryOp .Not a pos) (tNot tA) := by
 intro pins s σ H Q I h
 exact isTrue_not (ha pins s σ H (fun c H1 => Q (!c) H1) I h)
def tAndV (ta tb : TE) : TE := fun σ H Q => ta σ H fun x H1 => ∃ c, x = .bl c /\ if c = true then tb σ H1 Q else Q (.bl false) H1
def tNotV (ta : TE) : TE := fun σ H Q => ta σ H fun x H1 => ∃ c, x = .bl c /\ Q (.bl (!c)) H1
theorem pe_one {op} {t : TE} (h : PE X a t) : PE X (.BoolOp op [a] pos) t := fun pins s σ H Q I hw => BoolOp_one (h pins s σ H Q I hw)
theorem pe_and (ha : PE X a ta) (hb : PE X (.BoolOp .And (b :: rest) pos) tb) : PE X (.BoolOp .And (a :: b :: rest) pos) (tAndV ta tb) := by
 intro pins s σ H Q I h
 refine BoolOp_and (thn (ha pins s σ H _ I h) fun v s1 ⟨x, H1, I1, r1, q1⟩ => ?_)
 obtain ⟨c, rfl, q1⟩ := q1
 cases r1
 refine wpAny_truthy_bool ?_
 cases c with
 | true => exact hb pins s1 σ H1 Q I1 q1
 | false => exact ⟨.bl false, H1, I1, rfl, q1⟩
theorem pe_not (ha : PE X a ta) : PE X (.UnaryOp .Not a pos) (tNotV ta) := by
 intro pins s σ H Q I h
 refine UnaryOp_ (thn (ha pins s σ H _ I h) fun v s1 ⟨x, H1, I1, r1, q1⟩ => ?_)
 obtain ⟨c, rfl, q1⟩ := q1
 cases r1
 exact not_of (wpAny_truthy_bool ⟨.bl (!c), H1, I1, rfl, q1⟩)
end
end L2
namespace L2
open PySem PySem.Spec PyProof.Rows
def SqL (K : PySem.W.Frag) (H : Hp) (a : Addr) (xs : List V) : Prop :=
 Rd H a (.lst xs) \/
  ∃ (o : Obj) (its : Array Value) (n : Nat), K.lookup a = some o /\ o.cls = .type "list" /\ o.dict = none /\ o.data = .seq its n /\ its.size <= sizeLine /\ Vals xs its.toList
def SqT (K : PySem.W.Frag) (H : Hp) (a : Addr) (xs : List V) : Prop :=
 Rd H a (.tup xs) \/
  ∃ (o : Obj) (its : Array Value) (n : Nat), K.lookup a = some o /\ o.cls = .type "tuple" /\ o.data = .seq its n /\ its.size <= sizeLine /\ Vals xs its.toList
def absV : Value -> Option V
 | .none => some .non
 | .bool b => some (.bl b)
 | .int i _ => some (.int i)
 | .str x _ => some (.str x)
 | .bytes b _ => some (.byt b)
 | .float b _ => some (.flt b)
 | .ref a => some (.ref a)
 | .type n => some (.ty n)
 | _ => none
theorem RelV.abs {x : V} {u : Value} (r : RelV x u) : absV u = some x := by
 cases x with
 | non => cases r; rfl
 | bl _ => cases r; rfl
 | int _ => obtain ⟨t, rfl⟩ := r; rfl
 | str _ => obtain ⟨t, rfl⟩ := r; rfl
 | byt _ => obtain ⟨t, rfl⟩ := r; rfl
 | flt _ => obtain ⟨t, rfl⟩ := r; rfl
 | ref _ => cases r; rfl
 | ty _ => cases r; rfl
theorem RelV.inj {x y : V} {u : Value} (r : RelV x u) (q : RelV y u) : x = y := Option.some.inj (r.abs.symm.trans q.abs)
theorem Vals.inj : ∀ {xs ys : List V} {us : List Value}, Vals xs us -> Vals ys us -> xs = ys
 | _, _, _, .nil, .nil => rfl
 | _, _, _, .cons r t, .cons r' t' => by rw [r.inj r', Vals.inj t t']
section
variable {X : Cx} {pins : List (Addr × Obj)} {σ : St} {H : Hp} {s : Shared} {a : Addr} {xs ys : List V}
theorem SqL.of {K : PySem.W.Frag} (h : H a = some (.lst xs)) : SqL K H a xs := .inl (.inl h)
theorem Inv.list (I : Inv X pins σ H s) (h : SqL X.K H a xs) : ∃ its : List Value, Vals xs its /\ PlainL s.heap a its.toArray /\ xs.length <= sizeLine := by
 rcases h with h | ⟨o, its, n, hk, hc, hd, hs, hz, r⟩
 ·obtain ⟨z, its, n, r, e⟩ := h.ok I.hok
  exact ⟨its, r, ⟨_, n, e, rfl, rfl, rfl⟩, z⟩
 ·refine ⟨its.toList, r, ⟨o, n, I.kIn a o hk, hc, hd, by simpa using hs⟩, ?_⟩
  have e := r.length
  simp only [Array.length_toList] at e
  omega
theorem Inv.tuple (I : Inv X pins σ H s) (h : SqT X.K H a xs) : ∃ its : List Value, Vals xs its /\ IsTup s.heap a its.toArray /\ xs.length <= sizeLine := by
 rcases h with h | ⟨o, its, n, hk, hc, hs, hz, r⟩
 ·obtain ⟨z, its, r, p⟩ := h.ok I.hok
  exact ⟨its, r, p, z⟩
 ·refine ⟨its.toList, r, ⟨o, I.kIn a o hk, hc, n, by simpa using hs⟩, ?_⟩
  have e := r.length
  simp only [Array.length_toList] at e
  omega
theorem Inv.list_inj (I : Inv X pins σ H s) (h : SqL X.K H a xs) (h' : SqL X.K H a ys) : xs = ys := by
 obtain ⟨its, r, ⟨o, n, e, _, _, d⟩, _⟩ := I.list h
 obtain ⟨its', r', ⟨o', n', e', _, _, d'⟩, _⟩ := I.list h'
 rw [e] at e'; cases e'
 rw [d] at d'
 injection d' with d1 _
 have : its = its' := by simpa using congrArg Array.toList d1
 subst this
 exact r.inj r'
theorem Inv.tuple_inj (I : Inv X pins σ H s) (h : SqT X.K H a xs) (h' : SqT X.K H a ys) : xs = ys := by
 obtain ⟨its, r, ⟨o, e, _, n, d⟩, _⟩ := I.tuple h
 obtain ⟨its', r', ⟨o', e', _, n', d'⟩, _⟩ := I.tuple h'
 rw [e] at e'; cases e'
 rw [d] at d'
 injection d' with d1 _
 have : its = its' := by simpa using congrArg Array.toList d1
 subst this
 exact r.inj r'
end
abbrev Cx.wish (X : Cx) (E : Value -> Shared -> Prop) : Cx := { X with xe := E }
abbrev Cx.nox (X : Cx) : Cx := X.wish fun _ _ => False
theorem Cx.Ok.wish {X : Cx} (ok : X.Ok) (E : Value -> Shared -> Prop) : (X.wish E).Ok :=
 ⟨ok.mod, ok.kind, ok.glob, ok.blt, ok.above, ok.inj, ok.has, ok.cab, ok.hd, ok.frames, ok.stk, ok.exf, ok.bs, ok.bsz, ok.noex, ok.exfs, ok.funs, ok.frf⟩
theorem Cx.Ok.unwish {X : Cx} {E : Value -> Shared -> Prop} (ok : (X.wish E).Ok) : X.Ok :=
 ⟨ok.mod, ok.kind, ok.glob, ok.blt, ok.above, ok.inj, ok.has, ok.cab, ok.hd, ok.frames, ok.stk, ok.exf, ok.bs, ok.bsz, ok.noex, ok.exfs, ok.funs, ok.frf⟩
section
variable {X : Cx} {pins : List (Addr × Obj)} {σ : St} {H : Hp} {s : Shared} {E : Value -> Shared -> Prop}
theorem Inv.wish (I : Inv X pins σ H s) (E : Value -> Shared -> Prop) : Inv (X.wish E) pins σ H s := ⟨I.ok.wish E, I.os, I.bare, I.base, I.loc, I.cell, I.free, I.freeC, I.pin, I.hok, I.len⟩
theorem Inv.unwish (I : Inv (X.wish E) pins σ H s) : Inv X pins σ H s := ⟨I.ok.unwish, I.os, I.bare, I.base, I.loc, I.cell, I.free, I.freeC, I.pin, I.hok, I.len⟩
theorem SP.unwish {D : Ends} {f : Flow} {s' : Shared} (h : SP (X.wish E) pins D f s') : SP X pins D f s' := by
 cases f with
 | next => obtain ⟨σ', H', I, q⟩ := h; exact ⟨σ', H', I.unwish, q⟩
 | brk => obtain ⟨σ', H', I, q⟩ := h; exact ⟨σ', H', I.unwish, q⟩
 | cont => obtain ⟨σ', H', I, q⟩ := h; exact ⟨σ', H', I.unwish, q⟩
 | ret u => obtain ⟨v, σ', H', I, r, q⟩ := h; exact ⟨v, σ', H', I.unwish, r, q⟩
theorem PSs.nox {st : List Stmt} {t : TS} (h : PSs X.nox st t) : PSs X st t := fun pins s σ H D I hw =>
 wpAny_mono (h pins s σ H D (I.wish _) hw) (fun _ _ q => q.unwish) fun _ _ z => False.elim z
end
section
variable {X : Cx} {st : Stmt} {rest : List Stmt} {t u : TS} {e : Expr} {te : TE} {pos : Pos}
def tNext : TS := fun D σ H => D.nx σ H
def tSeq (t u : TS) : TS := fun D σ H => t { D with nx := u D } σ H
theorem pss_nil : PSs X [] tNext := fun _ _ σ H _ I h => wpAny_execs_nil ⟨σ, H, I, h⟩
theorem pss_cons (h1 : PS X st t) (h2 : PSs X rest u) : PSs X (st :: rest) (tSeq t u) := by
 intro pins s σ H D I h
 refine wpAny_execs_cons (thn (h1 pins s σ H { D with nx := u D } I h) fun f s1 q => ?_)
 cases f with
 | next =>
  obtain ⟨σ', H', I', q⟩ := q
  exact h2 pins s1 σ' H' D I' q
 | ret v => exact q
 | brk => exact q
 | cont => exact q
theorem pss_one (h1 : PS X st t) : PSs X [st] t := by
 intro pins s σ H D I h
 refine wpAny_execs_cons (thn (h1 pins s σ H D I h) fun f s1 q => ?_)
 cases f with
 | next => exact wpAny_execs_nil q
 | ret v => exact q
 | brk => exact q
 | cont => exact q
theorem Inv.quiet {pins : List (Addr × Obj)} {σ : St} {H : Hp} {s : Shared} (I : Inv X pins σ H s) : interactive X.env = false := by simp [interactive, I.ok.kind]
def tDrop (te : TE) : TS := fun D σ H => te σ H fun _ H1 => D.nx σ H1
theorem Jm (he : PE X e te) (hs : swapsWith e none pos.line X.env = pure false := by rfl) : PS X (.Expr e pos) (tDrop te) := by
 intro pins s σ H D I h
 exact wpAny_Expr_any (thn (he pins s σ H _ I h) fun v s1 ⟨x, H1, I1, r1, q1⟩ => ⟨σ, H1, I1, q1⟩) I.quiet hs
def tRet (te : TE) : TS := fun D σ H => te σ H D.rt
theorem ps_ret (he : PE X e te) : PS X (.Return (some e) pos) (tRet te) := by
 intro pins s σ H D I h
 exact wpAny_Return_some (thn (he pins s σ H _ I h) fun v s1 ⟨x, H1, I1, r1, q1⟩ => ⟨x, σ, H1, I1, r1, q1⟩)
def tIfS (c : TT) (t u : TS) : TS := fun D σ H => c σ H fun b H1 => if b = true then t D σ H1 else u D σ H1
theorem ps_if {c : Expr} {a b : List Stmt} {tc : TT} (hc : PT X c tc) (ha : PSs X a t) (hb : PSs X b u) : PS X (.If c a b pos) (tIfS tc t u) := by
 intro pins s σ H D I h
 refine wpAny_If (thn (hc pins s σ H _ I h) fun d s1 ⟨H1, I1, q1⟩ => ?_)
 cases d with
 | true => exact ha pins s1 σ H1 D I1 q1
 | false => exact hb pins s1 σ H1 D I1 q1
def tNever : TS := fun _ _ _ => False
theorem ps_never : PS X st tNever := fun _ _ _ _ _ _ h => h.elim
end
abbrev TG := V -> St -> Hp -> (St -> Hp -> Prop) -> Prop
def PG (X : Cx) (target : Expr) (t : TG) : Prop :=
 ∀ (pins : List (Addr × Obj)) (s : Shared) (σ : St) (H : Hp) (v : V) (u : Value) (Q : St -> Hp -> Prop), Inv X pins σ H s -> RelV v u -> t v σ H Q ->
  wpAny (model X.prog X.w) X.A (assign target X.env u) (fun _ s' => ∃ σ' H', Inv X pins σ' H' s' /\ Q σ' H') X.xe s
abbrev TSet := V -> V -> V -> Hp -> (Hp -> Prop) -> Prop
def PSet (X : Cx) (t : TSet) : Prop :=
 ∀ (pins : List (Addr × Obj)) (s : Shared) (σ : St) (H : Hp) (o i v : V) (ov iv u : Value) (Q : Hp -> Prop), Inv X pins σ H s -> RelV o ov -> RelV i iv -> RelV v u -> t o i v H Q ->
  wpAny (model X.prog X.w) X.A (setItem ov iv u) (fun _ s' => ∃ H', Inv X pins σ H' s' /\ Q H') X.xe s
section
variable {X : Cx} {pos : Pos}
def gName (i : Nat) : TG := fun v σ H Q => Q (σ.set i (some v)) H
theorem pg_name {i : Nat} {x : Str} (hN : X.N.Nodup) (hi : X.N[i]? = some x) (hx : Loc X.env.scope x) (hf : X.fn x = true \/ X.env.scope.names.lookup x = some .local := by first | exact .inl rfl | exact .inr rfl | assumption) : PG X (.Name x pos) (gName i) := by
 intro pins s σ H v u Q I r h
 exact wpAny_assign_Name (W2 I hN hi hx r (fun s' I' => ⟨_, H, I', h⟩) hf)
def gSub (to ti : TE) (t : TSet) : TG := fun v σ H Q => to σ H fun o H1 => ti σ H1 fun i H2 => t o i v H2 fun H3 => Q σ H3
theorem pg_sub {o i : Expr} {to ti : TE} {t : TSet} (ho : PE X o to) (hi : PE X i ti) (hs : PSet X t)
  (ha : ∀ v, assign (.Subscript o i pos) X.env v = (do
   let ov <- holding [v] (eval o X.env)
   let iv <- holding [v, ov] (eval i X.env)
   standAt pos
   holding [v, ov, iv] (setItem ov iv v)
   release [v, ov, iv] []) := by intro _; rfl) : PG X (.Subscript o i pos) (gSub to ti t) := by
 intro pins s σ H v u Q I r h
 rw [ha]
 refine wpAny_bind (wpAny_holding (thn (ho pins s σ H _ I h) fun ov s1 ⟨x, H1, I1, r1, q1⟩ => ?_))
 refine wpAny_bind (wpAny_holding (thn (hi pins s1 σ H1 _ I1 q1) fun iv s2 ⟨y, H2, I2, r2, q2⟩ => ?_))
 refine wpAny_bind (wpAny_standAt (wpAny_bind (wpAny_holding (thn (hs pins s2 σ H2 x y v ov iv u _ I2 r1 r2 r q2) fun _ s3 ⟨H3, I3, q3⟩ => ?_))))
 exact wpAny_release ⟨σ, H3, I3, q3⟩
def tAsg (te : TE) (g : TG) : TS := fun D σ H => te σ H fun x H1 => g x σ H1 D.nx
theorem ps_asg {tg e : Expr} {te : TE} {g : TG} (he : PE X e te) (hg : PG X tg g) (hs : swapsWithSole [tg] e pos.line X.env = pure false := by rfl) (hw : swappedStores [tg] e X.env = pure none := by rfl)
  (h1 : (assignEach [tg] X.env).map (·.2) = [assign tg X.env] := by rfl) : PS X (.Assign [tg] e pos) (tAsg te g) := by
 intro pins s σ H D I h
 refine wpAny_Assign_stores (thn (he pins s σ H _ I h) fun v s1 ⟨x, H1, I1, r1, q1⟩ => ?_) hs hw
 rw [h1]
 exact thn (hg pins s1 σ H1 x v _ I1 r1 q1) fun _ s2 q => q
theorem ps_set {i : Nat} {x : Str} {e : Expr} {te : TE} {pos' : Pos} (hN : X.N.Nodup) (hi : X.N[i]? = some x) (hx : Loc X.env.scope x) (he : PE X e te) (hs : swapsWith e (some (.Name x pos')) pos.line X.env = pure false := by rfl) (hf : X.fn x = true \/ X.env.scope.names.lookup x = some .local := by first | exact .inl rfl | exact .inr rfl | assumption) :
  PS X (.Assign [.Name x pos'] e pos) (tAsg te (gName i)) := by
 intro pins s σ H D I h
 refine wpAny_Assign_Name (thn (he pins s σ H _ I h) fun v s1 ⟨y, H1, I1, r1, q1⟩ => ?_) hs
 exact W2 I1 hN hi hx r1 (fun s2 I2 => ⟨_, H1, I2, q1⟩) hf
end
section
variable {X : Cx} {pos : Pos}
def tWhile (c : TT) (tb : TS) : TS := fun D σ H => ∃ W : Nat -> St -> Hp -> Prop, (∃ m, W m σ H) /\ ∀ m σ H, W m σ H ->
 c σ H fun b H1 => if b = true then ∃ N : St -> Hp -> Prop, (∀ σ' H', N σ' H' -> ∃ m', m' < m /\ W m' σ' H') /\ tb { D with nx := N, ct := N, bk := D.nx } σ H1 else D.nx σ H1
theorem ps_while {c : Expr} {body : List Stmt} {tc : TT} {tb : TS} (hp : PassesOwn (model X.prog X.w) X.A X.env X.xe) (hc : PT X c tc) (hb : PSs X body tb) : PS X (.While c body [] pos) (tWhile tc tb) := by
 intro pins s σ H D I h
 obtain ⟨W, ⟨m0, w0⟩, turn⟩ := h
 refine wpAny_While (codeAny_whileLoop (fun n s' => ∃ σ' H', Inv X pins σ' H' s' /\ W n σ' H') ?_ m0 ⟨σ, H, I, w0⟩)
 rintro n s1 ⟨σ1, H1, I1, w1⟩
 refine wpAny_passesOwn hp (thn (hc pins s1 σ1 H1 _ I1 (turn n σ1 H1 w1)) fun b s2 ⟨H2, I2, q2⟩ => ?_)
 cases b with
 | true =>
  obtain ⟨N, hN, q2⟩ := q2
  rw [if_pos rfl]
  refine wpAny_passesOwn hp (thn (hb pins s2 σ1 H2 _ I2 q2) fun f s3 q3 => ?_)
  cases f with
  | next =>
   obtain ⟨σ3, H3, I3, n3⟩ := q3
   obtain ⟨m', hm, w3⟩ := hN σ3 H3 n3
   exact ⟨m', hm, σ3, H3, I3, w3⟩
  | cont =>
   obtain ⟨σ3, H3, I3, n3⟩ := q3
   obtain ⟨m', hm, w3⟩ := hN σ3 H3 n3
   exact ⟨m', hm, σ3, H3, I3, w3⟩
  | brk => exact q3
  | ret v => exact q3
 | false =>
  rw [if_neg Bool.false_ne_true]
  exact wpAny_execs_nil ⟨σ1, H2, I2, q2⟩
end
structure It where
 go : Nat -> Hp -> Prop
 yld : Nat -> Hp -> V -> Hp -> Prop
 stop : Nat -> Hp -> Prop
def FpOk (X : Cx) (pins : List (Addr × Obj)) (H : Hp) (b : Addr) : Prop :=
 H b = none /\ b ≠ X.env.locals /\ b ∉ X.fs /\ (b ∈ X.ex \/ X.s₀.heap.objs.size <= b) /\ (∀ x c, X.env.cells.lookup x = some c -> c ≠ b) /\ ∀ p ∈ X.pn ++ pins, p.1 ≠ b
theorem Inv.fpOk {X : Cx} {pins : List (Addr × Obj)} {σ : St} {H H' : Hp} {s : Shared} {b : Addr} (I : Inv X pins σ H s) (hb : s.heap.objs.size <= b) (hn : H' b = none) : FpOk X pins H' b := by
 refine ⟨hn, Nat.ne_of_gt (Nat.lt_of_lt_of_le I.lt hb), I.nofs hb, .inr (Nat.le_trans I.sz hb), fun x c e z => ?_, fun p hp z => ?_⟩
 ·obtain ⟨v, q⟩ := I.cell x c e
  exact absurd (Nat.lt_of_lt_of_le q.lt (by rw [z]; exact hb)) (Nat.lt_irrefl _)
 ·exact absurd (Nat.lt_of_lt_of_le (Heap.lt_size (I.pin p hp).1) (by rw [z]; exact hb)) (Nat.lt_irrefl _)
structure Turn (P : Program) (w : World) (K : PySem.W.Frag) (tg : Expr) (J : It) (fp : List Addr) (it : Addr) (tn : Nat -> Heap -> Prop) : Prop where
 mem : it ∈ fp
 obj : ∀ i h, tn i h -> ∀ b ∈ fp, ∃ o, h.get? b = some o /\ ∀ v, o.data ≠ .cell v
 keep : ∀ i h h', tn i h -> (∀ b ∈ fp, ∀ o, h.get? b = some o -> h'.get? b = some o) -> tn i h'
 item : ∀ (X : Cx), X.prog = P -> X.w = w -> X.K = K -> X.calm = true -> ∀ (i : Nat) (pins : List (Addr × Obj)) (s : Shared) (σ : St) (H : Hp) (E : Value -> Shared -> Prop), Inv X pins σ H s -> (∀ b ∈ fp, FpOk X pins H b) -> tn i s.heap -> J.go i H ->
  wpAny (model P w) X.A (pyNext (.ref it)) (fun r s1 => ∃ u, r = some u /\
   wpAny (model P w) X.A (letOwnedTupleGo tg (.ref it) u) (fun _ s2 => ∃ x H', Inv X pins σ H' s2 /\ RelV x u /\ J.yld i H x H' /\ tn (i + 1) s2.heap /\ ∀ b ∈ fp, H' b = none) E s1) E s
 done : ∀ (X : Cx), X.prog = P -> X.w = w -> X.K = K -> X.calm = true -> ∀ (i : Nat) (pins : List (Addr × Obj)) (s : Shared) (σ : St) (H : Hp) (E : Value -> Shared -> Prop), Inv X pins σ H s -> (∀ b ∈ fp, FpOk X pins H b) -> tn i s.heap -> J.stop i H ->
  wpAny (model P w) X.A (pyNext (.ref it)) (fun r s1 => r = none /\ Inv X pins σ H s1) E s
 self : ∀ (A : Around) (i : Nat) (s : Shared) (Q : Value -> Shared -> Prop) (E : Value -> Shared -> Prop), tn i s.heap -> Q (.ref it) s -> wpAny (model P w) A (pyIter (.ref it)) Q E s
abbrev TI := St -> Hp -> (It -> Hp -> Prop) -> Prop
def PIE (X : Cx) (pins : List (Addr × Obj)) (σ : St) (tg : Expr) (R : It -> Hp -> Prop) (itv : Value) (s2 : Shared) : Prop :=
 ∃ (it : Addr) (fp : List Addr) (tn : Nat -> Heap -> Prop) (J : It) (H' : Hp), itv = .ref it /\ Inv X pins σ H' s2 /\ Turn X.prog X.w X.K tg J fp it tn /\ tn 0 s2.heap /\ (∀ b ∈ fp, FpOk X pins H' b) /\ R J H'
def PI (X : Cx) (tg iter : Expr) (wi : TI) : Prop :=
 ∀ (pins : List (Addr × Obj)) (s : Shared) (σ : St) (H : Hp) (R : It -> Hp -> Prop), Inv X pins σ H s -> wi σ H R ->
  wpAny (model X.prog X.w) X.A (eval iter X.env) (fun v s1 => wpAny (model X.prog X.w) X.A (pyIter v) (PIE X pins σ tg R) X.xe s1) X.xe s
theorem go_of {M : Model} {A : Around} {E : Value -> Shared -> Prop} {s : Shared} {tg : Expr} {it : Addr} {u : Value} {o : Obj} {n : String} {vs : Array Value} {Q : Unit -> Shared -> Prop} (ho : s.heap.get? it = some o) (hc : o.cls = .type n) (hd : o.data = .fields vs)
  (hn : ["enumerate", "zip", "dict_itemiterator", "dict_reverseitemiterator", "odict_iterator", "itertools.zip_longest", "itertools.pairwise"].contains n = false) (hQ : Q () s) : wpAny M A (letOwnedTupleGo tg (.ref it) u) Q E s := by
 unfold letOwnedTupleGo
 cases tg <;> first
  | exact wpAny_pure hQ
  | (cases u <;> first
    | exact wpAny_pure hQ
    | (refine wpAny_bind (wpAny_load ho ?_)
       rw [hc, hd]
       show wpAny M A (if (["enumerate", "zip", "dict_itemiterator", "dict_reverseitemiterator", "odict_iterator", "itertools.zip_longest", "itertools.pairwise"].contains n && vs[0]? == some (rawInt _)) = true then _ else _) Q E s
       rw [if_neg (by intro h; rw [hn, Bool.false_and] at h; cases h)]
       exact wpAny_pure hQ))
def Itl (K : PySem.W.Frag) (a : Addr) : It :=
 ⟨fun i H => ∃ xs x, SqL K H a xs /\ xs[i]? = some x, fun i H x H' => H' = H /\ ∀ xs, SqL K H a xs -> xs[i]? = some x, fun i H => ∃ xs, SqL K H a xs /\ xs.length <= i⟩
def Itt (K : PySem.W.Frag) (a : Addr) : It :=
 ⟨fun i H => ∃ xs x, SqT K H a xs /\ xs[i]? = some x, fun i H x H' => H' = H /\ ∀ xs, SqT K H a xs -> xs[i]? = some x, fun i H => ∃ xs, SqT K H a xs /\ xs.length <= i⟩
def Itr (lo : Int) (n : Nat) : It := ⟨fun i _ => i < n, fun i H x H' => H' = H /\ x = .int (lo + i), fun i _ => n <= i⟩
theorem Je {P : Program} {w : World} {K : PySem.W.Frag} {tg : Expr} (a it : Addr) : Turn P w K tg (Itl K a) [it] it (fun i h => h.IsListIter it a i) where
 mem := by simp
 obj := fun i h st b hb => by
  have e : b = it := by simpa using hb
  subst e
  obtain ⟨o, e, c, d⟩ := st
  exact ⟨o, e, fun v z => by rw [d] at z; cases z⟩
 keep := fun i h h' st k => st.at fun o e => k it (by simp) o e
 item := by
  intro X hP hw hK hc i pins s σ H E I hf st hg
  subst hP hw hK
  obtain ⟨xs, x, hq, hx⟩ := hg
  obtain ⟨its, rv, p, hz⟩ := I.list hq
  obtain ⟨u, hu, ru⟩ := rv.get hx
  obtain ⟨f0, f1, f2, f3, f4, f5⟩ := hf it (by simp)
  refine wpAny_pyNext_list_item st p.isList (x := u) (by simpa using hu) fun h' st' sb => ?_
  have I1 : Inv X pins σ H { s with heap := h' } := I.turned (t' := s.toks) (fun b o hb e => (sb.2 b hb).trans e) f0 f1 f3 f4 f5
  obtain ⟨o, e, c, d⟩ := id st'
  exact ⟨u, rfl, go_of (s := { s with heap := h' }) e c d (by decide) ⟨x, H, I1, ru, ⟨rfl, fun ys hy => by rw [I.list_inj hy hq]; exact hx⟩, st', fun b hb => (hf b hb).1⟩⟩
 done := by
  intro X hP hw hK hc i pins s σ H E I hf st hg
  subst hP hw hK
  obtain ⟨xs, hq, hx⟩ := hg
  obtain ⟨its, rv, p, hz⟩ := I.list hq
  obtain ⟨f0, f1, f2, f3, f4, f5⟩ := hf it (by simp)
  have hl := rv.length
  exact wpAny_pyNext_list_end (I.ok.hd hc) st p.isList (by simp; omega) fun h' eb => ⟨rfl, I.turned (t' := s.toks) (fun b o hb e => eb b o hb e) f0 f1 f3 f4 f5⟩
 self := fun _ _ _ _ _ st h => wpAny_pyIter_listiter st h
theorem QJ {P : Program} {w : World} {K : PySem.W.Frag} {tg : Expr} (a it : Addr) : Turn P w K tg (Itt K a) [it] it (fun i h => h.IsTupleIter it a i) where
 mem := by simp
 obj := fun i h st b hb => by
  have e : b = it := by simpa using hb
  subst e
  obtain ⟨o, e, c, d⟩ := st
  exact ⟨o, e, fun v z => by rw [d] at z; cases z⟩
 keep := fun i h h' st k => st.at fun o e => k it (by simp) o e
 item := by
  intro X hP hw hK hc i pins s σ H E I hf st hg
  subst hP hw hK
  obtain ⟨xs, x, hq, hx⟩ := hg
  obtain ⟨its, rv, p, hz⟩ := I.tuple hq
  obtain ⟨u, hu, ru⟩ := rv.get hx
  obtain ⟨f0, f1, f2, f3, f4, f5⟩ := hf it (by simp)
  refine wpAny_pyNext_tuple_item st (show s.heap.IsTuple a its.toArray from p) (x := u) (by simpa using hu) fun h' st' sb => ?_
  have I1 : Inv X pins σ H { s with heap := h' } := I.turned (t' := s.toks) (fun b o hb e => (sb.2 b hb).trans e) f0 f1 f3 f4 f5
  obtain ⟨o, e, c, d⟩ := id st'
  exact ⟨u, rfl, go_of (s := { s with heap := h' }) e c d (by decide) ⟨x, H, I1, ru, ⟨rfl, fun ys hy => by rw [I.tuple_inj hy hq]; exact hx⟩, st', fun b hb => (hf b hb).1⟩⟩
 done := by
  intro X hP hw hK hc i pins s σ H E I hf st hg
  subst hP hw hK
  obtain ⟨xs, hq, hx⟩ := hg
  obtain ⟨its, rv, p, hz⟩ := I.tuple hq
  obtain ⟨f0, f1, f2, f3, f4, f5⟩ := hf it (by simp)
  have hl := rv.length
  exact wpAny_pyNext_tuple_end (I.ok.hd hc) st (show s.heap.IsTuple a its.toArray from p) (by simp; omega) fun h' eb => ⟨rfl, I.turned (t' := s.toks) (fun b o hb e => eb b o hb e) f0 f1 f3 f4 f5⟩
 self := fun _ _ _ _ _ st h => wpAny_pyIter_tupleiter st h
theorem QK {P : Program} {w : World} {K : PySem.W.Frag} {tg : Expr} (it : Addr) (lo : Int) (n : Nat) : Turn P w K tg (Itr lo n) [it] it (fun i h => IsRangeIter h it (lo + (i : Nat) * 1) ((n : Int) - (i : Nat)) 1) where
 mem := by simp
 obj := fun i h st b hb => by
  have e : b = it := by simpa using hb
  subst e
  exact ⟨_, st, fun v z => by
   have z' : Data.fields _ = Data.cell v := z
   cases z'⟩
 keep := fun i h h' st k => k it (by simp) _ st
 item := by
  intro X hP hw hK hc i pins s σ H E I hf st hg
  subst hP hw hK
  obtain ⟨f0, f1, f2, f3, f4, f5⟩ := hf it (by simp)
  have W := Walks.range (prog := X.prog) (w := X.w) (I.ok.hd hc) it lo 1 n
  refine W.item i s _ _ hg st fun v h' tk hv st' kk => ?_
  obtain ⟨t, rfl⟩ := hv
  have I1 : Inv X pins σ H { s with heap := h', toks := tk } := I.turned (fun b o hb e => kk b o (by simpa using hb) e) f0 f1 f3 f4 f5
  refine ⟨_, rfl, go_of (s := { s with heap := h', toks := tk }) (n := "range_iterator") st' rfl rfl (by decide) ⟨.int (lo + i), H, I1, ⟨t, ?_⟩, ⟨rfl, rfl⟩, st', fun b hb => (hf b hb).1⟩⟩
  rw [Int.mul_one]
 done := by
  intro X hP hw hK hc i pins s σ H E I hf st hg
  subst hP hw hK
  obtain ⟨f0, f1, f2, f3, f4, f5⟩ := hf it (by simp)
  exact wpAny_pyNext_range_end (I.ok.hd hc) st (by have : n <= i := hg; omega) fun h' eb => ⟨rfl, I.turned (t' := s.toks) (fun b o hb e => eb b o hb e) f0 f1 f3 f4 f5⟩
 self := fun _ _ _ _ _ st h => wpAny_pyIter_rangeiter st h
end L2
namespace L2
open PySem PySem.Spec PyProof.Rows
section
variable {X : Cx} {tg : Expr}
theorem range_it {pins : List (Addr × Obj)} {σ : St} {H : Hp} {s : Shared} {R : It -> Hp -> Prop} {E : Value -> Shared -> Prop} {lo hi : Int} {t u v : Tok} {tk : Nat} (I : Inv X pins σ H s) (h1 : -(2 ^ 62) <= lo) (h2 : lo < 2 ^ 62) (h3 : -(2 ^ 62) <= hi) (h4 : hi < 2 ^ 62)
  (q : R (Itr lo (hi - lo).toNat) H) : wpAny (model X.prog X.w) X.A (pyIter (.ref s.heap.objs.size)) (PIE X pins σ tg R) E { s with heap := s.heap.push { cls := .type "range", data := .fields #[.int lo t, .int hi u, .int 1 v] }, toks := tk } := by
 refine wpAny_pyIter_range (IsRange.new ..) (small_one h1 h2 h3 h4) ?_
 have I1 : Inv X pins σ H { s with heap := s.heap.push { cls := .type "range", data := .fields #[.int lo t, .int hi u, .int 1 v] }, toks := tk } := I.kept fun b o e => Heap.get?_push_of_some _ e
 refine ⟨(s.heap.push { cls := .type "range", data := .fields #[.int lo t, .int hi u, .int 1 v] }).objs.size, [(s.heap.push { cls := .type "range", data := .fields #[.int lo t, .int hi u, .int 1 v] }).objs.size], _, _, H, rfl,
  I1.kept (t' := tk) fun b o e => Heap.get?_push_of_some _ e, QK _ lo (hi - lo).toNat, ?_, fun b hb => ?_, q⟩
 ·have e1 : lo + ((0 : Nat) : Int) * 1 = lo := by simp
  have e2 : (((hi - lo).toNat : Nat) : Int) - ((0 : Nat) : Int) = Builtin.Range.rangeSize lo hi 1 := by rw [rangeSize_one]; split <;> omega
  show IsRangeIter _ _ (lo + ((0 : Nat) : Int) * 1) ((((hi - lo).toNat : Nat) : Int) - ((0 : Nat) : Int)) 1
  rw [e1, e2]
  exact Heap.get?_push_size _ rfl
 ·have e : b = (s.heap.push { cls := .type "range", data := .fields #[.int lo t, .int hi u, .int 1 v] }).objs.size := by simpa using hb
  subst e
  exact I1.fpOk (Nat.le_refl _) (I1.hok.fresh (Nat.le_refl _))
def iRng1 (ta : TA) : TI := fun σ H R => ta σ H fun vs H1 => ∃ j : Int, vs = [.int j] /\ -(2 ^ 62) <= j /\ j < 2 ^ 62 /\ R (Itr 0 j.toNat) H1
theorem Jp {a : Expr} {ta : TA} {p pos : Pos} (hg : Gl X "range") (hm : X.mg "range" = none) (ha : PA X [a] ta) (hs : starEach [a] X.env = [(false, eval a X.env)] := by rfl) : PI X tg (.Call (.Name "range" p) [a] [] pos) (iRng1 ta) := by
 intro pins s σ H R I h
 refine Call_ (Qs I hg hm boot_range (PyProof.Rows.callWith_type1 (thn (ha pos pins s σ H _ I h) fun us s1 ⟨vs, H1, I1, r1, q1⟩ => ?_) hs rfl))
 obtain ⟨j, e, q1, q2, q⟩ := q1
 subst e
 cases r1 with
 | cons r rr =>
  cases rr
  obtain ⟨t, rfl⟩ := r
  exact call_range_1 (range_it I1 (by omega) (by omega) q1 q2 (by simpa using q))
def tFor (wi : TI) (g : TG) (tb : TS) : TS := fun D σ H => wi σ H fun J H1 => ∃ W : Nat -> Nat -> St -> Hp -> Prop, (∃ m, W 0 m σ H1) /\ ∀ i m σ H, W i m σ H ->
 (J.stop i H /\ D.nx σ H) \/ (J.go i H /\ ∃ N : St -> Hp -> Prop, (∀ σ' H', N σ' H' -> ∃ m', m' < m /\ W (i + 1) m' σ' H') /\ ∀ x H', J.yld i H x H' -> g x σ H' fun σ2 H2 => tb { D with nx := N, ct := N, bk := D.nx } σ2 H2)
def YQ (fp : List Addr) (h : Heap) : List (Addr × Obj) := fp.filterMap fun b => (h.get? b).map fun o => (b, o)
theorem XY {fp : List Addr} {h : Heap} {b : Addr} {o : Obj} (hb : b ∈ fp) (e : h.get? b = some o) : (b, o) ∈ YQ fp h := List.mem_filterMap.mpr ⟨b, hb, by rw [e]; rfl⟩
theorem Jv {fp : List Addr} {h : Heap} {p : Addr × Obj} (hp : p ∈ YQ fp h) : p.1 ∈ fp /\ h.get? p.1 = some p.2 := by
 obtain ⟨b, hb, e⟩ := List.mem_filterMap.mp hp
 cases q : h.get? b with
 | none => rw [q] at e; cases e
 | some o =>
  rw [q] at e
  have e' : (b, o) = p := Option.some.inj e
  subst e'
  exact ⟨hb, q⟩
theorem Inv.pinned {pins : List (Addr × Obj)} {σ : St} {H : Hp} {s : Shared} {fp : List Addr} (I : Inv X pins σ H s) (hf : ∀ b ∈ fp, FpOk X pins H b) (ho : ∀ b ∈ fp, ∃ o, s.heap.get? b = some o /\ ∀ v, o.data ≠ .cell v) : Inv X (pins ++ YQ fp s.heap) σ H s :=
 I.pins_of fun p hp => (List.mem_append.mp hp).elim (fun z => I.pin p (List.mem_append_right _ z)) fun z => by
  obtain ⟨hb, e⟩ := Jv z
  obtain ⟨f0, f1, f2, _⟩ := hf p.1 hb
  obtain ⟨o, e', d⟩ := ho p.1 hb
  rw [e] at e'; cases e'
  exact ⟨e, f0, f1, f2, d⟩
theorem Inv.unpinned {pins pl : List (Addr × Obj)} {σ : St} {H : Hp} {s : Shared} (I : Inv X (pins ++ pl) σ H s) : Inv X pins σ H s := I.pins_of fun p hp => I.pin p (List.mem_append_right _ (List.mem_append_left _ hp))
theorem ps_for {iter : Expr} {body : List Stmt} {wi : TI} {g : TG} {tb : TS} {pos : Pos} (hp : PassesOwn (model X.prog X.w) X.A X.env X.xe) (hc : X.calm = true) (hi : PI X tg iter wi) (hg : PG X tg g) (hb : PSs X body tb)
  (hs : ∀ x, foldedSetIterable iter X.env x = pure x := by intro _; rfl) : PS X (.For tg iter body [] pos) (tFor wi g tb) := by
 intro pins s σ H D I h
 refine wpAny_For (thn (hi pins s σ H _ I h) fun v s1 h1 => thn h1 fun itv s2 h2 => ?_) hs
 obtain ⟨it, fp, tn, J, H2, e, I2, T, st2, f2, W, ⟨m0, w0⟩, turn⟩ := h2
 subst e
 -- what stays true of the iterator's objects through the loop
 have stat : ∀ {H' : Hp}, (∀ b ∈ fp, H' b = none) -> ∀ b ∈ fp, FpOk X pins H' b := fun hn b hb => ⟨hn b hb, (f2 b hb).2⟩
 refine codeAny_forLoop_any (fun n s' => ∃ i σ' H', Inv X pins σ' H' s' /\ tn i s'.heap /\ (∀ b ∈ fp, H' b = none) /\ W i n σ' H') ?_ m0 ⟨0, σ, H2, I2, st2, fun b hb => (f2 b hb).1, w0⟩
 rintro n s3 ⟨i, σ3, H3, I3, st3, fr3, w3⟩
 rcases turn i n σ3 H3 w3 with ⟨stop, qn⟩ | ⟨go, N, hN, step⟩
 ·refine wpAny_passesOwn hp (thn (T.done X rfl rfl rfl hc i pins s3 σ3 H3 X.xe I3 (stat fr3) st3 stop) fun r s4 ⟨hr, I4⟩ => ?_)
  subst hr
  exact wpAny_execs_nil ⟨σ3, H3, I4, qn⟩
 ·refine wpAny_passesOwn hp (thn (T.item X rfl rfl rfl hc i pins s3 σ3 H3 X.xe I3 (stat fr3) st3 go) fun r s4 ⟨u, hr, h4⟩ => ?_)
  subst hr
  refine wpAny_passesOwn hp (thn h4 fun _ s5 ⟨x, H5, I5, r5, y5, st5, fr5⟩ => ?_)
  have I5' := I5.pinned (stat fr5) (T.obj _ _ st5)
  refine wpAny_passesOwn hp (thn (hg _ s5 σ3 H5 x u _ I5' r5 (step x H5 y5)) fun _ s6 ⟨σ6, H6, I6, q6⟩ => ?_)
  refine wpAny_passesOwn hp (thn (hb _ s6 σ6 H6 _ I6 q6) fun f s7 q7 => ?_)
  have again : ∀ {σ7 : St} {H7 : Hp}, Inv X (pins ++ YQ fp s5.heap) σ7 H7 s7 -> N σ7 H7 -> ∃ m, m < n /\ ∃ i σ' H', Inv X pins σ' H' s7 /\ tn i s7.heap /\ (∀ b ∈ fp, H' b = none) /\ W i m σ' H' := fun {σ7 H7} I7 n7 => by
   obtain ⟨m', hm, w7⟩ := hN σ7 H7 n7
   refine ⟨m', hm, i + 1, σ7, H7, I7.unpinned, T.keep _ _ _ st5 fun b hb o e => (I7.pin (b, o) (List.mem_append_right _ (List.mem_append_right _ (XY hb e)))).1, fun b hb => ?_, w7⟩
   obtain ⟨o, e, d⟩ := T.obj _ _ st5 b hb
   exact (I7.pin (b, o) (List.mem_append_right _ (List.mem_append_right _ (XY hb e)))).2.1
  cases f with
  | next => obtain ⟨σ7, H7, I7, n7⟩ := q7; exact again I7 n7
  | cont => obtain ⟨σ7, H7, I7, n7⟩ := q7; exact again I7 n7
  | brk => obtain ⟨σ7, H7, I7, q7⟩ := q7; exact ⟨σ7, H7, I7.unpinned, q7⟩
  | ret v => obtain ⟨x7, σ7, H7, I7, r7, q7⟩ := q7; exact ⟨x7, σ7, H7, I7.unpinned, r7, q7⟩
end
end L2
namespace L2
open PySem PySem.Spec PyProof.Rows
abbrev R2 := V -> V -> Hp -> VK -> Prop
def OpR (X : Cx) (f : Value -> Value -> Sem Value) (r : R2) : Prop :=
 ∀ (pins : List (Addr × Obj)) (s : Shared) (σ : St) (H : Hp) (x y : V) (v u : Value) (Q : VK), Inv X pins σ H s -> RelV x v -> RelV y u -> r x y H Q ->
  wpAny (model X.prog X.w) X.A (f v u) (EP X pins σ Q) X.xe s
def UnR (X : Cx) (f : Value -> Sem Value) (r : V -> Hp -> VK -> Prop) : Prop :=
 ∀ (pins : List (Addr × Obj)) (s : Shared) (σ : St) (H : Hp) (x : V) (v : Value) (Q : VK), Inv X pins σ H s -> RelV x v -> r x H Q ->
  wpAny (model X.prog X.w) X.A (f v) (EP X pins σ Q) X.xe s
def Uc (X : Cx) (f : Value) (r : List V -> Hp -> VK -> Prop) : Prop :=
 ∀ (pins : List (Addr × Obj)) (s : Shared) (σ : St) (H : Hp) (xs : List V) (us : List Value) (Q : VK), Inv X pins σ H s -> Vals xs us -> r xs H Q ->
  wpAny (model X.prog X.w) X.A (call f us) (EP X pins σ Q) X.xe s
def TruR (X : Cx) (r : V -> Hp -> (Bool -> Hp -> Prop) -> Prop) : Prop :=
 ∀ (pins : List (Addr × Obj)) (s : Shared) (σ : St) (H : Hp) (x : V) (v : Value) (Q : Bool -> Hp -> Prop), Inv X pins σ H s -> RelV x v -> r x H Q ->
  wpAny (model X.prog X.w) X.A (truthy v) (TP X pins σ Q) X.xe s
def tOp (r : R2) (ta tb : TE) : TE := fun σ H Q => ta σ H fun x H1 => tb σ H1 fun y H2 => r x y H2 Q
def tUn (r : V -> Hp -> VK -> Prop) (ta : TE) : TE := fun σ H Q => ta σ H fun x H1 => r x H1 Q
def rI (C : Int -> Int -> Prop) (g : Int -> Int -> V) : R2 := fun x y H Q => ∃ i j, x = .int i /\ y = .int j /\ C i j /\ Q (g i j) H
def rI0 (g : Int -> Int -> V) : R2 := fun x y H Q => ∃ i j, x = .int i /\ y = .int j /\ Q (g i j) H
def rU (g : Int -> V) : V -> Hp -> VK -> Prop := fun x H Q => ∃ i, x = .int i /\ Q (g i) H
section
variable {X : Cx} {a b c : Expr} {ta tb tc : TE} {pos : Pos}
theorem binT (ha : PE X a ta) (hb : PE X b tb) {pins : List (Addr × Obj)} {s : Shared} {σ : St} {H : Hp} {R : V -> V -> Hp -> Prop} (I : Inv X pins σ H s)
  (h : ta σ H fun x H1 => tb σ H1 fun y H2 => R x y H2) {Q : Value -> Shared -> Prop} {f : Value -> Value -> Sem Value}
  (hf : ∀ v u s2 x y H2, Inv X pins σ H2 s2 -> RelV x v -> RelV y u -> R x y H2 -> wpAny (model X.prog X.w) X.A (f v u) Q X.xe s2) :
  wpAny (model X.prog X.w) X.A (eval a X.env) (fun v s₁ => wpAny (model X.prog X.w) X.A (eval b X.env) (fun u s₂ => wpAny (model X.prog X.w) X.A (f v u) Q X.xe s₂) X.xe s₁) X.xe s := by
 refine thn (ha pins s σ H _ I h) fun v s1 ⟨x, H1, I1, r1, q1⟩ => ?_
 refine thn (hb pins s1 σ H1 _ I1 q1) fun u s2 ⟨y, H2, I2, r2, q2⟩ => ?_
 exact hf v u s2 x y H2 I2 r1 r2 q2
theorem pe_op {op : Operator} {r : R2} (ho : OpR X (binaryOp op) r) (ha : PE X a ta) (hb : PE X b tb) : PE X (.BinOp a op b pos) (tOp r ta tb) := by
 intro pins s σ H Q I h
 exact wpAny_BinOp (binT ha hb I h fun v u s2 x y H2 I2 rx ry q => ho pins s2 σ H2 x y v u Q I2 rx ry q)
theorem pe_un {op : UnaryOp} {r : V -> Hp -> VK -> Prop} (ho : UnR X (unaryOp op) r) (ha : PE X a ta) : PE X (.UnaryOp op a pos) (tUn r ta) := by
 intro pins s σ H Q I h
 exact UnaryOp_ (thn (ha pins s σ H _ I h) fun v s1 ⟨x, H1, I1, r1, q1⟩ => ho pins s1 σ H1 x v Q I1 r1 q1)
theorem opI {f : Value -> Value -> Sem Value} {C : Int -> Int -> Prop} {g : Int -> Int -> Int}
  (rule : ∀ (i j : Int) (t u : Tok) (s : Shared) (Q : Value -> Shared -> Prop) (E : Value -> Shared -> Prop), C i j -> Q (.int (g i j) s.toks) { s with toks := s.toks + 1 } -> wpAny (model X.prog X.w) X.A (f (.int i t) (.int j u)) Q E s) :
  OpR X f (rI C fun i j => .int (g i j)) := by
 intro pins s σ H x y v u Q I rx ry h
 obtain ⟨i, j, rfl, rfl, hc, q⟩ := h
 obtain ⟨t, rfl⟩ := rx
 obtain ⟨t', rfl⟩ := ry
 exact rule i j t t' s _ _ hc ⟨.int (g i j), H, I.tok _, ⟨_, rfl⟩, q⟩
theorem opI0 {f : Value -> Value -> Sem Value} {g : Int -> Int -> Int}
  (rule : ∀ (i j : Int) (t u : Tok) (s : Shared) (Q : Value -> Shared -> Prop) (E : Value -> Shared -> Prop), Q (.int (g i j) s.toks) { s with toks := s.toks + 1 } -> wpAny (model X.prog X.w) X.A (f (.int i t) (.int j u)) Q E s) :
  OpR X f (rI0 fun i j => .int (g i j)) := by
 intro pins s σ H x y v u Q I rx ry h
 obtain ⟨i, j, rfl, rfl, q⟩ := h
 obtain ⟨t, rfl⟩ := rx
 obtain ⟨t', rfl⟩ := ry
 exact rule i j t t' s _ _ ⟨.int (g i j), H, I.tok _, ⟨_, rfl⟩, q⟩
theorem opB0 {f : Value -> Value -> Sem Value} {g : Int -> Int -> Bool}
  (rule : ∀ (i j : Int) (t u : Tok) (s : Shared) (Q : Value -> Shared -> Prop) (E : Value -> Shared -> Prop), Q (.bool (g i j)) s -> wpAny (model X.prog X.w) X.A (f (.int i t) (.int j u)) Q E s) :
  OpR X f (rI0 fun i j => .bl (g i j)) := by
 intro pins s σ H x y v u Q I rx ry h
 obtain ⟨i, j, rfl, rfl, q⟩ := h
 obtain ⟨t, rfl⟩ := rx
 obtain ⟨t', rfl⟩ := ry
 exact rule i j t t' s _ _ ⟨.bl (g i j), H, I, rfl, q⟩
def CPow (i j : Int) : Prop := 0 <= j /\ j <= 1000000 /\ i.natAbs < 2 ^ 64
theorem op_add : OpR X (binaryOp .Add) (rI0 fun i j => .int (i + j)) := opI0 fun _ _ _ _ _ _ _ q => add_int q
theorem op_sub : OpR X (binaryOp .Sub) (rI0 fun i j => .int (i - j)) := opI0 fun _ _ _ _ _ _ _ q => sub_int q
theorem op_modN : OpR X (binaryOp .Mod) (rI (fun _ j => j ≠ 0) fun i j => .int (i.fmod j)) := opI fun _ _ _ _ _ _ _ hc q => mod_int' hc q
theorem op_pow : OpR X (binaryOp .Pow) (rI CPow fun i j => .int (i ^ j.toNat)) := opI fun _ _ _ _ _ _ _ hc q => pow_int_small hc.1 hc.2.1 hc.2.2 q
theorem unI {f : Value -> Sem Value} {g : Int -> Int}
  (rule : ∀ (i : Int) (t : Tok) (s : Shared) (Q : Value -> Shared -> Prop) (E : Value -> Shared -> Prop), Q (.int (g i) s.toks) { s with toks := s.toks + 1 } -> wpAny (model X.prog X.w) X.A (f (.int i t)) Q E s) :
  UnR X f (rU fun i => .int (g i)) := by
 intro pins s σ H x v Q I rx h
 obtain ⟨i, rfl, q⟩ := h
 obtain ⟨t, rfl⟩ := rx
 exact rule i t s _ _ ⟨.int (g i), H, I.tok _, ⟨_, rfl⟩, q⟩
theorem un_neg : UnR X (unaryOp .USub) (rU fun i => .int (-i)) := unI fun _ _ _ _ _ q => neg_int q
end
section
variable {X : Cx} {a b c : Expr} {ta tb tc : TE} {pos : Pos}
theorem op_lt : OpR X (compareOp .Lt) (rI0 fun i j => .bl (decide (i < j))) := opB0 fun _ _ _ _ _ _ _ q => lt_int q
theorem op_le : OpR X (compareOp .LtE) (rI0 fun i j => .bl (decide (i <= j))) := opB0 fun _ _ _ _ _ _ _ q => le_int q
theorem op_gt : OpR X (compareOp .Gt) (rI0 fun i j => .bl (decide (j < i))) := opB0 fun _ _ _ _ _ _ _ q => gt_int q
theorem op_ge : OpR X (compareOp .GtE) (rI0 fun i j => .bl (decide (j <= i))) := opB0 fun _ _ _ _ _ _ _ q => ge_int q
theorem OpR.or {f : Value -> Value -> Sem Value} {r r' : R2} (h : OpR X f r) (h' : OpR X f r') : OpR X f (fun x y H Q => r x y H Q \/ r' x y H Q) := by
 intro pins s σ H x y v u Q I rx ry q
 rcases q with q | q
 ·exact h pins s σ H x y v u Q I rx ry q
 ·exact h' pins s σ H x y v u Q I rx ry q
theorem Zu (b : Expr) {op : CmpOp} (h : op ≠ .In := by decide) (h2 : op ≠ .NotIn := by decide) : behindInMarks op b = false := by
 have e1 : (op == CmpOp.In) = false := by cases op <;> first | rfl | exact absurd rfl h
 have e2 : (op == CmpOp.NotIn) = false := by cases op <;> first | rfl | exact absurd rfl h2
 cases b <;> simp [behindInMarks, e1, e2]
theorem pe_cmpR {op : CmpOp} {r : R2} (ho : OpR X (compareOp op) r) (ha : PE X a ta) (hb : PE X b tb) (hm : behindInMarks op b = false) : PE X (.Compare a [op] [b] pos) (tOp r ta tb) := by
 intro pins s σ H Q I h
 exact wpAny_Compare1 (binT ha hb I h fun v u s2 x y H2 I2 rx ry q => ho pins s2 σ H2 x y v u Q I2 rx ry q) hm
def tTest (t : TE) : TT := fun σ H Q => t σ H fun x H' => ∃ k, x = .bl k /\ Q k H'
theorem pt_cmpR {op : CmpOp} {r : R2} (ho : OpR X (compareOp op) r) (ha : PE X a ta) (hb : PE X b tb) (hm : behindInMarks op b = false) : PT X (.Compare a [op] [b] pos) (tTest (tOp r ta tb)) := by
 intro pins s σ H Q I h
 refine wpAny_isTrue_Compare1 (thn (ha pins s σ H _ I h) fun v s1 ⟨x, H1, I1, r1, q1⟩ => thn (hb pins s1 σ H1 _ I1 q1) fun u s2 ⟨y, H2, I2, r2, q2⟩ =>
  thn (ho pins s2 σ H2 x y v u _ I2 r1 r2 q2) fun c s3 ⟨z, H3, I3, r3, k, e, q3⟩ => ?_) hm
 subst e
 cases r3
 exact wpAny_truthy_bool ⟨H3, I3, q3⟩
def TruV (K : PySem.W.Frag) (x : V) (H : Hp) (k : Bool) : Prop :=
 match x with
 | .non => k = false
 | .bl b => k = b
 | .int i => k = (i != 0)
 | .str y => y.length <= sizeLine /\ k = ((y.length : Int) != 0)
 | .byt y => y.size <= sizeLine /\ k = ((y.size : Int) != 0)
 | .ref p => (∃ xs, SqL K H p xs /\ k = !xs.isEmpty) \/ (∃ xs, SqT K H p xs /\ k = !xs.isEmpty) \/ ∃ kvs, H p = some (.dK kvs) /\ k = !kvs.isEmpty
 | _ => False
theorem QW {κ : Type} {kvs : List (κ × V)} {vs : List (κ × Value)} (r : KV kvs vs) : (!vs.isEmpty) = !kvs.isEmpty := by
 cases r <;> rfl
theorem VF {xs : List V} {its : List Value} (r : Vals xs its) : (!its.toArray.isEmpty) = !xs.isEmpty := by
 cases r <;> simp
theorem Ut : (sizeLine : Nat) < 2 ^ 63 := by rw [sizeLine_eq]; decide
theorem tru_ok : TruR X (fun x H Q => ∃ k, TruV X.K x H k /\ Q k H) := by
 intro pins s σ H x v Q I rx h
 obtain ⟨k, e, q⟩ := h
 have hl := Ut
 have hs : sizeLine = 16777216 := sizeLine_eq
 cases x with
 | non =>
  cases rx
  have e' : k = false := e
  subst e'
  exact truthy_none ⟨H, I, q⟩
 | bl b =>
  cases rx
  have e' : k = b := e
  subst e'
  exact wpAny_truthy_bool ⟨H, I, q⟩
 | int i =>
  obtain ⟨t, rfl⟩ := rx
  have e' : k = (i != 0) := e
  subst e'
  exact PySem.P.truthy_int ⟨H, I, q⟩
 | str y =>
  obtain ⟨t, rfl⟩ := rx
  obtain ⟨hy, e'⟩ : y.length <= sizeLine /\ k = ((y.length : Int) != 0) := e
  subst e'
  exact PySem.P.truthy_str (by omega) ⟨H, I.tok _, q⟩
 | byt y =>
  obtain ⟨t, rfl⟩ := rx
  obtain ⟨hy, e'⟩ : y.size <= sizeLine /\ k = ((y.size : Int) != 0) := e
  subst e'
  exact PySem.W.truthy_bytes (by omega) ⟨H, I.tok _, q⟩
 | ref p =>
  cases rx
  have e' : (∃ xs, SqL X.K H p xs /\ k = !xs.isEmpty) \/ (∃ xs, SqT X.K H p xs /\ k = !xs.isEmpty) \/ ∃ kvs, H p = some (.dK kvs) /\ k = !kvs.isEmpty := e
  rcases e' with ⟨xs, hx, e'⟩ | ⟨xs, hx, e'⟩ | ⟨kvs, hx, e'⟩
  ·subst e'
   obtain ⟨its, r, pl, hz⟩ := I.list hx
   have hlen := r.length
   exact wpAny_truthy_list pl.isList (by simp only [List.size_toArray]; omega) ⟨H, I.tok _, by rw [VF r]; exact q⟩
  ·subst e'
   obtain ⟨its, r, pl, hz⟩ := I.tuple hx
   have hlen := r.length
   exact truthy_tuple pl (by simp only [List.size_toArray]; omega) ⟨H, I.tok _, by rw [VF r]; exact q⟩
  ·subst e'
   obtain ⟨hz, hS, vs, r, m⟩ : kvs.length <= sizeLine /\ (p == sysModules) = false /\ ∃ vs, KV kvs vs /\ s.heap.DictOf (V3 X.prog X.w) p vs := I.hok p _ hx
   have hlen : kvs.length = vs.length := Paired.length r
   exact wpAny_truthy_dict hS m (by omega) ⟨H, I.tok _, by rw [QW r]; exact q⟩
 | _ => exact (show False from e).elim
theorem pt_truth (ha : PE X a ta) (he : ∀ whole, isTrue a X.env whole = (do let v <- whole; standAt a.pos; holding [v] (truthy v))) :
  PT X a (fun σ H Q => ta σ H fun x H' => ∃ k, TruV X.K x H' k /\ Q k H') := by
 intro pins s σ H Q I h
 exact isTrue_plain (thn (ha pins s σ H _ I h) fun v s1 ⟨x, H1, I1, r1, q1⟩ => tru_ok pins s1 σ H1 x v Q I1 r1 q1) (he _)
theorem Jb {x : V} {us : List Value} (r : Vals [x] us) : ∃ u, us = [u] /\ RelV x u := by
 cases r with
 | cons r1 r2 => cases r2; exact ⟨_, rfl, r1⟩
theorem vals2 {x y : V} {us : List Value} (r : Vals [x, y] us) : ∃ u w', us = [u, w'] /\ RelV x u /\ RelV y w' := by
 cases r with
 | cons r1 r2 =>
  cases r2 with
  | cons r3 r4 => cases r4; exact ⟨_, _, rfl, r1, r3⟩
theorem call_abs : Uc X (.builtin "abs") (fun xs H Q => ∃ i, xs = [.int i] /\ Q (.int (if i < 0 then -i else i)) H) := by
 intro pins s σ H xs us Q I r h
 obtain ⟨i, rfl, q⟩ := h
 obtain ⟨u, rfl, t, rfl⟩ := Jb r
 exact call_abs_int fun u tk => ⟨.int (if i < 0 then -i else i), H, I.tok _, ⟨_, rfl⟩, q⟩
end
end L2
namespace L2
open PySem PySem.Spec PyProof.Rows
structure Cls (K : PySem.W.Frag) (C : Addr) : Prop where
 pg : PySem.W.plainGet K C Str.empty = true
 hd : PySem.W.hasDictIn K C = true
 po : PySem.W.plainOver K C = true
 sa : PySem.W.findIn K (.ref C) "__setattr__" = some (some (.builtin "object.__setattr__"))
def NoAttr (K : PySem.W.Frag) (C : Addr) (f : Str) : Prop := PySem.W.findIn K (.ref C) f = some none
end L2
namespace L2
open PySem PySem.Spec PyProof.Rows
structure Room (k : Nat) (A : Around) : Prop where
 hd : A.handled = none
 dp : A.depth + 3 * k + 5 < recursionLimit
 un : A.units + 16 * k + 200 < cLine
theorem Room.mono {j k : Nat} {A : Around} (r : Room k A) (h : j <= k) : Room j A := ⟨r.hd, by have := r.dp; omega, by have := r.un; omega⟩
theorem Room.deeper {k : Nat} {A : Around} (r : Room (k + 1) A) (env : Env) : Room k (A.deeper env) :=
 ⟨r.hd, by have := r.dp; show A.depth + 1 + 3 * k + 5 < _; omega, by have := r.un; show A.units + 3 + 16 * k + 200 < _; omega⟩
theorem Room.depth {k : Nat} {A : Around} (r : Room k A) : A.depth < recursionLimit := by have := r.dp; omega
theorem Room.units {k : Nat} {A : Around} (r : Room k A) : A.units + 64 < cLine := by have := r.un; omega
def tNil : TA := fun _ H Q => Q [] H
def tCons (ta : TE) (tr : TA) : TA := fun σ H Q => ta σ H fun x H1 => tr σ H1 fun xs H2 => Q (x :: xs) H2
section
variable {X : Cx} {e : Expr} {es : List Expr} {te : TE} {t : TA} {pos : Pos}
theorem Wc : PA X [] tNil := fun _ _ _ _ H Q I h => Calls.spliced_nil ⟨[], H, I, .nil, h⟩
theorem YM (ha : PE X e te) (hr : PA X es t) (hs : starEach (e :: es) X.env = (false, eval e X.env) :: starEach es X.env := by rfl) : PA X (e :: es) (tCons te t) := by
 intro pos pins s σ H Q I h
 rw [hs]
 show wpAny _ _ (spliced ((false, eval e X.env) :: backTo pos (starEach es X.env))) _ _ s
 refine Calls.spliced_cons (thn (ha pins s σ H _ I h) fun u s1 ⟨x, H1, I1, r1, q1⟩ => ?_)
 exact thn (hr pos pins s1 σ H1 _ I1 q1) fun us s2 ⟨xs, H2, I2, r2, q2⟩ => ⟨x :: xs, H2, I2, .cons r1 r2, q2⟩
def tTup (t : TA) : TE := fun σ H Q => t σ H fun xs H1 => xs.length <= sizeLine /\ ∀ p, H1 p = none -> Q (.ref p) (upd H1 p (.tup xs))
def tLst (t : TA) : TE := fun σ H Q => t σ H fun xs H1 => xs.length <= sizeLine /\ ∀ p, H1 p = none -> Q (.ref p) (upd H1 p (.lst xs))
theorem pe_tup {x1} (h : PA X es t) : PE X (.Tuple es x1 pos) (tTup t) := by
 intro pins s σ H Q I hq
 refine wpAny_Tuple_spliced (thn (h pos pins s σ H _ I hq) fun us s1 ⟨xs, H1, I1, r, z, q⟩ => ⟨by rw [<- r.length]; exact z, ?_⟩)
 have hf : H1 s1.heap.objs.size = none := I1.hok.fresh (Nat.le_refl _)
 refine ⟨.ref s1.heap.objs.size, upd H1 s1.heap.objs.size (.tup xs), I1.laid (t' := s1.toks) (fun b u e => Heap.get?_push_of_some _ e) (Nat.le_refl _) ?_, rfl, q _ hf⟩
 exact ⟨z, us, r, ⟨_, Heap.get?_push_size _ rfl, rfl, _, rfl⟩⟩
theorem pe_lst (h : PA X es t) : PE X (.List es pos) (tLst t) := by
 intro pins s σ H Q I hq
 refine wpAny_List_spliced (thn (h pos pins s σ H _ I hq) fun us s1 ⟨xs, H1, I1, r, z, q⟩ => ⟨by rw [<- r.length]; exact z, ?_⟩)
 have hf : H1 s1.heap.objs.size = none := I1.hok.fresh (Nat.le_refl _)
 refine ⟨.ref s1.heap.objs.size, upd H1 s1.heap.objs.size (.lst xs), I1.laid (t' := s1.toks) (fun b u e => Heap.get?_push_of_some _ e) (Nat.le_refl _) ?_, rfl, q _ hf⟩
 exact ⟨z, us, 0, r, Heap.get?_push_size _ rfl⟩
end
abbrev Sp := List V -> Hp -> VK -> XK -> Prop
abbrev CXT := List Env -> Hp -> Shared -> XK -> Value -> Shared -> Prop
structure Env0 (P : Program) (w : World) (K : PySem.W.Frag) (mg : Str -> Option Value) (base : Heap) (A : Around) (outer : List Env) (s : Shared) (H : Hp) : Prop where
 frames : A.frames = some outer
 mod : Mod K mg base
 bs : ∀ b o, base.get? b = some o -> s.heap.get? b = some o /\ H b = none
 bsz : base.objs.size <= s.heap.objs.size
 funs : s.heap.FunFrames base outer
 frf : ∀ b ∈ frs outer, H b = none
 hok : HOk P w H s.heap
 bare : AllBare s.gens
def CE (outer : List Env) (P : Program) (w : World) (H : Hp) (s : Shared) (Q : VK) (u : Value) (s' : Shared) : Prop :=
 ∃ v H', s'.os = s.os /\ AllBare s'.gens /\ Un (frs outer) [] H H' s.heap s'.heap /\ HOk P w H' s'.heap /\ RelV v u /\ Q v H'
def CR (CX : CXT) (outer : List Env) (P : Program) (w : World) (H : Hp) (s : Shared) (Q : VK) (E : XK) (r : Result) (s' : Shared) : Prop :=
 match r with
 | .ok (.ret u) => CE outer P w H s Q u s'
 | .ok _ => False
 | .error e => CX outer H s E e s'
structure FnOk (P : Program) (w : World) (K : PySem.W.Frag) (mg : Str -> Option Value) (base : Heap) (CX : CXT) (k : Nat) (f : Addr) (fd : FuncData) (ps : List Str) (sp : Sp) : Prop where
 len : ∀ vs H Q E, sp vs H Q E -> vs.length = ps.length
 run : ∀ (A : Around) (outer : List Env) (s : Shared) (H : Hp) (args : Args) (us : List Value) (vs : List V) (Q : VK) (E : XK), Room k A -> Env0 P w K mg base A outer s H -> BindsTo s fd args (ps.zip us) -> Vals vs us -> sp vs H Q E ->
  codeAny (model P w) A (.call (.ref f) args) (CR CX outer P w H s Q E) s
theorem FnOk.mono {P : Program} {w : World} {K : PySem.W.Frag} {mg : Str -> Option Value} {base : Heap} {CX : CXT} {j k : Nat} {f : Addr} {fd : FuncData} {ps : List Str} {sp : Sp} (F : FnOk P w K mg base CX j f fd ps sp) (h : j <= k) :
  FnOk P w K mg base CX k f fd ps sp := ⟨F.len, fun A outer s H args us vs Q E hr => F.run A outer s H args us vs Q E (hr.mono h)⟩
section
variable {X : Cx} {pins : List (Addr × Obj)} {σ : St} {H : Hp} {s s' : Shared}
theorem Inv.env0 (I : Inv X pins σ H s) : Env0 X.prog X.w X.K X.mg X.base X.A X.stack s H :=
 ⟨I.ok.frames, I.ok.mod, I.bs, Nat.le_trans I.ok.bsz I.sz, I.stack, I.stkFree, I.hok, I.bare⟩
theorem Inv.after {Q : VK} {u : Value} (I : Inv X pins σ H s) (h : CE X.stack X.prog X.w H s Q u s') : EP X pins σ Q u s' := by
 obtain ⟨v, H', os, bare, un, hok, r, q⟩ := h
 obtain ⟨hh, g, d, t, os'⟩ := s'
 obtain rfl : os' = s.os := os
 exact ⟨v, H', I.call (h' := hh) (g' := g) (d' := d) (t' := t) (ch := []) un hok bare (fun b z => absurd z (by simp)), r, q⟩
end
def tCall (sp : Sp) (dvs : List V) (E : XK) (t : TA) : TE := fun σ H Q => t σ H fun vs H1 => sp (vs ++ dvs) H1 Q E
def Z6 (K : PySem.W.Frag) (fd : FuncData) (ps : List Str) (ds : List Value) : Prop :=
 ∀ (s : Shared) (us : List Value), K.In s.heap -> (us ++ ds).length = ps.length -> BindsTo s fd ⟨us, []⟩ (ps.zip (us ++ ds))
theorem Z6.all {K : PySem.W.Frag} {fd : FuncData} {ps : List Str} (h : ∀ us : List Value, us.length = ps.length -> bindArgs fd ⟨us, []⟩ = pure (ps.zip us)) : Z6 K fd ps [] := fun s us _ hl => by
 rw [List.append_nil] at hl ⊢
 exact .of_eq (h us hl)
def QI (CX : CXT) (X : Cx) (E : XK) : Prop := ∀ (pins : List (Addr × Obj)) (σ : St) (H : Hp) (s : Shared) (e : Value) (s' : Shared), Inv X pins σ H s -> CX X.stack H s E e s' -> X.xe e s'
section
variable {X : Cx} {CX : CXT} {k : Nat} {f C : Addr} {fd : FuncData} {ps : List Str} {sp : Sp} {dvs : List V} {ds : List Value} {E : XK} {x m : Str} {p pos apos : Pos} {e o : Expr} {es : List Expr} {ta : TE} {t : TA}
theorem run_fn {pins : List (Addr × Obj)} {σ : St} {H : Hp} {s : Shared} {Q : VK} {us : List Value} {vs : List V} (F : FnOk X.prog X.w X.K X.mg X.base CX k f fd ps sp) (hr : Room k X.A) (hb : Z6 X.K fd ps ds) (hd : Vals dvs ds) (hx : QI CX X E)
  (I : Inv X pins σ H s) (r : Vals vs us) (h : sp (vs ++ dvs) H Q E) : wpAny (model X.prog X.w) X.A (call (.ref f) us) (EP X pins σ Q) X.xe s := by
 have r2 : Vals (vs ++ dvs) (us ++ ds) := r.append hd
 have hl : (us ++ ds).length = ps.length := by rw [<- r2.length]; exact F.len _ _ _ _ h
 refine wpAny_call (codeAny_mono (F.run X.A X.stack s H ⟨us, []⟩ (us ++ ds) (vs ++ dvs) Q E hr I.env0 (hb s us I.kIn hl) r2 h) fun r s' hq => ?_)
 cases r with
 | error e => exact hx pins σ H s e s' I hq
 | ok fl =>
  cases fl with
  | ret u => exact I.after hq
  | next => exact False.elim hq
  | brk => exact False.elim hq
  | cont => exact False.elim hq
theorem pe_call (F : FnOk X.prog X.w X.K X.mg X.base CX k f fd ps sp) (hr : Room k X.A) (hg : Gl X x) (hm : X.mg x = some (.ref f)) (hk : PySem.W.keepIn X.K (.ref f) = true) (hb : Z6 X.K fd ps ds) (hd : Vals dvs ds) (hx : QI CX X E)
  (ha : PA X (e :: es) t) (hdb : (x == ("__debug__" : Str)) = false := by decide) (he : starEach (e :: es) X.env = (false, eval e X.env) :: starEach es X.env := by rfl) (hpl : (backTo pos (starEach es X.env)).any (·.1) = false := by rfl) :
  PE X (.Call (.Name x p) (e :: es) [] pos) (tCall sp dvs E t) := by
 intro pins s σ H Q I h
 refine wpAny_Call_Name_kw (WD I hg hm ?_ hdb)
 refine PySem.W.callWith_K (h₀ := X.base) I.ok.mod.kin hk (thn (ha pos pins s σ H _ I h) fun us s1 ⟨vs, H1, I1, r, q⟩ => ⟨I1.kIn, ?_⟩) he hpl
 exact run_fn F hr hb hd hx I1 r q
end
structure FnScope (N P : List Str) (sc : Scope) : Prop where
 kind : sc.kind = .function
 co : sc.isCoroutine = false
 gen : sc.isGenerator = false
 nd : N.Nodup
 pre : N.take P.length = P
 par : ∀ x ∈ P, sc.names.lookup x = some .local \/ sc.names.lookup x = some .cell
 nofree : ∀ y ∈ sc.names, y.2 ≠ .free
theorem UJ {kindOf : Str -> Option NameKind} {x : Str} : ∀ {binds : List (Str × Value)} {m : Str -> Option Value}, (∀ v, (x, v) ∉ binds) -> bindL kindOf binds m x = m x
 | [], _, _ => rfl
 | (n, v) :: r, m, h => by
  unfold bindL
  rw [UJ fun w hw => h w (List.mem_cons_of_mem _ hw)]
  split
  ·have : x ≠ n := by rintro rfl; exact h v List.mem_cons_self
   simp [this]
  ·rfl
theorem UM {kindOf : Str -> Option NameKind} {x : Str} : ∀ {binds : List (Str × Value)} {m : Str -> Option Value}, (∀ v, (x, v) ∉ binds) -> bindC kindOf binds m x = m x
 | [], _, _ => rfl
 | (n, v) :: r, m, h => by
  unfold bindC
  rw [UM fun w hw => h w (List.mem_cons_of_mem _ hw)]
  split
  ·rfl
  ·have : x ≠ n := by rintro rfl; exact h v List.mem_cons_self
   simp [this]
theorem UK {kindOf : Str -> Option NameKind} {x : Str} {v : Value} : ∀ {P : List Str} {vs : List Value} {i : Nat} {m : Str -> Option Value}, P.Nodup -> P[i]? = some x -> vs[i]? = some v -> kindOf x = some .local ->
  bindL kindOf (P.zip vs) m x = some v
 | [], _, _, _, _, h, _, _ => by simp at h
 | _ :: _, [], _, _, _, _, h, _ => by simp at h
 | p :: P, w :: vs, 0, m, nd, h1, h2, hk => by
  simp at h1 h2; subst h1; subst h2
  show bindL kindOf ((p, w) :: P.zip vs) m p = _
  unfold bindL
  rw [UJ fun v hv => (List.nodup_cons.mp nd).1 (List.of_mem_zip hv).1, if_pos hk]
  simp
 | p :: P, w :: vs, i + 1, m, nd, h1, h2, hk => by
  show bindL kindOf ((p, w) :: P.zip vs) m x = _
  unfold bindL
  exact UK (i := i) (List.nodup_cons.mp nd).2 (by simpa using h1) (by simpa using h2) hk
theorem UN {kindOf : Str -> Option NameKind} {x : Str} {v : Value} : ∀ {P : List Str} {vs : List Value} {i : Nat} {m : Str -> Option Value}, P.Nodup -> P[i]? = some x -> vs[i]? = some v -> kindOf x ≠ some .local ->
  bindC kindOf (P.zip vs) m x = some v
 | [], _, _, _, _, h, _, _ => by simp at h
 | _ :: _, [], _, _, _, _, h, _ => by simp at h
 | p :: P, w :: vs, 0, m, nd, h1, h2, hk => by
  simp at h1 h2; subst h1; subst h2
  show bindC kindOf ((p, w) :: P.zip vs) m p = _
  unfold bindC
  rw [UM fun v hv => (List.nodup_cons.mp nd).1 (List.of_mem_zip hv).1, if_neg hk]
  simp
 | p :: P, w :: vs, i + 1, m, nd, h1, h2, hk => by
  show bindC kindOf ((p, w) :: P.zip vs) m x = _
  unfold bindC
  exact UN (i := i) (List.nodup_cons.mp nd).2 (by simpa using h1) (by simpa using h2) hk
def start (N : List Str) (vs : List V) : St := vs.map some ++ List.replicate (N.length - vs.length) none
def cxOf (CX : CXT) (P : Program) (w : World) (K : PySem.W.Frag) (mg : Str -> Option Value) (base : Heap) (N : List Str) (qual : Str) (scope : Scope) (f : Addr) (cd : Value) (A : Around) (outer : List Env) (s : Shared) (H : Hp) (E : XK) : Cx where
 prog := P
 w := w
 K := K
 mg := mg
 base := base
 A := A.deeper (envOfC qual scope s.heap.objs.size f cd)
 N := N
 s₀ := s
 H₀ := H
 env := envOfC qual scope s.heap.objs.size f cd
 outer := outer
 stack := envOfC qual scope s.heap.objs.size f cd :: outer
 ex := []
 calm := true
 fn := fun _ => true
 pn := []
 xe := fun e s' => wpAny (model P w) (A.deeper (envOfC qual scope s.heap.objs.size f cd)) (leaving (envOfC qual scope s.heap.objs.size f cd) e) (fun _ s'' => CX outer H s E e s'') (fun e' s'' => CX outer H s E e' s'') s'
theorem QF {sc : Scope} {n : Nat} {x : Str} (h : sc.names.lookup x = some .cell) : ∃ c, (cellsFrom n sc.names []).lookup x = some c := by
 have q := PySem.W.cellsFrom_some sc.names n [] (.inl h)
 exact Option.isSome_iff_exists.mp q
theorem JD {CX : CXT} {P : Program} {w : World} {K : PySem.W.Frag} {mg : Str -> Option Value} {base : Heap} {N ps : List Str} {qual : Str} {scope : Scope} {f : Addr} {cd : Value} {A : Around} {outer : List Env} {s s1 : Shared} {H : Hp} {E : XK} {us : List Value} {vs : List V}
  (S : FnScope N ps scope) (hd : A.handled = none) (e0 : Env0 P w K mg base A outer s H) (hl : vs.length = ps.length) (r : Vals vs us)
  (x : InCallC s s.heap.objs.size (bindL (envOfC qual scope s.heap.objs.size f cd).kindOf (ps.zip us) fun _ => none) (cellsFrom (s.heap.objs.size + 1) scope.names []) (bindC (envOfC qual scope s.heap.objs.size f cd).kindOf (ps.zip us) fun _ => none) s1) :
  Inv (cxOf CX P w K mg base N qual scope f cd A outer s H E) [] (start N vs) H s1 := by
 have hpl : ps.length <= N.length := by have := congrArg List.length S.pre; rw [List.length_take] at this; omega
 obtain ⟨h1, tk, rfl, hk⟩ := x.done
 have noA : ∀ b : Addr, b ∉ (cxOf CX P w K mg base N qual scope f cd A outer s H E).ex := fun b z => absurd (show b ∈ ([] : List Addr) from z) (by simp)
 refine ⟨⟨e0.mod, S.kind, rfl, rfl, Nat.le_refl _, fun y z c h1 h2 => ?_, fun y hy => ?_, fun y c _ h => ?_, fun _ => hd, Around.frames_deeper e0.frames, .inr ⟨rfl, rfl⟩, fun b z => absurd z (noA b), e0.bs, e0.bsz, fun b _ _ => noA b, fun b z => absurd z (noA b), e0.funs, e0.frf⟩,
  rfl, e0.bare, Un.kept hk, ⟨_, x.toInCall.ns, fun i y v h1 h2 h3 => ?_⟩, fun y c h => ⟨_, x.cell y c h⟩, e0.hok.fresh (Nat.le_refl _), fun y c h => ?_, fun p hp => absurd (show p ∈ ([] : List (Addr × Obj)) from hp) (by simp), e0.hok.kept hk, ?_⟩
 ·exact name_of_addr x.apart (PySem.mem_of_lookup h1) (PySem.mem_of_lookup h2)
 ·have hy : scope.names.lookup y = some .cell \/ scope.names.lookup y = some .free := hy
  rcases hy with hy | hy
  ·exact QF hy
  ·exact absurd rfl (S.nofree _ (PySem.mem_of_lookup hy))
 ·exact Nat.le_of_lt (x.above y c (PySem.mem_of_lookup h))
 ·have hi : i < vs.length := by
   unfold start at h2
   by_cases hi : i < vs.length
   ·exact hi
   ·rw [List.getElem?_append_right (by simpa using hi)] at h2
    rw [List.getElem?_replicate] at h2
    split at h2 <;> cases h2
  have ha : vs[i]? = some v := by
   unfold start at h2
   rw [List.getElem?_append_left (by simpa using hi), List.getElem?_map] at h2
   cases e : vs[i]? with
   | none => rw [e] at h2; cases h2
   | some a => rw [e] at h2; cases h2; rfl
  obtain ⟨u, hu, rv⟩ := r.get ha
  have hp : ps[i]? = some y := by
   rw [<- S.pre, List.getElem?_take_of_lt (by omega)]; exact h1
  have ndP : ps.Nodup := by rw [<- S.pre]; exact S.nd.sublist (List.take_sublist _ _)
  refine ⟨u, rv, ?_⟩
  rcases S.par y (List.mem_of_getElem? hp) with k | k
  ·exact .inl ⟨k, UK ndP hp hu k⟩
  ·obtain ⟨c, e⟩ := QF (n := s.heap.objs.size + 1) k
   refine .inr ⟨.inl k, c, e, ?_⟩
   have q := x.cell y c e
   rw [UN ndP hp hu (by show scope.names.lookup y ≠ _; rw [k]; decide)] at q
   exact q
 ·exact e0.hok.fresh (Nat.le_of_lt (x.above y c (PySem.mem_of_lookup h)))
 ·unfold start
  show _ = N.length
  rw [List.length_append, List.length_map, List.length_replicate]
  omega
theorem fn_of {CX : CXT} {P : Program} {w : World} {K : PySem.W.Frag} {mg : Str -> Option Value} {base : Heap} {k : Nat} {f : Addr} {name qual : Str} {params : Arguments} {body : List Stmt} {scope : Scope} {dV kV doc pm cdv ct oc : Value} {an od : Option Addr}
  {osl : Array (Option Value)} {N ps : List Str} {sp : Sp} (lk : K.lookup f = some ⟨oc, od, .func (PySem.W.fnOf name qual params body scope dV kV doc pm an cdv ct), osl⟩) (hcd : PySem.W.codeIn K cdv qual = true) (S : FnScope N ps scope)
  (len : ∀ vs H Q E, sp vs H Q E -> vs.length = ps.length)
  (hbody : ∀ (A : Around) (outer : List Env) (s : Shared) (H : Hp) (vs : List V) (Q : VK) (E : XK), Room k (A.deeper (envOfC qual scope s.heap.objs.size f cdv)) -> sp vs H Q E ->
   ∃ t, PSs (cxOf CX P w K mg base N qual scope f cdv A outer s H E) body t /\ t { nx := fun _ H' => Q .non H', rt := Q } (start N vs) H) :
  FnOk P w K mg base CX (k + 1) f (PySem.W.fnOf name qual params body scope dV kV doc pm an cdv ct) ps sp := by
 refine ⟨len, fun A outer s H args us vs Q E hr e0 hb r hsp => ?_⟩
 have hl := len _ _ _ _ hsp
 have KX : K.In s.heap := e0.mod.kin.keeps fun b o e => (e0.bs b o e).1
 have lim : s.heap.NoLimit := e0.mod.nolimit.keeps fun b o e => (e0.bs b o e).1
 have hkind : ∀ y ∈ ps.zip us, scope.names.lookup y.1 = some .local \/ (scope.names.lookup y.1 = some .cell /\ ((cellsFrom (s.heap.objs.size + 1) scope.names []).lookup y.1).isSome = true) := fun ⟨n, v⟩ hy => by
  rcases S.par n (List.of_mem_zip hy).1 with q | q
  ·exact .inl q
  ·exact .inr ⟨q, PySem.W.cellsFrom_some _ _ _ (.inl q)⟩
 refine codeAny_call_function hr.depth (KX _ _ lk) rfl S.co S.gen rfl (PySem.W.codeRec_of KX hcd) (hb _ _ _ _ ?_)
 refine wpAny_newFunctionEnv_cells S.kind hkind fun env he s1 x => ?_
 subst he
 refine ⟨lim.keeps x.toInCall.keep, codeAny_func ?_⟩
 obtain ⟨t, ht, hq⟩ := hbody A outer s H vs Q E (hr.deeper _) hsp
 have I : Inv (cxOf CX P w K mg base N qual scope f cdv A outer s H E) [] (start N vs) H s1 := JD S hr.hd e0 hl r x
 refine wpAny_mono (ht [] s1 (start N vs) H _ I hq) (fun fl s' hs => ?_) fun e s' hs => hs
 have fin : ∀ {σ' : St} {H' : Hp} {v : V} {u : Value}, Inv (cxOf CX P w K mg base N qual scope f cdv A outer s H E) [] σ' H' s' -> RelV v u -> Q v H' -> CE outer P w H s Q u s' :=
  fun {σ' H' v u} J rv q => ⟨v, H', J.os, J.bare, J.base, J.hok, rv, q⟩
 cases fl with
 | ret u =>
  obtain ⟨v, σ', H', J, rv, q⟩ := hs
  exact fin J rv q
 | next =>
  obtain ⟨σ', H', J, q⟩ := hs
  exact fin (v := V.non) (u := Value.none) J rfl q
 | brk =>
  obtain ⟨_, _, _, q⟩ := hs
  exact False.elim q
 | cont =>
  obtain ⟨_, _, _, q⟩ := hs
  exact False.elim q
end L2
namespace L2
open PySem PySem.Spec PyProof.Rows
section
variable {X : Cx} {x : Str} {p pos : Pos} {e : Expr} {es : List Expr} {t : TA} {id T : String} {r : List V -> Hp -> VK -> Prop}
def tCB (r : List V -> Hp -> VK -> Prop) (t : TA) : TE := fun σ H Q => t σ H fun vs H1 => r vs H1 Q
theorem Wp (hc : Uc X (.builtin id) r) (hg : Gl X x) (hm : X.mg x = none) (hv : bootBuiltins x = some (.builtin id)) (ha : PA X (e :: es) t) (hn : x ≠ "__name__" := by decide) (hdb : (x == ("__debug__" : Str)) = false := by decide)
  (he : starEach (e :: es) X.env = (false, eval e X.env) :: starEach es X.env := by rfl) (hpl : (backTo pos (starEach es X.env)).any (·.1) = false := by rfl) : PE X (.Call (.Name x p) (e :: es) [] pos) (tCB r t) := by
 intro pins s σ H Q I h
 refine wpAny_Call_Name_kw (Qs I hg hm hv ?_ hn hdb)
 exact PyProof.Rows.callWith_builtin1 (thn (ha pos pins s σ H _ I h) fun us s1 ⟨vs, H1, I1, r1, q1⟩ => hc pins s1 σ H1 vs us Q I1 r1 q1) he hpl
theorem Um (hc : Uc X (.type T) r) (hg : Gl X x) (hm : X.mg x = none) (hv : bootBuiltins x = some (.type T)) (ha : PA X (e :: es) t) (hn : x ≠ "__name__" := by decide) (hdb : (x == ("__debug__" : Str)) = false := by decide)
  (he : starEach (e :: es) X.env = (false, eval e X.env) :: starEach es X.env := by rfl) (hpl : (backTo pos (starEach es X.env)).any (·.1) = false := by rfl) : PE X (.Call (.Name x p) (e :: es) [] pos) (tCB r t) := by
 intro pins s σ H Q I h
 refine wpAny_Call_Name_kw (Qs I hg hm hv ?_ hn hdb)
 exact PyProof.Rows.callWith_type1 (thn (ha pos pins s σ H _ I h) fun us s1 ⟨vs, H1, I1, r1, q1⟩ => hc pins s1 σ H1 vs us Q I1 r1 q1) he hpl
end
end L2
namespace HT
open PySem PyProof.Rows
def QV : List Int -> List Int -> Bool
 | [], [] => false
 | [], _ :: _ => true
 | _ :: _, [] => false
 | x :: xs, y :: ys => if x = y then QV xs ys else decide (x < y)
theorem lexLt_cons (x y : Int) (xs ys : List Int) : QV (x :: xs) (y :: ys) = if x = y then QV xs ys else decide (x < y) := rfl
theorem lexLt_nil_nil : QV [] [] = false := rfl
theorem lexLt_nil_cons (y : Int) (ys : List Int) : QV [] (y :: ys) = true := rfl
theorem lexLt_cons_nil (x : Int) (xs : List Int) : QV (x :: xs) [] = false := rfl
section
open PySem.SeqAt
open PySem.AutoSeq1 (wpAny_loadPart')
open PySem.MeetsSeq PySem.MeetsSeq2 PySem.MeetsSeq3
end
section
variable {prog : Program} {w : World} {A : Around} {E : Value -> Shared -> Prop} {s : Shared}
def sIx (n d : Nat) : Option Int -> Nat
 | none => d
 | some v => if v < 0 then (v + (n : Int)).toNat else min v.toNat n
theorem sIx_none (n d : Nat) : sIx n d none = d := rfl
end
end HT
namespace L2
open PySem PySem.Spec PyProof.Rows
def ixN (n : Nat) (i : Int) : Option Nat := if 0 <= i then (if i < n then some i.toNat else none) else if -(n : Int) <= i then some (i + n).toNat else none
def atI {α : Type} (xs : List α) (i : Int) : Option α := (ixN xs.length i).bind fun j => xs[j]?
theorem JA {n : Nat} {i : Int} {j : Nat} (h : ixN n i = some j) : seqIndex? i n = some j /\ j < n /\ -(n : Int) <= i /\ i < n := by
 unfold ixN at h
 by_cases h0 : 0 <= i
 ·rw [if_pos h0] at h
  by_cases h1 : i < n
  ·rw [if_pos h1] at h
   have e : i.toNat = j := Option.some.inj h
   exact ⟨by rw [seqIndex_of h0 h1, e], by omega, by omega, h1⟩
  ·rw [if_neg h1] at h; cases h
 ·rw [if_neg h0] at h
  by_cases h1 : -(n : Int) <= i
  ·rw [if_pos h1] at h
   have e : (i + n).toNat = j := Option.some.inj h
   exact ⟨by rw [seqIndex_neg (by omega) h1, e], by omega, h1, by omega⟩
  ·rw [if_neg h1] at h; cases h
theorem zad {α : Type} {xs : List α} {i : Int} {v : α} (h : atI xs i = some v) : ∃ j, seqIndex? i xs.length = some j /\ xs[j]? = some v /\ j < xs.length /\ -(xs.length : Int) <= i /\ i < xs.length := by
 unfold atI at h
 cases e : ixN xs.length i with
 | none => rw [e] at h; cases h
 | some j =>
  rw [e] at h
  obtain ⟨h1, h2, h3, h4⟩ := JA e
  exact ⟨j, h1, h, h2, h3, h4⟩
def zah (b : Expr) : Prop := ∀ o i, subscripted b false o i = operate [o, i] (getItem o i)
def IxR (X : Cx) (r : R2) : Prop :=
 ∀ (value slice : Expr) (pins : List (Addr × Obj)) (s : Shared) (σ : St) (H : Hp) (x y : V) (v u : Value) (Q : VK), Inv X pins σ H s -> RelV x v -> RelV y u -> r x y H Q ->
  subscripted slice false v u = operate [v, u] (getItem v u) -> wpAny (model X.prog X.w) X.A (subscriptTail value slice v u) (EP X pins σ Q) X.xe s
def MtR (X : Cx) (id : String) (r : V -> List V -> Hp -> VK -> Prop) : Prop :=
 ∀ (pins : List (Addr × Obj)) (s : Shared) (σ : St) (H : Hp) (x : V) (xs : List V) (v : Value) (us : List Value) (Q : VK), Inv X pins σ H s -> RelV x v -> Vals xs us -> r x xs H Q ->
  wpAny (model X.prog X.w) X.A (call (.builtin id) (v :: us)) (EP X pins σ Q) X.xe s
section
variable {X : Cx} {a b : Expr} {ta tb : TE} {pos : Pos}
theorem IxR.or {r r' : R2} (h : IxR X r) (h' : IxR X r') : IxR X (fun x y H Q => r x y H Q \/ r' x y H Q) := by
 intro value slice pins s σ H x y v u Q I rx ry q hs
 rcases q with q | q
 ·exact h value slice pins s σ H x y v u Q I rx ry q hs
 ·exact h' value slice pins s σ H x y v u Q I rx ry q hs
theorem pe_ix {r : R2} (hr : IxR X r) (ha : PE X a ta) (hb : PE X b tb) (hs : zah b) : PE X (.Subscript a b pos) (tOp r ta tb) := by
 intro pins s σ H Q I h
 exact Subscript_ (binT ha hb I h fun v u s2 x y H2 I2 rx ry q => hr a b pins s2 σ H2 x y v u Q I2 rx ry q (hs _ _))
def rIxL (K : PySem.W.Frag) : R2 := fun x y H Q => ∃ p xs i v, x = .ref p /\ y = .int i /\ SqL K H p xs /\ atI xs i = some v /\ Q v H
def rIxT (K : PySem.W.Frag) : R2 := fun x y H Q => ∃ p xs i v, x = .ref p /\ y = .int i /\ SqT K H p xs /\ atI xs i = some v /\ Q v H
theorem ix_list : IxR X (rIxL X.K) := by
 intro value slice pins s σ H x y v u Q I rx ry h hs
 obtain ⟨p, xs, i, z, rfl, rfl, hq, he, q⟩ := h
 cases rx
 obtain ⟨t, rfl⟩ := ry
 obtain ⟨its, r, pl, hz⟩ := I.list hq
 obtain ⟨j, h1, h2, h3, h4, h5⟩ := zad he
 obtain ⟨w, ew, rw'⟩ := r.get h2
 have hl := r.length
 have hn := Ut
 have fin : EP X pins σ Q w s := ⟨z, H, I, rw', q⟩
 by_cases h0 : 0 <= i
 ·have hj : i.toNat = j := by
   rw [seqIndex_of h0 h5] at h1
   exact Option.some.inj h1
  exact item_listR pl.isList h0 (by omega) (by rw [hj]; simpa using ew) fin hs
 ·have hj : (i + (its.toArray.size : Int)).toNat = j := by
   rw [seqIndex_neg (by omega) h4] at h1
   rw [List.size_toArray, <- hl]
   exact Option.some.inj h1
  exact subscriptTail_builtinR (x := w) pl.isList.typeIs slot_list_getitem.lookup
   (wpAny_getItem_list_neg (Q := fun r s' => r = w /\ EP X pins σ Q r s') pl.isList (by omega) (by rw [List.size_toArray] <;> omega) (by omega) (by rw [hj]; simpa using ew) ⟨rfl, fin⟩) hs
theorem ix_tup : IxR X (rIxT X.K) := by
 intro value slice pins s σ H x y v u Q I rx ry h hs
 obtain ⟨p, xs, i, z, rfl, rfl, hq, he, q⟩ := h
 cases rx
 obtain ⟨t, rfl⟩ := ry
 obtain ⟨its, r, pl, hz⟩ := I.tuple hq
 obtain ⟨j, h1, h2, h3, h4, h5⟩ := zad he
 obtain ⟨w, ew, rw'⟩ := r.get h2
 have hl := r.length
 have hn := Ut
 have fin : EP X pins σ Q w s := ⟨z, H, I, rw', q⟩
 exact subscriptTail_builtinR (x := w) pl.typeIs slot_tuple_getitem.lookup
  (getItem_tuple (j := j) (Q := fun r s' => r = w /\ EP X pins σ Q r s') pl (by omega) (by omega) (by rw [List.size_toArray, <- hl]; exact h1) (by simpa using ew) ⟨rfl, fin⟩) hs
theorem QU (its : List Value) (n j : Nat) (u : Value) : Obj.mapSeq (·.setIfInBounds j u) { cls := .type "list", data := .seq its.toArray n } = { cls := .type "list", data := .seq (its.set j u).toArray n } := by
 simp [Obj.mapSeq]
theorem Inv.lst {pins : List (Addr × Obj)} {σ : St} {H : Hp} {s : Shared} {p : Addr} {xs : List V} (I : Inv X pins σ H s) (h : H p = some (.lst xs)) :
  ∃ (its : List Value) (n : Nat), Vals xs its /\ s.heap.get? p = some { cls := .type "list", data := .seq its.toArray n } /\ xs.length <= sizeLine := by
 obtain ⟨z, its, n, r, e⟩ := I.hok p _ h
 exact ⟨its, n, r, e, z⟩
theorem Inv.lstUpd {pins : List (Addr × Obj)} {σ : St} {H : Hp} {s : Shared} {p : Addr} {xs ys : List V} {its its' : List Value} {n n' : Nat} {f : Obj -> Obj} (I : Inv X pins σ H s) (h : H p = some (.lst xs))
  (ho : s.heap.get? p = some { cls := .type "list", data := .seq its.toArray n }) (hf : f { cls := .type "list", data := .seq its.toArray n } = { cls := .type "list", data := .seq its'.toArray n' }) (r : Vals ys its') (hz : ys.length <= sizeLine) (t : Nat) :
  Inv X pins σ (upd H p (.lst ys)) { s with heap := s.heap.update p f, toks := t } := by
 have e : (s.heap.update p f).get? p = some { cls := .type "list", data := .seq its'.toArray n' } := by
  rw [Heap.get?_update_self f ho (by rw [hf] <;> rfl), hf]
 refine I.write (x := p) (e := p) (by rw [h]; trivial) (.inl rfl) (fun b u hb q => (Heap.get?_update_other _ _ (Ne.symm hb)).trans q) ⟨_, e⟩ ?_
 exact ⟨hz, its', n', r, e⟩
def rSetL : V -> V -> V -> Hp -> (Hp -> Prop) -> Prop := fun o i v H Q => ∃ p xs k j, o = .ref p /\ i = .int k /\ H p = some (.lst xs) /\ ixN xs.length k = some j /\ Q (upd H p (.lst (xs.set j v)))
theorem set_list : PSet X rSetL := by
 intro pins s σ H o i v ov iv u Q I ro ri rv h
 obtain ⟨p, xs, k, j, rfl, rfl, hp, hj, q⟩ := h
 cases ro
 obtain ⟨t, rfl⟩ := ri
 obtain ⟨its, n, r, ho, hz⟩ := I.lst hp
 obtain ⟨h1, h2, h3, h4⟩ := JA hj
 have hl := r.length
 have hn := Ut
 have I' : Inv X pins σ (upd H p (.lst (xs.set j v))) { s with heap := s.heap.update p (Obj.mapSeq (·.setIfInBounds j u)) } :=
  I.lstUpd hp ho (QU its n j u) (r.set rv j) (by rw [List.length_set]; exact hz) s.toks
 by_cases h0 : 0 <= k
 ·have hk : k.toNat = j := by
   rw [seqIndex_of h0 h4] at h1
   exact Option.some.inj h1
  exact PySem.W.ki_setAt ho h0 (by omega) (by rw [List.size_toArray, <- hl]; exact h4) (by rw [hk]; exact ⟨_, I', q⟩)
 ·have hk : (k + (its.toArray.size : Int)).toNat = j := by
   rw [seqIndex_neg (by omega) h3] at h1
   rw [List.size_toArray, <- hl]
   exact Option.some.inj h1
  exact PySem.W.ki_setBack ho (by omega) (by rw [List.size_toArray, <- hl]; exact h3) (by omega) (by rw [hk]; exact ⟨_, I', q⟩)
theorem UI : Uc X (.builtin "len") (fun xs H Q => ∃ p ys, xs = [.ref p] /\ (SqL X.K H p ys \/ SqT X.K H p ys) /\ Q (.int ys.length) H) := by
 intro pins s σ H xs us Q I r h
 obtain ⟨p, ys, rfl, hq, q⟩ := h
 obtain ⟨u, rfl, rx⟩ := Jb r
 cases rx
 have hn := Ut
 rcases hq with hq | hq
 ·obtain ⟨its, r', pl, hz⟩ := I.list hq
  have hlen := r'.length
  exact Calls.call_len_list pl.isList (by simp only [List.size_toArray] <;> omega) ⟨.int ys.length, H, I.tok _, ⟨s.toks + 1, by rw [List.size_toArray, hlen]⟩, q⟩
 ·obtain ⟨its, r', pl, hz⟩ := I.tuple hq
  have hlen := r'.length
  exact len_tuple pl (by simp only [List.size_toArray] <;> omega) ⟨.int ys.length, H, I.tok _, ⟨s.toks + 1, by rw [List.size_toArray, hlen]⟩, q⟩
theorem UH : Uc X (.type "list") (fun xs H Q => ∃ p ys, xs = [.ref p] /\ (SqL X.K H p ys \/ SqT X.K H p ys) /\ ∀ l, H l = none -> Q (.ref l) (upd H l (.lst ys))) := by
 intro pins s σ H xs us Q I r h
 obtain ⟨p, ys, rfl, hq, q⟩ := h
 obtain ⟨u, rfl, rx⟩ := Jb r
 cases rx
 have fin : ∀ (its : List Value), Vals ys its -> ys.length <= sizeLine -> ∀ (h' : Heap) (c' : Nat), (∀ b o', s.heap.get? b = some o' -> h'.get? b = some o') ->
   h'.get? s.heap.objs.size = some { cls := .type "list", dict := none, data := .seq its.toArray c', slots := #[] } -> EP X pins σ Q (.ref s.heap.objs.size) { s with heap := h' } := fun its r' hz h' c' kp e =>
  ⟨.ref s.heap.objs.size, _, I.laid (t' := s.toks) kp (Nat.le_refl _) (show X9 X.prog X.w _ h' _ (.lst ys) from ⟨hz, its, c', r', e⟩), rfl, q _ (I.hok.fresh (Nat.le_refl _))⟩
 rcases hq with hq | hq
 ·obtain ⟨its, r', pl, hz⟩ := I.list hq
  have hlen := r'.length
  obtain ⟨o, ho, hc, n, hd⟩ := pl.isList
  exact call_list_seq p (.inl rfl) ho hc hd (fun h' c' kp e => fin its r' hz h' c' kp e) (by simp only [List.size_toArray] <;> omega)
 ·obtain ⟨its, r', pl, hz⟩ := I.tuple hq
  have hlen := r'.length
  obtain ⟨o, ho, hc, n, hd⟩ := pl
  exact call_list_seq p (.inr rfl) ho hc hd (fun h' c' kp e => fin its r' hz h' c' kp e) (by simp only [List.size_toArray] <;> omega)
theorem Ua : Uc X (.type "tuple") (fun xs H Q => ∃ p ys, xs = [.ref p] /\ ((SqL X.K H p ys /\ ∀ l, H l = none -> Q (.ref l) (upd H l (.tup ys))) \/ (SqT X.K H p ys /\ Q (.ref p) H))) := by
 intro pins s σ H xs us Q I r h
 obtain ⟨p, ys, rfl, h⟩ := h
 obtain ⟨u, rfl, rx⟩ := Jb r
 cases rx
 rcases h with ⟨hq, q⟩ | ⟨hq, q⟩
 ·obtain ⟨its, r', pl, hz⟩ := I.list hq
  have hlen := r'.length
  refine call_tuple_list pl.isList (fun h' kp => ?_) (by simp only [List.size_toArray] <;> omega)
  have I1 : Inv X pins σ H { s with heap := h' } := I.kept (t' := s.toks) kp
  have I2 : Inv X pins σ (upd H h'.objs.size (.tup ys)) { s with heap := h'.push { cls := .type "tuple", data := .seq its.toArray } } :=
   I1.laid (t' := s.toks) (fun b o e => Heap.get?_push_of_some _ e) (Nat.le_refl _) (show X9 X.prog X.w _ _ _ (.tup ys) from ⟨hz, its, r', IsTup.new _ _⟩)
  exact ⟨.ref h'.objs.size, _, I2, rfl, q _ (I1.hok.fresh (Nat.le_refl _))⟩
 ·obtain ⟨its, r', pl, hz⟩ := I.tuple hq
  exact call_tuple_same pl ⟨.ref p, H, I, rfl, q⟩
def tyV (K : PySem.W.Frag) (T : String) (x : V) (H : Hp) : Prop := match x with
 | .str _ => T = "str"
 | .int _ => T = "int"
 | .ref p => (T = "list" /\ ∃ xs, SqL K H p xs) \/ (T = "tuple" /\ ∃ o, K.lookup p = some o /\ o.cls = .type "tuple" /\ o.dict = none) \/
   (T = "dict" /\ ((∃ kvs, H p = some (.dK kvs)) \/ ∃ kvs, H p = some (.dT kvs))) \/ (T = "set" /\ ∃ S n, H p = some (.set S n))
 | _ => False
theorem tyV_is {pins : List (Addr × Obj)} {σ : St} {H : Hp} {s : Shared} {T : String} {x : V} {v : Value} (I : Inv X pins σ H s) (r : RelV x v) (ty : tyV X.K T x H) :
  s.TypeIs v T /\ ∀ a, v = .ref a -> ∃ ob, s.heap.get? a = some ob /\ ob.dict = none := by
 cases x with
 | str z =>
  obtain ⟨t, rfl⟩ := r
  cases (show T = "str" from ty)
  exact ⟨typeIs_str s z t, fun _ e => nomatch e⟩
 | int i =>
  obtain ⟨t, rfl⟩ := r
  cases (show T = "int" from ty)
  exact ⟨typeIs_int s i t, fun _ e => nomatch e⟩
 | ref p =>
  cases r
  rcases ty with ⟨rfl, xs, hq⟩ | ⟨rfl, o, hk, hc, hd⟩ | ⟨rfl, hk⟩ | ⟨rfl, S, n, hk⟩
  ·obtain ⟨its, _, pl, _⟩ := I.list hq
   refine ⟨pl.isList.typeIs, fun a e => ?_⟩
   cases e
   obtain ⟨o, n, e, c, hd, _⟩ := pl
   exact ⟨o, e, hd⟩
  ·refine ⟨⟨o, I.kIn p o hk, hc⟩, fun a e => ?_⟩
   cases e
   exact ⟨o, I.kIn _ o hk, hd⟩
  ·have z : ∃ o, s.heap.get? p = some o /\ o.ExactDict := by
    rcases hk with ⟨kvs, hk⟩ | ⟨kvs, hk⟩
    ·obtain ⟨_, _, _, _, o, _, _, e, ex, _⟩ := I.hok p _ hk
     exact ⟨o, e, ex⟩
    ·obtain ⟨_, _, _, _, o, _, _, e, ex, _⟩ := I.hok p _ hk
     exact ⟨o, e, ex⟩
   obtain ⟨o, e, ex⟩ := z
   refine ⟨⟨o, e, ex.1⟩, fun a e2 => ?_⟩
   cases e2
   exact ⟨o, e, ex.2.1⟩
  ·obtain ⟨o, _, _, _, e, ex, _⟩ := I.hok p _ hk
   refine ⟨⟨o, e, ex.1⟩, fun a e2 => ?_⟩
   cases e2
   exact ⟨o, e, ex.2.1⟩
 | _ => exact False.elim ty
def tBM (K : PySem.W.Frag) (T : String) (r : V -> List V -> Hp -> VK -> Prop) (to : TE) (t : TA) : TE := fun σ H Q => to σ H fun x H1 => tyV K T x H1 /\ t σ H1 fun xs H2 => r x xs H2 Q
variable {o e : Expr} {es : List Expr} {to : TE} {t : TA} {name : Str} {apos cpos : Pos} {T id : String} {r : V -> List V -> Hp -> VK -> Prop}
theorem pe_bm (pa : PlainAttrs T) (slot : Slot T name id) (hty : typeOf (.builtin id) = pure (.type "method_descriptor")) (hm : MtR X id r) (ho : PE X o to) (ha : PA X (e :: es) t)
  (hbase : attributeBase o name X.env (eval o X.env) = eval o X.env := by rfl)
  (hfew : ((backTo cpos (starEach (e :: es) X.env)).all (fun x => !x.1) && (backToKw cpos (keywordEach [] X.env)).all (fun x => x.1.isSome)
   && decide ((e :: es).length + ([] : List Keyword).length + (if ([] : List Keyword).isEmpty then 0 else 1) < 30)) = true := by rfl)
  (hline : (apos.endLine == cpos.line) = true := by rfl) (hs : starEach (e :: es) X.env = (false, eval e X.env) :: starEach es X.env := by rfl) (hplain : (backTo cpos (starEach es X.env)).any (·.1) = false := by rfl) :
  PE X (.Call (.Attribute o name apos) (e :: es) [] cpos) (tBM X.K T r to t) := by
 intro pins s σ H Q I h
 refine wpAny_Call_method_late hbase hfew hline rfl (thn (ho pins s σ H _ I h) fun v s1 ⟨x, H1, I1, r1, ty, q1⟩ => ?_)
 obtain ⟨h1, h2⟩ := tyV_is I1 r1 ty
 refine ⟨T, id, pa, slot, hty, h1, h2, ?_⟩
 have hA := ha cpos pins s1 σ H1 _ I1 q1
 rw [hs] at hA ⊢
 refine Calls.callWith_builtin (by show (false || (backTo cpos (starEach es X.env)).any (·.1)) = false; rw [hplain] <;> rfl) (Calls.evalArgs_plain ?_)
 exact thn hA fun us s2 ⟨vs, H2, I2, r2, q2⟩ => hm pins s2 σ H2 x vs v us Q I2 r1 r2 q2
end
end L2
namespace L2
open PySem PySem.Spec PyProof.Rows
def MtM (X : Cx) (id : String) (r : V -> List V -> Hp -> VK -> Prop) : Prop :=
 ∀ (pins : List (Addr × Obj)) (s : Shared) (σ : St) (H : Hp) (x : V) (xs : List V) (v : Value) (us : List Value) (Q : VK), Inv X pins σ H s -> RelV x v -> Vals xs us -> r x xs H Q ->
  wpAny (model X.prog X.w) X.A (call (.builtin id) (v :: us)) (EP X pins σ Q) X.xe s
theorem Vals.one : ∀ {x : V} {us : List Value}, Vals [x] us -> ∃ u, us = [u] /\ RelV x u
 | _, _, .cons r .nil => ⟨_, rfl, r⟩
section
variable {X : Cx} {pins : List (Addr × Obj)} {σ : St} {H : Hp} {s : Shared} {l b : Addr} {xs ys zs : List V}
theorem Inv.lset {its its' : List Value} {n : Nat} {f : Array Value -> Array Value} {t' : Nat} (I : Inv X pins σ H s) (hH : H l = some (.lst xs))
  (e : s.heap.get? l = some { cls := .type "list", data := .seq its.toArray n }) (hf : f its.toArray = its'.toArray) (hv : Vals ys its') (hz : ys.length <= sizeLine) :
  Inv X pins σ (upd H l (.lst ys)) { s with heap := s.heap.update l (Obj.mapSeq f), toks := t' } := by
 have q := PySem.IsL.update e f
 rw [hf] at q
 refine I.write (x := l) (e := l) (by rw [hH]; exact trivial) (.inl rfl) (fun b' u hb hu => (Heap.get?_update_other s.heap (Obj.mapSeq f) (Ne.symm hb)).trans hu) ⟨_, q⟩ ?_
 exact ⟨hz, its', _, hv, q⟩
theorem Inv.lnew {its : List Value} {t' : Nat} (I : Inv X pins σ H s) (hv : Vals ys its) (hz : ys.length <= sizeLine) :
  Inv X pins σ (upd H s.heap.objs.size (.lst ys)) { s with heap := s.heap.push { cls := .type "list", data := .seq its.toArray }, toks := t' } :=
 I.laid (fun _ _ q => Heap.get?_push_of_some _ q) (Nat.le_refl _) ⟨hz, its, 0, hv, Heap.get?_push_size _ rfl⟩
theorem Inv.fresh (I : Inv X pins σ H s) : H s.heap.objs.size = none := I.hok.fresh (Nat.le_refl _)
theorem Inv.lstM (I : Inv X pins σ H s) (hH : H l = some (.lst xs)) : xs.length <= sizeLine /\ ∃ (its : List Value) (n : Nat), Vals xs its /\ xs.length = its.length /\ s.heap.get? l = some { cls := .type "list", data := .seq its.toArray n } := by
 obtain ⟨z, its, n, r, e⟩ := I.hok l _ hH
 exact ⟨z, its, n, r, r.length, e⟩
end
section
variable {X : Cx}
def rAppend : V -> List V -> Hp -> VK -> Prop := fun x vs H Q => ∃ l xs y, x = .ref l /\ vs = [y] /\ H l = some (.lst xs) /\ xs.length < sizeLine /\ Q .non (upd H l (.lst (xs ++ [y])))
theorem Us : MtM X "list.append" rAppend := by
 intro pins s σ H x vs v us Q I rx rv h
 obtain ⟨l, xs, y, rfl, rfl, hH, hz, q⟩ := h
 cases rx
 obtain ⟨u, rfl, ru⟩ := rv.one
 obtain ⟨z, its, n, r, hl, e⟩ := I.lstM hH
 refine call_meets F.slot_list_append ⟨_, e, rfl⟩ F.entry_list_append (F.args_list_append_2 _ _) (PySem.list_append l its.toArray n u (by rw [List.size_toArray]; omega)) ⟨e, ?_⟩
 refine ⟨.non, _, I.lset (its' := its ++ [u]) hH e (by simp) (r.append (.cons ru .nil)) ?_, rfl, q⟩
 rw [List.length_append, List.length_singleton]
 omega
end
end L2
namespace Att
open PySem PySem.W PySem.Calls PyProof.Rows
theorem Vf {P : Params} {h : Heap} : ∀ (ns : List Int) (vs : List Value), WellAll P h vs (ns.map WData.int) -> IntsAre vs ns := by
 intro ns
 induction ns with
 | nil =>
  intro vs w
  rw [List.map_nil] at w
  cases w
  exact .nil
 | cons n ns ih =>
  intro vs w
  rw [List.map_cons] at w
  cases w with
  | cons a b =>
   cases a
   exact .cons _ _ (ih _ b)
theorem Jf {l : OpenLaw} {n : Nat} (hn : l.most = some n) {P : Params} {h : Heap} {args : List WData} {vals : List Value}
  (hpre : l.row.toRowW.claim.pre args = true) (hwl : WellAll P h vals args) :
  ∃ a vs ns, vals = [Value.ref a] /\ args = [WData.list (ns.map WData.int)] /\ h.get? a = some { cls := .type "list", data := .seq vs.toArray } /\ IntsAre vs ns /\ ns.length <= n := by
 have hsh : WShape.hasAll [] args [.list .int] = true := (pre_splitW hpre).1
 have hc : l.pre.holds [] { args := args } = true := (pre_splitW hpre).2
 obtain ⟨d, r, rfl, h1, h2⟩ := hasAllW_cons hsh
 obtain rfl := hasAllW_nil h2
 obtain ⟨xs, rfl, h3⟩ := hasW_list h1
 obtain ⟨ns, rfl⟩ := items_int h3
 have hlen : ns.length <= n := by
  unfold OpenLaw.pre at hc
  have h4 : (WTm.not (.lt (.lit (.int (n : Int))) (.len (.arg 0)))).holds [] { args := [.list (ns.map .int)] } = true := by
   have h4 := (holds_andW hc).1
   rw [hn] at h4
   exact h4
  have h5 := condW_of h4 (w_not (w_lt w_lit (w_len_list (w_arg rfl))))
  rw [List.length_map] at h5
  refine Nat.le_of_not_lt fun q => ?_
  have q' : (n : Int) < ((ns.length : Nat) : Int) := by omega
  first
   | (rw [decide_eq_true q'] at h5; exact absurd h5 (by decide))
   | (simp at h5; omega)
 cases hwl with
 | cons w1 w2 =>
  cases w2
  cases w1 with
  | list ho hall => exact ⟨_, _, ns, rfl, rfl, ho, Vf ns _ hall, hlen⟩
theorem Jn (l : OpenLaw) (args : List WData) : l.row.toRowW.claim.post args (.bool true) args = true :=
 postW_of (r := l.row.toRowW) (X := (true == true))
  (show WShape.has [] (.bool true) .bool = true by first | rfl | decide | simp [WShape.has, WShape.arms, WShape.armsAll])
  (show (WTm.eq .res (.lit (.bool true))).value [] { args := args, res := some (.bool true), after := args } = some (.bool (true == true)) from w_eq_bool (w_res rfl) w_lit) rfl
theorem attach_call {l : OpenLaw} {n : Nat} {q : Program} {loose : List Str} {XP : (Str -> Option Value) -> Heap -> Prop} {YP : World -> Heap -> Prop} {d : DefRec}
  (hn : l.most = some n) (hdf : d.params.defaults = [])
  (call : ∀ (w : World) (s₀ s₁ : Shared) (mg mb : Str -> Option Value) (fa : Addr) (o : Obj) (pm cd doc : Value) (a : Addr) (vs : List Value) (ns : List Int),
   Ground q loose [] XP w s₀ mg mb s₁.heap -> YP w s₁.heap ->
   s₁.heap.get? fa = some o -> o.data = .func (docDef d.name d.params d.body d.scope pm cd doc) -> s₁.heap.CodeRec cd d.name -> mg d.name = some (.ref fa) ->
   s₁.heap.get? a = some { cls := .type "list", data := .seq vs.toArray } -> IntsAre vs ns -> ns.length <= n -> s₁.gens = #[] ->
   codeAny (model l.prog w) callerA (.call (.ref fa) ⟨[.ref a], []⟩) (fun r s' => r = .ok (.ret (.bool true)) /\ OldK s₁.heap s'.heap /\ s'.os = s₁.os /\ AllBare s'.gens) s₁) :
  WalkO q loose XP YP l.row.toRowW d [] (fun f vs => PySem.call f vs) := by
 intro w s₀ s₁ mg mb G Y fa o pm cd doc dV kV ho hd hcd hD hmg hg args vals as hpre hlay hrd hwl hlo
 obtain rfl : dV = .none := Dflts.none hD hdf
 obtain rfl : kV = .none := Dflts.noKw hD
 obtain ⟨a, vs, ns, rfl, rfl, hobj, hints, hlen⟩ := Jf hn hpre hwl
 refine enter_call (codeAny_mono (call w s₀ s₁ mg mb fa o pm cd doc a vs ns G Y ho (fd_plain hd) hcd hmg hobj hints hlen hg) fun r s' hq => ?_)
 obtain ⟨rfl, h2, h3, h4⟩ := hq
 exact ⟨.inl ⟨.bool true, .bool true, [], rfl, fun _ => rfl, .bool true, Jn l _, fun _ => ⟨List.Pairwise.nil, fun _ hm => (nomatch hm)⟩⟩, h2, h3, h4⟩
end Att
namespace L2
open PySem PySem.Spec PyProof.Rows
theorem Ud : ∀ {vs : List Value} {ns : List Int}, IntsAre vs ns -> Vals (ns.map V.int) vs
 | _, _, .nil => .nil
 | _, _, .cons n t h => .cons ⟨t, rfl⟩ (Ud h)
end L2
namespace L2
open PySem PySem.Spec PyProof.Rows
def Zs (s : Stmt) : Arguments := match s with
 | .FunctionDef _ a _ _ _ _ _ _ _ _ => a
 | _ => { posonlyargs := [], args := [], vararg := none, kwonlyargs := [], kw_defaults := [], kwarg := none, defaults := [] }
def Zp (s : Stmt) : List Stmt := match s with
 | .FunctionDef _ _ b _ _ _ _ _ _ _ => b
 | _ => []
def Ze (s : Stmt) : Scope := match s with
 | .FunctionDef _ _ _ _ _ _ sc _ _ _ => sc
 | _ => { kind := .function, names := [], isGenerator := false, isCoroutine := false }
abbrev CX0 : CXT := fun _ _ _ _ _ _ => False
structure Fun (K : PySem.W.Frag) (x qual : Str) (st : Stmt) (f : Addr) (fd : FuncData) : Prop where
 ex : ∃ (oc : Value) (od : Option Addr) (kV doc pm : Value) (an : Option Addr) (cdv ct : Value) (osl : Array (Option Value)),
  fd = PySem.W.fnOf x qual (Zs st) (Zp st) (Ze st) .none kV doc pm an cdv ct /\ K.lookup f = some ⟨oc, od, .func fd, osl⟩ /\ PySem.W.codeIn K cdv qual = true
 kp : PySem.W.keepIn K (.ref f) = true
section
variable {P : Program} {w : World} {K : PySem.W.Frag} {mg : Str -> Option Value} {base : Heap}
theorem Fun.ok {x qual : Str} {st : Stmt} {f : Addr} {fd : FuncData} {N ps : List Str} {k : Nat} {sp : Sp} (F : Fun K x qual st f fd) (S : FnScope N ps (Ze st)) (len : ∀ vs H Q E, sp vs H Q E -> vs.length = ps.length)
  (hbody : ∀ (cdv : Value) (A : Around) (outer : List Env) (s : Shared) (H : Hp) (vs : List V) (Q : VK) (E : XK), Room k (A.deeper (envOfC qual (Ze st) s.heap.objs.size f cdv)) -> sp vs H Q E ->
   ∃ t, PSs (cxOf CX0 P w K mg base N qual (Ze st) f cdv A outer s H E).nox (Zp st) t /\ t { nx := fun _ H' => Q .non H', rt := Q } (start N vs) H) : FnOk P w K mg base CX0 (k + 1) f fd ps sp := by
 obtain ⟨oc, od, kV, doc, pm, an, cdv, ct, osl, rfl, lk, hcd⟩ := F.ex
 refine fn_of lk hcd S len fun A outer s H vs Q E hr hsp => ?_
 obtain ⟨t, h, q⟩ := hbody cdv A outer s H vs Q E hr hsp
 exact ⟨t, h.nox, q⟩
theorem Fun.binds {x qual : Str} {st : Stmt} {f : Addr} {fd : FuncData} {ps : List Str} (F : Fun K x qual st f fd)
  (h : ∀ (kV doc pm : Value) (an : Option Addr) (cdv ct : Value) (us : List Value), us.length = ps.length -> bindArgs (PySem.W.fnOf x qual (Zs st) (Zp st) (Ze st) .none kV doc pm an cdv ct) ⟨us, []⟩ = pure (ps.zip us)) : Z6 K fd ps [] := by
 obtain ⟨oc, od, kV, doc, pm, an, cdv, ct, osl, rfl, lk, hcd⟩ := F.ex
 exact .all (h kV doc pm an cdv ct)
theorem ZU {x qual : Str} {st : Stmt} {f : Addr} {oc : Value} {od an : Option Addr} {osl : Array (Option Value)} {kV doc pm cdv ct : Value} (l : K.lookup f = some ⟨oc, od, .func (PySem.W.fnOf x qual (Zs st) (Zp st) (Ze st) .none kV doc pm an cdv ct), osl⟩)
  (c : PySem.W.codeIn K cdv qual = true) (k : PySem.W.keepIn K (.ref f) = true) : Fun K x qual st f (PySem.W.fnOf x qual (Zs st) (Zp st) (Ze st) .none kV doc pm an cdv ct) := ⟨⟨oc, od, kV, doc, pm, an, cdv, ct, osl, rfl, l, c⟩, k⟩
end
theorem iteF {A B : Prop} (h : B) : if false = true then A else B := by
 rw [if_neg Bool.false_ne_true]
 exact h
theorem iteT {A B : Prop} (h : A) : if true = true then A else B := by
 rw [if_pos rfl]
 exact h
end L2
namespace Fx
open PySem
inductive Sl where
 | emp | val (t : PyData) | own (xs : List PyData)
inductive Res (α : Type) where
 | ok (a : α) | exc (c : Str) | stuck
def Res.bind {α β : Type} (r : Res α) (f : α -> Res β) : Res β :=
 match r with
 | .ok a => f a
 | .exc c => .exc c
 | .stuck => .stuck
@[simp] theorem Res.bind_ok {α β : Type} (a : α) (f : α -> Res β) : Res.bind (.ok a) f = f a := rfl
@[simp] theorem Res.bind_exc {α β : Type} (c : Str) (f : α -> Res β) : Res.bind (.exc c) f = .exc c := rfl
@[simp] theorem Res.bind_stuck {α β : Type} (f : α -> Res β) : Res.bind .stuck f = .stuck := rfl
abbrev DE := List Sl -> Res PyData
abbrev DT := List Sl -> Res Bool
abbrev DA := List Sl -> Res (List PyData)
inductive Out where
 | nx (G : List Sl) | rt (t : PyData) | bk (G : List Sl) | ct (G : List Sl)
abbrev DS := List Sl -> Res Out
abbrev DF := List PyData -> Res PyData
@[simp] def frz1 (G : List Sl) (i : Nat) : List Sl :=
 match G[i]? with
 | some (.own xs) => G.set i (.val (.list xs))
 | _ => G
@[simp] def frz (is : List Nat) (G : List Sl) : List Sl := is.foldl frz1 G
@[simp] def frzA : List Sl -> List Sl
 | [] => []
 | .own xs :: r => .val (.list xs) :: frzA r
 | .emp :: r => .emp :: frzA r
 | .val t :: r => .val t :: frzA r
@[simp] def frzS : Sl -> Sl
 | .own xs => .val (.list xs)
 | .emp => .emp
 | .val t => .val t
@[simp] theorem frzA_cons (s : Sl) (G : List Sl) : frzA (s :: G) = frzS s :: frzA G := by cases s <;> simp
mutual
def Yy : PyData -> Bool
 | .none | .bool _ | .int _ | .str _ => true
 | .tuple xs => Xw xs
 | .list _ => false
 | .dict _ => false
def Xw : List PyData -> Bool
 | [] => true
 | x :: xs => Yy x && Xw xs
end
@[simp] theorem scalT_tuple (xs : List PyData) : Yy (.tuple xs) = Xw xs := by simp [Yy]
@[simp] theorem scalT_dict (xs : List (PyData × PyData)) : Yy (.dict xs) = false := by simp [Yy]
@[simp] theorem scalT_list (xs : List PyData) : Yy (.list xs) = false := by simp [Yy]
@[simp] theorem Uh (x : PyData) (xs : List PyData) : Xw (x :: xs) = (Yy x && Xw xs) := by simp [Xw]
@[simp] def dC (t : PyData) : DE := fun _ => .ok t
@[simp] def dVar (i : Nat) : DE := fun G => match G[i]? with
 | some (.val t) => .ok t
 | _ => .stuck
@[simp] def d1 (f : PyData -> Res PyData) (a : DE) : DE := fun G => (a G).bind f
@[simp] def d2 (f : PyData -> PyData -> Res PyData) (a b : DE) : DE := fun G => (a G).bind fun x => (b G).bind fun y => f x y
@[simp] def dNil : DA := fun _ => .ok []
@[simp] def Zc (a : DE) (r : DA) : DA := fun G => (a G).bind fun x => (r G).bind fun xs => .ok (x :: xs)
@[simp] def lenOk (xs : List PyData) : Bool := decide (xs.length <= 16777216)
@[simp] def dTup (a : DA) : DE := fun G => (a G).bind fun xs => if lenOk xs then .ok (.tuple xs) else .stuck
@[simp] def dLst (a : DA) : DE := fun G => (a G).bind fun xs => if lenOk xs then .ok (.list xs) else .stuck
@[simp] def Zr (f : DF) (a : DA) : DE := fun G => (a G).bind f
@[simp] def JZ (a b : DE) : DE := fun G => (a G).bind fun x => match x with
 | .bool k => if k then b G else .ok (.bool false)
 | _ => .stuck
@[simp] def dNotV (a : DE) : DE := fun G => (a G).bind fun x => match x with
 | .bool k => .ok (.bool (!k))
 | _ => .stuck
def WY (i j : Int) : Bool := decide (i.natAbs.log2 + j.natAbs.log2 + 2 <= 134217728) || decide (i.natAbs < 18446744073709551616) || decide (j.natAbs < 18446744073709551616)
def U7 (j : Int) : Bool := decide (j ≠ 0) && decide (j.natAbs.log2 < 9000)
@[simp] def fAdd : PyData -> PyData -> Res PyData
 | .int i, .int j => .ok (.int (i + j))
 | .list xs, .list ys => if xs.length + ys.length <= 16777216 then .ok (.list (xs ++ ys)) else .stuck
 | _, _ => .stuck
@[simp] def fSub : PyData -> PyData -> Res PyData
 | .int i, .int j => .ok (.int (i - j))
 | _, _ => .stuck
@[simp] def fMul : PyData -> PyData -> Res PyData
 | .int i, .int j => if WY i j then .ok (.int (i * j)) else .stuck
 | _, _ => .stuck
@[simp] def fDiv : PyData -> PyData -> Res PyData
 | .int i, .int j => if U7 j then .ok (.int (i.fdiv j)) else .stuck
 | _, _ => .stuck
@[simp] def fMod : PyData -> PyData -> Res PyData
 | .int i, .int j => if j = 0 then .stuck else .ok (.int (i.fmod j))
 | _, _ => .stuck
@[simp] def fPow : PyData -> PyData -> Res PyData
 | .int i, .int j => if 0 <= j /\ j <= 1000000 /\ i.natAbs < 2 ^ 64 then .ok (.int (i ^ j.toNat)) else .stuck
 | _, _ => .stuck
@[simp] def fNeg : PyData -> Res PyData
 | .int i => .ok (.int (-i))
 | _ => .stuck
@[simp] def fLt : PyData -> PyData -> Res PyData
 | .int i, .int j => .ok (.bool (decide (i < j)))
 | _, _ => .stuck
@[simp] def fLe : PyData -> PyData -> Res PyData
 | .int i, .int j => .ok (.bool (decide (i <= j)))
 | _, _ => .stuck
@[simp] def fGt : PyData -> PyData -> Res PyData
 | .int i, .int j => .ok (.bool (decide (j < i)))
 | _, _ => .stuck
@[simp] def fGe : PyData -> PyData -> Res PyData
 | .int i, .int j => .ok (.bool (decide (j <= i)))
 | _, _ => .stuck
def Y5 (d : PyData) : Bool := d.canLay0 && decide (d.depth <= 64)
def fEq : PyData -> PyData -> Res PyData
 | .int i, .int j => .ok (.bool (decide (i = j)))
 | x, y => if Y5 x && Y5 y then .ok (.bool (x.eqv y)) else .stuck
def fNe : PyData -> PyData -> Res PyData
 | .int i, .int j => .ok (.bool (!decide (i = j)))
 | x, y => if Y5 x && Y5 y then .ok (.bool (!x.eqv y)) else .stuck
@[simp] def fLen : PyData -> Res PyData
 | .list xs => .ok (.int xs.length)
 | .tuple xs => .ok (.int xs.length)
 | _ => .stuck
@[simp] def fAbs : PyData -> Res PyData
 | .int i => .ok (.int (if i < 0 then -i else i))
 | _ => .stuck
def ixP (n : Nat) (i : Int) : Option Nat := if 0 <= i then (if i < n then some i.toNat else none) else if -(n : Int) <= i then some (i + n).toNat else none
def atP (xs : List PyData) (i : Int) : Option PyData := (ixP xs.length i).bind fun j => xs[j]?
@[simp] def ofO {α : Type} : Option α -> Res α
 | some a => .ok a
 | none => .stuck
@[simp] def fIx : PyData -> PyData -> Res PyData
 | .list xs, .int i => ofO (atP xs i)
 | .tuple xs, .int i => ofO (atP xs i)
 | _, _ => .stuck
@[simp] def isInt : PyData -> Bool
 | .int _ => true
 | .bool _ => true
 | _ => false
@[simp] def isBool : PyData -> Bool
 | .bool _ => true
 | _ => false
@[simp] def U2 : PyData -> Bool
 | .tuple _ => true
 | _ => false
@[simp] def isList : PyData -> Bool
 | .list _ => true
 | _ => false
@[simp] def fIs (p : PyData -> Bool) : PyData -> Res PyData
 | .dict _ => .stuck
 | .none => .ok (.bool (p .none))
 | .bool b => .ok (.bool (p (.bool b)))
 | .int b => .ok (.bool (p (.int b)))
 | .str b => .ok (.bool (p (.str b)))
 | .list b => .ok (.bool (p (.list b)))
 | .tuple b => .ok (.bool (p (.tuple b)))
@[simp] def fIsX : PyData -> Res PyData
 | .dict [] => .ok (.bool true)
 | _ => .stuck
@[simp] def fList : PyData -> Res (List PyData)
 | .list xs => .ok xs
 | .tuple xs => .ok xs
 | _ => .stuck
@[simp] def Uz : PyData -> Res PyData
 | .list xs => .ok (.tuple xs)
 | .tuple xs => .ok (.tuple xs)
 | _ => .stuck
@[simp] def truth : PyData -> Res Bool
 | .none => .ok false
 | .bool b => .ok b
 | .int i => .ok (i != 0)
 | .list xs => .ok (!xs.isEmpty)
 | .tuple xs => .ok (!xs.isEmpty)
 | _ => .stuck
@[simp] def tV (a : DE) : DT := fun G => (a G).bind truth
@[simp] def tOr (a b : DT) : DT := fun G => (a G).bind fun k => if k then .ok true else b G
@[simp] def tNot (a : DT) : DT := fun G => (a G).bind fun k => .ok (!k)
@[simp] def dSeq (a b : DS) : DS := fun G => (a G).bind fun o => match o with
 | .nx G' => b G'
 | .rt t => .ok (.rt t)
 | .bk G' => .ok (.bk G')
 | .ct G' => .ok (.ct G')
@[simp] def Z1 : DS := fun G => .ok (.nx G)
@[simp] def dNev : DS := fun _ => .stuck
@[simp] def Xv (c : Str) (a : DA) : DS := fun G => (a (frzA G)).bind fun _ => .exc c
def dSet (i : Nat) (is : List Nat) (e : DE) : DS := fun G => (e (frz is G)).bind fun t => .ok (.nx ((if Yy t then G else frz is G).set i (.val t)))
@[simp] theorem dSet_nil (i : Nat) (e : DE) (G : List Sl) : dSet i [] e G = (e G).bind fun t => .ok (.nx (G.set i (.val t))) := by
 unfold dSet
 show (e G).bind _ = _
 congr 1
 funext t
 show Res.ok (Out.nx ((if Yy t = true then G else G).set i (.val t))) = _
 rw [ite_self]
@[simp] theorem dSet_cons (i j : Nat) (is : List Nat) (e : DE) (G : List Sl) : dSet i (j :: is) e G = (e (frz (j :: is) G)).bind fun t => .ok (.nx ((if Yy t then G else frz (j :: is) G).set i (.val t))) := rfl
@[simp] def Qg (i : Nat) (is : List Nat) (e : DA) : DS := fun G => (e (frz is G)).bind fun xs => if i < G.length then .ok (.nx ((frz is G).set i (.own xs))) else .stuck
@[simp] def dRet (e : DE) : DS := fun G => (e (frzA G)).bind fun t => .ok (.rt t)
@[simp] def dIf (c : DT) (a b : DS) : DS := fun G => (c (frzA G)).bind fun k => if k then a G else b G
@[simp] def X6 (e : DE) : DS := fun G => (e (frzA G)).bind fun _ => .ok (.nx G)
@[simp] def UO (i : Nat) (G' : List Sl) (t : PyData) : Res Out :=
 match G'[i]? with
 | some (.own xs) => if xs.length < 16777216 then .ok (.nx (G'.set i (.own (xs ++ [t])))) else .stuck
 | _ => .stuck
@[simp] def V5 (G : List Sl) (i : Nat) : Bool := match G[i]? with
 | some (.own _) => true
 | _ => false
def dApp (i : Nat) (is : List Nat) (e : DE) : DS := fun G => if V5 G i then (e (frz is G)).bind fun t => UO i (if Yy t then G else frz is G) t else .stuck
@[simp] theorem dApp_nil (i : Nat) (e : DE) (G : List Sl) : dApp i [] e G = if V5 G i then (e G).bind fun t => UO i G t else .stuck := by
 unfold dApp
 congr 1
 show (e G).bind _ = _
 congr 1
 funext t
 show UO i (if Yy t = true then G else G) t = _
 rw [ite_self]
@[simp] theorem dApp_cons (i j : Nat) (is : List Nat) (e : DE) (G : List Sl) : dApp i (j :: is) e G = if V5 G i then (e (frz (j :: is) G)).bind fun t => UO i (if Yy t then G else frz (j :: is) G) t else .stuck := rfl
def forL (st : PyData -> List Sl -> Res (List Sl)) (b : DS) : List PyData -> List Sl -> Res Out
 | [], G => .ok (.nx G)
 | t :: ts, G => (st t G).bind fun G1 => (b G1).bind fun o => match o with
  | .nx G' => forL st b ts G'
  | .ct G' => forL st b ts G'
  | .bk G' => .ok (.nx G')
  | .rt t => .ok (.rt t)
@[simp] def dFor (st : PyData -> List Sl -> Res (List Sl)) (is : List Nat) (it : DA) (b : DS) : DS := fun G => (it (frz is G)).bind fun ts => forL st b ts (frz is G)
@[simp] def YU (i : Nat) : PyData -> List Sl -> Res (List Sl) := fun t G => .ok (G.set i (.val t))
def Wa (c : DT) (b : DS) : Nat -> List Sl -> Res Out
 | 0, _ => .stuck
 | n + 1, G => (c (frzA G)).bind fun k => if k then (b G).bind fun o => match o with
   | .nx G' => Wa c b n G'
   | .ct G' => Wa c b n G'
   | .bk G' => .ok (.nx G')
   | .rt t => .ok (.rt t)
  else .ok (.nx G)
@[simp] def JY (fuel : List Sl -> Nat) (c : DT) (b : DS) : DS := fun G => Wa c b (fuel G) G
@[simp] def noX {α : Type} : Res α -> Res α
 | .ok a => .ok a
 | _ => .stuck
@[simp] def VO (f : DF) (a : DA) : DE := fun G => (noX (a G)).bind f
@[simp] def dTryA (i : Nat) (b : DS) (sub : Str -> Bool) (h : DS) : DS := fun G => match b G with
 | .exc c => if sub c then (noX (h (G.set i (.val (.dict []))))).bind fun o => match o with
  | .nx G' => .ok (.nx (G'.set i .emp))
  | .rt t => .ok (.rt t)
  | _ => .stuck
  else .stuck
 | .ok o => .ok o
 | .stuck => .stuck
def runF (n np : Nat) (b : DS) : DF := fun ts => if ts.length = np then (b (ts.map .val ++ List.replicate (n - np) .emp)).bind fun o => match o with
  | .rt t => .ok t
  | .nx _ => .ok .none
  | _ => .stuck
 else .stuck
theorem Wq {α : Type} (r : Res α) : (∃ a, noX r = .ok a) \/ noX r = .stuck := by
 cases r
 ·exact .inl ⟨_, rfl⟩
 ·exact .inr rfl
 ·exact .inr rfl
theorem Jw {α : Type} {r : Res α} {a : α} (h : noX r = .ok a) : r = .ok a := by
 cases r <;> simp at h
 rw [h]
def runQ (n np : Nat) (b : DS) : DF := fun ts => noX (runF n np b ts)
theorem runQ_nox (n np : Nat) (b : DS) (ts : List PyData) (c : Str) : runQ n np b ts ≠ .exc c := by
 unfold runQ
 cases runF n np b ts <;> simp
def rngT (lo : Int) (n : Nat) : List PyData := (List.range n).map fun (k : Nat) => .int (lo + (k : Int))
def rngOk (j : Int) : Bool := decide (j.natAbs <= 1000000000000)
theorem Wo {n : Nat} (h : n <= 1000000000) : rngOk (n : Int) = true := by
 unfold rngOk
 exact decide_eq_true (by omega)
theorem Qn {j : Int} (h : rngOk j = true) : -(2 ^ 62) <= j /\ j < 2 ^ 62 := by
 have h' : j.natAbs <= 1000000000000 := of_decide_eq_true h
 omega
@[simp] def iRng (a : DE) : DA := fun G => (a G).bind fun x => match x with
 | .int j => if rngOk j = true then .ok (rngT 0 j.toNat) else .stuck
 | _ => .stuck
theorem fLt_b : ∀ x y, (∃ k, fLt x y = .ok (.bool k)) \/ fLt x y = .stuck := by intro x y; cases x <;> cases y <;> simp
theorem fGt_b : ∀ x y, (∃ k, fGt x y = .ok (.bool k)) \/ fGt x y = .stuck := by intro x y; cases x <;> cases y <;> simp
theorem fGe_b : ∀ x y, (∃ k, fGe x y = .ok (.bool k)) \/ fGe x y = .stuck := by intro x y; cases x <;> cases y <;> simp
theorem fEq_b : ∀ x y, (∃ k, fEq x y = .ok (.bool k)) \/ fEq x y = .stuck := by
 intro x y
 unfold fEq
 split
 ·exact .inl ⟨_, rfl⟩
 ·split
  ·exact .inl ⟨_, rfl⟩
  ·exact .inr rfl
theorem fNe_b : ∀ x y, (∃ k, fNe x y = .ok (.bool k)) \/ fNe x y = .stuck := by
 intro x y
 unfold fNe
 split
 ·exact .inl ⟨_, rfl⟩
 ·split
  ·exact .inl ⟨_, rfl⟩
  ·exact .inr rfl
@[simp] def iSeq (a : DE) : DA := fun G => (a G).bind fun x => match x with
 | .list xs => .ok xs
 | .tuple xs => .ok xs
 | _ => .stuck
@[simp] def capS (cap : List Nat) (G : List Sl) : List Sl := cap.map fun i => match (G[i]? : Option Sl) with
 | some (.val t) => .val t
 | _ => .emp
def Yv (st : PyData -> List Sl -> Res (List Sl)) (c : DT) (e : DE) (C : List Sl) : List PyData -> Res (List PyData)
 | [] => .ok []
 | t :: ts => (noX (st t C)).bind fun G1 => (c G1).bind fun k => if k then (e G1).bind fun y => (Yv st c e C ts).bind fun ys => .ok (y :: ys) else Yv st c e C ts
@[simp] def X7 (nv : Nat) (cap : List Nat) (st : PyData -> List Sl -> Res (List Sl)) (it : DA) (c : DT) (e : DE) : DA := fun G => (it G).bind fun ts => if ts.length <= 16777216 then Yv st c e (List.replicate nv .emp ++ capS cap G) ts else .stuck
@[simp] def tT : DT := fun _ => .ok true
@[simp] def subs (l : List Str) (c : Str) : Bool := l.contains c
@[simp] def dL (a : DA) : DE := fun G => (a G).bind fun xs => .ok (.list xs)
@[simp] def oLst (a : DA) : DA := fun G => (a G).bind fun xs => if lenOk xs then .ok xs else .stuck
@[simp] def oList (a : DE) : DA := fun G => (a G).bind fList
def allT : List PyData -> Res Bool
 | [] => .ok true
 | .bool k :: r => (allT r).bind fun m => .ok (k && m)
 | _ => .stuck
theorem zae : ∀ {xs : List PyData} {k : Bool}, allT xs = .ok k -> ∃ bs : List Bool, xs = bs.map .bool /\ k = bs.all id
 | [], k, h => by simp [allT] at h; exact ⟨[], rfl, by simp [<- h]⟩
 | x :: r, k, h => by
  cases x with
  | bool b =>
   simp only [allT] at h
   cases e : allT r with
   | ok m =>
    rw [e] at h
    simp at h
    obtain ⟨bs, h1, h2⟩ := zae e
    exact ⟨b :: bs, by simp [h1], by simp [<- h, h2]⟩
   | exc c => rw [e] at h; cases h
   | stuck => rw [e] at h; cases h
  | none => simp [allT] at h
  | int _ => simp [allT] at h
  | str _ => simp [allT] at h
  | list _ => simp [allT] at h
  | tuple _ => simp [allT] at h
  | dict _ => simp [allT] at h
theorem QH : ∀ (xs : List PyData) (c : Str), allT xs ≠ .exc c
 | [], c => by simp [allT]
 | x :: r, c => by
  cases x with
  | bool b =>
   simp only [allT]
   cases e : allT r with
   | ok m => simp
   | exc c' => exact absurd e (QH r c')
   | stuck => simp
  | none => simp [allT]
  | int _ => simp [allT]
  | str _ => simp [allT]
  | list _ => simp [allT]
  | tuple _ => simp [allT]
  | dict _ => simp [allT]
@[simp] def fAll : PyData -> Res PyData
 | .list xs => (allT xs).bind fun k => .ok (.bool k)
 | _ => .stuck
@[simp] def Wm (i : Nat) (G' : List Sl) (t kt : PyData) : Res Out :=
 match G'[i]?, kt with
 | some (.own xs), .int j => match ixP xs.length j with
  | some m => .ok (.nx (G'.set i (.own (xs.set m t))))
  | none => .stuck
 | _, _ => .stuck
def Vo (i : Nat) (is : List Nat) (k e : DE) : DS := fun G => (e (frz is G)).bind fun t => if V5 (if Yy t then G else frz is G) i then (k (frz is G)).bind fun kt => Wm i (if Yy t then G else frz is G) t kt else .stuck
@[simp] theorem dSetIt_nil (i : Nat) (k e : DE) (G : List Sl) : Vo i [] k e G = (e G).bind fun t => if V5 G i then (k G).bind fun kt => Wm i G t kt else .stuck := by
 unfold Vo
 show (e G).bind _ = _
 congr 1
 funext t
 show (if V5 (if Yy t = true then G else G) i = true then (k G).bind fun kt => Wm i (if Yy t = true then G else G) t kt else .stuck) = _
 rw [ite_self]
@[simp] theorem dSetIt_cons (i j : Nat) (is : List Nat) (k e : DE) (G : List Sl) : Vo i (j :: is) k e G = (e (frz (j :: is) G)).bind fun t => if V5 (if Yy t then G else frz (j :: is) G) i then (k (frz (j :: is) G)).bind fun kt => Wm i (if Yy t then G else frz (j :: is) G) t kt else .stuck := rfl
theorem Jj {i : Nat} : ∀ t G c, YU i t G ≠ .exc c := by intro t G c; simp
def Qh (nv : Nat) (st : PyData -> List Sl -> Res (List Sl)) : Prop := ∀ t G G1, st t G = .ok G1 -> G1.length = G.length /\ ∀ i, nv <= i -> G1[i]? = G[i]?
theorem YH {nv i : Nat} (h : i < nv) : Qh nv (YU i) := by
 intro t G G1 e
 simp at e
 subst e
 refine ⟨by simp, fun j hj => ?_⟩
 rw [List.getElem?_set_ne (by omega)]
end Fx
namespace Fx
open PySem
theorem mulOk_r {i j : Int} (hj : j.natAbs < 18446744073709551616) : WY i j = true := by
 simp only [WY, Bool.or_eq_true, decide_eq_true_eq]
 exact .inr hj
theorem Jx {i j : Int} (hi : i.natAbs < 18446744073709551616) : WY i j = true := by
 simp only [WY, Bool.or_eq_true, decide_eq_true_eq]
 exact .inl (.inr hi)
def fr (q : Rat) : PyData := .tuple [.int q.num, .int (q.den : Int)]
theorem U5 (q : Rat) : Int.gcd q.num q.den = 1 := q.reduced
def uGcd : List Sl -> Nat := fun G => match (G[1]? : Option Sl) with
 | some (.val (.int b)) => b.natAbs + 1
 | _ => 0
def gcdC : DT := tV (d2 fNe (dVar 1) (dC (.int 0)))
def gcdB : DS := dSeq (dSet 2 [] (d2 fMod (dVar 0) (dVar 1))) (dSeq (dSet 0 [] (dVar 1)) (dSet 1 [] (dVar 2)))
theorem gcd_step {a b : Int} (ha : 0 <= a) (hb : 0 <= b) : Int.gcd b (a % b) = Int.gcd a b := by
 obtain ⟨m, rfl⟩ := Int.eq_ofNat_of_zero_le ha
 obtain ⟨n, rfl⟩ := Int.eq_ofNat_of_zero_le hb
 rw [<- Int.natCast_emod, Int.gcd_natCast_natCast, Int.gcd_natCast_natCast, Nat.gcd_comm n, <- Nat.gcd_rec, Nat.gcd_comm]
theorem Qv : ∀ (n : Nat) (a b : Int) (s : Sl), 0 <= a -> 0 <= b -> b.natAbs < n ->
  ∃ s', Wa gcdC gcdB n [.val (.int a), .val (.int b), s] = .ok (.nx [.val (.int (Int.gcd a b)), .val (.int 0), s'])
 | 0, a, b, s, ha, hb, h => by omega
 | n + 1, a, b, s, ha, hb, h => by
  unfold Wa
  by_cases hz : b = 0
  ·subst hz
   refine ⟨s, ?_⟩
   simp [gcdC, fNe, Int.natAbs_of_nonneg ha]
  ·have hf : Int.fmod a b = a % b := Int.fmod_eq_emod_of_nonneg a hb
   have h1 : 0 <= a % b := Int.emod_nonneg a hz
   have h2 : a % b < b := Int.emod_lt_of_pos a (by omega)
   obtain ⟨s', e⟩ := Qv n b (a % b) (.val (.int (a % b))) hb h1 (by omega)
   refine ⟨s', ?_⟩
   rw [gcd_step ha hb] at e
   simpa [gcdC, gcdB, fNe, hz, hf] using e
def dGcd : DS := dSeq (dSet 0 [] (d1 fAbs (dVar 0))) (dSeq (dSet 1 [] (d1 fAbs (dVar 1))) (dSeq (JY uGcd gcdC gcdB) (dRet (dVar 0))))
theorem abs_if (a : Int) : (if a < 0 then -a else a) = (a.natAbs : Int) := by split <;> omega
theorem gcd_ok (a b : Int) : runF 3 2 dGcd [.int a, .int b] = .ok (.int (Int.gcd a b)) := by
 obtain ⟨s', e⟩ := Qv (b.natAbs + 1) a.natAbs b.natAbs .emp (Int.natCast_nonneg _) (Int.natCast_nonneg _) (by simp)
 have g : Int.gcd (a.natAbs : Int) (b.natAbs : Int) = Int.gcd a b := by simp [Int.gcd]
 rw [g] at e
 simp [runF, dGcd, abs_if, uGcd, e]
end Fx
namespace Fx
open PySem
theorem Qw {st : PyData -> List Sl -> Res (List Sl)} {b : DS} (Inv : Nat -> List Sl -> Prop) : ∀ (ts : List PyData) (k : Nat) (G : List Sl), Inv k G ->
  (∀ i t G, ts[i]? = some t -> Inv (k + i) G -> ∃ G1, st t G = .ok G1 /\ ∃ G2, (b G1 = .ok (.nx G2) \/ b G1 = .ok (.ct G2)) /\ Inv (k + i + 1) G2) ->
  ∃ G', forL st b ts G = .ok (.nx G') /\ Inv (k + ts.length) G'
 | [], k, G, h0, _ => ⟨G, rfl, h0⟩
 | t :: ts, k, G, h0, hs => by
  obtain ⟨G1, e1, G2, e2, h2⟩ := hs 0 t G rfl h0
  obtain ⟨G', e3, h3⟩ := Qw Inv ts (k + 1) G2 h2 fun i t' G' ht hi => by
   have := hs (i + 1) t' G' (by simpa using ht) (by rw [<- Nat.add_assoc, Nat.add_right_comm]; exact hi)
   simpa [Nat.add_assoc, Nat.add_comm, Nat.add_left_comm] using this
  refine ⟨G', ?_, by simpa [Nat.add_assoc, Nat.add_comm, Nat.add_left_comm] using h3⟩
  rw [forL, e1, Res.bind_ok]
  rcases e2 with e2 | e2 <;> rw [e2, Res.bind_ok] <;> exact e3
theorem W3 (lo : Int) (n : Nat) : (rngT lo n).length = n := by simp [rngT]
theorem rngT_at {lo : Int} {n i : Nat} {t : PyData} (h : (rngT lo n)[i]? = some t) : i < n /\ t = .int (lo + (i : Int)) := by
 unfold rngT at h
 rw [List.getElem?_map] at h
 by_cases hi : i < n
 ·rw [List.getElem?_eq_getElem (by simpa using hi)] at h
  simp at h
  exact ⟨hi, h.symm⟩
 ·rw [List.getElem?_eq_none (by simpa using hi)] at h
  cases h
theorem for_rng {st : PyData -> List Sl -> Res (List Sl)} {b : DS} {n : Nat} {G : List Sl} (Inv : Nat -> List Sl -> Prop) (h0 : Inv 0 G)
  (hs : ∀ i G, i < n -> Inv i G -> ∃ G1, st (.int (i : Int)) G = .ok G1 /\ ∃ G2, (b G1 = .ok (.nx G2) \/ b G1 = .ok (.ct G2)) /\ Inv (i + 1) G2) :
  ∃ G', forL st b (rngT 0 n) G = .ok (.nx G') /\ Inv n G' := by
 obtain ⟨G', e, h⟩ := Qw Inv (rngT 0 n) 0 G h0 fun i t G ht hi => by
  obtain ⟨hl, rfl⟩ := rngT_at ht
  simpa using hs i G hl (by simpa using hi)
 refine ⟨G', e, ?_⟩
 rw [W3] at h
 simpa using h
theorem X4 {α : Type} {st : PyData -> List Sl -> Res (List Sl)} {e : DE} {C : List Sl} (inj f : α -> PyData) : ∀ (xs : List α), (∀ x ∈ xs, ∃ G1, st (inj x) C = .ok G1 /\ e G1 = .ok (f x)) -> Yv st tT e C (xs.map inj) = .ok (xs.map f)
 | [], _ => rfl
 | t :: ts, h => by
  obtain ⟨G1, e1, e2⟩ := h t List.mem_cons_self
  have ih := X4 inj f ts fun t' ht => h t' (List.mem_cons_of_mem _ ht)
  rw [List.map_cons]
  unfold Yv
  simp [e1, e2, ih]
theorem VU (n : Nat) : rngT 0 n = (List.range n).map fun (k : Nat) => PyData.int (k : Int) := by simp [rngT]
mutual
theorem eqv_refl : ∀ (t : PyData), t.canLay0 = true -> t.eqv t = true
 | .none, _ => by simp [PyData.eqv]
 | .bool b, _ => by simp [PyData.eqv]
 | .int i, _ => by simp [PyData.eqv]
 | .str x, _ => by simp [PyData.eqv]
 | .list xs, h => by simp only [PyData.eqv]; exact Wj xs (by simpa [PyData.canLay0] using h)
 | .tuple xs, h => by simp only [PyData.eqv]; exact Wj xs (by simpa [PyData.canLay0] using h)
 | .dict _, h => by simp [PyData.canLay0] at h
theorem Wj : ∀ (ts : List PyData), PyData.canLayAll0 ts = true -> PyData.eqvAll ts ts = true
 | [], _ => by simp [PyData.eqvAll]
 | t :: ts, h => by
  simp only [PyData.canLayAll0, Bool.and_eq_true] at h
  simp [PyData.eqvAll, eqv_refl t h.1, Wj ts h.2]
end
end Fx
namespace Lw
open PySem Fx
abbrev Wk : List Sl -> Nat := uGcd
def VM : DS :=
  (dRet (JZ (d1 (fIs isInt) (dVar 0)) (dNotV (d1 (fIs isBool) (dVar 0)))))
def Zq : DF := runQ 1 1 VM
def Ww : DS :=
  (dRet (dVar 0))
def Wx : DS :=
  dSeq (JY Wk (tV (d2 fNe (dVar 1) (dC (.int 0))))
  (dSeq (dSet 2 [] (d2 fMod (dVar 0) (dVar 1)))
  (dSeq (dSet 0 [] (dVar 1))
  (dSet 1 [] (dVar 2)))))
  Ww
def Wy : DS :=
  dSeq (dSet 1 [] (d1 fAbs (dVar 1)))
  Wx
def W0 : DS :=
  dSeq (dSet 0 [] (d1 fAbs (dVar 0)))
  Wy
def Yj : DF := runQ 3 2 W0
def Z9 : DS :=
  (dRet (JZ (d2 fGe (d2 fIx (dVar 0) (dC (.int 1))) (dC (.int 1))) (d2 fEq (Zr Yj (Zc (d2 fIx (dVar 0) (dC (.int 0))) (Zc (d2 fIx (dVar 0) (dC (.int 1))) dNil))) (dC (.int 1)))))
def ZW : DS :=
  dSeq (dIf (tOr (tNot (tV (Zr Zq (Zc (d2 fIx (dVar 0) (dC (.int 0))) dNil)))) (tNot (tV (Zr Zq (Zc (d2 fIx (dVar 0) (dC (.int 1))) dNil)))))
  (dRet (dC (.bool false)))
  Z1)
  Z9
def ZK : DS :=
  dSeq (dIf (tOr (tNot (tV (d1 (fIs U2) (dVar 0)))) (tV (d2 fNe (d1 fLen (dVar 0)) (dC (.int 2)))))
  (dRet (dC (.bool false)))
  Z1)
  ZW
def Zo : DF := runQ 1 1 ZK
def Vl : DS :=
  (dRet (JZ (Zr Zq (Zc (dVar 0) dNil)) (d2 fLe (d1 fAbs (dVar 0)) (dC (.int 999999999999)))))
def Yk : DF := runQ 1 1 Vl
def Y8 : DS :=
  (dRet (d2 fAdd (d2 fMul (d2 fIx (dVar 0) (d2 fMod (dVar 1) (d1 fLen (dVar 0)))) (dC (.int 31))) (dVar 1)))
def Ys : DS :=
  dSeq (dIf (tV (d2 fEq (dVar 0) (dLst dNil)))
  (dRet (dC (.int 0)))
  Z1)
  Y8
def YV : DS :=
  dSeq (dIf (tV (d2 fLt (dVar 1) (d1 fLen (dVar 0))))
  (dRet (d2 fIx (dVar 0) (dVar 1)))
  Z1)
  Ys
def Zi : DF := runQ 2 2 YV
def Xn : DS :=
  (dRet (dVar 2))
def Xo : DS :=
  dSeq (dIf (tV (d2 fGt (dVar 2) (dVar 1)))
  (dRet (d2 fSub (d2 fSub (dVar 2) (d2 fMul (dC (.int 2)) (dVar 1))) (dC (.int 1))))
  Z1)
  Xn
def XN : DS :=
  dSeq (dSet 2 [] (d2 fMod (dVar 0) (d2 fAdd (d2 fMul (dC (.int 2)) (dVar 1)) (dC (.int 1)))))
  Xo
def ZE : DF := runQ 3 2 XN
def WQ : DS :=
  (dRet (dTup (Zc (dVar 1) (Zc (dVar 4) dNil))))
def WR : DS :=
  dSeq (dFor (YU 5) [] (iRng (dVar 2))
  (dSeq (dSet 6 [] (d2 fAdd (dC (.int 8)) (d2 fMul (dVar 5) (d2 fAdd (dVar 1) (dC (.int 1))))))
  (dSeq (dSet 7 [] (dL (X7 1 [0, 6, 3] (YU 0) (iRng (dVar 1)) tT (Zr ZE (Zc (Zr Zi (Zc (dVar 1) (Zc (d2 fAdd (dVar 2) (dVar 0)) dNil))) (Zc (dVar 3) dNil))))))
  (dSeq (dSet 8 [] (Zr ZE (Zc (Zr Zi (Zc (dVar 0) (Zc (d2 fAdd (dVar 6) (dVar 1)) dNil))) (Zc (dVar 3) dNil))))
  (dSeq (dIf (tV (d2 fEq (d2 fMod (Zr Zi (Zc (dVar 0) (Zc (dC (.int 4)) dNil))) (dC (.int 2))) (dC (.int 1))))
  (dSet 8 [] (d1 fAbs (dVar 8)))
  Z1)
  (dApp 4 [] (dTup (Zc (dVar 7) (Zc (dVar 8) dNil)))))))))
  WQ
def XQ : DS :=
  dSeq (Qg 4 [] (oLst dNil))
  WR
def Xg : DS :=
  dSeq (dIf (tV (d2 fGt (dVar 3) (dC (.int 9))))
  (dSeq (dSet 1 [] (d2 fAdd (dC (.int 1)) (d2 fMod (dVar 1) (dC (.int 2)))))
  (dSet 2 [] (d2 fMod (dVar 2) (dC (.int 4)))))
  Z1)
  XQ
def YK : DS :=
  dSeq (dIf (tV (d2 fEq (d2 fMod (Zr Zi (Zc (dVar 0) (Zc (dC (.int 3)) dNil))) (dC (.int 6))) (dC (.int 5))))
  (dSeq (dSet 1 [] (dC (.int 4)))
  (dSeq (dSet 2 [] (dC (.int 10)))
  (dSet 3 [] (dC (.int 2)))))
  Z1)
  Xg
def WS : DS :=
  dSeq (dSet 3 [] (d2 fIx (dLst (Zc (dC (.int 3)) (Zc (dC (.int 3)) (Zc (dC (.int 9)) (Zc (d2 fSub (d2 fPow (dC (.int 10)) (dC (.int 12))) (dC (.int 1))) dNil))))) (d2 fMod (Zr Zi (Zc (dVar 0) (Zc (dC (.int 2)) dNil))) (dC (.int 4)))))
  YK
def WT : DS :=
  dSeq (dSet 2 [] (d2 fMod (Zr Zi (Zc (dVar 0) (Zc (dC (.int 1)) dNil))) (dC (.int 6))))
  WS
def VL : DS :=
  dSeq (dSet 1 [] (d2 fAdd (dC (.int 1)) (d2 fMod (Zr Zi (Zc (dVar 0) (Zc (dC (.int 0)) dNil))) (dC (.int 3)))))
  WT
def Y4 : DF := runQ 9 1 VL
def WU : DS :=
  (dRet (dL (X7 1 [] (YU 0) (iSeq (dVar 0)) tT (dTup (Zc (dL (oList (d2 fIx (dVar 0) (dC (.int 0))))) (Zc (d2 fIx (dVar 0) (dC (.int 1))) dNil))))))
def YI : DF := runQ 1 1 WU
end Lw
namespace Lw
open PySem Fx
theorem cd_ok (a b : Int) : Yj [.int a, .int b] = .ok (.int (Int.gcd a b)) := by show noX (runF 3 2 dGcd [.int a, .int b]) = _; rw [gcd_ok]; rfl
theorem at0 (x y : PyData) : atP [x, y] 0 = some x := rfl
theorem at1 (x y : PyData) : atP [x, y] 1 = some y := rfl
theorem at_lt {ns : List Int} {k : Int} (h0 : 0 <= k) (h : k < ns.length) : ∃ c : Int, atP (ns.map .int) k = some (.int c) := by
 have hk : k.toNat < ns.length := by omega
 refine ⟨ns[k.toNat], ?_⟩
 simp [atP, ixP, h0, h, hk]
theorem Vb : ∀ ns : List Int, Y5 (.list (ns.map .int)) = true := by
 intro ns
 have h1 : ∀ ns : List Int, PyData.canLayAll0 (ns.map .int) = true := by
  intro ns
  induction ns with
  | nil => simp [PyData.canLayAll0]
  | cons n ns ih => simp [PyData.canLayAll0, PyData.canLay0, ih]
 have h2 : ∀ ns : List Int, PyData.depthAll (ns.map .int) = 0 := by
  intro ns
  induction ns with
  | nil => simp [PyData.depthAll]
  | cons n ns ih => simp [PyData.depthAll, PyData.depth, ih]
 simp [Y5, PyData.canLay0, PyData.depth, h1, h2]
theorem eqv_nil (ns : List Int) : PyData.eqv (.list (ns.map .int)) (.list []) = ns.isEmpty := by
 cases ns <;> simp [PyData.eqv, PyData.eqvAll]
theorem VA : Y5 (.list []) = true := Vb []
theorem XB (ns : List Int) (k : Int) (h0 : 0 <= k) : ∃ c : Int, Zi [.list (ns.map .int), .int k] = .ok (.int c) := by
 by_cases h : k < ns.length
 ·obtain ⟨c, e⟩ := at_lt h0 h
  exact ⟨c, by simp [Zi, runQ, runF, YV, Ys, Y8, h, e]⟩
 ·by_cases hz : ns = []
  ·subst hz
   exact ⟨0, by
    have z := VA
    have hk : ¬ k < 0 := by omega
    simp [Zi, runQ, runF, YV, Ys, fEq, z, hk, PyData.eqv, PyData.eqvAll]⟩
  ·have hl : (0 : Int) < ns.length := by
    have : ns.length ≠ 0 := by simpa using hz
    omega
   have hf : Int.fmod k ns.length = k % ns.length := Int.fmod_eq_emod_of_nonneg _ (by omega)
   obtain ⟨c, e⟩ := at_lt (ns := ns) (k := k % ns.length) (Int.emod_nonneg _ (by omega)) (Int.emod_lt_of_pos _ hl)
   have hE : ns.isEmpty = false := by simpa using hz
   have o : WY c 31 = true := mulOk_r (by decide)
   refine ⟨c * 31 + k, ?_⟩
   simp [Zi, runQ, runF, YV, Ys, Y8, h, fEq, Vb, VA, eqv_nil, hE, hz, hf, e, o]
theorem Ur (c w : Int) (hw : 0 <= w) (hs : w.natAbs < 2 ^ 67) : ∃ r : Int, ZE [.int c, .int w] = .ok (.int r) /\ -w <= r /\ r <= w := by
 have o : WY 2 w = true := Jx (by decide)
 have hm : 2 * w + 1 ≠ 0 := by omega
 have hf : Int.fmod c (2 * w + 1) = c % (2 * w + 1) := Int.fmod_eq_emod_of_nonneg _ (by omega)
 have h1 : 0 <= c % (2 * w + 1) := Int.emod_nonneg _ hm
 have h2 : c % (2 * w + 1) < 2 * w + 1 := Int.emod_lt_of_pos _ (by omega)
 by_cases h : w < c % (2 * w + 1)
 ·refine ⟨c % (2 * w + 1) - 2 * w - 1, ?_, by omega, by omega⟩
  simp [ZE, runQ, runF, XN, Xo, Xn, o, hm, hf, h]
 ·refine ⟨c % (2 * w + 1), ?_, by omega, by omega⟩
  simp [ZE, runQ, runF, XN, Xo, Xn, o, hm, hf, h]
@[simp] def noD : PyData -> Bool
 | .dict _ => false
 | _ => true
theorem YT (t : PyData) (h : noD t = true) : Zq [t] = .ok (.bool (match t with | .int _ => true | _ => false)) := by
 cases t <;> simp [Zq, runQ, runF, VM] at h ⊢
theorem Yg (i : Int) : Zq [.int i] = .ok (.bool true) := YT (.int i) rfl
theorem JB (q : Rat) : Zo [fr q] = .ok (.bool true) := by
 have hd : (1 : Int) <= (q.den : Int) := by have := q.den_nz; omega
 simp [Zo, runQ, runF, ZK, ZW, Z9, fr, at0, at1, Yg, cd_ok, hd, fNe, fEq, U5]
theorem fr_int (w : Int) : (PyData.tuple [.int w, .int 1]) = fr (w : Rat) := by simp [fr]
end Lw
namespace Lw
open PySem Fx
abbrev Lim := List Int × Int
def limL (l : Lim) : PyData := .tuple [.list (l.1.map .int), .int l.2]
def limT (l : Lim) : PyData := .tuple [.tuple (l.1.map .int), .int l.2]
structure DeskOk (k w : Nat) (ls : List Lim) : Prop where
 k1 : 1 <= k
 k4 : k <= 4
 len : ls.length <= 10
 ws : ∀ l ∈ ls, l.1.length = k /\ (∀ x ∈ l.1, x.natAbs <= w) /\ l.2.natAbs <= w
 small : (k = 4 /\ ls.length = 10 /\ w = 2) \/ (k <= 3 /\ ls.length <= 5 /\ w <= 9) \/ (k <= 2 /\ ls.length <= 3 /\ w = 999999999999)
theorem Yx {c : Int} {n : Nat} (h : 0 < n) : ∃ r : Nat, Int.fmod c (n : Int) = (r : Int) /\ r < n := by
 rw [Int.fmod_eq_emod_of_nonneg _ (by omega)]
 have h1 := Int.emod_nonneg c (b := (n : Int)) (by omega)
 have h2 := Int.emod_lt_of_pos c (b := (n : Int)) (by omega)
 exact ⟨(c % n).toNat, by omega, by omega⟩
def Q7 : DS := (dSeq (dSet 6 [] (d2 fAdd (dC (.int 8)) (d2 fMul (dVar 5) (d2 fAdd (dVar 1) (dC (.int 1))))))
  (dSeq (dSet 7 [] (dL (X7 1 [0, 6, 3] (YU 0) (iRng (dVar 1)) tT (Zr ZE (Zc (Zr Zi (Zc (dVar 1) (Zc (d2 fAdd (dVar 2) (dVar 0)) dNil))) (Zc (dVar 3) dNil))))))
  (dSeq (dSet 8 [] (Zr ZE (Zc (Zr Zi (Zc (dVar 0) (Zc (d2 fAdd (dVar 6) (dVar 1)) dNil))) (Zc (dVar 3) dNil))))
  (dSeq (dIf (tV (d2 fEq (d2 fMod (Zr Zi (Zc (dVar 0) (Zc (dC (.int 4)) dNil))) (dC (.int 2))) (dC (.int 1))))
  (dSet 8 [] (d1 fAbs (dVar 8)))
  Z1)
  (dApp 4 [] (dTup (Zc (dVar 7) (Zc (dVar 8) dNil))))))))
theorem UF (ns : List Int) (at_ w : Nat) (hw : w <= 999999999999) : ∀ (ks : List Nat), ∃ rs : List Int, Yv (YU 0) tT (Zr ZE (Zc (Zr Zi (Zc (dVar 1) (Zc (d2 fAdd (dVar 2) (dVar 0)) dNil))) (Zc (dVar 3) dNil)))
  [.emp, .val (.list (ns.map .int)), .val (.int at_), .val (.int w)] (ks.map fun (k : Nat) => PyData.int (k : Int)) = .ok (rs.map .int) /\ rs.length = ks.length /\ ∀ x ∈ rs, x.natAbs <= w
 | [] => ⟨[], rfl, rfl, by simp⟩
 | k :: ks => by
  obtain ⟨rs, e, hl, hb⟩ := UF ns at_ w hw ks
  obtain ⟨c, e1⟩ := XB ns ((at_ : Int) + (k : Int)) (by omega)
  obtain ⟨r, e2, h1, h2⟩ := Ur c w (by omega) (by omega)
  refine ⟨r :: rs, ?_, by simp [hl], ?_⟩
  ·rw [List.map_cons]
   unfold Yv
   simp [e1, e2, e]
  ·intro x hx
   rcases List.mem_cons.mp hx with rfl | hx
   ·omega
   ·exact hb x hx
theorem JM (ns : List Int) (k many w i : Nat) (hk : 1 <= k /\ k <= 4) (hi : i < 100) (hw : w <= 999999999999) (xs : List PyData) (hx : xs.length < 100) (s6 s7 s8 : Sl) : ∃ (l : Lim) (s6' s7' s8' : Sl), (l.1.length = k /\ (∀ x ∈ l.1, x.natAbs <= w) /\ l.2.natAbs <= w) /\
  Q7 [.val (.list (ns.map .int)), .val (.int k), .val (.int many), .val (.int w), .own xs, .val (.int i), s6, s7, s8] = .ok (.nx [.val (.list (ns.map .int)), .val (.int k), .val (.int many), .val (.int w), .own (xs ++ [limL l]), .val (.int i), s6', s7', s8']) := by
 obtain ⟨a, e1'⟩ : ∃ a : Nat, (8 : Int) + (i : Int) * ((k : Int) + 1) = (a : Int) := ⟨8 + i * (k + 1), by simp⟩
 obtain ⟨rs, e1, hl, hb⟩ := UF ns a w hw (List.range k)
 have hk2 := Wo (n := k) (by omega)
 obtain ⟨c, e2⟩ := XB ns ((a : Int) + (k : Int)) (by omega)
 obtain ⟨r, e3, h1, h2⟩ := Ur c w (by omega) (by omega)
 obtain ⟨c4, e4⟩ := XB ns 4 (by omega)
 have m1 : WY (i : Int) ((k : Int) + 1) = true := Jx (by omega)
 have hxl : xs.length < 16777216 := by omega
 have hk3 : k <= 16777216 := by omega
 rw [<- VU] at e1
 have e1k : (if (rngT 0 k).length <= 16777216 then Yv (YU 0) tT (Zr ZE (Zc (Zr Zi (Zc (dVar 1) (Zc (d2 fAdd (dVar 2) (dVar 0)) dNil))) (Zc (dVar 3) dNil)))
  [.emp, .val (.list (ns.map .int)), .val (.int a), .val (.int w)] (rngT 0 k) else .stuck) = .ok (rs.map .int) := by rw [W3, if_pos hk3, e1]
 have step : ∀ G, Q7 [.val (.list (ns.map .int)), .val (.int k), .val (.int many), .val (.int w), .own xs, .val (.int i), s6, s7, s8] = .ok (.nx G) ↔
   (dSeq (dIf (tV (d2 fEq (d2 fMod (Zr Zi (Zc (dVar 0) (Zc (dC (.int 4)) dNil))) (dC (.int 2))) (dC (.int 1)))) (dSet 8 [] (d1 fAbs (dVar 8))) Z1) (dApp 4 [] (dTup (Zc (dVar 7) (Zc (dVar 8) dNil)))))
    [.val (.list (ns.map .int)), .val (.int k), .val (.int many), .val (.int w), .own xs, .val (.int i), .val (.int a), .val (.list (rs.map .int)), .val (.int r)] = .ok (.nx G) := fun G => by
  unfold Q7
  simp only [dSeq, dSet_nil, d2, dC, dVar, Res.bind_ok, dL, X7, iRng, capS, List.map_cons, List.map_nil, Zr, Zc, dNil]
  simp [m1, e1', hk2, e1k, e2, e3]
 by_cases h4 : Int.fmod c4 2 = 1
 ·refine ⟨(rs, (r.natAbs : Int)), .val (.int a), .val (.list (rs.map .int)), .val (.int (r.natAbs : Int)), ⟨by simpa using hl, hb, by simp; omega⟩, (step _).mpr ?_⟩
  have ha : (if r < 0 then -r else r) = (r.natAbs : Int) := abs_if r
  simp [e4, fEq, h4, ha, hxl, limL]
 ·refine ⟨(rs, r), .val (.int a), .val (.list (rs.map .int)), .val (.int r), ⟨by simpa using hl, hb, by omega⟩, (step _).mpr ?_⟩
  simp [e4, fEq, h4, hxl, limL]
theorem JN (ns : List Int) (k many w : Nat) (hk : 1 <= k /\ k <= 4) (hm : many <= 10) (hw : w <= 999999999999) : ∃ (ls : List Lim) (G' : List Sl), ls.length = many /\ (∀ l ∈ ls, l.1.length = k /\ (∀ x ∈ l.1, x.natAbs <= w) /\ l.2.natAbs <= w) /\
  (∃ s5 s6 s7 s8, G' = [.val (.list (ns.map .int)), .val (.int k), .val (.int many), .val (.int w), .own (ls.map limL), s5, s6, s7, s8]) /\
  forL (YU 5) Q7 (rngT 0 many) [.val (.list (ns.map .int)), .val (.int k), .val (.int many), .val (.int w), .own [], .emp, .emp, .emp, .emp] = .ok (.nx G') := by
 obtain ⟨G', e, ls, s5, s6, s7, s8, hl, hb, rfl⟩ := for_rng (st := YU 5) (b := Q7) (n := many) (G := [.val (.list (ns.map .int)), .val (.int k), .val (.int many), .val (.int w), .own [], .emp, .emp, .emp, .emp])
  (fun i G => ∃ (ls : List Lim) (s5 s6 s7 s8 : Sl), ls.length = i /\ (∀ l ∈ ls, l.1.length = k /\ (∀ x ∈ l.1, x.natAbs <= w) /\ l.2.natAbs <= w) /\ G = [.val (.list (ns.map .int)), .val (.int k), .val (.int many), .val (.int w), .own (ls.map limL), s5, s6, s7, s8])
  ⟨[], .emp, .emp, .emp, .emp, rfl, by simp, rfl⟩ fun i G hi ⟨ls, s5, s6, s7, s8, hl, hb, hG⟩ => by
   subst hG
   obtain ⟨l, s6', s7', s8', hlk, e⟩ := JM ns k many w i hk (by omega) hw (ls.map limL) (by rw [List.length_map]; omega) s6 s7 s8
   refine ⟨_, rfl, _, .inl e, ls ++ [l], .val (.int i), s6', s7', s8', by simp [hl], ?_, by simp⟩
   intro l' hl'
   rcases List.mem_append.mp hl' with h | h
   ·exact hb l' h
   ·simp at h; subst h; exact hlk
 exact ⟨ls, _, hl, hb, ⟨s5, s6, s7, s8, rfl⟩, e⟩
theorem at4 {a b c d : PyData} {r : Nat} (h : r < 4) : atP [a, b, c, d] (r : Int) = some (if r = 0 then a else if r = 1 then b else if r = 2 then c else d) := by
 match r, h with
 | 0, _ => rfl
 | 1, _ => rfl
 | 2, _ => rfl
 | 3, _ => rfl
theorem big12' : (10 : Int) ^ 12 = 1000000000000 := by decide
theorem Vj (ns : List Int) (k many w : Nat) (hk : 1 <= k /\ k <= 4) (hm : many <= 10) (hw : w <= 999999999999) (hs : (k = 4 /\ many = 10 /\ w = 2) \/ (k <= 3 /\ many <= 5 /\ w <= 9) \/ (k <= 2 /\ many <= 3 /\ w = 999999999999)) :
  ∃ (ls : List Lim), DeskOk k w ls /\ XQ [.val (.list (ns.map .int)), .val (.int k), .val (.int many), .val (.int w), .emp, .emp, .emp, .emp, .emp] = .ok (.rt (.tuple [.int k, .list (ls.map limL)])) := by
 obtain ⟨ls, G', hl, hb, ⟨s5, s6, s7, s8, rfl⟩, e⟩ := JN ns k many w hk hm hw
 have h2 := Wo (n := many) (by omega)
 refine ⟨ls, ⟨hk.1, hk.2, by omega, hb, by rw [hl]; exact hs⟩, ?_⟩
 simp only [Q7] at e
 simp [XQ, WR, WQ, h2, e]
theorem desk_ok (ns : List Int) : ∃ (k w : Nat) (ls : List Lim), DeskOk k w ls /\ Y4 [.list (ns.map .int)] = .ok (.tuple [.int k, .list (ls.map limL)]) := by
 obtain ⟨c0, e0⟩ := XB ns 0 (by omega)
 obtain ⟨c1, e1⟩ := XB ns 1 (by omega)
 obtain ⟨c2, e2⟩ := XB ns 2 (by omega)
 obtain ⟨c3, e3⟩ := XB ns 3 (by omega)
 obtain ⟨r0, m0, h0⟩ : ∃ r : Nat, Int.fmod c0 3 = (r : Int) /\ r < 3 := Yx (n := 3) (by decide)
 obtain ⟨r1, m1, h1⟩ : ∃ r : Nat, Int.fmod c1 6 = (r : Int) /\ r < 6 := Yx (n := 6) (by decide)
 obtain ⟨r2, m2, h2⟩ : ∃ r : Nat, Int.fmod c2 4 = (r : Int) /\ r < 4 := Yx (n := 4) (by decide)
 obtain ⟨r3, m3, h3⟩ : ∃ r : Nat, Int.fmod c3 6 = (r : Int) /\ r < 6 := Yx (n := 6) (by decide)
 have a4 := at4 (a := .int 3) (b := .int 3) (c := .int 9) (d := .int 999999999999) h2
 obtain ⟨w, aw, hw⟩ : ∃ w : Nat, atP [.int 3, .int 3, .int 9, .int 999999999999] (r2 : Int) = some (.int w) /\ (w <= 9 \/ w = 999999999999) := by
  rw [a4]
  by_cases q0 : r2 = 0
  ·exact ⟨3, by simp [q0], .inl (by decide)⟩
  ·by_cases q1 : r2 = 1
   ·exact ⟨3, by simp [q1], .inl (by decide)⟩
   ·by_cases q2 : r2 = 2
    ·exact ⟨9, by simp [q2], .inl (by decide)⟩
    ·exact ⟨999999999999, by simp [q0, q1, q2], .inr rfl⟩
 -- the three ways
 have top : ∀ (G : List Sl) (t : PyData), YK [.val (.list (ns.map .int)), .val (.int (1 + (r0 : Int))), .val (.int r1), .val (.int w), .emp, .emp, .emp, .emp, .emp] = .ok (.rt t) -> Y4 [.list (ns.map .int)] = .ok t := fun _ t h => by
  simp [Y4, runQ, runF, VL, WT, WS, e0, e1, e2, m0, m1, m2, big12', aw, h]
 by_cases h35 : r3 = 5
 ·obtain ⟨ls, ok, e⟩ := Vj ns 4 10 2 (by decide) (by decide) (by decide) (.inl (by decide))
  refine ⟨_, _, ls, ok, top [] _ ?_⟩
  simp [YK, Xg, e3, m3, h35, fEq]
  exact e
 ·have h35' : ¬ ((r3 : Int) = 5) := by omega
  rcases hw with hw | hw
  ·obtain ⟨ls, ok, e⟩ := Vj ns (1 + r0) r1 w (by omega) (by omega) (by omega) (.inr (.inl (by omega)))
   refine ⟨_, _, ls, ok, top [] _ ?_⟩
   have hw9 : ¬ (9 < (w : Int)) := by omega
   simp [YK, Xg, e3, m3, h35', fEq, hw9]
   exact e
  ·obtain ⟨rk, mk, hk⟩ : ∃ r : Nat, Int.fmod (1 + (r0 : Int)) 2 = (r : Int) /\ r < 2 := Yx (n := 2) (by decide)
   obtain ⟨rm, mm, hm⟩ : ∃ r : Nat, Int.fmod (r1 : Int) 4 = (r : Int) /\ r < 4 := Yx (n := 4) (by decide)
   obtain ⟨ls, ok, e⟩ := Vj ns (1 + rk) rm w (by omega) (by omega) (by omega) (.inr (.inr (by omega)))
   refine ⟨_, _, ls, ok, top [] _ ?_⟩
   have hw9 : 9 < (w : Int) := by omega
   simp [YK, Xg, e3, m3, h35', fEq, hw9, mk, mm]
   exact e
end Lw
namespace Lw
open PySem Fx
theorem J0 (ls : List Lim) (h : ls.length <= 1000) : YI [.list (ls.map limL)] = .ok (.list (ls.map limL)) := by
 have e := X4 (st := YU 0) (e := (dTup (Zc (dL (oList (d2 fIx (dVar 0) (dC (.int 0))))) (Zc (d2 fIx (dVar 0) (dC (.int 1))) dNil)))) (C := [.emp]) limL limL ls fun l _ => ⟨[.val (limL l)], rfl, by simp [limL, at0, at1]⟩
 have hl : ls.length <= 16777216 := by omega
 simp [YI, runQ, runF, WU, hl, e]
theorem Qt {i : Int} (h : i.natAbs <= 999999999999) : Yk [.int i] = .ok (.bool true) := by
 have : (if i < 0 then -i else i) <= 999999999999 := by split <;> omega
 simp [Yk, runQ, runF, Vl, Yg, this]
theorem UP {α : Type} : ∀ (xs : List α), allT (xs.map fun _ => PyData.bool true) = .ok true
 | [] => rfl
 | _ :: xs => by simp [allT, UP xs]
structure LimOk (k w : Nat) (l : Lim) : Prop where
 len : l.1.length = k
 ws : ∀ x ∈ l.1, x.natAbs <= w
 bd : l.2.natAbs <= w
theorem DeskOk.wb {k w : Nat} {ls : List Lim} (h : DeskOk k w ls) : w <= 999999999999 := by rcases h.small with h | h | h <;> omega
end Lw
namespace Fx
open PySem PySem.Spec PyProof.Rows L2
def CO (c : Addr) (q : Str) : HO := .ext fun h => ∃ oc vs t, h.get? c = some oc /\ oc.data = .fields vs /\ vs[1]? = some (.str q t)
def XZ : List Str := ["raising_column"]
def lamQ (x : Str) : Str := x ++ ".<locals>." ++ "<lambda>"
def X8 (K : PySem.W.Frag) (H : Hp) : Prop := ∀ x c T, x ∈ XZ -> PySem.W.tabIn K x = some (c, T) ->
 ∃ ps, H T = some (.tbl ps) /\ TriplesOk ps.toList /\ ∀ pos cv, codeAmong pos ps.toList = some cv -> ∃ c', cv = .ref c' /\ H c' = some (CO c' (lamQ x))
def Nt (o : HO) : Prop := ∀ ps, o ≠ .tbl ps
theorem VE {xs : List V} : Nt (.lst xs) := fun _ z => by cases z
theorem nt_tup {xs : List V} : Nt (.tup xs) := fun _ z => by cases z
theorem nt_ins {C dx : Addr} {fs : List (Str × V)} : Nt (.ins C dx fs) := fun _ z => by cases z
theorem nt_frz {o : Obj} {u : HO} : Nt (.frz o u) := fun _ z => by cases z
theorem nt_ext {φ : Heap -> Prop} : Nt (.ext φ) := fun _ z => by cases z
structure Same (H H' : Hp) : Prop where
 kp : ∀ b o, H b = some o -> Nt o -> H' b = some o
 free : ∀ {b}, H' b = none -> H b = none
 tab : ∀ K, X8 K H -> X8 K H'
 tbk : ∀ b ps, H b = some (.tbl ps) -> ∃ qs, H' b = some (.tbl qs)
theorem Same.refl (H : Hp) : Same H H := ⟨fun _ _ h _ => h, fun h => h, fun _ h => h, fun _ ps h => ⟨ps, h⟩⟩
theorem Same.trans {H H1 H2 : Hp} (a : Same H H1) (b : Same H1 H2) : Same H H2 := ⟨fun c o h n => b.kp c o (a.kp c o h n) n, fun h => a.free (b.free h), fun K h => b.tab K (a.tab K h), fun c ps h => let ⟨qs, h1⟩ := a.tbk c ps h; b.tbk c qs h1⟩
theorem X8.mono {K : PySem.W.Frag} {H H' : Hp} (h : X8 K H) (e : ∀ b o, H b = some o -> (∀ xs, o ≠ .lst xs) -> H' b = some o) : X8 K H' := fun x c T hx ht => by
 obtain ⟨ps, h1, h2, h3⟩ := h x c T hx ht
 refine ⟨ps, e _ _ h1 (fun _ z => by cases z), h2, fun pos cv hc => ?_⟩
 obtain ⟨c', e1, e2⟩ := h3 pos cv hc
 exact ⟨c', e1, e _ _ e2 (fun _ z => by cases z)⟩
theorem Same.of {H H' : Hp} (e : ∀ b o, H b = some o -> H' b = some o) : Same H H' where
 kp := fun b o h _ => e b o h
 free := fun {b} h => by
  cases q : H b with
  | none => rfl
  | some o => rw [e b o q] at h; cases h
 tab := fun K h => X8.mono h fun b o q _ => e b o q
 tbk := fun b ps h => ⟨ps, e b _ h⟩
structure Pv where
 own : Nat -> Option Addr
 fb : Addr -> Prop
def Off (P : Pv) (a : Addr) : Prop := (∀ i, P.own i ≠ some a) /\ ¬ P.fb a
def Tr (H : Hp) (P : Pv) (H' : Hp) (P' : Pv) : Prop := ∀ a o, H a = some o -> Nt o -> Off P a -> H' a = some o /\ Off P' a
theorem Tr.same {H H' : Hp} {P : Pv} (e : Same H H') : Tr H P H' P := fun a o h n q => ⟨e.kp a o h n, q⟩
structure Go (H : Hp) (P : Pv) (H' : Hp) (P' : Pv) : Prop where
 mv : ∀ a o, H a = some o -> Nt o -> (∀ i, P.own i ≠ some a) -> H' a = some o /\ ∀ i, P'.own i ≠ some a
 fbe : P'.fb = P.fb
 free : ∀ {b}, H' b = none -> H b = none
 tab : ∀ K, X8 K H -> X8 K H'
 tbk : ∀ b ps, H b = some (.tbl ps) -> ∃ qs, H' b = some (.tbl qs)
theorem Go.refl (H : Hp) (P : Pv) : Go H P H P := ⟨fun _ _ h _ o => ⟨h, o⟩, rfl, fun h => h, fun _ h => h, fun _ ps h => ⟨ps, h⟩⟩
theorem Go.trans {H H1 H2 : Hp} {P P1 P2 : Pv} (a : Go H P H1 P1) (b : Go H1 P1 H2 P2) : Go H P H2 P2 := ⟨fun c o h n q =>
 let ⟨h1, q1⟩ := a.mv c o h n q
 b.mv c o h1 n q1, b.fbe.trans a.fbe, fun h => a.free (b.free h), fun K h => b.tab K (a.tab K h), fun c ps h => let ⟨qs, h1⟩ := a.tbk c ps h; b.tbk c qs h1⟩
theorem Go.same {H H' : Hp} {P : Pv} (e : Same H H') : Go H P H' P := ⟨fun a o h n q => ⟨e.kp a o h n, q⟩, rfl, fun h => e.free h, e.tab, e.tbk⟩
theorem Go.tr {H H' : Hp} {P P' : Pv} (g : Go H P H' P') : Tr H P H' P' := fun a o h n q => ⟨(g.mv a o h n q.1).1, (g.mv a o h n q.1).2, by rw [g.fbe]; exact q.2⟩
theorem Go.all {H H' : Hp} {P P' : Pv} (g : Go H P H' P') (ho : ∀ i, P.own i = none) : Same H H' := ⟨fun b o e n => (g.mv b o e n fun i => by rw [ho i]; exact fun z => by cases z).1, fun h => g.free h, g.tab, g.tbk⟩
def ModL (K : PySem.W.Frag) (a : Addr) (xs : List V) : Prop :=
 ∃ (o : Obj) (its : Array Value) (n : Nat), K.lookup a = some o /\ o.cls = .type "list" /\ o.dict = none /\ o.data = .seq its n /\ its.size <= sizeLine /\ Vals xs its.toList
def ModT (K : PySem.W.Frag) (a : Addr) (xs : List V) : Prop :=
 ∃ (o : Obj) (its : Array Value) (n : Nat), K.lookup a = some o /\ o.cls = .type "tuple" /\ o.data = .seq its n /\ its.size <= sizeLine /\ Vals xs its.toList
def SL (K : PySem.W.Frag) (H : Hp) (P : Pv) (a : Addr) (xs : List V) : Prop := (Rd H a (.lst xs) /\ Off P a) \/ ModL K a xs
def ST (K : PySem.W.Frag) (H : Hp) (P : Pv) (a : Addr) (xs : List V) : Prop := (Rd H a (.tup xs) /\ Off P a) \/ ModT K a xs
theorem SL.sq {K : PySem.W.Frag} {H : Hp} {P : Pv} {a : Addr} {xs : List V} (h : SL K H P a xs) : SqL K H a xs := by
 rcases h with ⟨h, _⟩ | h
 ·exact .inl h
 ·exact .inr h
theorem ST.sq {K : PySem.W.Frag} {H : Hp} {P : Pv} {a : Addr} {xs : List V} (h : ST K H P a xs) : SqT K H a xs := by
 rcases h with ⟨h, _⟩ | h
 ·exact .inl h
 ·exact .inr h
theorem Rd.go {H H' : Hp} {P P' : Pv} {a : Addr} {u : HO} (g : Tr H P H' P') (n : Nt u) (h : Rd H a u) (o : Off P a) : Rd H' a u /\ Off P' a := by
 rcases h with h | ⟨ob, h⟩
 ·exact ⟨.inl (g _ _ h n o).1, (g _ _ h n o).2⟩
 ·exact ⟨.inr ⟨ob, (g _ _ h nt_frz o).1⟩, (g _ _ h nt_frz o).2⟩
theorem SL.go {K : PySem.W.Frag} {H H' : Hp} {P P' : Pv} {a : Addr} {xs : List V} (g : Tr H P H' P') (h : SL K H P a xs) : SL K H' P' a xs := by
 rcases h with ⟨h, o⟩ | h
 ·exact .inl (Fx.Rd.go g VE h o)
 ·exact .inr h
theorem ST.go {K : PySem.W.Frag} {H H' : Hp} {P P' : Pv} {a : Addr} {xs : List V} (g : Tr H P H' P') (h : ST K H P a xs) : ST K H' P' a xs := by
 rcases h with ⟨h, o⟩ | h
 ·exact .inl (Fx.Rd.go g nt_tup h o)
 ·exact .inr h
def XO (K : PySem.W.Frag) (a : Addr) : HO := .ext fun h => ∃ ob C, h.get? a = some ob /\ ob.cls = .ref C /\ PySem.W.subIn K (.ref C) (.type "ValueError") = some true
mutual
def Rl (K : PySem.W.Frag) (H : Hp) (P : Pv) : PyData -> V -> Prop
 | .none, v => v = .non
 | .bool b, v => v = .bl b
 | .int i, v => v = .int i
 | .str x, v => v = .str x
 | .list xs, v => ∃ a vs, v = .ref a /\ SL K H P a vs /\ Rls K H P xs vs
 | .tuple xs, v => ∃ a vs, v = .ref a /\ ST K H P a vs /\ Rls K H P xs vs
 | .dict xs, v => (xs = [] /\ ∃ a, v = .ref a /\ H a = some (XO K a) /\ Off P a) \/ (xs ≠ [] /\ ∃ a C dx fs, v = .ref a /\ H a = some (.ins C dx fs) /\ Off P a /\ Cls K C /\ Rlp K H P C xs fs)
def Rls (K : PySem.W.Frag) (H : Hp) (P : Pv) : List PyData -> List V -> Prop
 | [], vs => vs = []
 | x :: xs, vs => ∃ v r, vs = v :: r /\ Rl K H P x v /\ Rls K H P xs r
def Rlp (K : PySem.W.Frag) (H : Hp) (P : Pv) (C : Addr) : List (PyData × PyData) -> List (Str × V) -> Prop
 | [], fs => fs = []
 | (k, t) :: xs, fs => ∃ n v r, fs = (n, v) :: r /\ k = .str n /\ NoAttr K C n /\ Rl K H P t v /\ Rlp K H P C xs r
end
mutual
theorem Rl.go {K : PySem.W.Frag} {H H' : Hp} {P P' : Pv} (g : Tr H P H' P') : ∀ (t : PyData) (v : V), Rl K H P t v -> Rl K H' P' t v
 | .none, v, h => by simpa only [Rl] using h
 | .bool b, v, h => by simpa only [Rl] using h
 | .int i, v, h => by simpa only [Rl] using h
 | .str x, v, h => by simpa only [Rl] using h
 | .list xs, v, h => by
  simp only [Rl] at h ⊢
  obtain ⟨a, vs, e, s, r⟩ := h
  exact ⟨a, vs, e, s.go g, Rls.go g xs vs r⟩
 | .tuple xs, v, h => by
  simp only [Rl] at h ⊢
  obtain ⟨a, vs, e, s, r⟩ := h
  exact ⟨a, vs, e, s.go g, Rls.go g xs vs r⟩
 | .dict xs, v, h => by
  simp only [Rl] at h ⊢
  rcases h with ⟨e, a, e2, s, o⟩ | ⟨e, a, C, dx, fs, e2, s, o, c, r⟩
  ·exact .inl ⟨e, a, e2, g a _ s nt_ext o⟩
  ·exact .inr ⟨e, a, C, dx, fs, e2, (g a _ s nt_ins o).1, (g a _ s nt_ins o).2, c, Rlp.go g xs fs r⟩
theorem Rls.go {K : PySem.W.Frag} {H H' : Hp} {P P' : Pv} (g : Tr H P H' P') : ∀ (ts : List PyData) (vs : List V), Rls K H P ts vs -> Rls K H' P' ts vs
 | [], vs, h => by simpa only [Rls] using h
 | x :: xs, vs, h => by
  simp only [Rls] at h ⊢
  obtain ⟨v, r, e, q, t⟩ := h
  exact ⟨v, r, e, Rl.go g x v q, Rls.go g xs r t⟩
theorem Rlp.go {K : PySem.W.Frag} {H H' : Hp} {P P' : Pv} {C : Addr} (g : Tr H P H' P') : ∀ (ts : List (PyData × PyData)) (fs : List (Str × V)), Rlp K H P C ts fs -> Rlp K H' P' C ts fs
 | [], vs, h => by simpa only [Rlp] using h
 | (k, t) :: xs, vs, h => by
  simp only [Rlp] at h ⊢
  obtain ⟨n, v, r, e, e2, na, q, z⟩ := h
  exact ⟨n, v, r, e, e2, na, Rl.go g t v q, Rlp.go g xs r z⟩
end
section
variable {K : PySem.W.Frag} {H H' : Hp} {P P' : Pv}
theorem XJ {v : V} : Rl K H P .none v ↔ v = .non := by simp only [Rl]
theorem YL {b : Bool} {v : V} : Rl K H P (.bool b) v ↔ v = .bl b := by simp only [Rl]
theorem ZX {i : Int} {v : V} : Rl K H P (.int i) v ↔ v = .int i := by simp only [Rl]
theorem Ul {x : Str} {v : V} : Rl K H P (.str x) v ↔ v = .str x := by simp only [Rl]
theorem Z7 {xs : List PyData} {v : V} : Rl K H P (.list xs) v ↔ ∃ a vs, v = .ref a /\ SL K H P a vs /\ Rls K H P xs vs := by simp only [Rl]
theorem Yi {xs : List PyData} {v : V} : Rl K H P (.tuple xs) v ↔ ∃ a vs, v = .ref a /\ ST K H P a vs /\ Rls K H P xs vs := by simp only [Rl]
theorem rl_dict {xs : List (PyData × PyData)} {v : V} : Rl K H P (.dict xs) v ↔ (xs = [] /\ ∃ a, v = .ref a /\ H a = some (XO K a) /\ Off P a) \/ (xs ≠ [] /\ ∃ a C dx fs, v = .ref a /\ H a = some (.ins C dx fs) /\ Off P a /\ Cls K C /\ Rlp K H P C xs fs) := by simp only [Rl]
theorem rl_exc {v : V} : Rl K H P (.dict []) v ↔ ∃ a, v = .ref a /\ H a = some (XO K a) /\ Off P a := by rw [rl_dict]; simp
theorem Yr {vs : List V} : Rls K H P [] vs ↔ vs = [] := by simp only [Rls]
theorem ZO {x : PyData} {xs : List PyData} {vs : List V} : Rls K H P (x :: xs) vs ↔ ∃ v r, vs = v :: r /\ Rl K H P x v /\ Rls K H P xs r := by simp only [Rls]
theorem Rls.length : ∀ {ts : List PyData} {vs : List V}, Rls K H P ts vs -> ts.length = vs.length
 | [], vs, h => by rw [Yr.mp h]; rfl
 | t :: ts, vs, h => by
  obtain ⟨v, r, rfl, _, q⟩ := ZO.mp h
  simp only [List.length_cons, Rls.length q]
theorem Rls.getT : ∀ {ts : List PyData} {vs : List V} {i : Nat} {t : PyData}, Rls K H P ts vs -> ts[i]? = some t -> ∃ v, vs[i]? = some v /\ Rl K H P t v
 | [], vs, i, v, h, e => by simp at e
 | t :: ts, vs, 0, t', h, e => by
  obtain ⟨v', r, rfl, q, _⟩ := ZO.mp h
  simp at e; subst e
  exact ⟨v', rfl, q⟩
 | t :: ts, vs, i + 1, t', h, e => by
  obtain ⟨v', r, rfl, _, q⟩ := ZO.mp h
  exact Rls.getT (i := i) q (by simpa using e)
theorem Rls.append : ∀ {ts us : List PyData} {vs ws : List V}, Rls K H P ts vs -> Rls K H P us ws -> Rls K H P (ts ++ us) (vs ++ ws)
 | [], us, vs, ws, h, q => by rw [Yr.mp h]; exact q
 | t :: ts, us, vs, ws, h, q => by
  obtain ⟨v, r, rfl, a, b⟩ := ZO.mp h
  exact ZO.mpr ⟨v, r ++ ws, rfl, a, Rls.append b q⟩
theorem Rls.set : ∀ {ts : List PyData} {vs : List V} {t : PyData} {v : V} (i : Nat), Rls K H P ts vs -> Rl K H P t v -> Rls K H P (ts.set i t) (vs.set i v)
 | [], vs, t, v, i, h, q => by rw [Yr.mp h]; exact Yr.mpr rfl
 | t' :: ts, vs, t, v, 0, h, q => by
  obtain ⟨v', r, rfl, a, b⟩ := ZO.mp h
  exact ZO.mpr ⟨v, r, rfl, q, b⟩
 | t' :: ts, vs, t, v, i + 1, h, q => by
  obtain ⟨v', r, rfl, a, b⟩ := ZO.mp h
  exact ZO.mpr ⟨v', r.set i v, rfl, a, Rls.set i b q⟩
theorem rls_ints (ns : List Int) : Rls K H P (ns.map .int) (ns.map V.int) := by
 induction ns with
 | nil => exact Yr.mpr rfl
 | cons n ns ih => exact ZO.mpr ⟨.int n, _, rfl, ZX.mpr rfl, ih⟩
end
def SlOk (K : PySem.W.Frag) (H : Hp) (P : Pv) (i : Nat) (x : Option V) : Sl -> Prop
 | .emp => True
 | .val t => ∃ v, x = some v /\ Rl K H P t v
 | .own xs => ∃ p vs, x = some (.ref p) /\ P.own i = some p /\ H p = some (.lst vs) /\ Rls K H P xs vs
structure Hol (K : PySem.W.Frag) (H : Hp) (P : Pv) (σ : L2.St) (G : List Sl) : Prop where
 sl : ∀ i s, G[i]? = some s -> SlOk K H P i (σ.getD i none) s
 inj : ∀ i j a, P.own i = some a -> P.own j = some a -> i = j
 only : ∀ i a, P.own i = some a -> ∃ xs, G[i]? = some (.own xs)
 fbd : ∀ a, P.fb a -> H a ≠ none
 nfb : ∀ i a, P.own i = some a -> ¬ P.fb a
 len : σ.length = G.length
 tab : X8 K H
theorem getD_some {σ : L2.St} {i : Nat} {v : V} (h : σ.getD i none = some v) : σ[i]? = some (some v) := by
 rw [List.getD_eq_getElem?_getD] at h
 cases e : σ[i]? with
 | none => rw [e] at h; cases h
 | some x => rw [e] at h; simp at h; rw [h]
section
variable {K : PySem.W.Frag} {H H' : Hp} {P P' : Pv} {σ : L2.St} {G : List Sl}
theorem Hol.dom (h : Hol K H P σ G) {i : Nat} {a : Addr} (e : P.own i = some a) : ∃ vs, H a = some (.lst vs) := by
 obtain ⟨xs, q⟩ := h.only i a e
 obtain ⟨p, vs, _, e', q', _⟩ := h.sl i _ q
 rw [e] at e'; cases e'
 exact ⟨vs, q'⟩
theorem Hol.nofb (h : Hol K H P σ G) {p : Addr} (e : H p = none) : ¬ P.fb p := fun z => h.fbd p z e
theorem Hol.off_new (h : Hol K H P σ G) {p : Addr} (e : H p = none) : Off P p := by
 refine ⟨fun i z => ?_, h.nofb e⟩
 obtain ⟨vs, q⟩ := h.dom z
 rw [e] at q
 cases q
theorem Hol.same (h : Hol K H P σ G) (e : Same H H') : Hol K H' P σ G where
 sl := fun i s q => by
  have z := h.sl i s q
  cases s with
  | emp => trivial
  | val t => obtain ⟨v, e1, r⟩ := z; exact ⟨v, e1, Rl.go (.same e) t v r⟩
  | own xs => obtain ⟨p, vs, e1, e2, e3, r⟩ := z; exact ⟨p, vs, e1, e2, e.kp _ _ e3 VE, Rls.go (.same e) xs vs r⟩
 inj := h.inj
 only := h.only
 fbd := fun a z w => h.fbd a z (e.free w)
 nfb := h.nfb
 len := h.len
 tab := e.tab K h.tab
def Pv.del (P : Pv) (i : Nat) : Pv := ⟨fun j => if j = i then none else P.own j, P.fb⟩
def Pv.put (P : Pv) (i : Nat) (p : Addr) : Pv := ⟨fun j => if j = i then some p else P.own j, P.fb⟩
theorem Tr.del {i : Nat} : Tr H P H (P.del i) := fun a o h _ q => ⟨h, fun j z => by
 have z' : (if j = i then none else P.own j) = some a := z
 split at z'
 ·cases z'
 ·exact q.1 j z', q.2⟩
theorem Go.del {i : Nat} : Go H P H (P.del i) := ⟨fun a o h _ q => ⟨h, fun j z => by
 have z' : (if j = i then none else P.own j) = some a := z
 split at z'
 ·cases z'
 ·exact q j z'⟩, rfl, fun h => h, fun _ h => h, fun _ ps h => ⟨ps, h⟩⟩
theorem Go.put {i : Nat} {p : Addr} (hp : H p = none) : Go H P H (P.put i p) := ⟨fun a o h _ q => ⟨h, fun j z => by
 have z' : (if j = i then some p else P.own j) = some a := z
 split at z'
 ·cases z'; rw [hp] at h; cases h
 ·exact q j z'⟩, rfl, fun h => h, fun _ h => h, fun _ ps h => ⟨ps, h⟩⟩
theorem Wr {σ : L2.St} {i : Nat} {x : Option V} (h : i < σ.length) : (σ.set i x).getD i none = x := by
 rw [List.getD_eq_getElem?_getD, List.getElem?_set_self h]; rfl
theorem Wh {σ : L2.St} {i j : Nat} {x : Option V} (h : j ≠ i) : (σ.set i x).getD j none = σ.getD j none := by
 rw [List.getD_eq_getElem?_getD, List.getD_eq_getElem?_getD, List.getElem?_set_ne (Ne.symm h)]
theorem Hol.setVal (h : Hol K H P σ G) (i : Nat) {t : PyData} {v : V} (r : Rl K H P t v) : Hol K H (P.del i) (σ.set i (some v)) (G.set i (.val t)) where
 sl := fun j s q => by
  by_cases e : j = i
  ·subst e
   have hl : j < G.length := by
    have := (List.getElem?_eq_some_iff.mp q).1
    simpa using this
   rw [List.getElem?_set_self hl] at q
   cases q
   refine ⟨v, ?_, Rl.go .del t v r⟩
   exact Wr (by rw [h.len]; exact hl)
  ·rw [List.getElem?_set_ne (Ne.symm e)] at q
   have z := h.sl j s q
   rw [Wh e]
   cases s with
   | emp => trivial
   | val t' => obtain ⟨v', e1, r'⟩ := z; exact ⟨v', e1, Rl.go .del t' v' r'⟩
   | own xs => obtain ⟨p, vs, e1, e2, e3, r'⟩ := z; exact ⟨p, vs, e1, (by show (if j = i then none else P.own j) = _; rw [if_neg e]; exact e2), e3, Rls.go .del xs vs r'⟩
 inj := fun a b c h1 h2 => by
  have h1' : (if a = i then none else P.own a) = some c := h1
  have h2' : (if b = i then none else P.own b) = some c := h2
  split at h1'
  ·cases h1'
  ·split at h2'
   ·cases h2'
   ·exact h.inj a b c h1' h2'
 only := fun j a z => by
  have z' : (if j = i then none else P.own j) = some a := z
  split at z'
  ·cases z'
  ·rename_i ne
   obtain ⟨xs, q⟩ := h.only j a z'
   exact ⟨xs, by rw [List.getElem?_set_ne (Ne.symm ne)]; exact q⟩
 fbd := h.fbd
 nfb := fun j a z => by
  have z' : (if j = i then none else P.own j) = some a := z
  split at z'
  ·cases z'
  ·exact h.nfb j a z'
 len := by rw [List.length_set, List.length_set]; exact h.len
 tab := h.tab
theorem ZS {p : Addr} {o : HO} (h : H p = none) : Same H (upd H p o) := .of fun b u q => by rw [Zy (ZM q h)]; exact q
theorem Hol.upOwn (h : Hol K H P σ G) {i : Nat} {ys xs : List PyData} {vs : List V} {p : Addr} (hi : G[i]? = some (.own ys)) (hp : P.own i = some p) (r : Rls K H P xs vs) : Hol K (upd H p (.lst vs)) P σ (G.set i (.own xs)) /\ Go H P (upd H p (.lst vs)) P := by
 have hpl := h.dom hp
 have g0 : Go H P (upd H p (.lst vs)) P := ⟨fun a o e _ q => ⟨by rw [Zy (fun z => q i (by rw [z]; exact hp))]; exact e, q⟩, rfl, fun {b} w => by
  by_cases z : b = p
  ·rw [z, ZQ] at w; cases w
  ·rw [Zy z] at w; exact w, fun K t => X8.mono t fun b o e nl => by
  rw [Zy (fun z => by obtain ⟨us, w⟩ := hpl; rw [z, w] at e; cases e; exact nl _ rfl)]; exact e, fun b ps e => ⟨ps, by rw [Zy (fun z => by obtain ⟨us, w⟩ := hpl; rw [z, w] at e; cases e)]; exact e⟩⟩
 have gg := g0.tr
 have hl : i < G.length := (List.getElem?_eq_some_iff.mp hi).1
 refine ⟨⟨fun j s q => ?_, h.inj, fun j a z => ?_, fun a z => ?_, h.nfb, by rw [List.length_set]; exact h.len, g0.tab K h.tab⟩, g0⟩
 ·by_cases e : j = i
  ·subst e
   rw [List.getElem?_set_self hl] at q
   cases q
   obtain ⟨p', vs', e1, e2, _, _⟩ := h.sl j _ hi
   rw [hp] at e2; cases e2
   exact ⟨p, vs, e1, hp, ZQ, Rls.go gg xs vs r⟩
  ·rw [List.getElem?_set_ne (Ne.symm e)] at q
   have z := h.sl j s q
   cases s with
   | emp => trivial
   | val t' => obtain ⟨v', e1, r'⟩ := z; exact ⟨v', e1, Rl.go gg t' v' r'⟩
   | own xs' =>
    obtain ⟨p', vs', e1, e2, e3, r'⟩ := z
    refine ⟨p', vs', e1, e2, ?_, Rls.go gg xs' vs' r'⟩
    rw [Zy (fun z => e (h.inj j i p' e2 (by rw [z]; exact hp)))]
    exact e3
 ·by_cases e : j = i
  ·subst e; exact ⟨xs, List.getElem?_set_self hl⟩
  ·obtain ⟨xs', q⟩ := h.only j a z
   exact ⟨xs', by rw [List.getElem?_set_ne (Ne.symm e)]; exact q⟩
 ·rw [Zy (fun e => h.nfb i p hp (by rw [<- e]; exact z))]
  exact h.fbd a z
end
section
variable {K : PySem.W.Frag} {H H' : Hp} {P P' : Pv} {σ : L2.St} {G : List Sl}
theorem Hol.frz1 (h : Hol K H P σ G) (i : Nat) : ∃ P', Hol K H P' σ (Fx.frz1 G i) /\ Go H P H P' := by
 unfold Fx.frz1
 split
 ·rename_i xs q
  obtain ⟨p, vs, e1, e2, e3, r⟩ := h.sl i _ q
  have off : Off (P.del i) p := ⟨fun j z => by
   have z' : (if j = i then none else P.own j) = some p := z
   split at z'
   ·cases z'
   ·rename_i ne; exact ne (h.inj j i p z' e2), h.nfb i p e2⟩
  have r0 : Rl K H (P.del i) (.list xs) (.ref p) := Z7.mpr ⟨p, vs, rfl, .inl ⟨.inl e3, off⟩, Rls.go .del xs vs r⟩
  refine ⟨P.del i, ⟨fun j s z => ?_, ?_, ?_, h.fbd, ?_, by rw [List.length_set]; exact h.len, h.tab⟩, .del⟩
  ·by_cases e : j = i
   ·subst e
    rw [List.getElem?_set_self (List.getElem?_eq_some_iff.mp q).1] at z
    cases z
    exact ⟨.ref p, e1, r0⟩
   ·rw [List.getElem?_set_ne (Ne.symm e)] at z
    have z := h.sl j s z
    cases s with
    | emp => trivial
    | val t' => obtain ⟨v', e1, r'⟩ := z; exact ⟨v', e1, Rl.go .del t' v' r'⟩
    | own xs => obtain ⟨p, vs, e1, e2, e3, r'⟩ := z; exact ⟨p, vs, e1, (by show (if j = i then none else P.own j) = _; rw [if_neg e]; exact e2), e3, Rls.go .del xs vs r'⟩
  ·intro a b c h1 h2
   have h1' : (if a = i then none else P.own a) = some c := h1
   have h2' : (if b = i then none else P.own b) = some c := h2
   split at h1'
   ·cases h1'
   ·split at h2'
    ·cases h2'
    ·exact h.inj a b c h1' h2'
  ·intro j a z
   have z' : (if j = i then none else P.own j) = some a := z
   split at z'
   ·cases z'
   ·rename_i ne
    obtain ⟨xs, q⟩ := h.only j a z'
    exact ⟨xs, by rw [List.getElem?_set_ne (Ne.symm ne)]; exact q⟩
  ·intro j a z
   have z' : (if j = i then none else P.own j) = some a := z
   split at z'
   ·cases z'
   ·exact h.nfb j a z'
 ·exact ⟨P, h, .refl _ _⟩
theorem Hol.frz (is : List Nat) : ∀ {P : Pv} {G : List Sl}, Hol K H P σ G -> ∃ P', Hol K H P' σ (Fx.frz is G) /\ Go H P H P' := by
 induction is with
 | nil => exact fun {P G} h => ⟨P, h, .refl _ _⟩
 | cons i is ih =>
  intro P G h
  obtain ⟨P1, h1, g1⟩ := h.frz1 i
  obtain ⟨P2, h2, g2⟩ := ih h1
  exact ⟨P2, h2, g1.trans g2⟩
theorem Ws : ∀ (G : List Sl) (i : Nat), (frzA G)[i]? = (G[i]?).map fun s => match s with | .own xs => .val (.list xs) | s => s
 | [], i => by simp [frzA]
 | .own xs :: r, 0 => by simp [frzA]
 | .emp :: r, 0 => by simp [frzA]
 | .val t :: r, 0 => by simp [frzA]
 | .own xs :: r, i + 1 => by simp [frzA, Ws r i]
 | .emp :: r, i + 1 => by simp [frzA, Ws r i]
 | .val t :: r, i + 1 => by simp [frzA, Ws r i]
theorem Xy : ∀ (G : List Sl), (frzA G).length = G.length
 | [] => rfl
 | .own xs :: r => by simp [frzA, Xy r]
 | .emp :: r => by simp [frzA, Xy r]
 | .val t :: r => by simp [frzA, Xy r]
def Pv.bare (P : Pv) : Pv := ⟨fun _ => none, P.fb⟩
theorem Hol.frzA (h : Hol K H P σ G) : Hol K H P.bare σ (Fx.frzA G) /\ Go H P H P.bare := by
 have g0 : Go H P H P.bare := ⟨fun a o e _ q => ⟨e, fun _ z => (by cases z)⟩, rfl, fun h => h, fun _ h => h, fun _ ps h => ⟨ps, h⟩⟩
 have gg := g0.tr
 refine ⟨⟨fun j s z => ?_, fun _ _ _ z => (by cases z), fun _ _ z => (by cases z), h.fbd, fun _ _ z => (by cases z), by rw [Xy]; exact h.len, h.tab⟩, g0⟩
 rw [Ws] at z
 cases q : G[j]? with
 | none => rw [q] at z; cases z
 | some s' =>
  rw [q] at z
  have w := h.sl j s' q
  cases s' with
  | emp => cases z; trivial
  | val t => cases z; obtain ⟨v, e, r⟩ := w; exact ⟨v, e, Rl.go gg t v r⟩
  | own xs =>
   cases z
   obtain ⟨p, vs, e1, e2, e3, r⟩ := w
   exact ⟨.ref p, e1, Z7.mpr ⟨p, vs, rfl, .inl ⟨.inl e3, fun _ z => (by cases z), h.nfb j p e2⟩, Rls.go gg xs vs r⟩⟩
end
end Fx
namespace Fx
open PySem PySem.Spec PyProof.Rows L2
def Xd (K : PySem.W.Frag) (W : Str -> Hp -> Prop) (H : Hp) (P : Pv) (r : Res PyData) (Q : VK) : Prop :=
 match r with
 | .ok t => ∀ v H', Same H H' -> Rl K H' P t v -> Q v H'
 | .exc c => ∀ H', Same H H' -> W c H'
 | .stuck => False
def tF (K : PySem.W.Frag) (W : Str -> Hp -> Prop) (d : DE) : TE := fun σ H Q => ∃ G P, Hol K H P σ G /\ Xd K W H P (d G) Q
def Q8 (K : PySem.W.Frag) (W : Str -> Hp -> Prop) (H : Hp) (P : Pv) (r : Res (List PyData)) (Q : List V -> Hp -> Prop) : Prop :=
 match r with
 | .ok ts => ∀ vs H', Same H H' -> Rls K H' P ts vs -> Q vs H'
 | .exc c => ∀ H', Same H H' -> W c H'
 | .stuck => False
def tFA (K : PySem.W.Frag) (W : Str -> Hp -> Prop) (d : DA) : TA := fun σ H Q => ∃ G P, Hol K H P σ G /\ Q8 K W H P (d G) Q
def Vz (W : Str -> Hp -> Prop) (H : Hp) (r : Res Bool) (Q : Bool -> Hp -> Prop) : Prop :=
 match r with
 | .ok b => ∀ H', Same H H' -> Q b H'
 | .exc c => ∀ H', Same H H' -> W c H'
 | .stuck => False
def tFT (K : PySem.W.Frag) (W : Str -> Hp -> Prop) (d : DT) : TT := fun σ H Q => ∃ G P, Hol K H P σ G /\ Vz W H (d G) Q
def Pv.fbd (P : Pv) (p : Addr) : Pv := ⟨P.own, fun a => P.fb a \/ a = p⟩
def NewL (K : PySem.W.Frag) (H : Hp) (P : Pv) (H' : Hp) (P' : Pv) (t : PyData) (v : V) : Prop :=
 ∃ p us xs, v = .ref p /\ t = .list xs /\ H' p = some (.lst us) /\ Rls K H' (P'.fbd p) xs us /\ ∀ o, H p = some o -> Nt o -> ∃ i, P.own i = some p
theorem NewL.back {K : PySem.W.Frag} {H H1 H' : Hp} {P P1 P' : Pv} {t : PyData} {v : V} (g : Go H P H1 P1) (n : NewL K H1 P1 H' P' t v) : NewL K H P H' P' t v := by
 obtain ⟨p, us, xs, e1, e2, e3, r, q⟩ := n
 refine ⟨p, us, xs, e1, e2, e3, r, fun o e nt => Classical.byContradiction fun z => ?_⟩
 have := g.mv p o e nt fun i w => z ⟨i, w⟩
 obtain ⟨i, w⟩ := q o this.1 nt
 exact this.2 i w
def YY (K : PySem.W.Frag) (W : Str -> Hp -> Prop) (fl : Bool) (H : Hp) (P : Pv) (r : Res Out) (D : Ends) : Prop :=
 match r with
 | .ok (.nx G') => ∀ σ' H' P', Go H P H' P' -> Hol K H' P' σ' G' -> D.nx σ' H'
 | .ok (.bk G') => ∀ σ' H' P', Go H P H' P' -> Hol K H' P' σ' G' -> D.bk σ' H'
 | .ok (.ct G') => ∀ σ' H' P', Go H P H' P' -> Hol K H' P' σ' G' -> D.ct σ' H'
 | .ok (.rt t) => ∀ v H' P', Go H P H' P' -> Rl K H' P' t v -> (fl = true -> NewL K H P H' P' t v) -> D.rt v H'
 | .exc c => ∀ H' P', Go H P H' P' -> W c H'
 | .stuck => False
def tFS (K : PySem.W.Frag) (W : Str -> Hp -> Prop) (fl : Bool) (d : DS) : TS := fun D σ H => ∃ G P, Hol K H P σ G /\ YY K W fl H P (d G) D
def EV (X : Cx) (W : Str -> Hp -> Prop) (e : Expr) (d : DE) : Prop := PE X e (tF X.K W d)
def AV (X : Cx) (W : Str -> Hp -> Prop) (es : List Expr) (d : DA) : Prop := PA X es (tFA X.K W d)
def TV (X : Cx) (W : Str -> Hp -> Prop) (e : Expr) (d : DT) : Prop := PT X e (tFT X.K W d)
def TW (X : Cx) (W : Str -> Hp -> Prop) (e : Expr) (d : DT) : Prop := PW X e (tFT X.K W d)
def SV (X : Cx) (W : Str -> Hp -> Prop) (fl : Bool) (st : Stmt) (d : DS) : Prop := PS X st (tFS X.K W fl d)
def SVs (X : Cx) (W : Str -> Hp -> Prop) (fl : Bool) (st : List Stmt) (d : DS) : Prop := PSs X st (tFS X.K W fl d)
theorem ZI {X : Cx} {e : Expr} {t t' : TE} (h : PE X e t) (w : ∀ σ H Q, t' σ H Q -> t σ H Q) : PE X e t' := fun pins s σ H Q I q => h pins s σ H Q I (w σ H Q q)
theorem Js {X : Cx} {e : List Expr} {t t' : TA} (h : PA X e t) (w : ∀ σ H Q, t' σ H Q -> t σ H Q) : PA X e t' := fun pos pins s σ H Q I q => h pos pins s σ H Q I (w σ H Q q)
theorem UU {X : Cx} {e : Expr} {t t' : TT} (h : PT X e t) (w : ∀ σ H Q, t' σ H Q -> t σ H Q) : PT X e t' := fun pins s σ H Q I q => h pins s σ H Q I (w σ H Q q)
theorem pw_weak {X : Cx} {e : Expr} {t t' : TT} (h : PW X e t) (w : ∀ σ H Q, t' σ H Q -> t σ H Q) : PW X e t' := fun wh pins s σ H Q I q => h wh pins s σ H Q I (w σ H Q q)
theorem Xk {X : Cx} {e : Stmt} {t t' : TS} (h : PS X e t) (w : ∀ D σ H, t' D σ H -> t D σ H) : PS X e t' := fun pins s σ H D I q => h pins s σ H D I (w D σ H q)
theorem Qp {X : Cx} {e : List Stmt} {t t' : TS} (h : PSs X e t) (w : ∀ D σ H, t' D σ H -> t D σ H) : PSs X e t' := fun pins s σ H D I q => h pins s σ H D I (w D σ H q)
theorem ZY {K : PySem.W.Frag} {W : Str -> Hp -> Prop} {σ : L2.St} {G : List Sl} {H : Hp} {P : Pv} {a : DE} (h : Hol K H P σ G) {Q : VK}
  (hx : ∀ c, a G = .exc c -> ∀ H', Same H H' -> W c H') (hs : a G ≠ .stuck)
  (q : ∀ t v H', a G = .ok t -> Same H H' -> Hol K H' P σ G -> Rl K H' P t v -> Q v H') : tF K W a σ H Q := by
 refine ⟨G, P, h, ?_⟩
 unfold Xd
 cases e : a G with
 | ok t => exact fun v H' s r => q t v H' e s (h.same s) r
 | exc c => exact hx c e
 | stuck => exact hs e
theorem W1 {K : PySem.W.Frag} {W : Str -> Hp -> Prop} {σ : L2.St} {G : List Sl} {H : Hp} {P : Pv} {a : DT} (h : Hol K H P σ G) {Q : Bool -> Hp -> Prop}
  (hx : ∀ c, a G = .exc c -> ∀ H', Same H H' -> W c H') (hs : a G ≠ .stuck)
  (q : ∀ t H', a G = .ok t -> Same H H' -> Hol K H' P σ G -> Q t H') : tFT K W a σ H Q := by
 refine ⟨G, P, h, ?_⟩
 unfold Vz
 cases e : a G with
 | ok t => exact fun H' s => q t H' e s (h.same s)
 | exc c => exact hx c e
 | stuck => exact hs e
theorem Wl {K : PySem.W.Frag} {W : Str -> Hp -> Prop} {σ : L2.St} {G : List Sl} {H : Hp} {P : Pv} {a : DA} (h : Hol K H P σ G) {Q : List V -> Hp -> Prop}
  (hx : ∀ c, a G = .exc c -> ∀ H', Same H H' -> W c H') (hs : a G ≠ .stuck)
  (q : ∀ t v H', a G = .ok t -> Same H H' -> Hol K H' P σ G -> Rls K H' P t v -> Q v H') : tFA K W a σ H Q := by
 refine ⟨G, P, h, ?_⟩
 unfold Q8
 cases e : a G with
 | ok t => exact fun v H' s r => q t v H' e s (h.same s) r
 | exc c => exact hx c e
 | stuck => exact hs e
section
variable {X : Cx} {W : Str -> Hp -> Prop} {a b c e : Expr} {es : List Expr} {da db : DE} {pos : Pos}
theorem Zb (i : Nat) {x : Str} {pos : Pos} (hN : X.N[i]? = some x := by rfl) (hv : Vis X.env.scope x := by first | exact Or.inl rfl | exact Or.inr (Or.inl rfl) | exact Or.inr (Or.inr rfl)) (hd : (x == ("__debug__" : Str)) = false := by decide)
  (hcd : (x == ("__classdict__" : Str)) = false := by decide) : EV X W (.Name x pos) (dVar i) :=
 ZI (Jq hN hv hd hcd) fun σ H Q ⟨G, P, h, q⟩ => by
  unfold dVar at q
  cases e : G[i]? with
  | none => rw [e] at q; exact q.elim
  | some s =>
   rw [e] at q
   cases s with
   | emp => exact q.elim
   | own xs => exact q.elim
   | val t =>
    obtain ⟨v, e1, r⟩ := h.sl i _ e
    exact ⟨v, getD_some e1, q v H (Same.refl H) r⟩
theorem Zd {i j pos} : EV X W (.Constant (.int i) j pos) (dC (.int i)) := ZI pe_int fun σ H Q ⟨G, P, h, q⟩ => q _ H (Same.refl H) (ZX.mpr rfl)
theorem U6 {b j pos} : EV X W (.Constant (.bool b) j pos) (dC (.bool b)) := ZI pe_bl fun σ H Q ⟨G, P, h, q⟩ => q _ H (Same.refl H) (YL.mpr rfl)
theorem UB {j pos} : EV X W (.Constant .none j pos) (dC .none) := ZI pe_non fun σ H Q ⟨G, P, h, q⟩ => q _ H (Same.refl H) (XJ.mpr rfl)
theorem YS {x j pos} : EV X W (.Constant (.str x) j pos) (dC (.str x)) := ZI pe_str fun σ H Q ⟨G, P, h, q⟩ => q _ H (Same.refl H) (Ul.mpr rfl)
theorem V6 {x : Str} {i : Int} {t : Tok} {pos : Pos} (hg : Gl X x) (hm : X.mg x = some (.int i t)) (hd : (x == ("__debug__" : Str)) = false := by decide) : EV X W (.Name x pos) (dC (.int i)) :=
 ZI (pe_glob (v := .int i) hg hm ⟨t, rfl⟩ hd) fun σ H Q ⟨G, P, h, q⟩ => q _ H (Same.refl H) (ZX.mpr rfl)
def Fop (X : Cx) (W : Str -> Hp -> Prop) (r : R2) (f : PyData -> PyData -> Res PyData) : Prop :=
 ∀ (H : Hp) (P : Pv) (σ : L2.St) (G : List Sl) (x y : V) (tx ty : PyData) (Q : VK), Hol X.K H P σ G -> Rl X.K H P tx x -> Rl X.K H P ty y -> Xd X.K W H P (f tx ty) Q -> r x y H Q
theorem UL {a : Res PyData} {f : PyData -> Res PyData} {K : PySem.W.Frag} {H : Hp} {P : Pv} {Q : VK} (q : Xd K W H P (a.bind f) Q) :
  (∀ c, a = .exc c -> ∀ H', Same H H' -> W c H') /\ a ≠ .stuck /\ ∀ t, a = .ok t -> Xd K W H P (f t) Q := by
 cases a with
 | ok t => exact ⟨fun c e => (by cases e), (by intro e; cases e), fun t' e => by cases e; exact q⟩
 | exc c => exact ⟨fun c' e => by cases e; exact q, (by intro e; cases e), fun t e => by cases e⟩
 | stuck => exact q.elim
theorem Xd.up {K : PySem.W.Frag} {H H' : Hp} {P : Pv} {r : Res PyData} {Q : VK} (q : Xd K W H P r Q) (s : Same H H') : Xd K W H' P r Q := by
 cases r with
 | ok t => exact fun v H2 s2 r2 => q v H2 (s.trans s2) r2
 | exc c => exact fun H2 s2 => q H2 (s.trans s2)
 | stuck => exact q
theorem Qj {r : R2} {f : PyData -> PyData -> Res PyData} (hf : Fop X W r f) {σ : L2.St} {H : Hp} {Q : VK} (h : tF X.K W (d2 f da db) σ H Q) : tOp r (tF X.K W da) (tF X.K W db) σ H Q := by
 obtain ⟨G, P, h, q⟩ := h
 unfold d2 at q
 obtain ⟨q1, q2, q3⟩ := UL q
 refine ZY h q1 q2 fun tx x H1 ex s1 h1 rx => ?_
 obtain ⟨q4, q5, q6⟩ := UL (q3 tx ex)
 refine ZY h1 (fun c e H' s => q4 c e H' (s1.trans s)) q5 fun ty y H2 ey s2 h2 ry => ?_
 exact hf H2 P σ G x y tx ty Q h2 (Rl.go (.same s2) tx x rx) ry ((q6 ty ey).up (s1.trans s2))
theorem ZF {op : Operator} {r : R2} {f : PyData -> PyData -> Res PyData} (ho : OpR X (binaryOp op) r /\ Fop X W r f) (ha : EV X W a da) (hb : EV X W b db) : EV X W (.BinOp a op b pos) (d2 f da db) :=
 ZI (pe_op ho.1 ha hb) fun σ H Q h => Qj ho.2 h
theorem Qz {op : CmpOp} {r : R2} {f : PyData -> PyData -> Res PyData} (ho : OpR X (compareOp op) r /\ Fop X W r f) (ha : EV X W a da) (hb : EV X W b db) (hm : behindInMarks op b = false) : EV X W (.Compare a [op] [b] pos) (d2 f da db) :=
 ZI (pe_cmpR ho.1 ha hb hm) fun σ H Q h => Qj ho.2 h
theorem Qx {C : Int -> Int -> Prop} {g : Int -> Int -> V} {f : PyData -> PyData -> Res PyData}
  (h : ∀ (H : Hp) (P : Pv) (tx ty : PyData) (Q : VK), Xd X.K W H P (f tx ty) Q -> ∃ i j, tx = .int i /\ ty = .int j /\ C i j /\ Q (g i j) H) : Fop X W (rI C g) f := fun H P σ G x y tx ty Q hh rx ry q => by
 obtain ⟨i, j, rfl, rfl, c, q'⟩ := h H P tx ty Q q
 exact ⟨i, j, ZX.mp rx, ZX.mp ry, c, q'⟩
theorem Vg {g : Int -> Int -> V} {f : PyData -> PyData -> Res PyData}
  (h : ∀ (H : Hp) (P : Pv) (tx ty : PyData) (Q : VK), Xd X.K W H P (f tx ty) Q -> ∃ i j, tx = .int i /\ ty = .int j /\ Q (g i j) H) : Fop X W (rI0 g) f := fun H P σ G x y tx ty Q hh rx ry q => by
 obtain ⟨i, j, rfl, rfl, q'⟩ := h H P tx ty Q q
 exact ⟨i, j, ZX.mp rx, ZX.mp ry, q'⟩
theorem YE {K : PySem.W.Frag} {H : Hp} {P : Pv} {Q : VK} {i : Int} (q : Xd K W H P (.ok (.int i)) Q) : Q (.int i) H := q _ H (Same.refl H) (ZX.mpr rfl)
theorem YB {K : PySem.W.Frag} {H : Hp} {P : Pv} {Q : VK} {i : Bool} (q : Xd K W H P (.ok (.bool i)) Q) : Q (.bl i) H := q _ H (Same.refl H) (YL.mpr rfl)
theorem SL.off {K : PySem.W.Frag} {H : Hp} {P : Pv} {a : Addr} {xs : List V} (h : H a = some (.lst xs)) (o : Off P a) : SL K H P a xs := .inl ⟨.inl h, o⟩
def rCatS (K : PySem.W.Frag) : R2 := fun x y H Q => ∃ l b xs zs, x = .ref l /\ y = .ref b /\ SqL K H l xs /\ SqL K H b zs /\ xs.length + zs.length <= sizeLine /\ ∀ p, H p = none -> Q (.ref p) (upd H p (.lst (xs ++ zs)))
theorem op_catS : OpR X (binaryOp .Add) (rCatS X.K) := by
 intro pins s σ H x y v u Q I rx ry h
 obtain ⟨l, b, xs, zs, rfl, rfl, hH, hB, hz, q⟩ := h
 cases rx
 cases ry
 obtain ⟨its, r, ⟨o, n, e, hc, hd, hs⟩, z⟩ := I.list hH
 obtain ⟨its2, r2, ⟨o2, n2, e2, hc2, hd2, hs2⟩, z2⟩ := I.list hB
 obtain ⟨c1, c2, c3, c4⟩ := o
 obtain ⟨k1, k2, k3, k4⟩ := o2
 simp only at hc hd hs hc2 hd2 hs2
 subst hc hd hs hc2 hd2 hs2
 have l1 := r.length
 have l2 := r2.length
 refine concat_meets ⟨_, e, rfl⟩ ⟨_, e2, rfl⟩ noFill_list_add seq_list_add PySem.F.slot_list_add PySem.F.entry_list_add (PySem.F.args_list_add_2 _ _) (list_addW l b its.toArray its2.toArray n n2 none none c4 k4 (by simp; omega)) ⟨e, e2, ?_⟩
 have ea : its.toArray ++ its2.toArray = (its ++ its2).toArray := by simp
 rw [ea]
 exact ⟨.ref _, _, I.lnew (t' := s.toks) (r.append r2) (by rw [List.length_append]; omega), rfl, q _ I.fresh⟩
theorem Y6 : OpR X (binaryOp .Add) (fun x y H Q => rI0 (fun i j => .int (i + j)) x y H Q \/ rCatS X.K x y H Q) /\ Fop X W (fun x y H Q => rI0 (fun i j => .int (i + j)) x y H Q \/ rCatS X.K x y H Q) fAdd :=
 ⟨op_add.or op_catS, fun H P σ G x y tx ty Q h rx ry q => by
  cases tx <;> cases ty <;> try exact q.elim
  ·exact .inl ⟨_, _, ZX.mp rx, ZX.mp ry, YE q⟩
  ·rename_i xs ys
   refine .inr ?_
   obtain ⟨l, us, rfl, s1, r1⟩ := Z7.mp rx
   obtain ⟨m, ws, rfl, s2, r2⟩ := Z7.mp ry
   simp only [fAdd] at q
   split at q
   ·rename_i hz
    have e1 := r1.length
    have e2 := r2.length
    refine ⟨l, m, us, ws, rfl, rfl, s1.sq, s2.sq, by rw [sizeLine_eq]; omega, fun p hp => q _ _ (ZS hp) (Z7.mpr ⟨p, us ++ ws, rfl, .off ZQ (h.off_new hp), ?_⟩)⟩
    exact (Rls.go (.same (ZS hp)) xs us r1).append (Rls.go (.same (ZS hp)) ys ws r2)
   ·exact q.elim⟩
theorem WB : OpR X (binaryOp .Sub) (rI0 fun i j => .int (i - j)) /\ Fop X W (rI0 fun i j => .int (i - j)) fSub :=
 ⟨op_sub, Vg fun H P tx ty Q q => by
  cases tx <;> cases ty <;> try exact q.elim
  exact ⟨_, _, rfl, rfl, YE q⟩⟩
theorem mulOk_ok {i j : Int} (h : WY i j = true) : IntMulOk i j := by
 have bits : ∀ k : Int, Builtin.Int.intBits k <= k.natAbs.log2 + 1 := fun k => by
  unfold Builtin.Int.intBits
  split <;> omega
 simp only [WY, Bool.or_eq_true, decide_eq_true_eq] at h
 rcases h with (h | h) | h
 ·have h1 := bits i
  have h2 := bits j
  unfold IntMulOk
  intro z
  simp only [Bool.and_eq_true, decide_eq_true_eq, Builtin.Int.intTooBig] at z
  have := z.2
  simp only [bitsLine] at this
  omega
 ·exact .of_left (intBits_le_64 (by omega) (by omega))
 ·exact .of_right (intBits_le_64 (by omega) (by omega))
theorem VW : OpR X (binaryOp .Mult) (rI (fun i j => WY i j = true) fun i j => .int (i * j)) /\ Fop X W (rI (fun i j => WY i j = true) fun i j => .int (i * j)) fMul :=
 ⟨opI fun _ _ _ _ _ _ _ hc q => mul_int q (mulOk_ok hc), Qx fun H P tx ty Q q => by
  cases tx <;> cases ty <;> try exact q.elim
  simp only [fMul] at q
  split at q
  ·rename_i hc; exact ⟨_, _, rfl, rfl, hc, YE q⟩
  ·exact q.elim⟩
theorem QB {i j : Int} (h : U7 j = true) : j ≠ 0 /\ Builtin.divisionGoesByPylong i j = false := by
 simp only [U7, Bool.and_eq_true, decide_eq_true_eq] at h
 refine ⟨h.1, ?_⟩
 unfold Builtin.divisionGoesByPylong
 have e : (j == 0) = false := by simpa using h.1
 simp only [e]
 have : ¬ (j.natAbs.log2 / 30 + 1 > 300) := by omega
 simp [this]
theorem VX : OpR X (binaryOp .FloorDiv) (rI (fun _ j => U7 j = true) fun i j => .int (i.fdiv j)) /\ Fop X W (rI (fun _ j => U7 j = true) fun i j => .int (i.fdiv j)) fDiv :=
 ⟨opI fun _ _ _ _ _ _ _ hc q => floordiv_int (QB (i := 0) hc).1 q (.inl (QB hc).2), Qx fun H P tx ty Q q => by
  cases tx <;> cases ty <;> try exact q.elim
  simp only [fDiv] at q
  split at q
  ·rename_i hc; exact ⟨_, _, rfl, rfl, hc, YE q⟩
  ·exact q.elim⟩
theorem ZH : OpR X (binaryOp .Mod) (rI (fun _ j => j ≠ 0) fun i j => .int (i.fmod j)) /\ Fop X W (rI (fun _ j => j ≠ 0) fun i j => .int (i.fmod j)) fMod :=
 ⟨op_modN, Qx fun H P tx ty Q q => by
  cases tx <;> cases ty <;> try exact q.elim
  simp only [fMod] at q
  split at q
  ·exact q.elim
  ·rename_i hc; exact ⟨_, _, rfl, rfl, hc, YE q⟩⟩
theorem UW : OpR X (binaryOp .Pow) (rI CPow fun i j => .int (i ^ j.toNat)) /\ Fop X W (rI CPow fun i j => .int (i ^ j.toNat)) fPow :=
 ⟨op_pow, Qx fun H P tx ty Q q => by
  cases tx <;> cases ty <;> try exact q.elim
  simp only [fPow] at q
  split at q
  ·rename_i hc; exact ⟨_, _, rfl, rfl, hc, YE q⟩
  ·exact q.elim⟩
theorem Uo : OpR X (compareOp .Lt) (rI0 fun i j => .bl (decide (i < j))) /\ Fop X W (rI0 fun i j => .bl (decide (i < j))) fLt :=
 ⟨op_lt, Vg fun H P tx ty Q q => by
  cases tx <;> cases ty <;> try exact q.elim
  exact ⟨_, _, rfl, rfl, YB q⟩⟩
theorem op_leF : OpR X (compareOp .LtE) (rI0 fun i j => .bl (decide (i <= j))) /\ Fop X W (rI0 fun i j => .bl (decide (i <= j))) fLe :=
 ⟨op_le, Vg fun H P tx ty Q q => by
  cases tx <;> cases ty <;> try exact q.elim
  exact ⟨_, _, rfl, rfl, YB q⟩⟩
theorem Qq : OpR X (compareOp .Gt) (rI0 fun i j => .bl (decide (j < i))) /\ Fop X W (rI0 fun i j => .bl (decide (j < i))) fGt :=
 ⟨op_gt, Vg fun H P tx ty Q q => by
  cases tx <;> cases ty <;> try exact q.elim
  exact ⟨_, _, rfl, rfl, YB q⟩⟩
theorem op_geF : OpR X (compareOp .GtE) (rI0 fun i j => .bl (decide (j <= i))) /\ Fop X W (rI0 fun i j => .bl (decide (j <= i))) fGe :=
 ⟨op_ge, Vg fun H P tx ty Q q => by
  cases tx <;> cases ty <;> try exact q.elim
  exact ⟨_, _, rfl, rfl, YB q⟩⟩
mutual
theorem Rl.reads {pins : List (Addr × Obj)} {σ : L2.St} {H : Hp} {s : Shared} {P : Pv} (I : Inv X pins σ H s) : ∀ (t : PyData) (v : V) (u : Value), t.canLay0 = true -> Rl X.K H P t v -> RelV v u -> ∃ as, Reads s.heap u t as
 | .none, v, u, _, h, r => by rw [XJ.mp h] at r; cases r; exact ⟨_, .none⟩
 | .bool b, v, u, hl, h, r => by rw [YL.mp h] at r; cases r; exact ⟨_, .bool b⟩
 | .int i, v, u, hl, h, r => by rw [ZX.mp h] at r; obtain ⟨t, rfl⟩ := r; exact ⟨_, .int i t⟩
 | .str x, v, u, hl, h, r => by rw [Ul.mp h] at r; obtain ⟨t, rfl⟩ := r; exact ⟨_, .str x t⟩
 | .list xs, v, u, hl, h, r => by
  obtain ⟨a, vs, rfl, sl, rs⟩ := Z7.mp h
  cases r
  obtain ⟨its, rv, ⟨o, n, e, hc, hd, hs⟩, z⟩ := I.list sl.sq
  obtain ⟨as, ra⟩ := Rls.reads I xs vs its (by simpa [PyData.canLay0] using hl) rs rv
  exact ⟨_, .list e hc hs (by simpa using ra)⟩
 | .tuple xs, v, u, hl, h, r => by
  obtain ⟨a, vs, rfl, sl, rs⟩ := Yi.mp h
  cases r
  obtain ⟨its, rv, ⟨o, e, hc, n, hs⟩, z⟩ := I.tuple sl.sq
  obtain ⟨as, ra⟩ := Rls.reads I xs vs its (by simpa [PyData.canLay0] using hl) rs rv
  exact ⟨_, .tuple e hc hs (by simpa using ra)⟩
 | .dict _, v, u, hl, h, r => by simp [PyData.canLay0] at hl
theorem Rls.reads {pins : List (Addr × Obj)} {σ : L2.St} {H : Hp} {s : Shared} {P : Pv} (I : Inv X pins σ H s) : ∀ (ts : List PyData) (vs : List V) (us : List Value), PyData.canLayAll0 ts = true -> Rls X.K H P ts vs -> Vals vs us -> ∃ as, ReadsAll s.heap us ts as
 | [], vs, us, _, h, r => by rw [Yr.mp h] at r; cases r; exact ⟨_, .nil⟩
 | t :: ts, vs, us, hl, h, r => by
  simp only [PyData.canLayAll0, Bool.and_eq_true] at hl
  obtain ⟨v, vs', rfl, h1, h2⟩ := ZO.mp h
  cases r with
  | cons r1 r2 =>
   obtain ⟨as, ra⟩ := Rl.reads I t v _ hl.1 h1 r1
   obtain ⟨bs, rb⟩ := Rls.reads I ts vs' _ hl.2 h2 r2
   exact ⟨_, .cons ra rb⟩
end
theorem XV {t : PyData} (h : Y5 t = true) : t.canLay0 = true := by
 unfold Y5 at h
 rw [Bool.and_eq_true] at h
 exact h.1
def rEqD (K : PySem.W.Frag) (k : Bool -> Bool) : R2 := fun x y H Q => ∃ P tx ty, Rl K H P tx x /\ Rl K H P ty y /\ Y5 tx = true /\ Y5 ty = true /\ Q (.bl (k (tx.eqv ty))) H
theorem op_eqD (hu : X.A.units + 64 < cLine) : OpR X (compareOp .Eq) (rEqD X.K fun k => k) := by
 intro pins s σ H x y v u Q I rx ry h
 obtain ⟨P, tx, ty, hx, hy, sx, sy, q⟩ := h
 obtain ⟨as, ra⟩ := Rl.reads I tx x v (XV sx) hx rx
 obtain ⟨bs, rb⟩ := Rl.reads I ty y u (XV sy) hy ry
 exact SeqAt.compareEq_shaped ra rb sx sy hu ⟨.bl _, H, I, rfl, q⟩
theorem op_neD (hu : X.A.units + 64 < cLine) : OpR X (compareOp .NotEq) (rEqD X.K fun k => !k) := by
 intro pins s σ H x y v u Q I rx ry h
 obtain ⟨P, tx, ty, hx, hy, sx, sy, q⟩ := h
 obtain ⟨as, ra⟩ := Rl.reads I tx x v (XV sx) hx rx
 obtain ⟨bs, rb⟩ := Rl.reads I ty y u (XV sy) hy ry
 exact SeqAt.compareNe_shaped ra rb sx sy hu ⟨.bl _, H, I, rfl, q⟩
def rEqI (k : Bool -> Bool) : R2 := rI0 fun i j => .bl (k (decide (i = j)))
theorem op_eqI : OpR X (compareOp .Eq) (rEqI fun k => k) := opB0 fun i j _ _ _ _ _ q => eq_int (by rw [Bool.beq_eq_decide_eq]; exact q)
theorem op_neI : OpR X (compareOp .NotEq) (rEqI fun k => !k) := opB0 fun i j _ _ _ _ _ q => ne_int (by rw [bne, Bool.beq_eq_decide_eq]; exact q)
theorem Yh (hu : X.A.units + 64 < cLine) : OpR X (compareOp .Eq) (fun x y H Q => rEqI (fun k => k) x y H Q \/ rEqD X.K (fun k => k) x y H Q) /\ Fop X W (fun x y H Q => rEqI (fun k => k) x y H Q \/ rEqD X.K (fun k => k) x y H Q) fEq :=
 ⟨op_eqI.or (op_eqD hu), fun H P σ G x y tx ty Q h rx ry q => by
  unfold fEq at q
  split at q
  ·exact .inl ⟨_, _, ZX.mp rx, ZX.mp ry, YB q⟩
  ·split at q
   ·rename_i hc
    rw [Bool.and_eq_true] at hc
    exact .inr ⟨P, tx, ty, rx, ry, hc.1, hc.2, YB q⟩
   ·exact q.elim⟩
theorem WH (hu : X.A.units + 64 < cLine) : OpR X (compareOp .NotEq) (fun x y H Q => rEqI (fun k => !k) x y H Q \/ rEqD X.K (fun k => !k) x y H Q) /\ Fop X W (fun x y H Q => rEqI (fun k => !k) x y H Q \/ rEqD X.K (fun k => !k) x y H Q) fNe :=
 ⟨op_neI.or (op_neD hu), fun H P σ G x y tx ty Q h rx ry q => by
  unfold fNe at q
  split at q
  ·exact .inl ⟨_, _, ZX.mp rx, ZX.mp ry, YB q⟩
  ·split at q
   ·rename_i hc
    rw [Bool.and_eq_true] at hc
    exact .inr ⟨P, tx, ty, rx, ry, hc.1, hc.2, YB q⟩
   ·exact q.elim⟩
theorem tUn_of {r : V -> Hp -> VK -> Prop} {f : PyData -> Res PyData} (hf : ∀ (H : Hp) (P : Pv) (x : V) (tx : PyData) (Q : VK), Rl X.K H P tx x -> Xd X.K W H P (f tx) Q -> r x H Q) {σ : L2.St} {H : Hp} {Q : VK} (h : tF X.K W (d1 f da) σ H Q) :
  tUn r (tF X.K W da) σ H Q := by
 obtain ⟨G, P, h, q⟩ := h
 unfold d1 at q
 obtain ⟨q1, q2, q3⟩ := UL q
 exact ZY h q1 q2 fun tx x H1 ex s1 h1 rx => hf H1 P x tx Q rx ((q3 tx ex).up s1)
theorem JJ (ha : EV X W a da) : EV X W (.UnaryOp .USub a pos) (d1 fNeg da) :=
 ZI (pe_un un_neg ha) fun σ H Q h => tUn_of (r := rU fun i => .int (-i)) (fun H P x tx Q rx q => by
  cases tx <;> try exact q.elim
  exact ⟨_, ZX.mp rx, YE q⟩) h
theorem bindA {a : Res PyData} {f : PyData -> Res (List PyData)} {K : PySem.W.Frag} {H : Hp} {P : Pv} {Q : List V -> Hp -> Prop} (q : Q8 K W H P (a.bind f) Q) :
  (∀ c, a = .exc c -> ∀ H', Same H H' -> W c H') /\ a ≠ .stuck /\ ∀ t, a = .ok t -> Q8 K W H P (f t) Q := by
 cases a with
 | ok t => exact ⟨fun c e => (by cases e), (by intro e; cases e), fun t' e => by cases e; exact q⟩
 | exc c => exact ⟨fun c' e => by cases e; exact q, (by intro e; cases e), fun t e => by cases e⟩
 | stuck => exact q.elim
theorem bindAA {a : Res (List PyData)} {f : List PyData -> Res (List PyData)} {K : PySem.W.Frag} {H : Hp} {P : Pv} {Q : List V -> Hp -> Prop} (q : Q8 K W H P (a.bind f) Q) :
  (∀ c, a = .exc c -> ∀ H', Same H H' -> W c H') /\ a ≠ .stuck /\ ∀ t, a = .ok t -> Q8 K W H P (f t) Q := by
 cases a with
 | ok t => exact ⟨fun c e => (by cases e), (by intro e; cases e), fun t' e => by cases e; exact q⟩
 | exc c => exact ⟨fun c' e => by cases e; exact q, (by intro e; cases e), fun t e => by cases e⟩
 | stuck => exact q.elim
theorem zac {a : Res (List PyData)} {f : List PyData -> Res PyData} {K : PySem.W.Frag} {H : Hp} {P : Pv} {Q : VK} (q : Xd K W H P (a.bind f) Q) :
  (∀ c, a = .exc c -> ∀ H', Same H H' -> W c H') /\ a ≠ .stuck /\ ∀ t, a = .ok t -> Xd K W H P (f t) Q := by
 cases a with
 | ok t => exact ⟨fun c e => (by cases e), (by intro e; cases e), fun t' e => by cases e; exact q⟩
 | exc c => exact ⟨fun c' e => by cases e; exact q, (by intro e; cases e), fun t e => by cases e⟩
 | stuck => exact q.elim
theorem bindT {a : Res Bool} {f : Bool -> Res Bool} {H : Hp} {Q : Bool -> Hp -> Prop} (q : Vz W H (a.bind f) Q) :
  (∀ c, a = .exc c -> ∀ H', Same H H' -> W c H') /\ a ≠ .stuck /\ ∀ t, a = .ok t -> Vz W H (f t) Q := by
 cases a with
 | ok t => exact ⟨fun c e => (by cases e), (by intro e; cases e), fun t' e => by cases e; exact q⟩
 | exc c => exact ⟨fun c' e => by cases e; exact q, (by intro e; cases e), fun t e => by cases e⟩
 | stuck => exact q.elim
theorem bindET {a : Res PyData} {f : PyData -> Res Bool} {H : Hp} {Q : Bool -> Hp -> Prop} (q : Vz W H (a.bind f) Q) :
  (∀ c, a = .exc c -> ∀ H', Same H H' -> W c H') /\ a ≠ .stuck /\ ∀ t, a = .ok t -> Vz W H (f t) Q := by
 cases a with
 | ok t => exact ⟨fun c e => (by cases e), (by intro e; cases e), fun t' e => by cases e; exact q⟩
 | exc c => exact ⟨fun c' e => by cases e; exact q, (by intro e; cases e), fun t e => by cases e⟩
 | stuck => exact q.elim
theorem Vz.up {H H' : Hp} {r : Res Bool} {Q : Bool -> Hp -> Prop} (q : Vz W H r Q) (s : Same H H') : Vz W H' r Q := by
 cases r with
 | ok t => exact fun H2 s2 => q H2 (s.trans s2)
 | exc c => exact fun H2 s2 => q H2 (s.trans s2)
 | stuck => exact q
theorem Zg : AV X W [] dNil := Js Wc fun σ H Q ⟨G, P, h, q⟩ => q [] H (Same.refl H) (Yr.mpr rfl)
theorem Za {dr : DA} (ha : EV X W e da) (hr : AV X W es dr) (hs : starEach (e :: es) X.env = (false, eval e X.env) :: starEach es X.env := by rfl) : AV X W (e :: es) (Zc da dr) :=
 Js (YM ha hr hs) fun σ H Q ⟨G, P, h, q⟩ => by
  unfold Zc at q
  obtain ⟨q1, q2, q3⟩ := bindA q
  refine ZY h q1 q2 fun tx x H1 ex s1 h1 rx => ?_
  obtain ⟨q4, q5, q6⟩ := bindAA (q3 tx ex)
  refine Wl h1 (fun c e H' s => q4 c e H' (s1.trans s)) q5 fun ts vs H2 es' s2 h2 rs => ?_
  exact (q6 ts es') (x :: vs) H2 (s1.trans s2) (ZO.mpr ⟨x, vs, rfl, Rl.go (.same s2) tx x rx, rs⟩)
theorem V4 {xs : List PyData} {vs : List V} {K : PySem.W.Frag} {H : Hp} {P : Pv} (h : lenOk xs = true) (r : Rls K H P xs vs) : vs.length <= sizeLine := by
 have := r.length
 have h' : xs.length <= 16777216 := of_decide_eq_true h
 rw [sizeLine_eq]; omega
theorem ST.off {K : PySem.W.Frag} {H : Hp} {P : Pv} {a : Addr} {xs : List V} (h : H a = some (.tup xs)) (o : Off P a) : ST K H P a xs := .inl ⟨.inl h, o⟩
theorem YR {da : DA} {x1} (h : AV X W es da) : EV X W (.Tuple es x1 pos) (dTup da) :=
 ZI (pe_tup h) fun σ H Q ⟨G, P, h, q⟩ => by
  unfold dTup at q
  obtain ⟨q1, q2, q3⟩ := zac q
  refine Wl h q1 q2 fun ts vs H1 es' s1 h1 rs => ?_
  have q4 := q3 ts es'
  split at q4
  ·rename_i hl
   exact ⟨V4 hl rs, fun p hp => q4 _ _ (s1.trans (ZS hp)) (Yi.mpr ⟨p, vs, rfl, .off ZQ (h1.off_new hp), Rls.go (.same (ZS hp)) ts vs rs⟩)⟩
  ·exact q4.elim
theorem XM {da : DA} (h : AV X W es da) : EV X W (.List es pos) (dLst da) :=
 ZI (pe_lst h) fun σ H Q ⟨G, P, h, q⟩ => by
  unfold dLst at q
  obtain ⟨q1, q2, q3⟩ := zac q
  refine Wl h q1 q2 fun ts vs H1 es' s1 h1 rs => ?_
  have q4 := q3 ts es'
  split at q4
  ·rename_i hl
   exact ⟨V4 hl rs, fun p hp => q4 _ _ (s1.trans (ZS hp)) (Z7.mpr ⟨p, vs, rfl, .off ZQ (h1.off_new hp), Rls.go (.same (ZS hp)) ts vs rs⟩)⟩
  ·exact q4.elim
theorem ixP_eq (n : Nat) (i : Int) : ixP n i = ixN n i := rfl
theorem atP_rl {K : PySem.W.Frag} {H : Hp} {P : Pv} {ts : List PyData} {vs : List V} {i : Int} {t : PyData} (r : Rls K H P ts vs) (h : atP ts i = some t) : ∃ v, atI vs i = some v /\ Rl K H P t v := by
 unfold atP at h
 unfold atI
 rw [<- r.length, <- ixP_eq]
 cases e : ixP ts.length i with
 | none => rw [e] at h; cases h
 | some j =>
  rw [e] at h
  exact r.getT (i := j) h
theorem Yf (ha : EV X W a da) (hb : EV X W b db) (hs : zah b) : EV X W (.Subscript a b pos) (d2 fIx da db) :=
 ZI (pe_ix (ix_list.or ix_tup) ha hb hs) fun σ H Q h => Qj (r := fun x y H Q => rIxL X.K x y H Q \/ rIxT X.K x y H Q) (fun H P σ G x y tx ty Q h rx ry q => by
  cases tx <;> cases ty <;> try exact q.elim
  ·rename_i xs i
   obtain ⟨l, us, rfl, s1, r1⟩ := Z7.mp rx
   simp only [fIx] at q
   cases e : atP xs i with
   | none => rw [e] at q; exact q.elim
   | some t =>
    rw [e] at q
    obtain ⟨v, e1, r⟩ := atP_rl r1 e
    exact .inl ⟨l, us, i, v, rfl, ZX.mp ry, s1.sq, e1, q v H (Same.refl H) r⟩
  ·rename_i xs i
   obtain ⟨l, us, rfl, s1, r1⟩ := Yi.mp rx
   simp only [fIx] at q
   cases e : atP xs i with
   | none => rw [e] at q; exact q.elim
   | some t =>
    rw [e] at q
    obtain ⟨v, e1, r⟩ := atP_rl r1 e
    exact .inr ⟨l, us, i, v, rfl, ZX.mp ry, s1.sq, e1, q v H (Same.refl H) r⟩) h
theorem Qk {r : List V -> Hp -> VK -> Prop} {f : PyData -> Res PyData} (hf : ∀ (H : Hp) (P : Pv) (σ : L2.St) (G : List Sl) (x : V) (tx : PyData) (Q : VK), Hol X.K H P σ G -> Rl X.K H P tx x -> Xd X.K W H P (f tx) Q -> r [x] H Q) {σ : L2.St} {H : Hp} {Q : VK} (h : tF X.K W (d1 f da) σ H Q) :
  tCB r (tCons (tF X.K W da) tNil) σ H Q := by
 obtain ⟨G, P, h, q⟩ := h
 unfold d1 at q
 obtain ⟨q1, q2, q3⟩ := UL q
 exact ZY h q1 q2 fun tx x H1 ex s1 h1 rx => hf H1 P σ G x tx Q h1 rx ((q3 tx ex).up s1)
theorem Wd {p : Pos} (hg : Gl X "len") (hm : X.mg "len" = none) (ha : EV X W a da) (hs : starEach [a] X.env = (false, eval a X.env) :: starEach [] X.env := by rfl) : EV X W (.Call (.Name "len" p) [a] [] pos) (d1 fLen da) :=
 ZI (Wp UI hg hm PySem.boot_len (YM ha Wc hs) (he := hs)) fun σ H Q h => Qk (fun H P σ G x tx Q h rx q => by
  cases tx <;> try exact q.elim
  ·obtain ⟨l, us, rfl, s1, r1⟩ := Z7.mp rx
   have e := r1.length
   refine ⟨l, us, rfl, .inl s1.sq, ?_⟩
   rw [<- e]; exact YE q
  ·obtain ⟨l, us, rfl, s1, r1⟩ := Yi.mp rx
   have e := r1.length
   refine ⟨l, us, rfl, .inr s1.sq, ?_⟩
   rw [<- e]; exact YE q) h
theorem QA {p : Pos} (hg : Gl X "abs") (hm : X.mg "abs" = none) (ha : EV X W a da) (hs : starEach [a] X.env = (false, eval a X.env) :: starEach [] X.env := by rfl) : EV X W (.Call (.Name "abs" p) [a] [] pos) (d1 fAbs da) :=
 ZI (Wp call_abs hg hm (show bootBuiltins "abs" = some (.builtin "abs") by decide +kernel) (YM ha Wc hs) (he := hs)) fun σ H Q h => Qk (fun H P σ G x tx Q h rx q => by
  cases tx <;> try exact q.elim
  exact ⟨_, by rw [ZX.mp rx], YE q⟩) h
def tyN : PyData -> String
 | .none => "NoneType"
 | .bool _ => "bool"
 | .int _ => "int"
 | .str _ => "str"
 | .list _ => "list"
 | .tuple _ => "tuple"
 | .dict _ => "dict"
def Kit (T : String) (p : PyData -> Bool) : Prop := ∀ (K : PySem.W.Frag) (t : PyData), PySem.W.kitOne K (.type (tyN t)) (.type T) = some (p t)
theorem kit_int : Kit "int" isInt := fun K t => by cases t <;> rfl
theorem kit_bool : Kit "bool" isBool := fun K t => by cases t <;> rfl
theorem Uv : Kit "tuple" U2 := fun K t => by cases t <;> rfl
theorem W4 : Kit "list" isList := fun K t => by cases t <;> rfl
theorem call_isi {T : String} {p : PyData -> Bool} (hk : Kit T p) : Uc X (.builtin "isinstance") (fun xs H Q => ∃ x t P, xs = [x, .ty T] /\ (∀ ys, t ≠ .dict ys) /\ Rl X.K H P t x /\ Q (.bl (p t)) H) := by
 intro pins s σ H xs us Q I r h
 obtain ⟨x, t, P, rfl, nd, rx, q⟩ := h
 obtain ⟨u, w', rfl, ru, rw'⟩ := vals2 r
 cases rw'
 have e := hk X.K t
 have fin : ∀ tk, EP X pins σ Q (.bool (p t)) { s with toks := tk } := fun tk => ⟨.bl (p t), H, I.tok tk, rfl, q⟩
 cases t with
 | none => rw [XJ.mp rx] at ru; cases ru; exact PySem.W.kia_one PySem.W.kitx_none I.kIn True.intro e (fun z => nomatch z) fin
 | bool b => rw [YL.mp rx] at ru; cases ru; exact PySem.W.kia_one PySem.W.kitx_bool I.kIn True.intro e (fun z => nomatch z) fin
 | int i => rw [ZX.mp rx] at ru; obtain ⟨t, rfl⟩ := ru; exact PySem.W.kia_one PySem.W.kitx_int I.kIn True.intro e (fun z => nomatch z) fin
 | str y => rw [Ul.mp rx] at ru; obtain ⟨t, rfl⟩ := ru; exact PySem.W.kia_one PySem.W.kitx_str I.kIn True.intro e (fun z => nomatch z) fin
 | list ys =>
  obtain ⟨l, vs, rfl, s1, r1⟩ := Z7.mp rx
  cases ru
  obtain ⟨its, rv, ⟨o, n, e1, hc, hd, hs⟩, z⟩ := I.list s1.sq
  exact PySem.W.kia_one PySem.W.kitx_list I.kIn ⟨o, e1, hc⟩ e (fun z => nomatch z) fin
 | tuple ys =>
  obtain ⟨l, vs, rfl, s1, r1⟩ := Yi.mp rx
  cases ru
  obtain ⟨its, rv, ⟨o, e1, hc, n, hs⟩, z⟩ := I.tuple s1.sq
  exact PySem.W.kia_one PySem.W.kitx_tuple I.kIn ⟨o, e1, hc⟩ e (fun z => nomatch z) fin
 | dict ys => exact absurd rfl (nd ys)
theorem YJ {T : String} {x : Str} {f : PyData -> Bool} {p p2 : Pos} (hk : Kit T f) (hv : bootBuiltins x = some (.type T)) (hg : Gl X "isinstance") (hm : X.mg "isinstance" = none) (hg2 : Gl X x) (hm2 : X.mg x = none) (ha : EV X W a da)
  (hs : starEach [a, .Name x p2] X.env = (false, eval a X.env) :: starEach [.Name x p2] X.env := by rfl) (hs2 : starEach [.Name x p2] X.env = (false, eval (.Name x p2) X.env) :: starEach [] X.env := by rfl)
  (hpl : (backTo pos (starEach [.Name x p2] X.env)).any (·.1) = false := by rfl) (hn : x ≠ "__name__" := by decide) (hdb : (x == ("__debug__" : Str)) = false := by decide) :
  EV X W (.Call (.Name "isinstance" p) [a, .Name x p2] [] pos) (d1 (fIs f) da) :=
 ZI (Wp (call_isi hk) hg hm (show bootBuiltins "isinstance" = some (.builtin "isinstance") by decide +kernel) (YM ha (YM (Jr (v := .ty T) hg2 hm2 hv rfl hn hdb) Wc hs2) hs) (he := hs) (hpl := hpl)) fun σ H Q ⟨G, P, h, q⟩ => by
  unfold d1 at q
  obtain ⟨q1, q2, q3⟩ := UL q
  refine ZY h q1 q2 fun tx x H1 ex s1 h1 rx => ?_
  have q4 := Xd.up (q3 tx ex) s1
  refine ⟨x, tx, P, rfl, fun ys z => (by subst z; exact q4.elim), rx, ?_⟩
  cases tx <;> first | exact YB q4 | exact q4.elim
theorem JI {op} (h : EV X W a da) : EV X W (.BoolOp op [a] pos) da := pe_one h
theorem JK {rest : List Expr} (ha : EV X W a da) (hb : EV X W (.BoolOp .And (b :: rest) pos) db) : EV X W (.BoolOp .And (a :: b :: rest) pos) (JZ da db) :=
 ZI (pe_and ha hb) fun σ H Q ⟨G, P, h, q⟩ => by
  unfold JZ at q
  obtain ⟨q1, q2, q3⟩ := UL q
  refine ZY h q1 q2 fun tx x H1 ex s1 h1 rx => ?_
  have q4 := q3 tx ex
  cases tx <;> try exact q4.elim
  rename_i k
  refine ⟨k, YL.mp rx, ?_⟩
  cases k with
  | true => exact iteT ⟨G, P, h1, Xd.up q4 s1⟩
  | false => exact iteF (YB (Xd.up q4 s1))
theorem ev_not (ha : EV X W a da) : EV X W (.UnaryOp .Not a pos) (dNotV da) :=
 ZI (pe_not ha) fun σ H Q ⟨G, P, h, q⟩ => by
  unfold dNotV at q
  obtain ⟨q1, q2, q3⟩ := UL q
  refine ZY h q1 q2 fun tx x H1 ex s1 h1 rx => ?_
  have q4 := q3 tx ex
  cases tx <;> try exact q4.elim
  exact ⟨_, YL.mp rx, YB (Xd.up q4 s1)⟩
theorem truth_ok {H : Hp} {P : Pv} {x : V} {tx : PyData} {k : Bool} (r : Rl X.K H P tx x) (e : truth tx = .ok k) : TruV X.K x H k := by
 cases tx with
 | none => rw [XJ.mp r]; cases e; rfl
 | bool b => rw [YL.mp r]; cases e; rfl
 | int i => rw [ZX.mp r]; cases e; rfl
 | str x => cases e
 | list xs =>
  obtain ⟨l, us, rfl, s1, r1⟩ := Z7.mp r
  cases e
  refine .inl ⟨us, s1.sq, ?_⟩
  have := r1.length
  cases xs <;> cases us <;> first | rfl | simp at this
 | tuple xs =>
  obtain ⟨l, us, rfl, s1, r1⟩ := Yi.mp r
  cases e
  refine .inr (.inl ⟨us, s1.sq, ?_⟩)
  have := r1.length
  cases xs <;> cases us <;> first | rfl | simp at this
 | dict _ => cases e
theorem Xe (ha : EV X W a da) (he : ∀ whole, isTrue a X.env whole = (do let v <- whole; standAt a.pos; holding [v] (truthy v))) : TV X W a (tV da) :=
 UU (pt_truth ha he) fun σ H Q ⟨G, P, h, q⟩ => by
  unfold Fx.tV at q
  obtain ⟨q1, q2, q3⟩ := bindET q
  refine ZY h q1 q2 fun tx x H1 ex s1 h1 rx => ?_
  have q4 := q3 tx ex
  cases e : truth tx with
  | stuck => rw [e] at q4; exact q4.elim
  | exc c => cases tx <;> cases e
  | ok k => rw [e] at q4; exact ⟨k, truth_ok rx e, q4 H1 s1⟩
theorem ZA {op : CmpOp} {r : R2} {f : PyData -> PyData -> Res PyData} (ho : OpR X (compareOp op) r /\ Fop X W r f) (ha : EV X W a da) (hb : EV X W b db) (hm : behindInMarks op b = false)
  (hf : ∀ x y, (∃ k, f x y = .ok (.bool k)) \/ f x y = .stuck := by first | exact fLt_b | exact fLe_b | exact fGt_b | exact fGe_b | exact fEq_b | exact fNe_b) : TV X W (.Compare a [op] [b] pos) (tV (d2 f da db)) :=
 UU (pt_cmpR ho.1 ha hb hm) fun σ H Q ⟨G, P, h, q⟩ => by
  refine Qj ho.2 ⟨G, P, h, ?_⟩
  unfold Fx.tV at q
  cases e : d2 f da db G with
  | stuck => rw [e] at q; exact q
  | exc c => rw [e] at q; exact q
  | ok t =>
   rw [e] at q
   have hb : ∃ k, t = .bool k := by
    unfold d2 at e
    cases e1 : da G with
    | stuck => rw [e1] at e; cases e
    | exc c => rw [e1] at e; cases e
    | ok tx =>
     rw [e1, Res.bind_ok] at e
     cases e2 : db G with
     | stuck => rw [e2] at e; cases e
     | exc c => rw [e2] at e; cases e
     | ok ty =>
      rw [e2, Res.bind_ok] at e
      rcases hf tx ty with ⟨k, e3⟩ | e3
      ·rw [e3] at e; cases e; exact ⟨k, rfl⟩
      ·rw [e3] at e; cases e
   obtain ⟨k, rfl⟩ := hb
   exact fun v H' s r => ⟨k, YL.mp r, q H' s⟩
theorem Wb {dt : DT} (ha : TV X W a dt) : TW X W (.BoolOp .Or [a] pos) dt := pw_or1 ha
theorem WW {dt du : DT} {rest : List Expr} (ha : TV X W a dt) (hb : TW X W (.BoolOp .Or (b :: rest) pos) du) : TW X W (.BoolOp .Or (a :: b :: rest) pos) (tOr dt du) :=
 pw_weak (pw_or ha hb) fun σ H Q ⟨G, P, h, q⟩ => by
  unfold Fx.tOr at q
  obtain ⟨q1, q2, q3⟩ := bindT q
  refine W1 h q1 q2 fun k H1 ek s1 h1 => ?_
  have q4 := q3 k ek
  cases k with
  | true => exact iteT (q4 H1 s1)
  | false => exact iteF ⟨G, P, h1, Vz.up q4 s1⟩
theorem tv_w {dt : DT} (h : TW X W a dt) : TV X W a dt := PW.pt h
theorem Xf {dt : DT} (ha : TV X W a dt) : TV X W (.UnaryOp .Not a pos) (tNot dt) :=
 UU (pt_not ha) fun σ H Q ⟨G, P, h, q⟩ => by
  unfold Fx.tNot at q
  obtain ⟨q1, q2, q3⟩ := bindT q
  exact W1 h q1 q2 fun k H1 ek s1 h1 => (q3 k ek) H1 s1
end
end Fx
namespace Fx
open PySem PySem.Spec PyProof.Rows L2
section
variable {X : Cx} {W : Str -> Hp -> Prop} {fl : Bool} {a b c e : Expr} {es : List Expr} {da db : DE} {pos : Pos}
theorem YY.up {K : PySem.W.Frag} {H H' : Hp} {P P' : Pv} {r : Res Out} {D : Ends} (q : YY K W fl H P r D) (g : Go H P H' P') : YY K W fl H' P' r D := by
 cases r with
 | ok o =>
  cases o with
  | nx G => exact fun σ2 H2 P2 g2 h2 => q σ2 H2 P2 (g.trans g2) h2
  | bk G => exact fun σ2 H2 P2 g2 h2 => q σ2 H2 P2 (g.trans g2) h2
  | ct G => exact fun σ2 H2 P2 g2 h2 => q σ2 H2 P2 (g.trans g2) h2
  | rt t => exact fun v H2 P2 g2 h2 n2 => q v H2 P2 (g.trans g2) h2 fun z => (n2 z).back g
 | exc c => exact fun H2 P2 g2 => q H2 P2 (g.trans g2)
 | stuck => exact q
theorem VP {a : Res PyData} {f : PyData -> Res Out} {K : PySem.W.Frag} {H : Hp} {P : Pv} {D : Ends} (q : YY K W fl H P (a.bind f) D) :
  (∀ c, a = .exc c -> ∀ H' P', Go H P H' P' -> W c H') /\ a ≠ .stuck /\ ∀ t, a = .ok t -> YY K W fl H P (f t) D := by
 cases a with
 | ok t => exact ⟨fun c e => (by cases e), (by intro e; cases e), fun t' e => by cases e; exact q⟩
 | exc c => exact ⟨fun c' e => by cases e; exact q, (by intro e; cases e), fun t e => by cases e⟩
 | stuck => exact q.elim
theorem bindTS {a : Res Bool} {f : Bool -> Res Out} {K : PySem.W.Frag} {H : Hp} {P : Pv} {D : Ends} (q : YY K W fl H P (a.bind f) D) :
  (∀ c, a = .exc c -> ∀ H' P', Go H P H' P' -> W c H') /\ a ≠ .stuck /\ ∀ t, a = .ok t -> YY K W fl H P (f t) D := by
 cases a with
 | ok t => exact ⟨fun c e => (by cases e), (by intro e; cases e), fun t' e => by cases e; exact q⟩
 | exc c => exact ⟨fun c' e => by cases e; exact q, (by intro e; cases e), fun t e => by cases e⟩
 | stuck => exact q.elim
theorem zab {a : Res (List PyData)} {f : List PyData -> Res Out} {K : PySem.W.Frag} {H : Hp} {P : Pv} {D : Ends} (q : YY K W fl H P (a.bind f) D) :
  (∀ c, a = .exc c -> ∀ H' P', Go H P H' P' -> W c H') /\ a ≠ .stuck /\ ∀ t, a = .ok t -> YY K W fl H P (f t) D := by
 cases a with
 | ok t => exact ⟨fun c e => (by cases e), (by intro e; cases e), fun t' e => by cases e; exact q⟩
 | exc c => exact ⟨fun c' e => by cases e; exact q, (by intro e; cases e), fun t e => by cases e⟩
 | stuck => exact q.elim
theorem ZC : SVs X W fl [] Z1 := Qp pss_nil fun D σ H ⟨G, P, h, q⟩ => q σ H P (.refl H P) h
theorem Zk {st : Stmt} {d : DS} (h : SV X W fl st d) : SVs X W fl [st] d := pss_one h
theorem Zf {st : Stmt} {rest : List Stmt} {d1 d2 : DS} (h1 : SV X W fl st d1) (h2 : SVs X W fl rest d2) : SVs X W fl (st :: rest) (dSeq d1 d2) :=
 Qp (pss_cons h1 h2) fun D σ H ⟨G, P, h, q⟩ => by
  refine ⟨G, P, h, ?_⟩
  unfold dSeq at q
  cases e : d1 G with
  | stuck => rw [e] at q; exact q.elim
  | exc c => rw [e] at q; exact q
  | ok o =>
   rw [e, Res.bind_ok] at q
   cases o with
   | nx G1 => exact fun σ' H' P' g h' => ⟨G1, P', h', YY.up q g⟩
   | rt t => exact q
   | bk G1 => exact q
   | ct G1 => exact q
theorem Zv {st : Stmt} : SV X W fl st dNev := Xk ps_never fun D σ H ⟨G, P, h, q⟩ => q
theorem ZB (he : EV X W e da) : SV X W false (.Return (some e) pos) (dRet da) :=
 Xk (ps_ret he) fun D σ H ⟨G, P, h, q⟩ => by
  unfold dRet at q
  obtain ⟨h', g⟩ := h.frzA
  obtain ⟨q1, q2, q3⟩ := VP q
  exact ZY h' (fun c e H' s => q1 c e H' P.bare (g.trans (.same s))) q2 fun t v H1 et s1 h1 r => (q3 t et) v H1 P.bare (g.trans (.same s1)) r fun z => by cases z
theorem Z2 {x y : List Stmt} {dc : DT} {dx dy : DS} (hc : TV X W c dc) (hx : SVs X W fl x dx) (hy : SVs X W fl y dy) : SV X W fl (.If c x y pos) (dIf dc dx dy) :=
 Xk (ps_if hc hx hy) fun D σ H ⟨G, P, h, q⟩ => by
  unfold dIf at q
  obtain ⟨h', g⟩ := h.frzA
  obtain ⟨q1, q2, q3⟩ := bindTS q
  refine W1 h' (fun c e H' s => q1 c e H' P.bare (g.trans (.same s))) q2 fun k H1 ek s1 _ => ?_
  have q4 := q3 k ek
  cases k with
  | true => exact iteT ⟨G, P, h.same s1, YY.up q4 (.same s1)⟩
  | false => exact iteF ⟨G, P, h.same s1, YY.up q4 (.same s1)⟩
theorem XH (he : EV X W e da) (hs : swapsWith e none pos.line X.env = pure false := by rfl) : SV X W fl (.Expr e pos) (X6 da) :=
 Xk (Jm he hs) fun D σ H ⟨G, P, h, q⟩ => by
  unfold X6 at q
  obtain ⟨h', g⟩ := h.frzA
  obtain ⟨q1, q2, q3⟩ := VP q
  exact ZY h' (fun c e H' s => q1 c e H' P.bare (g.trans (.same s))) q2 fun t v H1 et s1 h1 r => (q3 t et) σ H1 P (.same s1) (h.same s1)
mutual
theorem Jk {K : PySem.W.Frag} {H : Hp} {P P' : Pv} (hd : ∀ i a, P'.own i = some a -> ∃ vs, H a = some (.lst vs)) (hf : P'.fb = P.fb) : ∀ (t : PyData) (v : V), Yy t = true -> Rl K H P t v -> Rl K H P' t v
 | .none, v, _, r => XJ.mpr (XJ.mp r)
 | .bool b, v, _, r => YL.mpr (YL.mp r)
 | .int i, v, _, r => ZX.mpr (ZX.mp r)
 | .str x, v, _, r => Ul.mpr (Ul.mp r)
 | .list _, v, h, r => by simp at h
 | .dict _, v, h, r => by simp at h
 | .tuple xs, v, h, r => by
  obtain ⟨a, vs, e, s, rs⟩ := Yi.mp r
  refine Yi.mpr ⟨a, vs, e, ?_, Qo hd hf xs vs (by simpa using h) rs⟩
  rcases s with ⟨s, o⟩ | s
  ·refine .inl ⟨s, fun i z => ?_, by rw [hf]; exact o.2⟩
   obtain ⟨ws, q⟩ := hd i a z
   rcases s with s | ⟨ob, s⟩
   ·rw [q] at s; cases s
   ·rw [q] at s; cases s
  ·exact .inr s
theorem Qo {K : PySem.W.Frag} {H : Hp} {P P' : Pv} (hd : ∀ i a, P'.own i = some a -> ∃ vs, H a = some (.lst vs)) (hf : P'.fb = P.fb) : ∀ (ts : List PyData) (vs : List V), Xw ts = true -> Rls K H P ts vs -> Rls K H P' ts vs
 | [], vs, _, r => Yr.mpr (Yr.mp r)
 | t :: ts, vs, h, r => by
  obtain ⟨v, r', e, a, b⟩ := ZO.mp r
  simp only [Uh, Bool.and_eq_true] at h
  exact ZO.mpr ⟨v, r', e, Jk hd hf t v h.1 a, Qo hd hf ts r' h.2 b⟩
end
theorem after {K : PySem.W.Frag} {H H1 : Hp} {P P1 : Pv} {σ : L2.St} {G : List Sl} {is : List Nat} {t : PyData} {v : V} (h : Hol K H P σ G) (h1 : Hol K H P1 σ (frz is G)) (g : Go H P H P1) (s : Same H H1) (r : Rl K H1 P1 t v) :
  ∃ P2, Hol K H1 P2 σ (if Yy t then G else frz is G) /\ Rl K H1 P2 t v /\ Go H P H1 P2 := by
 cases e : Yy t with
 | true => exact ⟨P, by rw [if_pos rfl]; exact h.same s, Jk (fun i a z => (h.same s).dom z) g.2.symm t v e r, .same s⟩
 | false => exact ⟨P1, by rw [if_neg Bool.false_ne_true]; exact h1.same s, r, g.trans (.same s)⟩
theorem ZG {i : Nat} {x : Str} {is : List Nat} {pos' : Pos} (hN : X.N.Nodup) (hi : X.N[i]? = some x) (hx : Loc X.env.scope x) (he : EV X W e da) (hs : swapsWith e (some (.Name x pos')) pos.line X.env = pure false := by rfl)
  (hf : X.fn x = true \/ X.env.scope.names.lookup x = some .local := by first | exact .inl rfl | exact .inr rfl | assumption) : SV X W fl (.Assign [.Name x pos'] e pos) (dSet i is da) :=
 Xk (ps_set hN hi hx he hs hf) fun D σ H ⟨G, P, h, q⟩ => by
  unfold dSet at q
  obtain ⟨P1, h1, g⟩ := h.frz is
  obtain ⟨q1, q2, q3⟩ := VP q
  refine ZY h1 (fun c e H' s => q1 c e H' P1 (g.trans (.same s))) q2 fun t v H1 et s1 h2 r => ?_
  obtain ⟨P2, h3, r3, g3⟩ := after h h1 g s1 r
  exact (q3 t et) _ H1 (P2.del i) (g3.trans .del) (h3.setVal i r3)
theorem ss_while {body : List Stmt} {fuel : List Sl -> Nat} {dc : DT} {d : DS} (hp : PassesOwn (model X.prog X.w) X.A X.env X.xe) (hc : TV X W c dc) (hb : SVs X W fl body d) : SV X W fl (.While c body [] pos) (JY fuel dc d) :=
 Xk (ps_while hp hc hb) fun D σ H ⟨G, P, h, q⟩ => by
  refine ⟨fun m σ' H' => ∃ G' P', Go H P H' P' /\ Hol X.K H' P' σ' G' /\ YY X.K W fl H P (Wa dc d m G') D, ⟨fuel G, G, P, .refl H P, h, q⟩, ?_⟩
  rintro m σ' H' ⟨G', P', g', h', q'⟩
  cases m with
  | zero => exact q'.elim
  | succ m =>
   unfold Wa at q'
   obtain ⟨h2, g2⟩ := h'.frzA
   obtain ⟨q1, q2, q3⟩ := bindTS q'
   refine W1 h2 (fun c e H1 s => q1 c e H1 P'.bare (g'.trans (g2.trans (.same s)))) q2 fun k H1 ek s1 _ => ?_
   have q4 := q3 k ek
   cases k with
   | false => exact iteF (q4 σ' H1 P' (g'.trans (.same s1)) (h'.same s1))
   | true =>
    refine iteT ⟨fun σ2 H2 => ∃ m', m' < m + 1 /\ ∃ G' P', Go H P H2 P' /\ Hol X.K H2 P' σ2 G' /\ YY X.K W fl H P (Wa dc d m' G') D, fun σ2 H2 z => z, ?_⟩
    refine ⟨G', P', h'.same s1, ?_⟩
    have q5 : YY X.K W fl H P ((d G').bind fun o => match o with
     | .nx G' => Wa dc d m G'
     | .ct G' => Wa dc d m G'
     | .bk G' => .ok (.nx G')
     | .rt t => .ok (.rt t)) D := q4
    cases e : d G' with
    | stuck => rw [e] at q5; exact q5.elim
    | exc c => rw [e] at q5; exact YY.up (r := .exc c) q5 (g'.trans (.same s1))
    | ok o =>
     rw [e, Res.bind_ok] at q5
     cases o with
     | nx G1 => exact fun σ2 H2 P2 g3 h3 => ⟨m, Nat.lt_succ_self m, G1, P2, g'.trans ((Go.same s1).trans g3), h3, q5⟩
     | ct G1 => exact fun σ2 H2 P2 g3 h3 => ⟨m, Nat.lt_succ_self m, G1, P2, g'.trans ((Go.same s1).trans g3), h3, q5⟩
     | bk G1 => exact fun σ2 H2 P2 g3 h3 => q5 σ2 H2 P2 (g'.trans ((Go.same s1).trans g3)) h3
     | rt t => exact fun v H2 P2 g3 h3 n3 => q5 v H2 P2 (g'.trans ((Go.same s1).trans g3)) h3 fun z => ((n3 z).back (.same s1)).back g'
end
theorem Uu {a : DE} : ∀ G ts, Zc a dNil G = .ok ts -> ts.length = 1 := fun G ts h => by
 unfold Zc dNil at h
 cases e : a G <;> rw [e] at h <;> first | (cases h; done) | (cases h; rfl)
theorem len_cs {a : DE} {r : DA} {n : Nat} (hr : ∀ G ts, r G = .ok ts -> ts.length = n) : ∀ G ts, Zc a r G = .ok ts -> ts.length = n + 1 := fun G ts h => by
 unfold Zc at h
 cases e : a G with
 | stuck => rw [e] at h; cases h
 | exc c => rw [e] at h; cases h
 | ok x =>
  rw [e, Res.bind_ok] at h
  cases e2 : r G with
  | stuck => rw [e2] at h; cases h
  | exc c => rw [e2] at h; cases h
  | ok xs => rw [e2] at h; cases h; simp [hr G xs e2]
theorem Qr {a b : DE} : ∀ G ts, Zc a (Zc b dNil) G = .ok ts -> ts.length = 2 := len_cs Uu
theorem Jy {a b c : DE} : ∀ G ts, Zc a (Zc b (Zc c dNil)) G = .ok ts -> ts.length = 3 := len_cs Qr
def spX (E : XK) (H : Hp) (c : Str) : Option (Str -> Value) -> Prop
 | none => False
 | some cl => ∀ dx H', Same H H' -> E (cl c) dx H'
def spF (K : PySem.W.Frag) (cl : Option (Str -> Value)) (np : Nat) (f : DF) : Sp := fun vs H Q E => vs.length = np /\ ∃ ts P, Rls K H P ts vs /\ (∀ i, P.own i = none) /\ ((∀ a, P.fb a -> H a ≠ none) /\ X8 K H) /\
 match f ts with
 | .ok t => ∀ v H', Same H H' -> Rl K H' P t v -> Q v H'
 | .exc c => spX E H c cl
 | .stuck => False
def EX (cl : Option (Str -> Value)) (W : Str -> Hp -> Prop) : XK := fun v _ H => ∃ c f, cl = some f /\ v = f c /\ W c H
structure Cal (X : Cx) (W : Str -> Hp -> Prop) (cl : Option (Str -> Value)) (k : Nat) (x : Str) (np : Nat) (f : DF) : Prop where
 ex : ∃ (CX : CXT) (fa : Addr) (fd : FuncData) (ps : List Str), FnOk X.prog X.w X.K X.mg X.base CX k fa fd ps (spF X.K cl np f) /\ X.mg x = some (.ref fa) /\ PySem.W.keepIn X.K (.ref fa) = true /\ Z6 X.K fd ps [] /\ QI CX X (EX cl W)
 nox : cl = none -> ∀ ts c, f ts ≠ .exc c
section
variable {X : Cx} {W : Str -> Hp -> Prop} {fl : Bool} {a b c e : Expr} {es : List Expr} {da db : DE} {pos : Pos}
theorem Zl {cl : Option (Str -> Value)} {k np : Nat} {x : Str} {f : DF} {d : DA} {p : Pos} (C : Cal X W cl k x np f) (hr : Room k X.A) (hg : Gl X x) (ha : AV X W (e :: es) d) (hL : ∀ G ts, d G = .ok ts -> ts.length = np := by first | exact Uu | exact Qr | exact Jy | exact len_c4) (hdb : (x == ("__debug__" : Str)) = false := by decide)
  (he : starEach (e :: es) X.env = (false, eval e X.env) :: starEach es X.env := by rfl) (hpl : (backTo pos (starEach es X.env)).any (·.1) = false := by rfl) : EV X W (.Call (.Name x p) (e :: es) [] pos) (Zr f d) := by
 obtain ⟨CX, fa, fd, ps, F, hm, hk, hb, hx⟩ := C.ex
 refine ZI (pe_call (x := x) (p := p) F hr hg hm hk hb .nil hx ha (hdb := hdb) (he := he) (hpl := hpl)) fun σ H Q ⟨G, P, h, q⟩ => ?_
 unfold Zr at q
 obtain ⟨q1, q2, q3⟩ := zac q
 refine Wl h q1 q2 fun ts vs H1 es' s1 h1 rs => ?_
 have q4 := Xd.up (q3 ts es') s1
 have el : (vs ++ []) = vs := List.append_nil vs
 rw [el]
 -- the callee sees all that the caller may not hand on as forbidden
 have gg : Tr H1 P H1 ⟨fun _ => none, fun a => ¬ Off P a⟩ := fun a o e1 _ o1 => ⟨e1, fun _ z => (by cases z), fun z => z o1⟩
 have back : ∀ H2, Tr H2 ⟨fun _ => none, fun a => ¬ Off P a⟩ H2 P := fun H2 a o e1 _ o1 => ⟨e1, Classical.byContradiction fun z => o1.2 z⟩
 refine ⟨by rw [<- rs.length]; exact hL G ts es', ts, ⟨fun _ => none, fun a => ¬ Off P a⟩, Rls.go gg ts vs rs, fun _ => rfl, ⟨fun a z => ?_, h1.tab⟩, ?_⟩
 ·intro hn
  exact z (h1.off_new hn)
 ·cases e : f ts with
  | ok t => rw [e] at q4; exact fun v H' s r => q4 v H' s (Rl.go (back H') t v r)
  | exc c =>
   rw [e] at q4
   cases ec : cl with
   | none => exact absurd e (C.nox ec ts c)
   | some g => exact fun dx H' s => ⟨c, g, rfl, rfl, q4 H' s⟩
  | stuck => rw [e] at q4; exact q4
end
theorem Ux {K : PySem.W.Frag} {H : Hp} {P : Pv} {ts : List PyData} {vs : List V} {N : List Str} (r : Rls K H P ts vs) (ho : ∀ i, P.own i = none) (hf : (∀ a, P.fb a -> H a ≠ none) /\ X8 K H) :
  Hol K H P (L2.start N vs) (ts.map .val ++ List.replicate (N.length - ts.length) .emp) where
 sl := fun i s e => by
  by_cases hi : i < ts.length
  ·rw [List.getElem?_append_left (by simpa using hi), List.getElem?_map] at e
   cases et : ts[i]? with
   | none => rw [et] at e; cases e
   | some t =>
    rw [et] at e
    cases e
    obtain ⟨v, ev, rv⟩ := r.getT et
    refine ⟨v, ?_, rv⟩
    have hl := r.length
    unfold L2.start
    rw [List.getD_eq_getElem?_getD, List.getElem?_append_left (by simp; omega), List.getElem?_map, ev]
    rfl
  ·rw [List.getElem?_append_right (by simpa using hi)] at e
   rw [List.getElem?_replicate] at e
   split at e
   ·cases e; trivial
   ·cases e
 inj := fun i j a h _ => by rw [ho i] at h; cases h
 only := fun i a h => by rw [ho i] at h; cases h
 fbd := hf.1
 tab := hf.2
 nfb := fun i a h => by rw [ho i] at h; cases h
 len := by
  have hl := r.length
  unfold L2.start
  simp [hl]
theorem fn_ok {P : Program} {w : World} {K : PySem.W.Frag} {mg : Str -> Option Value} {base : Heap} {x qual : Str} {st : Stmt} {f : Addr} {fd : FuncData} {N ps : List Str} {k np : Nat} {d : DS} (F : Fun K x qual st f fd) (S : FnScope N ps (Ze st)) (hnp : ps.length = np)
  (hb : ∀ (cdv : Value) (A : Around) (outer : List Env) (s : Shared) (H : Hp) (E : XK), Room k (A.deeper (envOfC qual (Ze st) s.heap.objs.size f cdv)) ->
   SVs (cxOf CX0 P w K mg base N qual (Ze st) f cdv A outer s H E).nox (fun _ _ => False) false (Zp st) d) : FnOk P w K mg base CX0 (k + 1) f fd ps (spF K none np (runQ N.length np d)) := by
 refine F.ok S (fun vs H Q E h => by rw [hnp]; exact h.1) fun cdv A outer s H vs Q E hr h => ⟨_, hb cdv A outer s H E hr, ?_⟩
 obtain ⟨hl, ts, P', rs, ho, hf, q⟩ := h
 have hlt : ts.length = np := by rw [rs.length]; exact hl
 refine ⟨_, P', Ux rs ho hf, ?_⟩
 unfold runQ runF at q
 rw [if_pos hlt] at q
 have en : N.length - np = N.length - ts.length := by rw [hlt]
 rw [en] at q
 have sm : ∀ H' P2, Go H P' H' P2 -> Same H H' := fun H' P2 g => g.all ho
 have bk : ∀ H' P2, Go H P' H' P2 -> Tr H' P2 H' P' := fun H' P2 g b o e _ z => ⟨e, fun i => by rw [ho i]; exact fun z => (by cases z), by rw [<- g.fbe]; exact z.2⟩
 cases e : d (ts.map .val ++ List.replicate (N.length - ts.length) .emp) with
 | stuck => rw [e] at q; exact q.elim
 | exc c => rw [e] at q; exact q.elim
 | ok o =>
  rw [e, Res.bind_ok] at q
  cases o with
  | nx G => exact fun σ' H' P2 g h' => q .non H' (sm H' P2 g) (XJ.mpr rfl)
  | rt t => exact fun v H' P2 g r _ => q v H' (sm H' P2 g) (Rl.go (bk H' P2 g) t v r)
  | bk G => exact q.elim
  | ct G => exact q.elim
end Fx
namespace Fx
open PySem PySem.Spec PyProof.Rows L2
structure Cle (P : Program) (w : World) (K : PySem.W.Frag) (mg : Str -> Option Value) (base : Heap) (k : Nat) (x : Str) (np : Nat) (f : DF) : Prop where
 ex : ∃ (fa : Addr) (fd : FuncData) (ps : List Str), FnOk P w K mg base CX0 k fa fd ps (spF K none np f) /\ mg x = some (.ref fa) /\ PySem.W.keepIn K (.ref fa) = true /\ Z6 K fd ps []
 nox : ∀ ts c, f ts ≠ .exc c
section
variable {P : Program} {w : World} {K : PySem.W.Frag} {mg : Str -> Option Value} {base : Heap}
theorem Cle.cal {X : Cx} {W : Str -> Hp -> Prop} {k np : Nat} {x : Str} {f : DF} (C : Cle X.prog X.w X.K X.mg X.base k x np f) : Cal X W none k x np f := by
 obtain ⟨fa, fd, ps, F, hm, hk, hb⟩ := C.ex
 exact ⟨⟨CX0, fa, fd, ps, F, hm, hk, hb, fun _ _ _ _ _ _ _ h => h.elim⟩, fun _ => C.nox⟩
theorem Cle.mono {j k np : Nat} {x : Str} {f : DF} (C : Cle P w K mg base j x np f) (h : j <= k) : Cle P w K mg base k x np f := by
 obtain ⟨fa, fd, ps, F, r⟩ := C.ex
 exact ⟨⟨fa, fd, ps, F.mono h, r⟩, C.nox⟩
theorem XT {x : Str} {st : Stmt} {fa : Addr} {fd : FuncData} {N ps : List Str} {k n np : Nat} {d : DS} (F : Fun K x x st fa fd) (hm : mg x = some (.ref fa)) (b : Z6 K fd ps []) (S : FnScope N ps (Ze st)) (hnp : ps.length = np) (hN : N.length = n)
  (hb : ∀ (cdv : Value) (A : Around) (outer : List Env) (s : Shared) (H : Hp) (E : XK), Room k (A.deeper (envOfC x (Ze st) s.heap.objs.size fa cdv)) ->
   SVs (cxOf CX0 P w K mg base N x (Ze st) fa cdv A outer s H E).nox (fun _ _ => False) false (Zp st) d) : Cle P w K mg base (k + 1) x np (runQ n np d) := by
 subst hN
 exact ⟨⟨fa, fd, ps, fn_ok F S hnp hb, hm, F.kp, b⟩, fun ts c => runQ_nox _ _ _ ts c⟩
theorem law_sp {f : DF} {ns : List Int} (h : f [.list (ns.map .int)] = .ok (.bool true)) {H : Hp} {a : Addr} (hT : X8 K H) (hS : SqL K H a (ns.map V.int)) : spF K none 1 f [.ref a] H (fun v _ => v = .bl true) (fun _ _ _ => False) := by
 refine ⟨rfl, [.list (ns.map .int)], ⟨fun _ => none, fun _ => False⟩, ZO.mpr ⟨.ref a, [], rfl, Z7.mpr ⟨a, ns.map V.int, rfl, ?_, rls_ints ns⟩, Yr.mpr rfl⟩, fun _ => rfl, ⟨fun _ z => z.elim, hT⟩, ?_⟩
 ·rcases hS with h | h
  ·exact .inl ⟨h, fun _ z => (by cases z), fun z => z⟩
  ·exact .inr h
 ·rw [h]
  exact fun v H' _ r => YL.mp r
end
end Fx
namespace Fx
open PySem PySem.Spec PyProof.Rows L2
def Yld (K : PySem.W.Frag) (J : It) (ts : List PyData) (H : Hp) (P : Pv) : Prop := ∀ H' P', Tr H P H' P' -> (∀ p, H' p = none -> Off P' p) -> ∀ i,
 (∀ t, ts[i]? = some t -> J.go i H' /\ ∀ x H'', J.yld i H' x H'' -> Same H' H'' /\ Rl K H'' P' t x) /\ (ts.length <= i -> J.stop i H')
def PostI (K : PySem.W.Frag) (W : Str -> Hp -> Prop) (H : Hp) (P : Pv) (r : Res (List PyData)) (R : It -> Hp -> Prop) : Prop :=
 match r with
 | .ok ts => ∀ J H', Same H H' -> Yld K J ts H' P -> R J H'
 | .exc c => ∀ H', Same H H' -> W c H'
 | .stuck => False
def tFI (K : PySem.W.Frag) (W : Str -> Hp -> Prop) (d : DA) : TI := fun σ H R => ∃ G P, Hol K H P σ G /\ PostI K W H P (d G) R
def IV (X : Cx) (W : Str -> Hp -> Prop) (tg iter : Expr) (d : DA) : Prop := PI X tg iter (tFI X.K W d)
theorem Jo {X : Cx} {tg e : Expr} {t t' : TI} (h : PI X tg e t) (w : ∀ σ H Q, t' σ H Q -> t σ H Q) : PI X tg e t' := fun pins s σ H Q I q => h pins s σ H Q I (w σ H Q q)
theorem bindEI {a : Res PyData} {f : PyData -> Res (List PyData)} {K : PySem.W.Frag} {W : Str -> Hp -> Prop} {H : Hp} {P : Pv} {Q : It -> Hp -> Prop} (q : PostI K W H P (a.bind f) Q) :
  (∀ c, a = .exc c -> ∀ H', Same H H' -> W c H') /\ a ≠ .stuck /\ ∀ t, a = .ok t -> PostI K W H P (f t) Q := by
 cases a with
 | ok t => exact ⟨fun c e => (by cases e), (by intro e; cases e), fun t' e => by cases e; exact q⟩
 | exc c => exact ⟨fun c' e => by cases e; exact q, (by intro e; cases e), fun t e => by cases e⟩
 | stuck => exact q.elim
section
variable {X : Cx} {W : Str -> Hp -> Prop} {fl : Bool} {tg a b c e : Expr} {da db : DE} {pos : Pos}
def iSq (K : PySem.W.Frag) (tl : TE) : TI := fun σ H R => tl σ H fun x H1 => (∃ a, x = .ref a /\ (∃ xs, SqL K H1 a xs) /\ R (Itl K a) H1) \/ (∃ a, x = .ref a /\ (∃ xs, SqT K H1 a xs) /\ R (Itt K a) H1)
theorem pi_sq {l : Expr} {tl : TE} (hl : PE X l tl) : PI X tg l (iSq X.K tl) := by
 intro pins s σ H R I h
 refine thn (hl pins s σ H _ I h) fun v s1 ⟨x, H1, I1, r1, q1⟩ => ?_
 rcases q1 with ⟨a, e, ⟨xs, hq⟩, q⟩ | ⟨a, e, ⟨xs, hq⟩, q⟩
 ·subst e
  cases r1
  obtain ⟨its, rv, p, hz⟩ := I1.list hq
  refine wpAny_pyIter_list p.isList ?_
  refine ⟨s1.heap.objs.size, [s1.heap.objs.size], _, _, H1, rfl, I1.kept (t' := s1.toks) fun b o e => Heap.get?_push_of_some _ e, Je a _, ⟨_, Heap.get?_push_size _ rfl, rfl, rfl⟩, fun b hb => ?_, q⟩
  have e : b = s1.heap.objs.size := by simpa using hb
  subst e
  exact I1.fpOk (Nat.le_refl _) (I1.hok.fresh (Nat.le_refl _))
 ·subst e
  cases r1
  obtain ⟨its, rv, p, hz⟩ := I1.tuple hq
  refine wpAny_pyIter_tuple (show s1.heap.IsTuple a its.toArray from p) ?_
  refine ⟨s1.heap.objs.size, [s1.heap.objs.size], _, _, H1, rfl, I1.kept (t' := s1.toks) fun b o e => Heap.get?_push_of_some _ e, QJ a _, ⟨_, Heap.get?_push_size _ rfl, rfl, rfl⟩, fun b hb => ?_, q⟩
  have e : b = s1.heap.objs.size := by simpa using hb
  subst e
  exact I1.fpOk (Nat.le_refl _) (I1.hok.fresh (Nat.le_refl _))
theorem yld_list {H : Hp} {P : Pv} {l : Addr} {xs : List PyData} {vs : List V} (s : SL X.K H P l vs) (r : Rls X.K H P xs vs) : Yld X.K (Itl X.K l) xs H P := fun H' P' tr nf i =>
 ⟨fun t e => by
  have r' := Rls.go tr xs vs r
  have s' := (s.go tr).sq
  obtain ⟨v, ev, rv⟩ := r'.getT e
  refine ⟨⟨vs, v, s', ev⟩, fun x H'' y => ?_⟩
  obtain ⟨rfl, y⟩ := y
  have := y vs s'
  rw [ev] at this
  cases this
  exact ⟨Same.refl _, rv⟩, fun hl => ⟨vs, (s.go tr).sq, by rw [<- r.length]; exact hl⟩⟩
theorem Q9 {H : Hp} {P : Pv} {l : Addr} {xs : List PyData} {vs : List V} (s : ST X.K H P l vs) (r : Rls X.K H P xs vs) : Yld X.K (Itt X.K l) xs H P := fun H' P' tr nf i =>
 ⟨fun t e => by
  have r' := Rls.go tr xs vs r
  have s' := (s.go tr).sq
  obtain ⟨v, ev, rv⟩ := r'.getT e
  refine ⟨⟨vs, v, s', ev⟩, fun x H'' y => ?_⟩
  obtain ⟨rfl, y⟩ := y
  have := y vs s'
  rw [ev] at this
  cases this
  exact ⟨Same.refl _, rv⟩, fun hl => ⟨vs, (s.go tr).sq, by rw [<- r.length]; exact hl⟩⟩
theorem Uw (ha : EV X W a da) : IV X W tg a (iSeq da) :=
 Jo (pi_sq ha) fun σ H R ⟨G, P, h, q⟩ => by
  unfold iSeq at q
  obtain ⟨q1, q2, q3⟩ := bindEI q
  refine ZY h q1 q2 fun tx x H1 ex s1 h1 rx => ?_
  have q4 := q3 tx ex
  cases tx <;> try exact q4.elim
  ·obtain ⟨l, vs, rfl, sl, rs⟩ := Z7.mp rx
   exact .inl ⟨l, rfl, ⟨vs, sl.sq⟩, q4 _ H1 s1 (yld_list sl rs)⟩
  ·obtain ⟨l, vs, rfl, sl, rs⟩ := Yi.mp rx
   exact .inr ⟨l, rfl, ⟨vs, sl.sq⟩, q4 _ H1 s1 (Q9 sl rs)⟩
theorem rngT_get (lo : Int) (n i : Nat) : (rngT lo n)[i]? = if i < n then some (.int (lo + (i : Int))) else none := by
 unfold rngT
 rw [List.getElem?_map]
 by_cases h : i < n
 ·rw [if_pos h, List.getElem?_eq_getElem (by simpa using h)]
  simp
 ·rw [if_neg h, List.getElem?_eq_none (by simpa using h)]
  rfl
theorem Ja {H : Hp} {P : Pv} (lo : Int) (n : Nat) : Yld X.K (Itr lo n) (rngT lo n) H P := by
 intro H' P' tr nf i
 refine ⟨fun t e => ?_, fun hl => ?_⟩
 ·rw [rngT_get] at e
  split at e
  ·rename_i hi
   cases e
   refine ⟨hi, fun x H'' y => ?_⟩
   obtain ⟨rfl, rfl⟩ := y
   exact ⟨Same.refl _, ZX.mpr rfl⟩
  ·cases e
 ·have : (rngT lo n).length = n := by simp [rngT]
  rw [this] at hl
  exact hl
theorem W5 {p : Pos} (hg : Gl X "range") (hm : X.mg "range" = none) (ha : EV X W a da) (hs : starEach [a] X.env = [(false, eval a X.env)] := by rfl) (hs' : starEach [a] X.env = (false, eval a X.env) :: starEach [] X.env := by rfl) : IV X W tg (.Call (.Name "range" p) [a] [] pos) (iRng da) :=
 Jo (Jp hg hm (YM ha Wc hs') hs) fun σ H R ⟨G, P, h, q⟩ => by
  unfold Fx.iRng at q
  obtain ⟨q1, q2, q3⟩ := bindEI q
  refine ZY h q1 q2 fun tx x H1 ex s1 h1 rx => ?_
  have q4 := q3 tx ex
  cases tx <;> try exact q4.elim
  rename_i j
  simp only at q4
  split at q4
  ·rename_i hj
   exact ⟨j, by rw [ZX.mp rx], (Qn hj).1, (Qn hj).2, q4 _ H1 s1 (Ja 0 j.toNat)⟩
  ·exact q4.elim
def GV (X : Cx) (tg : Expr) (st : PyData -> List Sl -> Res (List Sl)) : Prop :=
 ∃ g, PG X tg g /\ ∀ (t : PyData) (v : V) (σ : L2.St) (H : Hp) (P : Pv) (G : List Sl) (Q : L2.St -> Hp -> Prop), Hol X.K H P σ G -> Rl X.K H P t v ->
  (∃ G', st t G = .ok G' /\ ∀ σ' P', Go H P H P' -> Hol X.K H P' σ' G' -> Q σ' H) -> g v σ H Q
theorem Xx {i : Nat} {x : Str} (hN : X.N.Nodup) (hi : X.N[i]? = some x) (hx : Loc X.env.scope x) (hf : X.fn x = true \/ X.env.scope.names.lookup x = some .local := by first | exact .inl rfl | exact .inr rfl | assumption) : GV X (.Name x pos) (YU i) :=
 ⟨gName i, pg_name hN hi hx hf, fun t v σ H P G Q h r ⟨G', e, q⟩ => by
  cases e
  exact q _ (P.del i) .del (h.setVal i r)⟩
theorem Hol.offn {K : PySem.W.Frag} {H : Hp} {P : Pv} {σ : L2.St} {G : List Sl} (h : Hol K H P σ G) : ∀ p, H p = none -> Off P p := fun p e => h.off_new e
theorem ss_for {body : List Stmt} {is : List Nat} {st : PyData -> List Sl -> Res (List Sl)} {it : DA} {d : DS} {iter : Expr} (hp : PassesOwn (model X.prog X.w) X.A X.env X.xe) (hc : X.calm = true) (hi : IV X W tg iter it) (hg : GV X tg st) (hb : SVs X W fl body d)
  (hst : ∀ t G c, st t G ≠ .exc c := by first | exact Jj | exact sTup2_nox) (hs : ∀ x, foldedSetIterable iter X.env x = pure x := by intro _; rfl) : SV X W fl (.For tg iter body [] pos) (dFor st is it d) := by
 obtain ⟨g, pg, gp⟩ := hg
 refine Xk (ps_for hp hc hi pg hb hs) fun D σ H ⟨G, P, h, q⟩ => ?_
 unfold dFor at q
 obtain ⟨P1, h1, g1⟩ := h.frz is
 obtain ⟨q1, q2, q3⟩ := zab q
 refine ⟨frz is G, P1, h1, ?_⟩
 cases e : it (frz is G) with
 | stuck => exact absurd e q2
 | exc c => exact fun H' s => q1 c e H' P1 (g1.trans (.same s))
 | ok ts =>
  intro J H1 s1 y
  have q4 := q3 ts e
  have g2 : Go H P H1 P1 := g1.trans (.same s1)
  refine ⟨fun i m σ' H' => m = ts.length - i /\ i <= ts.length /\ ∃ G' P', Go H1 P1 H' P' /\ Hol X.K H' P' σ' G' /\ YY X.K W fl H P (forL st d (ts.drop i) G') D, ⟨ts.length, by simp, Nat.zero_le _, frz is G, P1, .refl _ _, h1.same s1, q4⟩, ?_⟩
  rintro i m σ' H' ⟨rfl, hi, G', P', g', h', q'⟩
  obtain ⟨y1, y2⟩ := y H' P' g'.tr h'.offn i
  by_cases hlt : i < ts.length
  ·have et : ts[i]? = some ts[i] := by simp [hlt]
   obtain ⟨go, yl⟩ := y1 _ et
   rw [List.drop_eq_getElem_cons hlt] at q'
   unfold forL at q'
   refine .inr ⟨go, fun σ2 H2 => ∃ G2 P2, Go H1 P1 H2 P2 /\ Hol X.K H2 P2 σ2 G2 /\ YY X.K W fl H P (forL st d (ts.drop (i + 1)) G2) D, fun σ2 H2 z => ⟨_, by omega, rfl, hlt, z⟩, fun x H2 yy => ?_⟩
   obtain ⟨s2, r2⟩ := yl x H2 yy
   have h2 := h'.same s2
   cases es : st ts[i] G' with
   | stuck => rw [es] at q'; exact q'.elim
   | exc c => exact absurd es (hst _ _ c)
   | ok G1 =>
    rw [es, Res.bind_ok] at q'
    refine gp ts[i] x σ' H2 P' G' _ h2 r2 ⟨G1, es, fun σ3 P3 g3 h3 => ⟨G1, P3, h3, ?_⟩⟩
    have gg : Go H1 P1 H2 P3 := g'.trans ((Go.same s2).trans g3)
    cases ed : d G1 with
    | stuck => rw [ed] at q'; exact q'.elim
    | exc c => rw [ed] at q'; exact YY.up (r := .exc c) q' (g2.trans gg)
    | ok o =>
     rw [ed, Res.bind_ok] at q'
     cases o with
     | nx G4 => exact fun σ4 H4 P4 g4 h4 => ⟨G4, P4, gg.trans g4, h4, q'⟩
     | ct G4 => exact fun σ4 H4 P4 g4 h4 => ⟨G4, P4, gg.trans g4, h4, q'⟩
     | bk G4 => exact fun σ4 H4 P4 g4 h4 => q' σ4 H4 P4 (g2.trans (gg.trans g4)) h4
     | rt t => exact fun v H4 P4 g4 h4 n4 => q' v H4 P4 (g2.trans (gg.trans g4)) h4 fun z => (n4 z).back (g2.trans gg)
  ·have ei : i = ts.length := by omega
   subst ei
   rw [List.drop_length] at q'
   exact .inl ⟨y2 (Nat.le_refl _), q' σ' H' P' (g2.trans g') h'⟩
end
end Fx
namespace Fx
open PySem PySem.Spec PyProof.Rows L2
theorem Same.updL {H H8 : Hp} {D : Addr} {vs ws : List V} (s : Same H H8) (hD : H D = none) (h8 : H8 D = some (.lst vs)) : Same H (upd H8 D (.lst ws)) where
 kp := fun b o e n => by rw [Zy (ZM e hD)]; exact s.kp b o e n
 free := fun {b} w => by
  by_cases z : b = D
  ·rw [z]; exact hD
  ·rw [Zy z] at w; exact s.free w
 tab := fun K t => X8.mono (s.tab K t) fun b o e nl => by
  rw [Zy (fun z => by rw [z, h8] at e; cases e; exact nl _ rfl)]; exact e
 tbk := fun b ps e => by rw [Zy (ZM e hD)]; exact s.tbk b ps e
def zag (K : PySem.W.Frag) (W : Str -> Hp -> Prop) (H : Hp) (P : Pv) (r : Res (List PyData)) (Q : VK) : Prop :=
 match r with
 | .ok xs => ∀ p vs H', Same H H' -> H p = none -> H' p = some (.lst vs) -> Rls K H' (P.fbd p) xs vs -> Q (.ref p) H'
 | .exc c => ∀ H', Same H H' -> W c H'
 | .stuck => False
def tFO (K : PySem.W.Frag) (W : Str -> Hp -> Prop) (d : DA) : TE := fun σ H Q => ∃ G P, Hol K H P σ G /\ zag K W H P (d G) Q
def OV (X : Cx) (W : Str -> Hp -> Prop) (e : Expr) (d : DA) : Prop := PE X e (tFO X.K W d)
theorem Tr.fbd {H : Hp} {P : Pv} {p : Addr} : Tr H (P.fbd p) H P := fun a o e _ q => ⟨e, q.1, fun z => q.2 (.inl z)⟩
theorem Tr.tofbd {H : Hp} {P : Pv} {p : Addr} (hp : H p = none) : Tr H P H (P.fbd p) := fun a o e _ q => ⟨e, q.1, fun z => z.elim q.2 fun z => by rw [z, hp] at e; cases e⟩
theorem rl_new {K : PySem.W.Frag} {H H' : Hp} {P : Pv} {σ : L2.St} {G : List Sl} {p : Addr} {vs : List V} {xs : List PyData} (h : Hol K H P σ G) (s : Same H H') (hp : H p = none) (hl : H' p = some (.lst vs)) (r : Rls K H' (P.fbd p) xs vs) : Rl K H' P (.list xs) (.ref p) :=
 Z7.mpr ⟨p, vs, rfl, .off hl (h.off_new hp), Rls.go .fbd xs vs r⟩
theorem Hol.own' {K : PySem.W.Frag} {H H' : Hp} {P : Pv} {σ : L2.St} {G : List Sl} {p : Addr} {vs : List V} {xs : List PyData} {i : Nat} (h : Hol K H P σ G) (hi : i < G.length) (s : Same H H') (hp : H p = none) (hl : H' p = some (.lst vs)) (r : Rls K H' (P.fbd p) xs vs) :
  Hol K H' (P.put i p) (σ.set i (some (.ref p))) (G.set i (.own xs)) /\ Go H P H' (P.put i p) := by
 have g0 : Go H P H' (P.put i p) := (Go.put hp).trans (.same s)
 have gg := g0.tr
 have tt : Tr H' (P.fbd p) H' (P.put i p) := fun a o e _ q => ⟨e, fun j z => by
  have z' : (if j = i then some p else P.own j) = some a := z
  split at z'
  ·cases z'; exact q.2 (Or.inr rfl)
  ·exact q.1 j z', fun z => q.2 (Or.inl z)⟩
 have rr : Rls K H' (P.put i p) xs vs := Rls.go tt xs vs r
 refine ⟨⟨fun j s' q => ?_, ?_, ?_, ?_, ?_, ?_, s.tab K h.tab⟩, g0⟩
 ·by_cases e : j = i
  ·subst e
   rw [List.getElem?_set_self hi] at q
   cases q
   exact ⟨p, vs, Wr (by rw [h.len]; exact hi), if_pos rfl, hl, rr⟩
  ·rw [List.getElem?_set_ne (Ne.symm e)] at q
   have z := h.sl j s' q
   rw [Wh e]
   cases s' with
   | emp => trivial
   | val t' => obtain ⟨v', e1, r'⟩ := z; exact ⟨v', e1, Rl.go gg t' v' r'⟩
   | own xs' =>
    obtain ⟨p', vs', e1, e2, e3, r'⟩ := z
    exact ⟨p', vs', e1, (by show (if j = i then some p else P.own j) = _; rw [if_neg e]; exact e2), s.kp _ _ e3 VE, Rls.go gg xs' vs' r'⟩
 ·intro a b c h1 h2
  have h1' : (if a = i then some p else P.own a) = some c := h1
  have h2' : (if b = i then some p else P.own b) = some c := h2
  split at h1'
  ·split at h2'
   ·rename_i z1 z2; rw [z1, z2]
   ·cases h1'; obtain ⟨ws, q⟩ := h.dom h2'; rw [hp] at q; cases q
  ·split at h2'
   ·cases h2'; obtain ⟨ws, q⟩ := h.dom h1'; rw [hp] at q; cases q
   ·exact h.inj a b c h1' h2'
 ·intro j a z
  have z' : (if j = i then some p else P.own j) = some a := z
  split at z'
  ·rename_i e; subst e; exact ⟨xs, List.getElem?_set_self hi⟩
  ·rename_i ne
   obtain ⟨xs, q⟩ := h.only j a z'
   exact ⟨xs, by rw [List.getElem?_set_ne (Ne.symm ne)]; exact q⟩
 ·intro a z w
  exact h.fbd a z (s.free w)
 ·intro j a z
  have z' : (if j = i then some p else P.own j) = some a := z
  split at z'
  ·cases z'; exact h.nofb hp
  ·exact h.nfb j a z'
 ·rw [List.length_set, List.length_set]; exact h.len
def Yw (env : Env) : List (Str × NameKind) -> List (Str × Addr) -> List (Str × Addr)
 | [], cs => cs
 | (n, k) :: r, cs => Yw env r (if (k == NameKind.free) = true then (n, (env.cells.lookup n).getD 0) :: cs else cs)
theorem UG (env : Env) (f : Str × NameKind -> List (Str × Addr) -> Sem (ForInStep (List (Str × Addr))))
  (hf : ∀ n k cs, f (n, k) cs = if (k == NameKind.free) = true then (cellOf env n >>= fun a => pure (.yield ((n, a) :: cs))) else pure (.yield cs)) :
  ∀ (names : List (Str × NameKind)) (cs : List (Str × Addr)), (∀ y ∈ names, y.2 = .free -> ∃ c, env.cells.lookup y.1 = some c) -> (forIn names cs f : Sem (List (Str × Addr))) = pure (Yw env names cs)
 | [], cs, h => rfl
 | (n, k) :: r, cs, h => by
  rw [List.forIn_cons, hf]
  have ih := fun cs => UG env f hf r cs fun y hy => h y (List.mem_cons_of_mem _ hy)
  by_cases hk : (k == NameKind.free) = true
  ·obtain ⟨c, e⟩ := h (n, k) List.mem_cons_self (by simpa using hk)
   have e2 : cellOf env n = pure c := by unfold cellOf; rw [e]
   rw [if_pos hk, e2, pure_bind, pure_bind]
   show forIn r _ f = _
   rw [ih]
   have ec : Yw env ((n, k) :: r) cs = Yw env r (if (k == NameKind.free) = true then (n, (env.cells.lookup n).getD 0) :: cs else cs) := rfl
   rw [ec, if_pos hk, e]
   rfl
  ·rw [if_neg hk, pure_bind]
   show forIn r _ f = _
   rw [ih]
   have ec : Yw env ((n, k) :: r) cs = Yw env r (if (k == NameKind.free) = true then (n, (env.cells.lookup n).getD 0) :: cs else cs) := rfl
   rw [ec, if_neg hk]
theorem V9 {scope : Scope} {env : Env} (h : ∀ y ∈ scope.names, y.2 = .free -> ∃ c, env.cells.lookup y.1 = some c) : closureFor scope env = pure (Yw env scope.names []) := by
 unfold closureFor
 have := UG env (fun x r => match x with
  | (name, kind) => if (kind == NameKind.free) = true then (cellOf env name >>= fun a => pure (.yield ((name, a) :: r))) else pure (.yield r)) (fun _ _ _ => rfl) scope.names [] h
 simp only [bind_pure]
 exact this
theorem WE (env : Env) : ∀ (names : List (Str × NameKind)) (cs : List (Str × Addr)), (∀ y ∈ names, y.2 = .free -> ∃ c, env.cells.lookup y.1 = some c) -> (∀ x c, cs.lookup x = some c -> env.cells.lookup x = some c) ->
  ∀ x c, (Yw env names cs).lookup x = some c -> env.cells.lookup x = some c
 | [], cs, h, hc, x, c, e => hc x c e
 | (n, k) :: r, cs, h, hc, x, c, e => by
  unfold Yw at e
  refine WE env r _ (fun y hy => h y (List.mem_cons_of_mem _ hy)) (fun y d ey => ?_) x c e
  by_cases hk : (k == NameKind.free) = true
  ·rw [if_pos hk] at ey
   obtain ⟨c', e'⟩ := h (n, k) List.mem_cons_self (by simpa using hk)
   rw [List.lookup_cons] at ey
   split at ey
   ·rename_i q
    have : y = n := by simpa using q
    subst this
    rw [e'] at ey ⊢
    exact ey
   ·exact hc y d ey
  ·rw [if_neg hk] at ey
   exact hc y d ey
theorem Xm {α : Type} {x : Str} {a : α} : ∀ {cs : List (Str × α)}, (x, a) ∈ cs -> ∃ b, cs.lookup x = some b
 | (y, b) :: r, h => by
  rw [List.lookup_cons]
  split
  ·exact ⟨b, rfl⟩
  ·rename_i q
   rcases List.mem_cons.mp h with e | e
   ·cases e; simp at q
   ·exact Xm e
theorem WF (env : Env) : ∀ (names : List (Str × NameKind)) (cs : List (Str × Addr)) (x : Str), ((∃ c, (x, c) ∈ cs) \/ (x, NameKind.free) ∈ names) -> ∃ c, (x, c) ∈ Yw env names cs
 | [], cs, x, h => by
  rcases h with h | h
  ·exact h
  ·cases h
 | (n, k) :: r, cs, x, h => by
  unfold Yw
  refine WF env r _ x ?_
  rcases h with ⟨c, h⟩ | h
  ·left
   split
   ·exact ⟨c, List.mem_cons_of_mem _ h⟩
   ·exact ⟨c, h⟩
  ·rcases List.mem_cons.mp h with e | e
   ·cases e
    left
    exact ⟨_, by rw [if_pos (by rfl)]; exact List.mem_cons_self⟩
   ·exact .inr e
theorem Xl {α : Type} {x : Str} {a : α} : ∀ {cs : List (Str × α)}, cs.lookup x = some a -> (x, a) ∈ cs
 | (y, b) :: r, h => by
  rw [List.lookup_cons] at h
  split at h
  ·rename_i q
   have : x = y := by simpa using q
   cases h; subst this
   exact List.mem_cons_self
  ·exact List.mem_cons_of_mem _ (Xl h)
theorem WG {scope : Scope} {env : Env} {x : Str} (hcell : ∀ y ∈ scope.names, y.2 ≠ .cell) : (relabel scope env).names.lookup x = some .cell \/ (relabel scope env).names.lookup x = some .free -> (x, NameKind.free) ∈ scope.names := by
 intro h
 have : ∃ k, (x, k) ∈ (relabel scope env).names /\ (k = .cell \/ k = .free) := by
  rcases h with h | h
  ·exact ⟨_, Xl h, .inl rfl⟩
  ·exact ⟨_, Xl h, .inr rfl⟩
 obtain ⟨k, hm, hk⟩ := this
 unfold relabel at hm
 obtain ⟨⟨n, k0⟩, hm0, e⟩ := List.mem_map.mp hm
 simp only at e
 split at e
 ·rename_i q
  cases e
  simp only [Bool.and_eq_true, beq_iff_eq] at q
  rw [q.1.1] at hm0
  exact hm0
 ·cases e
  rcases hk with rfl | rfl
  ·exact absurd rfl (hcell _ hm0)
  ·exact hm0
def cxC (X : Cx) (scope : Scope) (N : List Str) (s₀ : Shared) (H₀ : Hp) (ex : List Addr) (pn : List (Addr × Obj) := []) : Cx :=
 { X with env := compEnvC scope (Yw X.env scope.names []) s₀.heap.objs.size X.env, N := N, s₀ := s₀, H₀ := H₀, outer := X.stack, ex := ex, fn := fun _ => false, pn := pn, xe := fun _ _ => False }
structure CompOk (X : Cx) (scope : Scope) (N : List Str) (nv : Nat) (cap : List Nat) : Prop where
 cell : ∀ y ∈ scope.names, y.2 ≠ .cell
 kind : scope.kind = .function
 names : ∀ y ∈ scope.names, y.2 = .local -> scope.names.lookup y.1 = some .local
 free : ∀ y ∈ scope.names, y.2 = .free -> X.env.kindOf y.1 = some .cell \/ X.env.kindOf y.1 = some .free
 len : N.length = nv + cap.length
 caps : ∀ (i j : Nat) (x : Str), cap[i]? = some j -> N[nv + i]? = some x -> X.N[j]? = some x /\ ((relabel scope X.env).names.lookup x = some .cell \/ (relabel scope X.env).names.lookup x = some .free) /\ (X.env.kindOf x = some .cell \/ X.env.kindOf x = some .free)
def sig (nv : Nat) (cap : List Nat) (σ : L2.St) : L2.St := List.replicate nv none ++ cap.map fun j => σ.getD j none
section
variable {X : Cx} {scope : Scope} {N : List Str} {nv : Nat} {cap : List Nat} {pins : List (Addr × Obj)} {σ : L2.St} {H : Hp} {s : Shared} {ex : List Addr}
theorem CompOk.has (C : CompOk X scope N nv cap) (ok : X.Ok) : ∀ y ∈ scope.names, y.2 = .free -> ∃ c, X.env.cells.lookup y.1 = some c := fun y hy e => ok.has y.1 (C.free y hy e)
theorem CompOk.start (C : CompOk X scope N nv cap) (I : Inv X pins σ H s) (hex : ∀ b ∈ ex, FpOk X pins H b /\ b < s.heap.objs.size) {h' : Heap} {t : Nat} {m : Str -> Option Value} (hn : h'.Ns s.heap.objs.size m) (hk : ∀ b o, s.heap.get? b = some o -> h'.get? b = some o) :
  Inv (cxC X scope N s H ex) [] (sig nv cap σ) H { s with heap := h', toks := t } := by
 have hh := C.has I.ok
 have sub := WE X.env scope.names [] hh (fun x c e => by cases e)
 have hL : s.heap.objs.size <= (cxC X scope N s H ex).env.locals := Nat.le_refl _
 have stk : ∀ b ∈ frs X.stack, b < s.heap.objs.size := fun b hb => by
  obtain ⟨_, o, ho, _⟩ := I.stack.mem hb
  exact Heap.lt_size ho
 refine ⟨⟨I.ok.mod, C.kind, I.ok.glob, I.ok.blt, hL, fun x y c h1 h2 => I.ok.inj x y c (sub x c h1) (sub y c h2), fun x hx => ?_, fun x c h => ?_, I.ok.hd, I.ok.frames, .inl rfl, fun b hb => ?_, fun b o e => I.bs b o e, ?_, fun b o e hb => ?_, fun b hb => ?_, I.stack, I.stkFree⟩,
  rfl, I.bare, Un.kept hk, ⟨m, hn, fun i x v e1 e2 e3 => ?_⟩, fun x c e => ?_, I.hok.fresh (Nat.le_refl _), fun x c e => I.freeC x c (sub x c e), fun p hp => ?_, I.hok.kept hk, ?_⟩
 ·have hx' : (relabel scope X.env).names.lookup x = some .cell \/ (relabel scope X.env).names.lookup x = some .free := hx
  obtain ⟨c, hc⟩ := WF X.env scope.names [] x (.inr (WG C.cell hx'))
  exact Xm hc
 ·cases h
 ·obtain ⟨f, lt⟩ := hex b hb
  refine ⟨Nat.ne_of_lt lt, fun x c e => f.2.2.2.2.1 x c (sub x c e)⟩
 ·exact Nat.le_trans I.ok.bsz I.sz
 ·obtain ⟨f, lt⟩ := hex b hb
  rcases f.2.2.2.1 with z | z
  ·exact I.ok.noex b o e z
  ·exact absurd (Nat.lt_of_lt_of_le (Heap.lt_size e) (Nat.le_trans I.ok.bsz z)) (Nat.lt_irrefl _)
 ·obtain ⟨f, lt⟩ := hex b hb
  intro z
  rcases List.mem_cons.mp (I.stkSub b z) with e | e
  ·exact f.2.1 e
  ·exact f.2.2.1 e
 ·-- the names
  have hi : nv <= i := by
   rcases Nat.lt_or_ge i nv with z | z
   ·unfold sig at e2
    rw [List.getElem?_append_left (by simpa using z), List.getElem?_replicate] at e2
    split at e2 <;> cases e2
   ·exact z
  obtain ⟨k, rfl⟩ := Nat.exists_eq_add_of_le hi
  unfold sig at e2
  rw [List.getElem?_append_right (by simp), List.getElem?_map] at e2
  have ek : nv + k - (List.replicate nv (none : Option V)).length = k := by simp
  rw [ek] at e2
  cases ec : cap[k]? with
  | none => rw [ec] at e2; cases e2
  | some j =>
   rw [ec] at e2
   have e2' : σ.getD j none = some v := by simpa using e2
   obtain ⟨c1, c2, c3⟩ := C.caps k j x ec e1
   obtain ⟨m0, _, hl⟩ := I.loc
   have vis : Vis X.env.scope x := c3.elim (fun z => .inr (.inl z)) fun z => .inr (.inr z)
   obtain ⟨u, ru, lk⟩ := hl j x v c1 (getD_some e2') vis
   refine ⟨u, ru, .inr ⟨c2, ?_⟩⟩
   rcases lk with ⟨z, _⟩ | ⟨_, c, ec', o, ho, hd⟩
   ·rcases c3 with c3 | c3 <;> (rw [c3] at z; cases z)
   ·obtain ⟨c', hc'⟩ := WF X.env scope.names [] x (.inr (WG C.cell c2))
    obtain ⟨c'', hc''⟩ := Xm hc'
    have := sub x c'' hc''
    rw [ec'] at this
    cases this
    exact ⟨c, hc'', o, hk c o ho, hd⟩
 ·obtain ⟨v, o, ho, hd⟩ := I.cell x c (sub x c e)
  exact ⟨v, o, hk c o ho, hd⟩
 ·exact absurd (show p ∈ ([] : List (Addr × Obj)) from hp) (by simp)
 ·show (sig nv cap σ).length = N.length
  unfold sig
  rw [C.len]
  simp
theorem CompOk.stop {H' : Hp} {s' : Shared} {σ' : L2.St} {pl : List (Addr × Obj)} (I : Inv X pins σ H s) (hex : ∀ b ∈ ex, FpOk X pins H b) (J : Inv (cxC X scope N s H ex) pl σ' H' s') : Inv X pins σ H' s' :=
 I.call' J.os J.base J.hok J.bare fun b hb => by
  obtain ⟨f0, f1, f2, f3, f4, f5⟩ := hex b hb
  exact ⟨f3, f1, f4, f5⟩
theorem inv_pn {s₀ : Shared} {H₀ : Hp} {E : Value -> Shared -> Prop} (I : Inv (cxC X scope N s₀ H₀ ex) pins σ H s) : Inv ((cxC X scope N s₀ H₀ ex pins).wish E) [] σ H s :=
 ⟨⟨I.ok.mod, I.ok.kind, I.ok.glob, I.ok.blt, I.ok.above, I.ok.inj, I.ok.has, I.ok.cab, I.ok.hd, I.ok.frames, I.ok.stk, I.ok.exf, I.ok.bs, I.ok.bsz, I.ok.noex, I.ok.exfs, I.ok.funs, I.ok.frf⟩, I.os, I.bare, I.base, I.loc, I.cell, I.free, I.freeC,
  fun p hp => I.pin p (show p ∈ [] ++ pins by simpa using (show p ∈ pins ++ [] from hp)), I.hok, I.len⟩
theorem inv_np {s₀ : Shared} {H₀ : Hp} {pn : List (Addr × Obj)} {E : Value -> Shared -> Prop} (I : Inv ((cxC X scope N s₀ H₀ ex pn).wish E) pins σ H s) : Inv (cxC X scope N s₀ H₀ ex) (pn ++ pins) σ H s :=
 ⟨⟨I.ok.mod, I.ok.kind, I.ok.glob, I.ok.blt, I.ok.above, I.ok.inj, I.ok.has, I.ok.cab, I.ok.hd, I.ok.frames, I.ok.stk, I.ok.exf, I.ok.bs, I.ok.bsz, I.ok.noex, I.ok.exfs, I.ok.funs, I.ok.frf⟩, I.os, I.bare, I.base, I.loc, I.cell, I.free, I.freeC,
  fun p hp => I.pin p (show p ∈ pn ++ pins from by simpa using (show p ∈ [] ++ (pn ++ pins) from hp)), I.hok, I.len⟩
end
end Fx
namespace Fx
open PySem PySem.Spec PyProof.Rows L2
theorem Q5 {prog : Program} {w : World} {A : Around} {R : Result -> Shared -> Prop} {s : Shared} {elt target iter : Expr} {ifs : List Expr} {scope : Scope} {pos : Pos} {it acc : Value} {env : Env} (I : Nat -> Shared -> Prop)
  (turn : ∀ n s, I n s -> wpAny (model prog w) A (pyNext it) (fun r s₁ => match r with
   | none => R (.ok .next) s₁
   | some v => wpAny (model prog w) A (letOwnedTupleGo target it v) (fun _ s₀ => wpAny (model prog w) A (assign target env v) (fun _ s₂ =>
     wpAny (model prog w) A (forIn ifs true fun c r => if r = true then do let ok <- isTrue c env (eval c env); pure (ForInStep.yield ok) else pure (ForInStep.yield r)) (fun ok s₃ =>
      if ok = true then wpAny (model prog w) A (eval elt env) (fun x s₄ =>
       wpAny (model prog w) A (call (.builtin "list.append") [acc, x]) (fun _ s₅ => ∃ m, m < n /\ I m s₅) (notedBy (model prog w) A env fun e s' => R (.error e) s') s₄) (notedBy (model prog w) A env fun e s' => R (.error e) s') s₃
      else ∃ m, m < n /\ I m s₃) (notedBy (model prog w) A env fun e s' => R (.error e) s') s₂) (notedBy (model prog w) A env fun e s' => R (.error e) s') s₀) (notedBy (model prog w) A env fun e s' => R (.error e) s') s₁) (notedBy (model prog w) A env fun e s' => R (.error e) s') s)
  (n : Nat) (h : I n s) :
  codeAny (model prog w) A (.compLoop (.ListComp elt [⟨target, iter, ifs, 0⟩] scope pos) 0 it acc env) R s := by
 refine codeAny_loop rfl I (fun n s hI => ?_) n h
 show wpAny _ A ((compTurn (.ListComp elt [⟨target, iter, ifs, 0⟩] scope pos) 0 it acc env).onRaise (fun x => do noteFrame x env; theTreesLotGoes x)) _ _ s
 refine wpAny_noted ?_
 rw [compTurn_list]
 refine wpAny_bind (wpAny_standAt (wpAny_bind (wpAny_mono (turn n s hI) (fun r s₁ h₁ => ?_) fun _ _ h' => h')))
 cases r with
 | none => exact wpAny_pure h₁
 | some v =>
  refine wpAny_bind (wpAny_mono h₁ (fun _ s₀ h₀ => ?_) fun _ _ h' => h')
  refine wpAny_bind (wpAny_mono h₀ (fun _ s₂ h₂ => wpAny_bind (wpAny_mono h₂ (fun ok s₃ h₃ => ?_) fun _ _ h' => h')) fun _ _ h' => h')
  cases ok with
  | false => exact wpAny_pure ⟨rfl, h₃⟩
  | true =>
   exact wpAny_bind (wpAny_bind (wpAny_mono h₃ (fun x s₄ h₄ => wpAny_bind (wpAny_mono h₄ (fun _ s₅ h₅ => wpAny_pure (wpAny_pure ⟨rfl, h₅⟩)) fun _ _ h' => h')) fun _ _ h' => h'))
def CT (X : Cx) (W : Str -> Hp -> Prop) (ifs : List Expr) (dc : DT) : Prop := (ifs = [] /\ dc = tT) \/ ∃ c, ifs = [c] /\ TV X W c dc
theorem XS {X : Cx} {W : Str -> Hp -> Prop} : CT X W [] tT := .inl ⟨rfl, rfl⟩
section
variable {X : Cx} {scope : Scope} {N : List Str} {nv : Nat} {cap : List Nat}
theorem hol_cap {K : PySem.W.Frag} {H H' : Hp} {P P' : Pv} {σ : L2.St} {G : List Sl} (h : Hol K H P σ G) (tr : Tr H P H' P') (ho : ∀ i, P'.own i = none) (hf : ∀ a, P'.fb a -> H' a ≠ none) (htb : X8 K H') : Hol K H' P' (sig nv cap σ) (List.replicate nv .emp ++ capS cap G) where
 sl := fun i s e => by
  by_cases hi : i < nv
  ·rw [List.getElem?_append_left (by simpa using hi), List.getElem?_replicate, if_pos hi] at e
   cases e
   trivial
  ·rw [List.getElem?_append_right (by simpa using hi)] at e
   have el : i - (List.replicate nv Sl.emp).length = i - nv := by simp
   rw [el] at e
   unfold capS at e
   rw [List.getElem?_map] at e
   cases ec : cap[i - nv]? with
   | none => rw [ec] at e; cases e
   | some j =>
    rw [ec] at e
    have es : (sig nv cap σ).getD i none = σ.getD j none := by
     unfold sig
     rw [List.getD_eq_getElem?_getD, List.getElem?_append_right (by simpa using hi)]
     have el2 : i - (List.replicate nv (none : Option V)).length = i - nv := by simp
     rw [el2, List.getElem?_map, ec]
     rfl
    rw [es]
    simp only [Option.map_some, Option.some.injEq] at e
    cases eg : G[j]? with
    | none => rw [eg] at e; subst e; trivial
    | some x =>
     rw [eg] at e
     cases x with
     | emp => subst e; trivial
     | own xs => subst e; trivial
     | val t =>
      subst e
      obtain ⟨v, ev, rv⟩ := h.sl j _ eg
      exact ⟨v, ev, Rl.go tr t v rv⟩
 inj := fun i j a z _ => by rw [ho i] at z; cases z
 only := fun i a z => by rw [ho i] at z; cases z
 fbd := hf
 nfb := fun i a z => by rw [ho i] at z; cases z
 len := by simp [sig]
 tab := htb
theorem QX {K : PySem.W.Frag} {H : Hp} {P : Pv} {σ : L2.St} {G1 : List Sl} {C : List Sl} (hC : ∀ i, i < nv -> ∀ s, C[i]? = some s -> s = .emp) (hC2 : ∀ (i : Nat) xs, C[i]? ≠ some (.own xs)) (h : Hol K H P σ G1) (hl : G1.length = C.length) (he : ∀ i, nv <= i -> G1[i]? = C[i]?) :
  Hol K H P.bare σ C := by
 obtain ⟨h', g⟩ := h.frzA
 refine ⟨fun i s e => ?_, fun _ _ _ z => (by cases z), fun _ _ z => (by cases z), h'.fbd, fun _ _ z => (by cases z), by rw [h.len, hl], h'.tab⟩
 by_cases hi : i < nv
 ·rw [hC i hi s e]; trivial
 ·have e1 : G1[i]? = some s := by rw [he i (by omega)]; exact e
  cases s with
  | emp => trivial
  | own xs => exact absurd e (hC2 i xs)
  | val t =>
   refine h'.sl i (.val t) ?_
   rw [Ws, e1]; rfl
abbrev cxT (xz : Cx -> Value -> Shared -> Prop) (X : Cx) (scope : Scope) (N : List Str) (s₀ : Shared) (H₀ : Hp) (ex : List Addr) (pn : List (Addr × Obj)) : Cx := (cxC X scope N s₀ H₀ ex pn).wish (xz (cxC X scope N s₀ H₀ ex pn))
theorem Q4 {xz : Cx -> Value -> Shared -> Prop} {W : Str -> Hp -> Prop} {tg elt iter : Expr} {ifs : List Expr} {pos : Pos} {st : PyData -> List Sl -> Res (List Sl)} {dc : DT} {de : DE} {pins : List (Addr × Obj)} {σ : L2.St} {H2 : Hp} {s3 s4 : Shared} {P : Pv} {G : List Sl} {J : It} {fp : List Addr} {itA D : Addr} {tn : Nat -> Heap -> Prop} {ts : List PyData} {r : Res (List PyData)} {R : Result -> Shared -> Prop} {m : Str -> Option Value}
  (C : CompOk X scope N nv cap) (hc : X.calm = true) (hk : Qh nv st)
  (hg : ∀ s₀ H₀ ex pn, GV (cxT xz X scope N s₀ H₀ ex pn) tg st) (ht : ∀ s₀ H₀ ex pn, (∀ b ∈ ex, ∃ o, (b, o) ∈ pn) -> CT (cxT xz X scope N s₀ H₀ ex pn) W ifs dc) (he : ∀ s₀ H₀ ex pn, (∀ b ∈ ex, ∃ o, (b, o) ∈ pn) -> EV (cxT xz X scope N s₀ H₀ ex pn) W elt de)
  (h2 : Hol X.K H2 P σ G) (hD : H2 D = none) (I3 : Inv X pins σ (upd H2 D (.lst [])) s3) (T : Turn X.prog X.w X.K tg J fp itA tn) (hf : ∀ b ∈ fp, FpOk X pins (upd H2 D (.lst [])) b /\ b < s3.heap.objs.size) (y : Yld X.K J ts H2 P) (hlen : ts.length <= 16777216)
  (hall : Yv st dc de (List.replicate nv .emp ++ capS cap G) ts = r) (hr : r ≠ .stuck) (hW : ∀ c, r = .exc c -> ∀ H', Same H2 H' -> W c H')
  (hn : s4.heap.Ns s3.heap.objs.size m) (hkp : ∀ b o, s3.heap.get? b = some o -> s4.heap.get? b = some o) (e4 : ∃ h' t, s4 = { s3 with heap := h', toks := t }) (tn0 : tn 0 s4.heap)
  (fin : ∀ s' H' σ' vs all, r = .ok all -> Inv (cxC X scope N s3 (upd H2 D (.lst [])) fp) [] σ' H' s' -> H' D = some (.lst vs) -> Same H2 H' -> Rls X.K H' (P.fbd D) all vs -> R (.ok .next) s')
  (finx : ∀ pn e s', (∀ b ∈ fp, ∃ o, (b, o) ∈ pn) -> xz (cxC X scope N s3 (upd H2 D (.lst [])) fp pn) e s' -> notedBy (model X.prog X.w) X.A (compEnvC scope (Yw X.env scope.names []) s3.heap.objs.size X.env) (fun e s' => R (.error e) s') e s') :
  codeAny (model X.prog X.w) X.A (.compStart (.ListComp elt [⟨tg, iter, ifs, 0⟩] scope pos) 0 (.ref itA) (.ref D) (compEnvC scope (Yw X.env scope.names []) s3.heap.objs.size X.env)) R s4 := by
 obtain ⟨h4, t4, rfl⟩ := e4
 have J4 := C.start (t := t4) I3 hf hn hkp
 -- what no element may hold
 have trc : ∀ H', Same H2 H' -> (∃ vs, H' D = some (.lst vs)) -> Tr H2 P H' ⟨fun _ => none, fun a => ¬ Off P a \/ a = D⟩ := fun H' s _ a o e n q => ⟨s.kp a o e n, fun _ z => (by cases z), fun z => z.elim (fun z => z q) fun z => by rw [z, hD] at e; cases e⟩
 have offc : ∀ H', Same H2 H' -> (∃ vs, H' D = some (.lst vs)) -> ∀ p, H' p = none -> Off ⟨fun _ => none, fun a => ¬ Off P a \/ a = D⟩ p := fun H' s ⟨vs, hv⟩ p hp => ⟨fun _ z => (by cases z), fun z => z.elim (fun z => z (h2.off_new (s.free hp))) fun z => by rw [z, hv] at hp; cases hp⟩
 have fbc : ∀ H', Same H2 H' -> (∃ vs, H' D = some (.lst vs)) -> ∀ a, (¬ Off P a \/ a = D) -> H' a ≠ none := fun H' s hv a z hn => (offc H' s hv a hn).2 z
 have hCe : ∀ i, i < nv -> ∀ x, (List.replicate nv Sl.emp ++ capS cap G)[i]? = some x -> x = .emp := fun i hi x e => by
  rw [List.getElem?_append_left (by simpa using hi), List.getElem?_replicate, if_pos hi] at e
  cases e
  rfl
 have hCo : ∀ (i : Nat) xs, (List.replicate nv Sl.emp ++ capS cap G)[i]? ≠ some (.own xs) := fun i xs e => by
  by_cases hi : i < nv
  ·have := hCe i hi _ e; cases this
  ·rw [List.getElem?_append_right (by simpa using hi)] at e
   unfold capS at e
   rw [List.getElem?_map] at e
   cases ec : cap[i - (List.replicate nv Sl.emp).length]? with
   | none => rw [ec] at e; cases e
   | some j =>
    rw [ec] at e
    simp only [Option.map_some, Option.some.injEq] at e
    cases eg : G[j]? with
    | none => rw [eg] at e; cases e
    | some x => rw [eg] at e; cases x <;> cases e
 have fpo : ∀ H', (∀ b ∈ fp, H' b = none) -> ∀ b ∈ fp, FpOk (cxC X scope N s3 (upd H2 D (.lst [])) fp) [] H' b := fun H' hz b hb => by
  obtain ⟨f, lt⟩ := hf b hb
  refine ⟨hz b hb, Nat.ne_of_lt lt, fun z => ?_, .inl hb, fun x c e => f.2.2.2.2.1 x c (WE X.env scope.names [] (C.has I3.ok) (fun x c e => by cases e) x c e), fun p hp => absurd (show p ∈ ([] : List (Addr × Obj)) from hp) (by simp)⟩
  rcases List.mem_cons.mp (I3.stkSub b z) with e | e
  ·exact f.2.1 e
  ·exact f.2.2.1 e
 have up0 : Same H2 (upd H2 D (.lst [])) := ZS hD
 -- the loop
 have loop : ∀ s5 : Shared, s5 = { s3 with heap := h4, toks := t4 } -> codeAny (model X.prog X.w) X.A (.compLoop (.ListComp elt [⟨tg, iter, ifs, 0⟩] scope pos) 0 (.ref itA) (.ref D) (compEnvC scope (Yw X.env scope.names []) s3.heap.objs.size X.env)) R s5 := by
  rintro s5 rfl
  refine Q5 (fun n s => ∃ i σ' H' vs ys, n = ts.length - i /\ i <= ts.length /\ Inv (cxC X scope N s3 (upd H2 D (.lst [])) fp) [] σ' H' s /\ tn i s.heap /\ (∀ b ∈ fp, H' b = none) /\ Same H2 H' /\ H' D = some (.lst vs) /\
   Rls X.K H' ⟨fun _ => none, fun a => ¬ Off P a \/ a = D⟩ ys vs /\ Hol X.K H' ⟨fun _ => none, fun a => ¬ Off P a \/ a = D⟩ σ' (List.replicate nv .emp ++ capS cap G) /\ ((Yv st dc de (List.replicate nv .emp ++ capS cap G) (ts.drop i)).bind fun zs => .ok (ys ++ zs)) = r /\ ys.length <= i) ?_ ts.length
   ⟨0, _, _, [], [], rfl, Nat.zero_le _, J4, tn0, fun b hb => (hf b hb).1.1, up0, ZQ, Yr.mpr rfl, hol_cap h2 (trc _ up0 ⟨_, ZQ⟩) (fun _ => rfl) (fbc _ up0 ⟨_, ZQ⟩) (up0.tab _ h2.tab), by rw [List.drop_zero, hall]; cases r <;> rfl, Nat.le_refl _⟩
  rintro n s ⟨i, σ', H', vs, ys, rfl, hi, Ji, tni, fpn, sm, hDv, rys, hol, ecl, hyl⟩
  obtain ⟨y1, y2⟩ := y H' ⟨fun _ => none, fun a => ¬ Off P a \/ a = D⟩ (trc H' sm ⟨vs, hDv⟩) (offc H' sm ⟨vs, hDv⟩) i
  by_cases hlt : i < ts.length
  ·have et : ts[i]? = some ts[i] := by simp [hlt]
   obtain ⟨go, yl⟩ := y1 _ et
   rw [List.drop_eq_getElem_cons hlt] at ecl
   unfold Yv at ecl
   -- the turn's own data
   obtain ⟨G1, eG⟩ : ∃ G1, st ts[i] (List.replicate nv .emp ++ capS cap G) = .ok G1 := by
    rcases Wq (st ts[i] (List.replicate nv .emp ++ capS cap G)) with ⟨G1, h⟩ | h
    ·exact ⟨G1, Jw h⟩
    ·rw [h] at ecl; exact absurd ecl.symm hr
   rw [eG, show noX (Res.ok G1 : Res (List Sl)) = .ok G1 from rfl, Res.bind_ok] at ecl
   obtain ⟨kl, ke⟩ := hk _ _ _ eG
   refine wpAny_mono (T.item (cxC X scope N s3 (upd H2 D (.lst [])) fp) rfl rfl rfl hc i [] s σ' H' (fun _ _ => False) Ji (fpo H' fpn) tni go) (fun r' s1 hr' => ?_) fun _ _ z => z.elim
   obtain ⟨u, rfl, hr'⟩ := hr'
   refine wpAny_mono hr' (fun _ s2 hr2 => ?_) fun _ _ z => z.elim
   obtain ⟨x, H5, J5, r5, y5, tn5, fr5⟩ := hr2
   obtain ⟨sm5, rl5⟩ := yl x H5 y5
   have J5' : Inv (cxT xz X scope N s3 (upd H2 D (.lst [])) fp (YQ fp s2.heap)) [] σ' H5 s2 := inv_pn (J5.pinned (fpo H5 fr5) (T.obj _ _ tn5))
   have pnn : ∀ b ∈ fp, ∃ o, (b, o) ∈ YQ fp s2.heap := fun b hb => by
    obtain ⟨o, e, _⟩ := T.obj _ _ tn5 b hb
    exact ⟨o, XY hb e⟩
   have finx' := fun e s' => finx (YQ fp s2.heap) e s' pnn
   obtain ⟨g, pg, gp⟩ := hg s3 (upd H2 D (.lst [])) fp (YQ fp s2.heap)
   have hol5 := hol.same sm5
   refine wpAny_mono (pg _ s2 σ' H5 x u (fun σ6 H6 => H6 = H5 /\ ∃ P6, Go H5 ⟨fun _ => none, fun a => ¬ Off P a \/ a = D⟩ H5 P6 /\ Hol X.K H5 P6 σ6 G1) J5' r5 (gp ts[i] x σ' H5 _ _ _ hol5 rl5 ⟨G1, eG, fun σ6 P6 g6 h6 => ⟨rfl, P6, g6, h6⟩⟩)) (fun _ s6 h6 => ?_) finx'
   obtain ⟨σ6, H6, J6, rfl, P6, g6, hol6⟩ := h6
   -- on to the next turn
   have fr6 : ∀ {H8 : Hp} {s8 : Shared}, Inv (cxT xz X scope N s3 (upd H2 D (.lst [])) fp (YQ fp s2.heap)) [] σ6 H8 s8 -> ∀ b ∈ fp, H8 b = none := fun {H8 s8} J8 b hb => by
    obtain ⟨o, e⟩ := pnn b hb
    exact (J8.pin (b, o) (List.mem_append_left _ e)).2.1
   have next : ∀ {H8 : Hp} {s8 : Shared} {ys' : List PyData} {vs' : List V}, Inv (cxT xz X scope N s3 (upd H2 D (.lst [])) fp (YQ fp s2.heap)) [] σ6 H8 s8 -> Same H2 H8 -> H8 D = some (.lst vs') -> (∀ b, b ≠ D -> ∀ o, H6 b = some o -> Nt o -> H8 b = some o) ->
     Rls X.K H8 ⟨fun _ => none, fun a => ¬ Off P a \/ a = D⟩ ys' vs' -> ((Yv st dc de (List.replicate nv .emp ++ capS cap G) (ts.drop (i + 1))).bind fun zs => .ok (ys' ++ zs)) = r -> ys'.length <= i + 1 ->
     ∃ m, m < ts.length - i /\ ∃ i σ' H' vs ys, m = ts.length - i /\ i <= ts.length /\ Inv (cxC X scope N s3 (upd H2 D (.lst [])) fp) [] σ' H' s8 /\ tn i s8.heap /\ (∀ b ∈ fp, H' b = none) /\ Same H2 H' /\ H' D = some (.lst vs) /\
      Rls X.K H' ⟨fun _ => none, fun a => ¬ Off P a \/ a = D⟩ ys vs /\ Hol X.K H' ⟨fun _ => none, fun a => ¬ Off P a \/ a = D⟩ σ' (List.replicate nv .emp ++ capS cap G) /\ ((Yv st dc de (List.replicate nv .emp ++ capS cap G) (ts.drop i)).bind fun zs => .ok (ys ++ zs)) = r /\ ys.length <= i := by
    intro H8 s8 ys' vs' J8 sm8 hD8 kp8 rys8 ecl8 hyl8
    refine ⟨ts.length - (i + 1), by omega, i + 1, σ6, H8, vs', ys', rfl, hlt, Inv.unpinned (pins := []) (pl := YQ fp s2.heap) (by simpa using inv_np J8), ?_, fr6 J8, sm8, hD8, rys8, ?_, ecl8, hyl8⟩
    ·exact T.keep _ _ _ tn5 fun b hb o e => (J8.pin (b, o) (List.mem_append_left _ (XY hb e))).1
    ·have hF : Hol X.K H6 P6.bare σ6 (List.replicate nv .emp ++ capS cap G) := QX hCe hCo hol6 kl ke
     have ep : P6.bare = ⟨fun _ => none, fun a => ¬ Off P a \/ a = D⟩ := by
      unfold Pv.bare
      rw [g6.fbe]
     rw [ep] at hF
     have tr8 : Tr H6 ⟨fun _ => none, fun a => ¬ Off P a \/ a = D⟩ H8 ⟨fun _ => none, fun a => ¬ Off P a \/ a = D⟩ := fun a o e n q => ⟨kp8 a (fun z => q.2 (Or.inr z)) o e n, q⟩
     refine ⟨fun j x e => ?_, fun _ _ _ z => (by cases z), fun _ _ z => (by cases z), fbc H8 sm8 ⟨vs', hD8⟩, fun _ _ z => (by cases z), hF.len, sm8.tab _ h2.tab⟩
     have z := hF.sl j x e
     cases x with
     | emp => trivial
     | val t => obtain ⟨v, e1, r1⟩ := z; exact ⟨v, e1, Rl.go tr8 t v r1⟩
     | own xs => exact absurd e (hCo j xs)
   have sm6 : Same H2 H6 := sm.trans sm5
   -- behind the test
   have after : ∀ k s7 H7, Inv (cxT xz X scope N s3 (upd H2 D (.lst [])) fp (YQ fp s2.heap)) [] σ6 H7 s7 -> Same H6 H7 -> dc G1 = .ok k -> (if k = true then wpAny (model X.prog X.w) X.A (eval elt (compEnvC scope (Yw X.env scope.names []) s3.heap.objs.size X.env)) (fun x s₄ =>
      wpAny (model X.prog X.w) X.A (call (.builtin "list.append") [.ref D, x]) (fun _ s₅ => ∃ m, m < ts.length - i /\ ∃ i σ' H' vs ys, m = ts.length - i /\ i <= ts.length /\ Inv (cxC X scope N s3 (upd H2 D (.lst [])) fp) [] σ' H' s₅ /\ tn i s₅.heap /\ (∀ b ∈ fp, H' b = none) /\ Same H2 H' /\ H' D = some (.lst vs) /\
      Rls X.K H' ⟨fun _ => none, fun a => ¬ Off P a \/ a = D⟩ ys vs /\ Hol X.K H' ⟨fun _ => none, fun a => ¬ Off P a \/ a = D⟩ σ' (List.replicate nv .emp ++ capS cap G) /\ ((Yv st dc de (List.replicate nv .emp ++ capS cap G) (ts.drop i)).bind fun zs => .ok (ys ++ zs)) = r /\ ys.length <= i) (notedBy (model X.prog X.w) X.A (compEnvC scope (Yw X.env scope.names []) s3.heap.objs.size X.env) fun e s' => R (.error e) s') s₄) (notedBy (model X.prog X.w) X.A (compEnvC scope (Yw X.env scope.names []) s3.heap.objs.size X.env) fun e s' => R (.error e) s') s7
     else ∃ m, m < ts.length - i /\ ∃ i σ' H' vs ys, m = ts.length - i /\ i <= ts.length /\ Inv (cxC X scope N s3 (upd H2 D (.lst [])) fp) [] σ' H' s7 /\ tn i s7.heap /\ (∀ b ∈ fp, H' b = none) /\ Same H2 H' /\ H' D = some (.lst vs) /\
      Rls X.K H' ⟨fun _ => none, fun a => ¬ Off P a \/ a = D⟩ ys vs /\ Hol X.K H' ⟨fun _ => none, fun a => ¬ Off P a \/ a = D⟩ σ' (List.replicate nv .emp ++ capS cap G) /\ ((Yv st dc de (List.replicate nv .emp ++ capS cap G) (ts.drop i)).bind fun zs => .ok (ys ++ zs)) = r /\ ys.length <= i) := by
    intro k s7 H7 J7 sm7 eK
    rw [eK, Res.bind_ok] at ecl
    have sm27 : Same H2 H7 := sm6.trans sm7
    have hD7 : H7 D = some (.lst vs) := sm7.kp _ _ (sm5.kp _ _ hDv VE) VE
    have r7 : Rls X.K H7 ⟨fun _ => none, fun a => ¬ Off P a \/ a = D⟩ ys vs := Rls.go (.same (sm5.trans sm7)) ys vs rys
    cases k with
    | false =>
     rw [if_neg Bool.false_ne_true] at ecl ⊢
     exact next J7 sm27 hD7 (fun b _ o e n => sm7.kp b o e n) r7 ecl (by omega)
    | true =>
     rw [if_pos rfl] at ecl ⊢
     cases eY : de G1 with
     | stuck => rw [eY] at ecl; exact absurd ecl.symm hr
     | exc c =>
      rw [eY] at ecl
      refine wpAny_mono (he s3 (upd H2 D (.lst [])) fp (YQ fp s2.heap) pnn _ s7 σ6 H7 (fun _ _ => False) J7 ⟨G1, P6, hol6.same sm7, by rw [eY]; exact fun H8 s8 => hW c ecl.symm H8 (sm27.trans s8)⟩) (fun xv s8 h8 => ?_) finx'
      obtain ⟨_, _, _, _, z⟩ := h8
      exact z.elim
     | ok yv =>
      rw [eY, Res.bind_ok] at ecl
      refine wpAny_mono (he s3 (upd H2 D (.lst [])) fp (YQ fp s2.heap) pnn _ s7 σ6 H7 (fun v H8 => Same H7 H8 /\ Rl X.K H8 P6 yv v) J7 ⟨G1, P6, hol6.same sm7, by rw [eY]; exact fun v H8 s r => ⟨s, r⟩⟩) (fun xv s8 h8 => ?_) finx'
      obtain ⟨v8, H8, J8, r8, sm8, rl8⟩ := h8
      have hD8 : H8 D = some (.lst vs) := sm8.kp _ _ hD7 VE
      have lv := rys.length
      have tr6 : Tr H8 P6 H8 ⟨fun _ => none, fun a => ¬ Off P a \/ a = D⟩ := fun a o e _ q => ⟨e, fun _ z => (by cases z), by rw [<- g6.fbe]; exact q.2⟩
      refine wpAny_mono (Us (X := cxT xz X scope N s3 (upd H2 D (.lst [])) fp (YQ fp s2.heap)) _ s8 σ6 H8 (.ref D) [v8] (.ref D) [xv] (fun w H9 => H9 = upd H8 D (.lst (vs ++ [v8]))) J8 rfl (.cons r8 .nil) ⟨D, vs, v8, rfl, rfl, hD8, by rw [sizeLine_eq]; omega, rfl⟩) (fun _ s9 h9 => ?_) finx'
      obtain ⟨_, H9, J9, _, rfl⟩ := h9
      have trD : Tr H8 ⟨fun _ => none, fun a => ¬ Off P a \/ a = D⟩ (upd H8 D (.lst (vs ++ [v8]))) ⟨fun _ => none, fun a => ¬ Off P a \/ a = D⟩ := fun a o e _ q => ⟨by rw [Zy (fun z => q.2 (Or.inr z))]; exact e, q⟩
      have smD : Same H2 (upd H8 D (.lst (vs ++ [v8]))) := (sm27.trans sm8).updL hD hD8
      refine next J9 smD ZQ (fun b hb o e n => by rw [Zy hb]; exact sm8.kp b o (sm7.kp b o e n) n) (Rls.append (Rls.go trD ys vs (Rls.go (.same sm8) ys vs r7)) (ZO.mpr ⟨v8, [], rfl, Rl.go trD yv v8 (Rl.go tr6 yv v8 rl8), Yr.mpr rfl⟩)) ?_ (by simp; omega)
      rw [<- ecl]
      cases Yv st dc de (List.replicate nv .emp ++ capS cap G) (ts.drop (i + 1)) <;> simp
   rcases ht s3 (upd H2 D (.lst [])) fp (YQ fp s2.heap) pnn with ⟨rfl, rfl⟩ | ⟨cx, rfl, tvc⟩
   ·exact wpAny_tests_nil (after true s6 H6 J6 (Same.refl _) rfl)
   ·cases eK : dc G1 with
    | stuck => rw [eK] at ecl; exact absurd ecl.symm hr
    | exc c =>
     rw [eK] at ecl
     refine wpAny_tests_one (wpAny_mono (tvc _ s6 σ6 H6 (fun _ _ => False) J6 ⟨G1, P6, hol6, by rw [eK]; exact fun H7 s => hW c ecl.symm H7 (sm6.trans s)⟩) (fun b s7 h7 => ?_) finx')
     obtain ⟨_, _, z⟩ := h7
     exact z.elim
    | ok k =>
     refine wpAny_tests_one (wpAny_mono (tvc _ s6 σ6 H6 (fun b H7 => b = k /\ Same H6 H7) J6 ⟨G1, P6, hol6, by rw [eK]; exact fun H7 s => ⟨rfl, s⟩⟩) (fun b s7 h7 => ?_) finx')
     obtain ⟨H7, J7, rfl, sm7⟩ := h7
     exact after b s7 H7 J7 sm7 eK
  ·have ei : i = ts.length := by omega
   subst ei
   rw [List.drop_length] at ecl
   have ecl' : r = .ok ys := by rw [<- ecl]; simp [Yv]
   refine wpAny_mono (T.done (cxC X scope N s3 (upd H2 D (.lst [])) fp) rfl rfl rfl hc _ [] s σ' H' (fun _ _ => False) Ji (fpo H' fpn) tni (y2 (Nat.le_refl _))) (fun r' s1 hr' => ?_) fun _ _ z => z.elim
   obtain ⟨rfl, J1⟩ := hr'
   have trf : Tr H' ⟨fun _ => none, fun a => ¬ Off P a \/ a = D⟩ H' (P.fbd D) := fun a o e _ q => by
    have o1 : Off P a := Classical.byContradiction fun z => q.2 (Or.inl z)
    exact ⟨e, o1.1, fun z => z.elim o1.2 fun z => q.2 (Or.inr z)⟩
   exact fin s1 H' σ' vs ys ecl' J1 hDv sm (Rls.go trf ys vs rys)
 exact codeAny_compStart_list (loop _ rfl) (T.self _ 0 _ _ _ tn0 (loop _ rfl))
end
end Fx
namespace Fx
open PySem PySem.Spec PyProof.Rows L2
theorem bindAO {a : Res (List PyData)} {f : List PyData -> Res (List PyData)} {K : PySem.W.Frag} {W : Str -> Hp -> Prop} {H : Hp} {P : Pv} {Q : VK} (q : zag K W H P (a.bind f) Q) :
  (∀ c, a = .exc c -> ∀ H', Same H H' -> W c H') /\ a ≠ .stuck /\ ∀ t, a = .ok t -> zag K W H P (f t) Q := by
 cases a with
 | ok t => exact ⟨fun c e => (by cases e), (by intro e; cases e), fun t' e => by cases e; exact q⟩
 | exc c => exact ⟨fun c' e => by cases e; exact q, (by intro e; cases e), fun t e => by cases e⟩
 | stuck => exact q.elim
theorem bindEO {a : Res PyData} {f : PyData -> Res (List PyData)} {K : PySem.W.Frag} {W : Str -> Hp -> Prop} {H : Hp} {P : Pv} {Q : VK} (q : zag K W H P (a.bind f) Q) :
  (∀ c, a = .exc c -> ∀ H', Same H H' -> W c H') /\ a ≠ .stuck /\ ∀ t, a = .ok t -> zag K W H P (f t) Q := by
 cases a with
 | ok t => exact ⟨fun c e => (by cases e), (by intro e; cases e), fun t' e => by cases e; exact q⟩
 | exc c => exact ⟨fun c' e => by cases e; exact q, (by intro e; cases e), fun t e => by cases e⟩
 | stuck => exact q.elim
def Qi (X : Cx) (scope : Scope) (N : List Str) (xz : Cx -> Value -> Shared -> Prop) : Prop :=
 ∀ (pins : List (Addr × Obj)) (σ : L2.St) (H3 : Hp) (s3 : Shared) (fp : List Addr) (pn : List (Addr × Obj)) (e : Value) (s' : Shared), Inv X pins σ H3 s3 -> (∀ b ∈ fp, FpOk X pins H3 b /\ b < s3.heap.objs.size) -> (∀ b ∈ fp, ∃ o, (b, o) ∈ pn) ->
  xz (cxC X scope N s3 H3 fp pn) e s' -> notedBy (model X.prog X.w) X.A (compEnvC scope (Yw X.env scope.names []) s3.heap.objs.size X.env) (fun x s' => ∃ m, s'.heap.Ns s3.heap.objs.size m /\ ∀ h', Heap.SameBut s3.heap.objs.size s'.heap h' -> ∀ cenv : Env, cenv.locals = s3.heap.objs.size ->
   wpAny (model X.prog X.w) X.A (PySem.passOn "comprehension.variables-let-go" x cenv : Sem Value) (fun _ _ => False) X.xe { s' with heap := h' }) e s'
theorem W9 {X : Cx} {scope : Scope} {N : List Str} : Qi X scope N (fun _ _ _ => False) := fun _ _ _ _ _ _ _ _ _ _ _ h => h.elim
section
variable {X : Cx} {W : Str -> Hp -> Prop} {fl : Bool} {scope : Scope} {N : List Str} {nv : Nat} {cap : List Nat} {tg elt iter : Expr} {ifs : List Expr} {pos : Pos} {st : PyData -> List Sl -> Res (List Sl)} {it : DA} {dc : DT} {de : DE} {xz : Cx -> Value -> Shared -> Prop}
theorem QE {pins : List (Addr × Obj)} {σ : L2.St} {H : Hp} {s : Shared} {P : Pv} {G : List Sl} {use : Option (Value -> Sem Unit)} {Q : Value -> Shared -> Prop} {pos' : Pos}
  (C : CompOk X scope N nv cap) (hc : X.calm = true) (hk : Qh nv st) (hi : IV X W tg iter it)
  (hX : Qi X scope N xz) (hg : ∀ s₀ H₀ ex pn, GV (cxT xz X scope N s₀ H₀ ex pn) tg st) (ht : ∀ s₀ H₀ ex pn, (∀ b ∈ ex, ∃ o, (b, o) ∈ pn) -> CT (cxT xz X scope N s₀ H₀ ex pn) W ifs dc) (he : ∀ s₀ H₀ ex pn, (∀ b ∈ ex, ∃ o, (b, o) ∈ pn) -> EV (cxT xz X scope N s₀ H₀ ex pn) W elt de)
  (I : Inv X pins σ H s) (h : Hol X.K H P σ G)
  (hx : ∀ c, it G = .exc c -> ∀ H', Same H H' -> W c H') (hs0 : it G ≠ .stuck)
  (fin : ∀ ts, it G = .ok ts -> ts.length <= 16777216 /\ Yv st dc de (List.replicate nv .emp ++ capS cap G) ts ≠ .stuck /\ (∀ c, Yv st dc de (List.replicate nv .emp ++ capS cap G) ts = .exc c -> ∀ H', Same H H' -> W c H') /\ ∀ all, Yv st dc de (List.replicate nv .emp ++ capS cap G) ts = .ok all ->
   ∀ D vs H' s' c, Inv X pins σ H' s' -> FpOk X pins H' c -> (∃ m, s'.heap.Ns c m) -> (X.env.locals ≠ c /\ ∀ x a, X.env.cells.lookup x = some a -> a ≠ c) -> Same H H' -> H D = none -> H' D = some (.lst vs) -> Rls X.K H' (P.fbd D) all vs ->
    compPost (model X.prog X.w) X.A X.xe use Q (.ref D) c (.ok .next) s')
  (hs : ∀ x, foldedSetIterable iter X.env x = pure x := by intro _; rfl) :
  wpAny (model X.prog X.w) X.A (comprehension (.ListComp elt [⟨tg, iter, ifs, 0⟩] scope pos) scope X.env pos' (newList []) false (eval iter X.env) use) Q X.xe s := by
 refine wpAny_comprehension_free rfl hs (V9 (C.has I.ok)) C.kind C.names (wpAny_mono (hi pins s σ H (fun J H' => Same H H' /\ ∃ ts, it G = .ok ts /\ Yld X.K J ts H' P) I ⟨G, P, h, ?_⟩) (fun v s1 h1 => wpAny_mono h1 (fun itv s2 h2 => ?_) fun _ _ z => z) fun _ _ z => z)
 ·cases e : it G with
  | ok ts => exact fun J H' s y => ⟨s, ts, rfl, y⟩
  | exc c => exact hx c e
  | stuck => exact absurd e hs0
 obtain ⟨itA, fp, tn, J, H2, rfl, I2, T, tn0, f2, sm2, ts, ets, y⟩ := h2
 obtain ⟨hlen, hns, hex, fin⟩ := fin ts ets
 have hD : H2 s2.heap.objs.size = none := I2.hok.fresh (Nat.le_refl _)
 refine wpAny_newObj_type (wpAny_newFunctionEnv C.cell (by intro y hy; simp at hy) (fun h₁ hns₁ hsb₁ => ?_) C.kind)
 have I3 : Inv X pins σ (upd H2 s2.heap.objs.size (.lst [])) { s2 with heap := s2.heap.push { cls := .type "list", dict := none, data := .seq ([] : List Value).toArray } } :=
  I2.laid (t' := s2.toks) (fun b u e => Heap.get?_push_of_some _ e) (Nat.le_refl _) ⟨by show 0 <= sizeLine; exact Nat.zero_le _, [], 0, .nil, Heap.get?_push_size _ rfl⟩
 have sz : (s2.heap.push { cls := .type "list", dict := none, data := .seq ([] : List Value).toArray }).objs.size = s2.heap.objs.size + 1 := Heap.size_push _ _
 have hf3 : ∀ b ∈ fp, FpOk X pins (upd H2 s2.heap.objs.size (.lst [])) b /\ b < (s2.heap.push { cls := .type "list", dict := none, data := .seq ([] : List Value).toArray }).objs.size := fun b hb => by
  obtain ⟨o, ho, _⟩ := T.obj 0 _ tn0 b hb
  have lt := Heap.lt_size ho
  obtain ⟨a1, a2⟩ := f2 b hb
  exact ⟨⟨by rw [Zy (Nat.ne_of_lt lt)]; exact a1, a2⟩, by rw [sz]; exact Nat.lt_succ_of_lt lt⟩
 have kp : ∀ b o, (s2.heap.push { cls := .type "list", dict := none, data := .seq ([] : List Value).toArray }).get? b = some o -> h₁.get? b = some o := fun b o e =>
  hsb₁.extBut b o (Nat.ne_of_lt (Heap.lt_size e)) (Heap.get?_push_of_some _ e)
 have tn3 : tn 0 h₁ := T.keep 0 _ _ tn0 fun b _ o e => kp b o (Heap.get?_push_of_some _ e)
 refine Q4 (s3 := { s2 with heap := s2.heap.push { cls := .type "list", dict := none, data := .seq ([] : List Value).toArray } }) (D := s2.heap.objs.size) C hc hk hg ht he (h.same sm2) hD I3 T hf3 y hlen rfl hns (fun c ec H' sm => hex c ec H' (sm2.trans sm)) hns₁ kp ⟨h₁, _, rfl⟩ tn3 (fun s' H' σ' vs all hall J' hl sm r => ?_) fun pn e s' pnn hx => hX pins σ _ _ fp pn e s' I3 hf3 pnn hx
 have IX := CompOk.stop I3 (fun b hb => (hf3 b hb).1) J'
 have fo : FpOk X pins H' (s2.heap.push { cls := .type "list", dict := none, data := .seq ([] : List Value).toArray }).objs.size := I3.fpOk (Nat.le_refl _) J'.free
 obtain ⟨m, hm, _⟩ := J'.loc
 exact fin all hall _ vs H' s' _ IX fo ⟨m, hm⟩ ⟨Ne.symm fo.2.1, fun x a e => fo.2.2.2.2.1 x a e⟩ (sm2.trans sm) (sm2.free hD) hl r
theorem atC {pins : List (Addr × Obj)} {σ : L2.St} {H : Hp} {s : Shared} {c : Addr} {h' : Heap} (I : Inv X pins σ H s) (f : FpOk X pins H c) (hs : Heap.SameBut c s.heap h') : Inv X pins σ H { s with heap := h' } :=
 I.turned (t' := s.toks) (fun b o hb e => (hs.2 b hb).trans e) f.1 f.2.1 f.2.2.2.1 f.2.2.2.2.1 f.2.2.2.2.2
theorem Vd (C : CompOk X scope N nv cap) (hc : X.calm = true) (hk : Qh nv st) (hi : IV X W tg iter it)
  (hX : Qi X scope N xz) (hg : ∀ s₀ H₀ ex pn, GV (cxT xz X scope N s₀ H₀ ex pn) tg st) (ht : ∀ s₀ H₀ ex pn, (∀ b ∈ ex, ∃ o, (b, o) ∈ pn) -> CT (cxT xz X scope N s₀ H₀ ex pn) W ifs dc) (he : ∀ s₀ H₀ ex pn, (∀ b ∈ ex, ∃ o, (b, o) ∈ pn) -> EV (cxT xz X scope N s₀ H₀ ex pn) W elt de)
  (hs : ∀ x, foldedSetIterable iter X.env x = pure x := by intro _; rfl) : OV X W (.ListComp elt [⟨tg, iter, ifs, 0⟩] scope pos) (X7 nv cap st it dc de) := by
 intro pins s σ H Q I ⟨G, P, h, q⟩
 unfold X7 at q
 obtain ⟨q1, q2, q3⟩ := bindAO q
 rw [eval_ListComp]
 refine QE (use := none) C hc hk hi hX hg ht he I h q1 q2 (fun ts ets => ?_) hs
 have q4 := q3 ts ets
 split at q4
 ·rename_i hl
  cases e : Yv st dc de (List.replicate nv .emp ++ capS cap G) ts with
  | stuck => rw [e] at q4; exact q4.elim
  | exc c => rw [e] at q4; exact ⟨hl, fun z => (by cases z), fun c' z => by cases z; exact q4, fun all z => by cases z⟩
  | ok all =>
   rw [e] at q4
   refine ⟨hl, fun z => (by cases z), fun c z => (by cases z), fun all' z D vs H' s' c IX fo hm hne sm hD hl r => ?_⟩
   cases z
   obtain ⟨m, hm⟩ := hm
   exact ⟨m, hm, fun h' hsb => ⟨.ref D, H', atC IX fo hsb, rfl, q4 D vs H' sm hD hl r⟩⟩
 ·exact q4.elim
theorem VH {e : Expr} {d : DA} (h : OV X W e d) : EV X W e (dL d) :=
 ZI h fun σ H Q ⟨G, P, hh, q⟩ => by
  refine ⟨G, P, hh, ?_⟩
  unfold dL at q
  cases e : d G with
  | stuck => rw [e] at q; exact q.elim
  | exc c => rw [e] at q; exact q
  | ok xs => rw [e] at q; exact fun p vs H' s hp hl r => q _ H' s (rl_new hh s hp hl r)
theorem ss_setO {e : Expr} {d : DA} {i : Nat} {x : Str} {is : List Nat} {pos' : Pos} (hN : X.N.Nodup) (hi : X.N[i]? = some x) (hx : Loc X.env.scope x) (he : OV X W e d) (hs : swapsWith e (some (.Name x pos')) pos.line X.env = pure false := by rfl)
  (hf : X.fn x = true \/ X.env.scope.names.lookup x = some .local := by first | exact .inl rfl | exact .inr rfl | assumption) : SV X W fl (.Assign [.Name x pos'] e pos) (Qg i is d) :=
 Xk (ps_set hN hi hx he hs hf) fun D σ H ⟨G, P, h, q⟩ => by
  unfold Qg at q
  obtain ⟨P1, h1, g⟩ := h.frz is
  obtain ⟨q1, q2, q3⟩ := zab q
  refine ⟨frz is G, P1, h1, ?_⟩
  cases e : d (frz is G) with
  | stuck => exact absurd e q2
  | exc c => exact fun H' s => q1 c e H' P1 (g.trans (.same s))
  | ok xs =>
   have q4 := q3 xs e
   intro p vs H' s hp hl r
   split at q4
   ·rename_i hlt
    have hlt' : i < (frz is G).length := by rw [<- h1.len, h.len]; exact hlt
    obtain ⟨h2, g2⟩ := h1.own' hlt' s hp hl r
    exact q4 _ H' _ (g.trans g2) h2
   ·exact q4.elim
theorem Ug {i : Nat} {x : Str} {pos' : Pos} {d : DS} (C : CompOk X scope N nv cap) (hc : X.calm = true) (hk : Qh nv st) (hi : IV X W tg iter it)
  (hX : Qi X scope N xz) (hg : ∀ s₀ H₀ ex pn, GV (cxT xz X scope N s₀ H₀ ex pn) tg st) (ht : ∀ s₀ H₀ ex pn, (∀ b ∈ ex, ∃ o, (b, o) ∈ pn) -> CT (cxT xz X scope N s₀ H₀ ex pn) W ifs dc) (he : ∀ s₀ H₀ ex pn, (∀ b ∈ ex, ∃ o, (b, o) ∈ pn) -> EV (cxT xz X scope N s₀ H₀ ex pn) W elt de)
  (hN : X.N.Nodup) (hix : X.N[i]? = some x) (hx : Loc X.env.scope x) {spos : Pos} (hsw : swapsWith (.ListComp elt [⟨tg, iter, ifs, 0⟩] scope pos) (some (.Name x pos')) spos.line X.env = pure true)
  (hs : ∀ x, foldedSetIterable iter X.env x = pure x) (hf : X.fn x = true \/ X.env.scope.names.lookup x = some .local)
  (hd : ∀ D σ H, tFS X.K W fl d D σ H -> ∃ G P, Hol X.K H P σ G /\ (∀ c, it G = .exc c -> ∀ H', Same H H' -> W c H') /\ it G ≠ .stuck /\ ∀ ts, it G = .ok ts -> ts.length <= 16777216 /\ Yv st dc de (List.replicate nv .emp ++ capS cap G) ts ≠ .stuck /\ (∀ c, Yv st dc de (List.replicate nv .emp ++ capS cap G) ts = .exc c -> ∀ H', Same H H' -> W c H') /\ ∀ all, Yv st dc de (List.replicate nv .emp ++ capS cap G) ts = .ok all ->
   ∀ p vs H', Same H H' -> H p = none -> H' p = some (.lst vs) -> Rls X.K H' (P.fbd p) all vs -> D.nx (σ.set i (some (.ref p))) H') : SV X W fl (.Assign [.Name x pos'] (.ListComp elt [⟨tg, iter, ifs, 0⟩] scope pos) spos) d := by
 intro pins s σ H D I hq
 obtain ⟨G, P, h, q1, q2, q3⟩ := hd D σ H hq
 rw [exec_Assign_Name_used _ _ _ _ hsw]
 refine wpAny_bind (wpAny_standAt (wpAny_bind ?_))
 show wpAny _ X.A (do let _ <- comprehension (.ListComp elt [⟨tg, iter, ifs, 0⟩] scope pos) scope X.env _ (newList []) false (eval iter X.env) (some (assign (.Name x pos') X.env))) _ _ s
 refine wpAny_bind (wpAny_mono (QE (use := some (assign (.Name x pos') X.env)) (Q := fun _ s' => SP X pins D .next s') C hc hk hi hX hg ht he I h q1 q2 (fun ts ets => ?_) hs) (fun _ s' hq => wpAny_pure (wpAny_pure hq)) fun _ _ e => e)
 obtain ⟨hl, n1, n2, q4⟩ := q3 ts ets
 refine ⟨hl, n1, n2, fun all hall p vs H' s' c IX fo hm hne sm hp hl r => ?_⟩
 obtain ⟨m, hm⟩ := hm
 show wpAny _ X.A (assign (.Name x pos') X.env (.ref p)) _ _ _
 refine wpAny_assign_Name (Ue IX hN hix hx (v := .ref p) rfl (fun s'' I'' ch => ?_) hf)
 obtain ⟨a, hsb, ha⟩ := ch
 have hca : c ≠ a := by
  rcases ha with rfl | ha
  ·exact Ne.symm hne.1
  ·exact Ne.symm (hne.2 x a ha)
 refine ⟨m, hm.sameBut hsb hca, fun h' hs' => ⟨_, H', atC I'' fo hs', q4 all hall p vs H' sm hp hl r⟩⟩
theorem ss_setC {i : Nat} {x : Str} {is : List Nat} {pos' spos : Pos} (C : CompOk X scope N nv cap) (hc : X.calm = true) (hk : Qh nv st) (hi : IV X W tg iter it)
  (hX : Qi X scope N xz) (hg : ∀ s₀ H₀ ex pn, GV (cxT xz X scope N s₀ H₀ ex pn) tg st) (ht : ∀ s₀ H₀ ex pn, (∀ b ∈ ex, ∃ o, (b, o) ∈ pn) -> CT (cxT xz X scope N s₀ H₀ ex pn) W ifs dc) (he : ∀ s₀ H₀ ex pn, (∀ b ∈ ex, ∃ o, (b, o) ∈ pn) -> EV (cxT xz X scope N s₀ H₀ ex pn) W elt de)
  (hN : X.N.Nodup) (hix : X.N[i]? = some x) (hx : Loc X.env.scope x) (hsw : swapsWith (.ListComp elt [⟨tg, iter, ifs, 0⟩] scope pos) (some (.Name x pos')) spos.line X.env = pure true := by rfl)
  (hs : ∀ x, foldedSetIterable iter X.env x = pure x := by intro _; rfl) (hf : X.fn x = true \/ X.env.scope.names.lookup x = some .local := by first | exact .inl rfl | exact .inr rfl | assumption) :
  SV X W fl (.Assign [.Name x pos'] (.ListComp elt [⟨tg, iter, ifs, 0⟩] scope pos) spos) (dSet i is (dL (X7 nv cap st it dc de))) :=
 Ug C hc hk hi hX hg ht he hN hix hx hsw hs hf fun D σ H ⟨G, P, h, q⟩ => by
  unfold dSet dL X7 at q
  obtain ⟨P1, h1, g⟩ := h.frz is
  refine ⟨frz is G, P1, h1, ?_⟩
  cases e : it (frz is G) with
  | stuck => rw [e] at q; exact q.elim
  | exc c => rw [e] at q; exact ⟨fun c' ec H' s => by cases ec; exact q H' P1 (g.trans (.same s)), (by intro z; cases z), fun ts z => by cases z⟩
  | ok ts =>
   refine ⟨fun c' ec => (by cases ec), (by intro z; cases z), fun ts' z => ?_⟩
   cases z
   rw [e, Res.bind_ok] at q
   split at q
   ·rename_i hl
    refine ⟨hl, ?_⟩
    cases e2 : Yv st dc de (List.replicate nv .emp ++ capS cap (frz is G)) ts with
    | stuck => rw [e2] at q; exact q.elim
    | exc c => rw [e2] at q; exact ⟨fun z => (by cases z), fun c' z H' s => by cases z; exact q H' P1 (g.trans (.same s)), fun all z => by cases z⟩
    | ok all =>
     rw [e2] at q
     refine ⟨fun z => (by cases z), fun c z => (by cases z), fun all' z p vs H' s hp hl r => ?_⟩
     cases z
     have h2 := (h1.same s).setVal i (rl_new h1 s hp hl r)
     exact q _ H' _ (g.trans ((Go.same s).trans .del)) h2
   ·exact q.elim
theorem Qm {i : Nat} {x : Str} {is : List Nat} {pos' spos : Pos} (C : CompOk X scope N nv cap) (hc : X.calm = true) (hk : Qh nv st) (hi : IV X W tg iter it)
  (hX : Qi X scope N xz) (hg : ∀ s₀ H₀ ex pn, GV (cxT xz X scope N s₀ H₀ ex pn) tg st) (ht : ∀ s₀ H₀ ex pn, (∀ b ∈ ex, ∃ o, (b, o) ∈ pn) -> CT (cxT xz X scope N s₀ H₀ ex pn) W ifs dc) (he : ∀ s₀ H₀ ex pn, (∀ b ∈ ex, ∃ o, (b, o) ∈ pn) -> EV (cxT xz X scope N s₀ H₀ ex pn) W elt de)
  (hN : X.N.Nodup) (hix : X.N[i]? = some x) (hx : Loc X.env.scope x) (hsw : swapsWith (.ListComp elt [⟨tg, iter, ifs, 0⟩] scope pos) (some (.Name x pos')) spos.line X.env = pure true := by rfl)
  (hs : ∀ x, foldedSetIterable iter X.env x = pure x := by intro _; rfl) (hf : X.fn x = true \/ X.env.scope.names.lookup x = some .local := by first | exact .inl rfl | exact .inr rfl | assumption) :
  SV X W fl (.Assign [.Name x pos'] (.ListComp elt [⟨tg, iter, ifs, 0⟩] scope pos) spos) (Qg i is (X7 nv cap st it dc de)) :=
 Ug C hc hk hi hX hg ht he hN hix hx hsw hs hf fun D σ H ⟨G, P, h, q⟩ => by
  unfold Qg X7 at q
  obtain ⟨P1, h1, g⟩ := h.frz is
  refine ⟨frz is G, P1, h1, ?_⟩
  cases e : it (frz is G) with
  | stuck => rw [e] at q; exact q.elim
  | exc c => rw [e] at q; exact ⟨fun c' ec H' s => by cases ec; exact q H' P1 (g.trans (.same s)), (by intro z; cases z), fun ts z => by cases z⟩
  | ok ts =>
   refine ⟨fun c' ec => (by cases ec), (by intro z; cases z), fun ts' z => ?_⟩
   cases z
   rw [e, Res.bind_ok] at q
   split at q
   ·rename_i hl
    refine ⟨hl, ?_⟩
    cases e2 : Yv st dc de (List.replicate nv .emp ++ capS cap (frz is G)) ts with
    | stuck => rw [e2] at q; exact q.elim
    | exc c => rw [e2] at q; exact ⟨fun z => (by cases z), fun c' z H' s => by cases z; exact q H' P1 (g.trans (.same s)), fun all z => by cases z⟩
    | ok all =>
     rw [e2, Res.bind_ok] at q
     refine ⟨fun z => (by cases z), fun c z => (by cases z), fun all' z p vs H' s hp hl r => ?_⟩
     cases z
     split at q
     ·rename_i hlt
      have hlt' : i < (frz is G).length := by rw [<- h1.len, h.len]; exact hlt
      obtain ⟨h2, g2⟩ := h1.own' hlt' s hp hl r
      exact q _ H' _ (g.trans g2) h2
     ·exact q.elim
   ·exact q.elim
end
end Fx
namespace Fx
open PySem PySem.Spec PyProof.Rows L2
def cf (k : Option NameKind) : Bool := k == some .cell || k == some .free
theorem cf_ok {k : Option NameKind} (h : cf k = true) : k = some .cell \/ k = some .free := by
 unfold cf at h
 rw [Bool.or_eq_true] at h
 rcases h with h | h
 ·exact .inl (by simpa using h)
 ·exact .inr (by simpa using h)
def capChk (scope : Scope) (env : Env) (N0 N : List Str) (nv : Nat) (cap : List Nat) : Bool :=
 (List.range cap.length).all fun i => match (cap[i]? : Option Nat), (N[nv + i]? : Option Str) with
  | some j, some x => N0[j]? == some x && cf ((relabel scope env).names.lookup x) && cf (env.kindOf x)
  | _, _ => true
def J3 (scope : Scope) (env : Env) (N0 N : List Str) (nv : Nat) (cap : List Nat) : Bool :=
 (scope.names.all fun y => y.2 != .cell) && (scope.kind == .function) && (scope.names.all fun y => y.2 != .local || scope.names.lookup y.1 == some .local)
  && (scope.names.all fun y => y.2 != .free || cf (env.kindOf y.1)) && (N.length == nv + cap.length) && capChk scope env N0 N nv cap
theorem WV {X : Cx} {scope : Scope} {N : List Str} {nv : Nat} {cap : List Nat} (h : J3 scope X.env X.N N nv cap = true) : CompOk X scope N nv cap := by
 unfold J3 at h
 simp only [Bool.and_eq_true, List.all_eq_true] at h
 obtain ⟨⟨⟨⟨⟨h1, h2⟩, h3⟩, h4⟩, h5⟩, h6⟩ := h
 refine ⟨fun y hy => by simpa using h1 y hy, by simpa using h2, fun y hy e => ?_, fun y hy e => ?_, by simpa using h5, fun i j x hc hx => ?_⟩
 ·have := h3 y hy
  rw [e] at this
  simpa using this
 ·have := h4 y hy
  rw [e] at this
  exact cf_ok (by simpa using this)
 ·unfold capChk at h6
  rw [List.all_eq_true] at h6
  have hi : i < cap.length := (List.getElem?_eq_some_iff.mp hc).1
  have := h6 i (List.mem_range.mpr hi)
  rw [hc, hx] at this
  simp only [Bool.and_eq_true] at this
  exact ⟨by simpa using this.1.1, cf_ok this.1.2, cf_ok this.2⟩
section
variable {X : Cx} {W : Str -> Hp -> Prop} {fl : Bool} {a b c e : Expr} {es : List Expr} {da db : DE} {pos : Pos}
theorem UT {K : PySem.W.Frag} {H1 : Hp} {P : Pv} {p : Addr} {ts : List PyData} {vs : List V} {o : HO} (hp : H1 p = none) (rs : Rls K H1 P ts vs) : Rls K (upd H1 p o) (P.fbd p) ts vs :=
 Rls.go (.same (ZS hp)) ts vs (Rls.go (Tr.tofbd hp) ts vs rs)
theorem ov_lst {d : DA} (h : AV X W es d) : OV X W (.List es pos) (oLst d) :=
 ZI (pe_lst h) fun σ H Q ⟨G, P, h, q⟩ => by
  unfold oLst at q
  obtain ⟨q1, q2, q3⟩ := bindAO q
  refine Wl h q1 q2 fun ts vs H1 es' s1 h1 rs => ?_
  have q4 := q3 ts es'
  split at q4
  ·rename_i hl
   exact ⟨V4 hl rs, fun p hp => q4 p vs _ (s1.trans (ZS hp)) (s1.free hp) ZQ (UT hp rs)⟩
  ·exact q4.elim
theorem ov_list {p : Pos} (hg : Gl X "list") (hm : X.mg "list" = none) (ha : EV X W a da) (hs : starEach [a] X.env = (false, eval a X.env) :: starEach [] X.env := by rfl) : OV X W (.Call (.Name "list" p) [a] [] pos) (oList da) :=
 ZI (Um UH hg hm (show bootBuiltins "list" = some (.type "list") by decide +kernel) (YM ha Wc hs) (he := hs)) fun σ H Q ⟨G, P, h, q⟩ => by
  unfold oList at q
  obtain ⟨q1, q2, q3⟩ := bindEO q
  refine ZY h q1 q2 fun tx x H1 ex s1 h1 rx => ?_
  have q4 := q3 tx ex
  cases tx <;> try exact q4.elim
  ·obtain ⟨l, vs, rfl, sl, rs⟩ := Z7.mp rx
   exact ⟨l, vs, rfl, .inl sl.sq, fun p hp => q4 p vs _ (s1.trans (ZS hp)) (s1.free hp) ZQ (UT hp rs)⟩
  ·obtain ⟨l, vs, rfl, sl, rs⟩ := Yi.mp rx
   exact ⟨l, vs, rfl, .inr sl.sq, fun p hp => q4 p vs _ (s1.trans (ZS hp)) (s1.free hp) ZQ (UT hp rs)⟩
theorem W7 {p : Pos} (hg : Gl X "tuple") (hm : X.mg "tuple" = none) (ha : EV X W a da) (hs : starEach [a] X.env = (false, eval a X.env) :: starEach [] X.env := by rfl) : EV X W (.Call (.Name "tuple" p) [a] [] pos) (d1 Uz da) :=
 ZI (Um Ua hg hm (show bootBuiltins "tuple" = some (.type "tuple") by decide +kernel) (YM ha Wc hs) (he := hs)) fun σ H Q h => Qk (fun H P σ G x tx Q h rx q => by
  cases tx <;> try exact q.elim
  ·obtain ⟨l, vs, rfl, sl, rs⟩ := Z7.mp rx
   exact ⟨l, vs, rfl, .inl ⟨sl.sq, fun p hp => q _ _ (ZS hp) (Yi.mpr ⟨p, vs, rfl, .off ZQ (h.off_new hp), Rls.go (.same (ZS hp)) _ vs rs⟩)⟩⟩
  ·obtain ⟨l, vs, rfl, sl, rs⟩ := Yi.mp rx
   exact ⟨l, vs, rfl, .inr ⟨sl.sq, q _ H (Same.refl H) rx⟩⟩) h
theorem Uk {K : PySem.W.Frag} {H : Hp} {P : Pv} : ∀ {bs : List Bool} {vs : List V}, Rls K H P (bs.map .bool) vs -> vs = bs.map V.bl
 | [], vs, h => Yr.mp h
 | b :: bs, vs, h => by
  obtain ⟨v, r, rfl, a, q⟩ := ZO.mp h
  rw [YL.mp a, Uk q]
  rfl
theorem call_all (hc : X.calm = true) : Uc X (.builtin "all") (fun xs H Q => ∃ (p : Addr) (bs : List Bool), xs = [.ref p] /\ SqL X.K H p (bs.map V.bl) /\ Q (.bl (bs.all id)) H) := by
 intro pins s σ H xs us Q I r h
 obtain ⟨l, bs, rfl, hq, q⟩ := h
 obtain ⟨u, rfl, ru⟩ := Jb r
 cases ru
 obtain ⟨its, rv, pl, hz⟩ := I.list hq
 have hl : s.heap.IsList l its.toArray := pl.isList
 have hlt : l < s.heap.objs.size := by obtain ⟨_, e, _⟩ := hl; exact Heap.lt_size e
 have hb : ∀ (i : Nat) (v : Value), its[i]? = some v -> ∃ b, bs[i]? = some b /\ v = .bool b := fun i v e => by
  have hi : i < its.length := (List.getElem?_eq_some_iff.mp e).1
  have hl2 := rv.length
  rw [List.length_map] at hl2
  have hi2 : i < bs.length := by omega
  obtain ⟨u, hu, ru⟩ := rv.get (i := i) (x := V.bl bs[i]) (by simp [hi2])
  rw [e] at hu; cases hu
  cases ru
  exact ⟨bs[i], by simp [hi2], rfl⟩
 refine call_all_walk (wpAny_pyIter_list hl ?_)
 refine ⟨s.heap.objs.size, [s.heap.objs.size, l], [s.heap.objs.size], its.toArray.size, _, _, fun i => (bs[i]?).getD true, rfl, Walks.list (A := X.A.in1) (I.ok.hd hc) _ l (Nat.ne_of_lt hlt) its.toArray,
  ⟨⟨_, Heap.get?_push_size _ rfl, rfl, rfl⟩, hl.push _⟩, fun i v s' Q' E' hP hQ => ?_, fun h' tk hk => ?_⟩
 ·obtain ⟨b, e, rfl⟩ := hb i v (by simpa using hP)
  simp only [e, Option.getD_some] at hQ
  exact wpAny_truthy_bool hQ
 ·have e : ((List.range its.toArray.size).all fun i => (bs[i]?).getD true) = bs.all id := by
   have hl2 := rv.length
   rw [List.length_map] at hl2
   rw [List.size_toArray, <- hl2, Bool.eq_iff_iff, List.all_eq_true, List.all_eq_true]
   constructor
   ·intro h b hb
    obtain ⟨i, hi, e⟩ := List.getElem_of_mem hb
    have := h i (List.mem_range.mpr hi)
    simp only [List.getElem?_eq_getElem hi, Option.getD_some, e] at this
    exact this
   ·intro h i hi
    have hi' := List.mem_range.mp hi
    simp only [List.getElem?_eq_getElem hi', Option.getD_some]
    exact h _ (List.getElem_mem hi')
  rw [e]
  have kk : ∀ b x, s.heap.get? b = some x -> h'.get? b = some x := fun b x e => hk b x (fun hm => by rw [List.mem_singleton.mp hm] at e; exact Nat.lt_irrefl _ (Heap.lt_size e)) (Heap.get?_push_of_some _ e)
  exact ⟨.bl _, H, I.kept (t' := tk) kk, rfl, q⟩
theorem JL {p : Pos} (hg : Gl X "all") (hm : X.mg "all" = none) (ha : EV X W a da) (hc : X.calm = true := by rfl) (hs : starEach [a] X.env = (false, eval a X.env) :: starEach [] X.env := by rfl) : EV X W (.Call (.Name "all" p) [a] [] pos) (d1 fAll da) :=
 ZI (Wp (call_all hc) hg hm (show bootBuiltins "all" = some (.builtin "all") by decide +kernel) (YM ha Wc hs) (he := hs)) fun σ H Q h => Qk (fun H P σ G x tx Q h rx q => by
  cases tx <;> try exact q.elim
  rename_i xs
  obtain ⟨l, vs, rfl, sl, rs⟩ := Z7.mp rx
  simp only [fAll] at q
  cases e : allT xs with
  | stuck => rw [e] at q; exact q.elim
  | exc c => exact absurd e (QH xs c)
  | ok k =>
   rw [e, Res.bind_ok] at q
   obtain ⟨bs, rfl, rfl⟩ := zae e
   have := Uk rs
   subst this
   exact ⟨l, bs, rfl, sl.sq, YB q⟩) h
theorem Qu {G : List Sl} {i : Nat} (h : V5 G i = true) : ∃ xs, G[i]? = some (.own xs) := by
 unfold V5 at h
 split at h
 ·rename_i xs e; exact ⟨xs, e⟩
 ·cases h
theorem ss_app {i : Nat} {x : Str} {is : List Nat} {p1 p2 p3 : Pos} (hi : X.N[i]? = some x) (he : EV X W e da) (hv : Vis X.env.scope x := by first | exact Or.inl rfl | exact Or.inr (Or.inl rfl) | exact Or.inr (Or.inr rfl)) (hd : (x == ("__debug__" : Str)) = false := by decide)
  (hcd : (x == ("__classdict__" : Str)) = false := by decide) (hsw : swapsWith (.Call (.Attribute (.Name x p1) "append" p2) [e] [] p3) none pos.line X.env = pure false := by rfl)
  (hbase : attributeBase (.Name x p1) "append" X.env (eval (.Name x p1) X.env) = eval (.Name x p1) X.env := by rfl)
  (hfew : ((backTo p3 (starEach [e] X.env)).all (fun x => !x.1) && (backToKw p3 (keywordEach [] X.env)).all (fun x => x.1.isSome)
   && decide (([e] : List Expr).length + ([] : List Keyword).length + (if ([] : List Keyword).isEmpty then 0 else 1) < 30)) = true := by rfl)
  (hline : (p2.endLine == p3.line) = true := by rfl) (hs : starEach [e] X.env = (false, eval e X.env) :: starEach [] X.env := by rfl) :
  SV X W fl (.Expr (.Call (.Attribute (.Name x p1) "append" p2) [e] [] p3) pos) (dApp i is da) :=
 Xk (Jm (pe_bm PySem.F.plainAttrs_list PySem.F.slot_list_append PySem.F.type_list_append Us (Jq hi hv hd hcd) (YM he Wc hs) hbase hfew hline hs rfl) hsw) fun D σ H ⟨G, P, h, q⟩ => by
  unfold dApp at q
  obtain ⟨P1, h1, g⟩ := h.frz is
  split at q
  ·rename_i ho
   obtain ⟨xs0, e0⟩ := Qu ho
   obtain ⟨q1, q2, q3⟩ := VP q
   obtain ⟨p, vs, ev, ep, eh, rs⟩ := h.sl i _ e0
   refine ⟨.ref p, getD_some ev, .inl ⟨rfl, vs, SqL.of eh⟩, ?_⟩
   refine ZY h1 (fun c e H' s => q1 c e H' P1 (g.trans (.same s))) q2 fun t v H1 et s1 h2 r => ?_
   obtain ⟨P2, h3, r3, g3⟩ := after h h1 g s1 r
   have q4 := q3 t et
   unfold UO at q4
   split at q4
   ·rename_i xs1 e1
    split at q4
    ·rename_i hz
     obtain ⟨p', vs', ev', ep', eh', rs'⟩ := h3.sl i _ e1
     rw [ev] at ev'
     cases ev'
     have hl := rs'.length
     obtain ⟨h4, g4⟩ := h3.upOwn e1 ep' (rs'.append (ZO.mpr ⟨v, [], rfl, r3, Yr.mpr rfl⟩))
     exact ⟨p, vs', v, rfl, rfl, eh', by rw [sizeLine_eq]; omega, q4 σ _ P2 (g3.trans g4) h4⟩
    ·exact q4.elim
   ·exact q4.elim
  ·exact q.elim
theorem Ql {i : Nat} {x : Str} {is : List Nat} {dk : DE} {k : Expr} {p1 p2 : Pos} (hi : X.N[i]? = some x) (hk : EV X W k dk) (he : EV X W e da) (hv : Vis X.env.scope x := by first | exact Or.inl rfl | exact Or.inr (Or.inl rfl) | exact Or.inr (Or.inr rfl)) (hd : (x == ("__debug__" : Str)) = false := by decide)
  (hcd : (x == ("__classdict__" : Str)) = false := by decide)
  (ha : ∀ v, assign (.Subscript (.Name x p1) k p2) X.env v = (do
   let ov <- holding [v] (eval (.Name x p1) X.env)
   let iv <- holding [v, ov] (eval k X.env)
   standAt p2
   holding [v, ov, iv] (setItem ov iv v)
   release [v, ov, iv] []) := by intro _; rfl)
  (hs : swapsWithSole [.Subscript (.Name x p1) k p2] e pos.line X.env = pure false := by rfl) (hw : swappedStores [.Subscript (.Name x p1) k p2] e X.env = pure none := by rfl)
  (h1 : (assignEach [.Subscript (.Name x p1) k p2] X.env).map (·.2) = [assign (.Subscript (.Name x p1) k p2) X.env] := by rfl) :
  SV X W fl (.Assign [.Subscript (.Name x p1) k p2] e pos) (Vo i is dk da) :=
 Xk (ps_asg he (pg_sub (Jq hi hv hd hcd) hk set_list ha) hs hw h1) fun D σ H ⟨G, P, h, q⟩ => by
  unfold Vo at q
  obtain ⟨P1, h1, g⟩ := h.frz is
  obtain ⟨q1, q2, q3⟩ := VP q
  refine ZY h1 (fun c e H' s => q1 c e H' P1 (g.trans (.same s))) q2 fun t v H1 et s1 h2 r => ?_
  obtain ⟨P2, h3, r3, g3⟩ := after h h1 g s1 r
  have q4 := q3 t et
  generalize (if Yy t = true then G else frz is G) = G' at h3 q4
  split at q4
  ·rename_i ho
   obtain ⟨xs0, e0⟩ := Qu ho
   obtain ⟨p, vs, ev, ep, eh, rs⟩ := h3.sl i _ e0
   refine ⟨.ref p, getD_some ev, ?_⟩
   obtain ⟨q5, q6, q7⟩ := VP q4
   refine ZY h2 (fun c e H' s => q5 c e H' P1 ((g.trans (.same s1)).trans (.same s))) q6 fun kt kv H2 ek s2 h4 rk => ?_
   have q8 := q7 kt ek
   unfold Wm at q8
   rw [e0] at q8
   cases kt <;> try exact q8.elim
   rename_i j
   simp only at q8
   cases em : ixP xs0.length j with
   | none => rw [em] at q8; exact q8.elim
   | some m =>
    rw [em] at q8
    have h5 := h3.same s2
    have hl := rs.length
    obtain ⟨p', vs', ev', ep', eh', rs'⟩ := h5.sl i _ e0
    rw [ev] at ev'
    cases ev'
    have hl' := rs'.length
    obtain ⟨h6, g6⟩ := h5.upOwn e0 ep' (rs'.set m (Rl.go (.same s2) t v r3))
    refine ⟨p, vs', j, m, rfl, ZX.mp rk, eh', by rw [<- hl', <- ixP_eq]; exact em, q8 σ _ P2 ((g3.trans (.same s2)).trans g6) h6⟩
  ·exact q4.elim
end
end Fx
namespace Fx
open PySem PySem.Spec PyProof.Rows L2
theorem ex_of_ok {P : Program} {w : World} {H : Hp} {h : Heap} {a : Addr} {o : HO} (x : X9 P w H h a o) : ∃ ob, h.get? a = some ob := by
 cases o with
 | lst xs => obtain ⟨_, _, _, _, e⟩ := x; exact ⟨_, e⟩
 | tup xs => obtain ⟨_, _, _, o, e, _⟩ := x; exact ⟨_, e⟩
 | dK kvs => obtain ⟨_, _, _, _, o, _, _, e, _⟩ := x; exact ⟨_, e⟩
 | dT kvs => obtain ⟨_, _, _, _, o, _, _, e, _⟩ := x; exact ⟨_, e⟩
 | set S n => obtain ⟨o, _, _, _, e, _⟩ := x; exact ⟨_, e⟩
 | ins C dx fs => obtain ⟨_, _, _, e, _⟩ := x; exact ⟨_, e⟩
 | own y => obtain ⟨_, e⟩ := x; exact ⟨_, e⟩
 | xd fs => obtain ⟨_, ⟨_, _, _, e, _⟩, _⟩ := x; exact ⟨_, e⟩
 | rng lo hi => obtain ⟨_, _, _, e⟩ := x; exact ⟨_, e⟩
 | frz ob u => obtain ⟨e, _⟩ := x; exact ⟨_, e⟩
 | tbl ps => exact ⟨_, show h.get? a = some _ from x⟩
 | met f y => exact ⟨_, show h.get? a = some _ from x⟩
 | ext φ => obtain ⟨_, ⟨_, e⟩, _⟩ := x; exact ⟨_, e⟩
structure Alien (X : Cx) (pins : List (Addr × Obj)) (H : Hp) (b : Addr) : Prop where
 young : X.s₀.heap.get? b = none
 loc : b ≠ X.env.locals
 cell : ∀ x c, X.env.cells.lookup x = some c -> c ≠ b
 pin : ∀ p ∈ X.pn ++ pins, p.1 ≠ b
 trk : H b = none
 frm : b ∉ frs X.stack
def ExO (h : Heap) (a : Addr) (cv : Value) : Option (Addr × Value) -> Prop
 | none => ∃ oe vs a0, h.get? a = some oe /\ oe.cls = cv /\ oe.data = .fields vs /\ vs[0]? = some a0 /\ vs[1]? = some .none
 | some (T, f) => ∃ oe vs a0 oT ts, h.get? a = some oe /\ oe.cls = cv /\ oe.data = .fields vs /\ vs[0]? = some a0 /\ vs[1]? = some (.ref T) /\ T ≠ a /\ h.get? T = some oT /\ oT.data = .fields ts /\ ts[3]? = some f
structure Exc (X : Cx) (pins : List (Addr × Obj)) (σ : L2.St) (H : Hp) (a : Addr) (cv : Value) (n : Option (Addr × Value)) (s : Shared) : Prop where
 inv : Inv X pins σ H s
 al : Alien X pins H a
 ob : ExO s.heap a cv n
 nt : ∀ T f, n = some (T, f) -> Alien X pins H T
section
variable {X : Cx} {pins : List (Addr × Obj)} {σ : L2.St} {H H' : Hp} {s : Shared} {h' : Heap} {a T : Addr} {cv fl : Value} {n : Option (Addr × Value)}
theorem Inv.stepA {t' : Nat} {ch : List Addr} (I : Inv X pins σ H s)
  (hch : ∀ b ∈ ch, X.s₀.heap.get? b = none /\ b ≠ X.env.locals /\ (∀ x c, X.env.cells.lookup x = some c -> c ≠ b) /\ ∀ p ∈ X.pn ++ pins, p.1 ≠ b)
  (keep : ∀ b o, b ≠ X.env.locals -> b ∉ X.fs -> b ∉ ch -> s.heap.get? b = some o -> H b = none -> h'.get? b = some o)
  (slot : ∀ b o, b ≠ X.env.locals -> b ∈ X.fs -> b ∉ ch -> s.heap.get? b = some o -> H b = none -> ∃ sl, h'.get? b = some { o with slots := sl })
  (there : ∀ b o, b ∉ ch -> s.heap.get? b = some o -> ∃ o', h'.get? b = some o')
  (ns : ∀ m, s.heap.Ns X.env.locals m -> h'.Ns X.env.locals m) (hok : HOk X.prog X.w H h') :
  Inv X pins σ H { s with heap := h', toks := t' } := by
 have neL : ∀ b o, X.s₀.heap.get? b = some o -> b ≠ X.env.locals := fun b o e => Nat.ne_of_lt (Nat.lt_of_lt_of_le (Heap.lt_size e) I.ok.above)
 have neC : ∀ b o, X.s₀.heap.get? b = some o -> b ∉ X.ex -> b ∉ ch := fun b o e hx hb => by
  have z := (hch b hb).1
  rw [e] at z; cases z
 have cellK : ∀ x c, X.env.cells.lookup x = some c -> ∀ v, s.heap.IsCell c v -> h'.IsCell c v := fun x c e v ⟨o, ho, hd⟩ => by
  have nch : c ∉ ch := fun z => (hch c z).2.2.1 x c e rfl
  by_cases hc : c ∈ X.fs
  ·obtain ⟨sl, q⟩ := slot c o (I.cne x c e) hc nch ho (I.freeC x c e)
   exact ⟨_, q, hd⟩
  ·exact ⟨o, keep c o (I.cne x c e) hc nch ho (I.freeC x c e), hd⟩
 refine ⟨I.ok, I.os, I.bare, ⟨fun b o e n hb hx => ?_, fun b o e n hb hx => ?_, fun b o e n hx => I.base.free b o e n hx, fun b o e hx => ?_, fun b xs e => I.base.tups b xs e, fun b o xs e => I.base.frzs b o xs e, fun b ps e => I.base.tbls b ps e⟩, ?_, fun x c e => ?_, I.free, fun x c e => I.freeC x c e, fun p hp => ?_, hok, I.len⟩
 ·exact keep b o (neL b o e) hb (neC b o e hx) (I.base.keep b o e n hb hx) (I.base.free b o e n hx)
 ·obtain ⟨sl, e1⟩ := I.base.slot b o e n hb hx
  obtain ⟨sl', e2⟩ := slot b _ (neL b o e) hb (neC b o e hx) e1 (I.base.free b o e n hx)
  exact ⟨sl', e2⟩
 ·obtain ⟨o', e1⟩ := I.base.there b o e hx
  exact there b o' (neC b o e hx) e1
 ·obtain ⟨m, hn, hl⟩ := I.loc
  refine ⟨m, ns m hn, fun i x v e1 e2 e3 => ?_⟩
  obtain ⟨u, r, l⟩ := hl i x v e1 e2 e3
  refine ⟨u, r, ?_⟩
  rcases l with l | ⟨k, c, e, z⟩
  ·exact .inl l
  ·exact .inr ⟨k, c, e, cellK x c e _ z⟩
 ·obtain ⟨v, z⟩ := I.cell x c e
  exact ⟨v, cellK x c e v z⟩
 ·obtain ⟨e, n, ne, nf, d⟩ := I.pin p hp
  have nch : p.1 ∉ ch := fun z => (hch p.1 z).2.2.2 p hp rfl
  exact ⟨keep p.1 p.2 ne nf nch e n, n, ne, nf, d⟩
def Ub (X : Cx) : Prop := ∀ b ∈ X.ex, ∃ o, (b, o) ∈ X.pn
theorem XU (hp : Ub X) (I : Inv X pins σ H s) (e : s.heap.get? a = none) : Alien X pins H a := by
 refine ⟨?_, fun z => ?_, fun x c ec z => ?_, fun p hp z => ?_, ?_, fun z => ?_⟩
 ·by_cases hx : a ∈ X.ex
  ·obtain ⟨o, ho⟩ := hp a hx
   have := (I.pin (a, o) (List.mem_append_left _ ho)).1
   rw [e] at this; cases this
  ·cases q : X.s₀.heap.get? a with
   | none => rfl
   | some o => obtain ⟨o', e'⟩ := I.base.there a o q hx; rw [e] at e'; cases e'
 ·obtain ⟨m, ⟨o, _, _, ho, _⟩, _⟩ := I.loc
  rw [<- z, e] at ho; cases ho
 ·obtain ⟨v, o, ho, _⟩ := I.cell x c ec
  rw [z, e] at ho; cases ho
 ·obtain ⟨q, _⟩ := I.pin p hp
  rw [z, e] at q; cases q
 ·cases q : H a with
  | none => rfl
  | some o => 
   obtain ⟨o', e'⟩ : ∃ o', s.heap.get? a = some o' := ex_of_ok (I.hok a o q)
   rw [e] at e'; cases e'
 ·obtain ⟨_, o, ho, _⟩ := I.stack.mem z
  rw [e] at ho; cases ho
def hid (X : Cx) (a : Addr) : Option (Addr × Value) -> List Addr
 | none => a :: frs X.stack
 | some (T, _) => a :: T :: frs X.stack
theorem hid_frs (X : Cx) (a : Addr) (n : Option (Addr × Value)) : ∀ b ∈ frs X.stack, b ∈ hid X a n := by
 intro b hb
 cases n with
 | none => exact List.mem_cons_of_mem _ hb
 | some p => obtain ⟨T, f⟩ := p; exact List.mem_cons_of_mem _ (List.mem_cons_of_mem _ hb)
theorem Uy {X : Cx} {a b : Addr} {n : Option (Addr × Value)} (h : b ∈ hid X a n) : b = a \/ (∃ T f, n = some (T, f) /\ b = T) \/ b ∈ frs X.stack := by
 cases n with
 | none =>
  rcases List.mem_cons.mp h with h | h
  ·exact .inl h
  ·exact .inr (.inr h)
 | some p =>
  obtain ⟨T, f⟩ := p
  rcases List.mem_cons.mp h with h | h
  ·exact .inl h
  ·rcases List.mem_cons.mp h with h | h
   ·exact .inr (.inl ⟨T, f, rfl, h⟩)
   ·exact .inr (.inr h)
theorem Exc.moved {t' : Nat} (E : Exc X pins σ H a cv n s) (k1 : (PySem.W.hideAll s.heap (hid X a n)).StaysIn h') (k2 : s.heap.UpToSlots h') : Inv X pins σ H { s with heap := h', toks := t' } := by
 have I := E.inv
 have al : ∀ b, b ∈ hid X a n -> b ∉ frs X.stack -> Alien X pins H b := fun b hb hf => by
  rcases Uy hb with z | ⟨T, f, z1, z2⟩ | z
  ·rw [z]; exact E.al
  ·rw [z2]; exact E.nt T f z1
  ·exact absurd z hf
 have up : ∀ b, b ∈ frs X.stack -> ∀ o, s.heap.get? b = some o -> ∃ sl, h'.get? b = some { o with slots := sl } := fun b hb o ho => by
  obtain ⟨_, o', ho', hd⟩ := I.stack.mem hb
  rw [ho] at ho'; cases ho'
  exact k2 b o ho hd
 have fsub : ∀ b ∈ X.fs, b ∈ frs X.stack := fun b hb => by
  rcases I.ok.stk with z | ⟨z, _⟩
  ·rw [z]; exact hb
  ·rw [z]
   unfold frs at *
   simp only [List.filterMap_cons]
   split
   ·exact hb
   ·exact List.mem_cons_of_mem _ hb
 have stay : ∀ b o, b ∉ hid X a n -> s.heap.get? b = some o -> h'.get? b = some o := fun b o hb e => k1 b o (PySem.W.hideAll_get _ e hb)
 have trk : ∀ b, H b ≠ none -> b ∉ hid X a n := fun b hb hm => by
  by_cases hf : b ∈ frs X.stack
  ·exact hb (I.stkFree b hf)
  ·exact hb (al b hm hf).trk
 refine Inv.stepA (t' := t') (ch := (hid X a n).filter fun b => decide (b ∉ frs X.stack)) I (fun b hb => ?_) (fun b o hL hf hc e hn => ?_) (fun b o hL hf hc e hn => up b (fsub b hf) o e) (fun b o hc e => ?_) (fun m hm => k2.ns hm) fun b o e => ?_
 ·have hb' := List.mem_filter.mp hb
  have A := al b hb'.1 (of_decide_eq_true hb'.2)
  exact ⟨A.young, A.loc, A.cell, A.pin⟩
 ·by_cases hm : b ∈ hid X a n
  ·by_cases hs : b ∈ frs X.stack
   ·rcases List.mem_cons.mp (I.stkSub b hs) with z | z
    ·exact absurd z hL
    ·exact absurd z hf
   ·exact absurd (List.mem_filter.mpr ⟨hm, decide_eq_true hs⟩) hc
  ·exact stay b o hm e
 ·by_cases hs : b ∈ frs X.stack
  ·obtain ⟨sl, q⟩ := up b hs o e; exact ⟨_, q⟩
  ·by_cases hm : b ∈ hid X a n
   ·exact absurd (List.mem_filter.mpr ⟨hm, decide_eq_true hs⟩) hc
   ·exact ⟨o, stay b o hm e⟩
 ·refine (I.hok b o e).stay (fun c v hc q => stay c v ?_ q) (fun _ q => q) fun _ _ q => q
  rcases hc with z | z
  ·rw [z]; exact trk b (by rw [e]; simp)
  ·exact trk c (by rw [z]; simp)
theorem Exc.noted {t' : Nat} {a0 : Value} (hp : Ub X) (E : Exc X pins σ H a cv n s) (k1 : (PySem.W.hideAll s.heap (hid X a n)).StaysIn h') (k2 : s.heap.UpToSlots h') (ht : h'.TracedAtW (PySem.W.hideAll s.heap (hid X a n)) a cv a0 fl) :
  ∃ T', Exc X pins σ H a cv (some (T', fl)) { s with heap := h', toks := t' } := by
 obtain ⟨oe, vs, T', oT, ts, he, ⟨hc, h0⟩, hd, h1, hn, hne, hT, hdT, h3⟩ := ht
 have I := E.inv
 refine ⟨T', E.moved k1 k2, E.al, ⟨oe, vs, a0, oT, ts, he, hc, hd, h0, h1, hne, hT, hdT, h3⟩, fun T f q => ?_⟩
 cases q
 cases q : s.heap.get? T' with
 | none => exact XU hp I q
 | some o =>
  have hm : T' ∈ hid X a n := Classical.byContradiction fun z => by
   rw [PySem.W.hideAll_get _ q z] at hn; cases hn
  rcases Uy hm with z | ⟨T, f, z1, z2⟩ | z
  ·exact absurd z hne
  ·rw [z2]; exact E.nt T f z1
  ·obtain ⟨_, o', ho', hd'⟩ := I.stack.mem z
   obtain ⟨sl, hs⟩ := k2 T' o' ho' hd'
   rw [hT] at hs
   cases hs
   exact absurd hdT (hd' ts)
theorem fun_hid {as : List Addr} {base h : Heap} : ∀ {l : List Env}, h.FunFrames base l -> (∀ b ∈ frs l, b ∈ as) -> h.FunFrames (PySem.W.hideAll h as) l := fun {l} hf hs =>
 PySem.W.funFrames_hide hf fun env he b hb => hs b (List.mem_filterMap.mpr ⟨env, he, hb⟩)
theorem QY {h : Heap} {as : List Addr} : (PySem.W.hideAll h as).StaysIn h := fun b o e => PySem.W.of_hideAll as e
theorem QT {v : Value} {e1 e2 : Env} (h : e1.frame = e2.frame) : noteFrame v e1 = noteFrame v e2 := by
 unfold noteFrame PySem.frameOf
 rw [h]
structure InFrame (X : Cx) (L : Addr) : Prop where
 pin : Ub X
 ex : ∃ e0 rest, X.stack = e0 :: rest /\ e0.frame = some L
 env : X.env.frame = some L
theorem Exc.setT {f v : Value} {Q : Unit -> Shared -> Prop} {Ee : Value -> Shared -> Prop} (E : Exc X pins σ H a cv (some (T, f)) s) (q : ∀ s', Exc X pins σ H a cv (some (T, v)) s' -> Q () s') : wpAny (model X.prog X.w) X.A (setField (.ref T) 3 v) Q Ee s := by
 obtain ⟨oe, vs, a0, oT, ts, he, hc, hd, h0, h1, hne, hT, hdT, h3⟩ := E.ob
 have hz : 3 < ts.size := (Array.getElem?_eq_some_iff.mp h3).1
 refine wpAny_setField hT hdT hz (q _ ?_)
 have other : ∀ b, b ≠ T -> (s.heap.update T (Obj.mapFields (·.setIfInBounds 3 v))).get? b = s.heap.get? b := fun b hb => Heap.get?_update_other _ _ (Ne.symm hb)
 have self := Heap.get?_update_self (Obj.mapFields (·.setIfInBounds 3 v)) hT (Obj.isFreed_of_fields (Obj.data_mapFields hdT _))
 have A := E.nt T f rfl
 refine ⟨E.moved (t' := s.toks) (fun b o e => ?_) (fun b o e hn => ?_), E.al, ⟨oe, vs, a0, _, _, (other a (Ne.symm hne)).trans he, hc, hd, h0, h1, hne, self, Obj.data_mapFields hdT _, by simp [hz]⟩, fun T' f' z => by cases z; exact A⟩
 ·have hb : b ≠ T := fun z => by
   have hh : (PySem.W.hideAll s.heap (hid X a (some (T, f)))).get? T = none := PySem.W.hideAll_none (hid X a (some (T, f))) (List.mem_cons_of_mem _ List.mem_cons_self)
   rw [z, hh] at e; cases e
  exact (other b hb).trans (PySem.W.of_hideAll _ e)
 ·have hb : b ≠ T := fun z => by rw [z, hT] at e; cases e; exact hn ts hdT
  exact ⟨o.slots, (other b hb).trans e⟩
theorem ExO.first {h : Heap} {a : Addr} {cv : Value} {n : Option (Addr × Value)} (x : ExO h a cv n) : ∃ oe vs a0 b1, h.get? a = some oe /\ oe.cls = cv /\ oe.data = .fields vs /\ vs[0]? = some a0 /\ vs[1]? = some b1 := by
 cases n with
 | none => obtain ⟨oe, vs, a0, h1, h2, h3, h4, h5⟩ := x; exact ⟨oe, vs, a0, _, h1, h2, h3, h4, h5⟩
 | some p => obtain ⟨T, f⟩ := p; obtain ⟨oe, vs, a0, _, _, h1, h2, h3, h4, h5, _⟩ := x; exact ⟨oe, vs, a0, _, h1, h2, h3, h4, h5⟩
theorem Exc.entry (hp : Ub X) {L : Addr} {e0 : Env} {rest : List Env} {head : Value} {hadNext : Bool} {Q : Unit -> Shared -> Prop} {Ee : Value -> Shared -> Prop} (hst : X.stack = e0 :: rest) (hf : e0.frame = some L) (E : Exc X pins σ H a cv n s)
  (q : ∀ T' s', Exc X pins σ H a cv (some (T', rawInt L)) s' -> Q () s') :
  wpAny (model X.prog X.w) X.A (do let fr <- PySem.frameOf e0; let pl <- entryPlaceOf L hadNext; let b <- EntryCells.newEntry head fr .none (rawInt L) .none pl; setField (.ref a) 1 b) Q Ee s := by
 have hfr : X.A.frames = some (e0 :: rest) := by rw [<- hst]; exact E.inv.ok.frames
 have fun0 : s.heap.FunFrames (PySem.W.hideAll s.heap (hid X a n)) (e0 :: rest) := by rw [<- hst]; exact fun_hid E.inv.stack (hid_frs X a n)
 have hen : (PySem.W.hideAll s.heap (hid X a n)).get? a = none := PySem.W.hideAll_none _ (by cases n with | none => exact List.mem_cons_self | some p => exact List.mem_cons_self)
 obtain ⟨oe, vs, a0, b1, he, hc, hd, h0, h1⟩ := E.ob.first
 refine wpAny_entryW hfr fun0 hf he QY hen hd (Array.getElem?_eq_some_iff.mp h1).1 h0 fun h' x => ?_
 rw [hc] at x
 obtain ⟨k1, k2, k3, k4⟩ := x
 obtain ⟨T', x⟩ := E.noted (t' := s.toks) hp k1 k4 k3
 exact q T' _ x
theorem Exc.note {L : Addr} {Q : Unit -> Shared -> Prop} {Ee : Value -> Shared -> Prop} (F : InFrame X L) (E : Exc X pins σ H a cv n s)
  (q : ∀ T' s', Exc X pins σ H a cv (some (T', rawInt L)) s' -> Q () s') : wpAny (model X.prog X.w) X.A (noteFrame (.ref a) X.env) Q Ee s := by
 obtain ⟨e0, rest, hst, hf⟩ := F.ex
 rw [QT (e1 := X.env) (e2 := e0) (by rw [F.env, hf])]
 unfold noteFrame
 simp only [hf]
 cases n with
 | none =>
  obtain ⟨oe, vs, a0, he, hc, hd, h0, h1⟩ := E.ob
  refine wpAny_bind (wpAny_field he hd h1 ?_)
  rw [if_neg (by decide)]
  exact E.entry F.pin hst hf q
 | some p =>
  obtain ⟨T, f⟩ := p
  obtain ⟨oe, vs, a0, oT, ts, he, hc, hd, h0, h1, hne, hT, hdT, h3⟩ := id E.ob
  refine wpAny_bind (wpAny_field he hd h1 ?_)
  rw [if_pos (show (Value.ref T != Value.none) = true from by simp)]
  refine wpAny_bind (wpAny_field hT hdT h3 ?_)
  by_cases hfl : (f == rawInt L) = true
  ·rw [if_pos hfl]
   refine wpAny_pure (q T s ?_)
   have : f = rawInt L := by simpa using hfl
   rw [<- this]
   exact E
  ·rw [if_neg hfl]
   exact wpAny_bind (E.setT fun s1 E1 => E1.entry F.pin hst hf q)
theorem Exc.flight {f : Value} {fr : Option Addr} {Q : Unit -> Shared -> Prop} {Ee : Value -> Shared -> Prop} (E : Exc X pins σ H a cv (some (T, f)) s)
  (q : ∀ s', Exc X pins σ H a cv (some (T, fr.elim .none fun f => rawInt f)) s' -> Q () s') : wpAny (model X.prog X.w) X.A (setFlight (.ref a) fr) Q Ee s := by
 obtain ⟨oe, vs, a0, oT, ts, he, hc, hd, h0, h1, hne, hT, hdT, h3⟩ := id E.ob
 unfold setFlight
 refine wpAny_bind (wpAny_field he hd h1 ?_)
 rw [if_pos (show (Value.ref T != Value.none) = true from by simp)]
 exact E.setT q
theorem Exc.leave {L : Addr} {Q : Unit -> Shared -> Prop} {Ee : Value -> Shared -> Prop} (F : InFrame X L) (E : Exc X pins σ H a cv n s)
  (q : ∀ T' s', Exc X pins σ H a cv (some (T', .none)) s' -> Q () s') : wpAny (model X.prog X.w) X.A (leaving X.env (.ref a)) Q Ee s := by
 unfold leaving
 exact wpAny_bind (E.note F fun T' s1 E1 => E1.flight (fr := none) fun s2 E2 => q T' s2 E2)
theorem Exc.pass {α : Type} {w : String} {f : Value} {env : Env} {Q : α -> Shared -> Prop} {Ee : Value -> Shared -> Prop} (E : Exc X pins σ H a cv (some (T, f)) s)
  (q : ∀ fl s', Exc X pins σ H a cv (some (T, fl)) s' -> Ee (.ref a) s') : wpAny (model X.prog X.w) X.A (PySem.passOn w (.ref a) env : Sem α) Q Ee s := by
 obtain ⟨oe, vs, a0, oT, ts, he, hc, hd, h0, h1, hne, hT, hdT, h3⟩ := id E.ob
 unfold PySem.passOn
 refine wpAny_bind (wpAny_field he hd h1 ?_)
 rw [if_neg (show ¬ ((Value.ref T == Value.none) = true) from Bool.false_ne_true)]
 exact wpAny_bind (E.flight fun s1 E1 => wpAny_throw (q _ _ E1))
end
end Fx
namespace Fx
open PySem PySem.Spec PyProof.Rows L2
def XE (X : Cx) (cl : Str -> Value) (W : Str -> Hp -> Prop) : Value -> Shared -> Prop := fun e s => ∃ a c pins σ H n, e = .ref a /\ Exc X pins σ H a (cl c) n s /\ W c H
abbrev Cx.xw (X : Cx) (cl : Str -> Value) (W : Str -> Hp -> Prop) : Cx := X.wish (XE X cl W)
def CX1 (P : Program) (w : World) : CXT := fun outer H s E e s' => ∃ a cv T H', e = .ref a /\ s'.os = s.os /\ AllBare s'.gens /\ Un (frs outer) [] H H' s.heap s'.heap /\ HOk P w H' s'.heap /\ H' a = none /\ H' T = none /\
 s.heap.get? a = none /\ s.heap.get? T = none /\ ExO s'.heap a cv (some (T, .none)) /\ E cv none H'
section
variable {X : Cx} {cl : Str -> Value} {W : Str -> Hp -> Prop} {pins : List (Addr × Obj)} {σ : L2.St} {H H' : Hp} {s s' : Shared} {a : Addr}
theorem Alien.to (A : Alien X pins H a) (e : H' a = none) : Alien X pins H' a := ⟨A.young, A.loc, A.cell, A.pin, e, A.frm⟩
theorem Vi (hp : Ub X) {E : XK} {e : Value} (I : Inv X pins σ H s) (h : CX1 X.prog X.w X.stack H s E e s') : ∃ a cv T H', e = .ref a /\ Exc X pins σ H' a cv (some (T, .none)) s' /\ E cv none H' := by
 obtain ⟨a, cv, T, H', rfl, os, bare, un, hok, ha, hT, na, nT, ob, hE⟩ := h
 obtain ⟨hh, g, d, t, os'⟩ := s'
 obtain rfl : os' = s.os := os
 refine ⟨a, cv, T, H', rfl, ⟨I.call (h' := hh) (g' := g) (d' := d) (t' := t) (ch := []) un hok bare (fun b z => absurd z (by simp)), (XU hp I na).to ha, ob, fun T' f z => ?_⟩, hE⟩
 cases z
 exact (XU hp I nT).to hT
theorem pass_xw (hp : Ub X) : QI (CX1 X.prog X.w) (Cx.xw X cl W) (EX (some cl) W) := fun pins σ H s e s' I h => by
 obtain ⟨a, cv, T, H', rfl, x, c, f, e1, rfl, hw⟩ := Vi hp I.unwish h
 cases e1
 exact ⟨a, c, pins, σ, H', _, rfl, x, hw⟩
end
structure Clx (P : Program) (w : World) (K : PySem.W.Frag) (mg : Str -> Option Value) (base : Heap) (cl : Str -> Value) (k : Nat) (x : Str) (np : Nat) (f : DF) : Prop where
 ex : ∃ (fa : Addr) (fd : FuncData) (ps : List Str), FnOk P w K mg base (CX1 P w) k fa fd ps (spF K (some cl) np f) /\ mg x = some (.ref fa) /\ PySem.W.keepIn K (.ref fa) = true /\ Z6 K fd ps []
theorem Clx.cal {X : Cx} {cl : Str -> Value} {W : Str -> Hp -> Prop} {k np : Nat} {x : Str} {f : DF} (hp : Ub X) (C : Clx X.prog X.w X.K X.mg X.base cl k x np f) : Cal (Cx.xw X cl W) W (some cl) k x np f := by
 obtain ⟨fa, fd, ps, F, hm, hk, hb⟩ := C.ex
 exact ⟨⟨CX1 X.prog X.w, fa, fd, ps, F, hm, hk, hb, pass_xw hp⟩, fun z => by cases z⟩
theorem Clx.mono {P : Program} {w : World} {K : PySem.W.Frag} {mg : Str -> Option Value} {base : Heap} {cl : Str -> Value} {j k np : Nat} {x : Str} {f : DF} (C : Clx P w K mg base cl j x np f) (h : j <= k) : Clx P w K mg base cl k x np f := by
 obtain ⟨fa, fd, ps, F, r⟩ := C.ex
 exact ⟨⟨fa, fd, ps, F.mono h, r⟩⟩
theorem pss_xe {X : Cx} {E' : Value -> Shared -> Prop} {st : List Stmt} {t : TS} (h : PSs (X.wish E') st t) (hx : ∀ e s, E' e s -> X.xe e s) : PSs X st t := fun pins s σ H D I hw =>
 wpAny_mono (h pins s σ H D (I.wish _) hw) (fun _ _ q => q.unwish) hx
section
variable {P : Program} {w : World} {K : PySem.W.Frag} {mg : Str -> Option Value} {base : Heap}
theorem Zm {CX : CXT} {N : List Str} {qual : Str} {scope : Scope} {f : Addr} {cdv : Value} {A : Around} {outer : List Env} {s : Shared} {H : Hp} {E : XK} : InFrame (cxOf CX P w K mg base N qual scope f cdv A outer s H E) s.heap.objs.size :=
 ⟨fun b z => absurd (show b ∈ ([] : List Addr) from z) (by simp), ⟨_, _, rfl, rfl⟩, rfl⟩
theorem fn_okX {cl : Str -> Value} {x qual : Str} {st : Stmt} {f : Addr} {fd : FuncData} {N ps : List Str} {k np : Nat} {d : DS} (F : Fun K x qual st f fd) (S : FnScope N ps (Ze st)) (hnp : ps.length = np)
  (hb : ∀ (cdv : Value) (A : Around) (outer : List Env) (s : Shared) (H : Hp) (E : XK) (W : Str -> Hp -> Prop), Room k (A.deeper (envOfC qual (Ze st) s.heap.objs.size f cdv)) ->
   SVs (Cx.xw (cxOf (CX1 P w) P w K mg base N qual (Ze st) f cdv A outer s H E) cl W) W false (Zp st) d) : FnOk P w K mg base (CX1 P w) (k + 1) f fd ps (spF K (some cl) np (runF N.length np d)) := by
 obtain ⟨oc, od, kV, doc, pm, an, cdv, ct, osl, rfl, lk, hcd⟩ := F.ex
 refine fn_of lk hcd S (fun vs H Q E h => by rw [hnp]; exact h.1) fun A outer s H vs Q E hr h => ⟨_, pss_xe (hb cdv A outer s H E (fun c H' => E (cl c) none H') hr) (fun e s1 hx => ?_), ?_⟩
 ·obtain ⟨a, c, pins, σ, H', n, rfl, x, hw⟩ := hx
  refine x.leave Zm fun T s2 x2 => ?_
  refine ⟨a, cl c, T, H', rfl, x2.inv.os, x2.inv.bare, x2.inv.base, x2.inv.hok, x2.al.trk, (x2.nt T _ rfl).trk, x2.al.young, (x2.nt T _ rfl).young, x2.ob, hw⟩
 ·obtain ⟨hl, ts, P', rs, ho, hf, q⟩ := h
  have hlt : ts.length = np := by rw [rs.length]; exact hl
  refine ⟨_, P', Ux rs ho hf, ?_⟩
  unfold runF at q
  rw [if_pos hlt] at q
  have en : N.length - np = N.length - ts.length := by rw [hlt]
  rw [en] at q
  have sm : ∀ H' P2, Go H P' H' P2 -> Same H H' := fun H' P2 g => g.all ho
  have bk : ∀ H' P2, Go H P' H' P2 -> Tr H' P2 H' P' := fun H' P2 g b o e _ z => ⟨e, fun i => by rw [ho i]; exact fun z => (by cases z), by rw [<- g.fbe]; exact z.2⟩
  cases e : d (ts.map .val ++ List.replicate (N.length - ts.length) .emp) with
  | stuck => rw [e] at q; exact q.elim
  | exc c => rw [e] at q; exact fun H' P2 g => q none H' (sm H' P2 g)
  | ok o =>
   rw [e, Res.bind_ok] at q
   cases o with
   | nx G => exact fun σ' H' P2 g h' => q .non H' (sm H' P2 g) (XJ.mpr rfl)
   | rt t => exact fun v H' P2 g r _ => q v H' (sm H' P2 g) (Rl.go (bk H' P2 g) t v r)
   | bk G => exact q.elim
   | ct G => exact q.elim
theorem Xc {cl : Str -> Value} {x : Str} {st : Stmt} {fa : Addr} {fd : FuncData} {N ps : List Str} {k n np : Nat} {d : DS} (F : Fun K x x st fa fd) (hm : mg x = some (.ref fa)) (b : Z6 K fd ps []) (S : FnScope N ps (Ze st)) (hnp : ps.length = np) (hN : N.length = n)
  (hb : ∀ (cdv : Value) (A : Around) (outer : List Env) (s : Shared) (H : Hp) (E : XK) (W : Str -> Hp -> Prop), Room k (A.deeper (envOfC x (Ze st) s.heap.objs.size fa cdv)) ->
   SVs (Cx.xw (cxOf (CX1 P w) P w K mg base N x (Ze st) fa cdv A outer s H E) cl W) W false (Zp st) d) : Clx P w K mg base cl (k + 1) x np (runF n np d) := by
 subst hN
 exact ⟨⟨fa, fd, ps, fn_okX F S hnp hb, hm, F.kp, b⟩⟩
end
structure XCls (K : PySem.W.Frag) (mg : Str -> Option Value) (x : Str) (C : Addr) : Prop where
 bd : mg x = some (.ref C)
 ex : PySem.W.excIn K C [.type "ValueError", .type "Exception", .type "BaseException", .type "object"] "ValueError.__new__" = true
theorem XCls.obj {K : PySem.W.Frag} {mg : Str -> Option Value} {x : Str} {C : Addr} {h : Heap} (c : XCls K mg x C) (k : K.In h) : OwnCls x C [.type "ValueError", .type "Exception", .type "BaseException", .type "object"] "ValueError.__new__" mg h := by
 refine ⟨c.bd, ?_⟩
 have q := c.ex
 unfold PySem.W.excIn at q
 split at q
 ·rename_i d0 cdat slts look
  split at q
  ·rename_i C1 tl a0 a1 a2 a3 nid a5 em es
   simp only [Bool.and_eq_true, beq_iff_eq, Bool.not_eq_true'] at q
   obtain ⟨⟨⟨⟨⟨q1, q2⟩, q3⟩, q4⟩, q5⟩, q6⟩ := q
   obtain ⟨c1, c2, c3, c4, c5, c6, c7, c8, c9, c10, c11⟩ := cdat
   dsimp only at em q3 q5 q6
   subst em q3 q1 q2
   obtain ⟨lst⟩ := slts
   dsimp only at es
   subst es
   exact ⟨tl, c4, c1, c5, c2, c6, c7, c8, c9, c10, d0, a0, a1, a2, a3, a5, _, k _ _ look, .of_isNs (PySem.W.isNs_of_in k q5), PySem.W.nsMap_none_of_in k q5 q6, PySem.W.tail_of_in k q4⟩
  ·cases q
 ·cases q
section
variable {X : Cx} {cl : Str -> Value} {W : Str -> Hp -> Prop} {e : Expr} {es : List Expr} {d : DA} {pos : Pos}
theorem Yp {x : Str} {C : Addr} {np cpos : Pos} (hp : Ub X) (c : XCls X.K X.mg x C) (hcl : cl x = .ref C) (ha : AV (Cx.xw X cl W) W (e :: es) d) (hg : Gl X x) (hc : X.calm = true := by rfl) (hdb : (x == ("__debug__" : Str)) = false := by decide)
  (he : starEach (e :: es) X.env = (false, eval e X.env) :: starEach es X.env := by rfl) (hpl : (backTo cpos (starEach es X.env)).any (·.1) = false := by rfl)
  (hln : ∀ G ts, d G = .ok ts -> ts.length <= 4 := by intro G ts h; have := Uu G ts h; omega) :
  SV (Cx.xw X cl W) W fl (.Raise (some (.Call (.Name x np) (e :: es) [] cpos)) none pos) (Xv x d) := by
 intro pins s σ H D I ⟨G, P, h, q⟩
 unfold Xv at q
 obtain ⟨h', g⟩ := h.frzA
 obtain ⟨q1, q2, q3⟩ := zab q
 obtain ⟨tl, N, nm, qn, bs, hd, sn, sb, ab, co, dd, k0, k1, k2, k3, k5, mN, hC, hN, hni, tail⟩ := (c.obj I.mod.kin).obj
 refine wpAny_Raise_call_subT (C := C) (nm := nm) (q := qn) (N := N) (bs := bs) (bm := tl) (hdct := hd) (sn := sn) (sub := sb) (ab := ab) (col := co) (dd := dd) (k0 := k0) (k1 := k1) (k2 := k2) (k3 := k3) (k5 := k5)
  PySem.F.excBase_ValueError (mN := mN) (tail.hasType PySem.F.excBase_ValueError.hasBase) (I.ok.hd hc) (by rw [show starEach (e :: es) (Cx.xw X cl W).env = _ from he]; show (false || (backTo cpos (starEach es X.env)).any (·.1)) = false; rw [hpl]; rfl) hni (WD I hg c.bd ⟨rfl, ?_⟩ hdb)
 have hA := ha cpos pins s σ H (fun vs H2 => vs.length <= 4 /\ W x H2) I ⟨frzA G, P.bare, h', ?_⟩
 ·rw [show starEach (e :: es) (Cx.xw X cl W).env = _ from he] at hA ⊢
  refine Calls.evalArgs_plain (wpAny_mono hA (fun us s2 ⟨vs, H2, I2, r2, hl, hw⟩ => ?_) fun _ _ z => z)
  have hl2 := r2.length
  refine ⟨rfl, by show us.length <= sizeLine; rw [sizeLine_eq]; omega, I2.bk _ _ hC, hN.keeps I2.bk, tail.keeps I2.bk, fun h2 a mk => ?_⟩
  obtain ⟨t, ho, _, _⟩ := mk.there
  refine ⟨a, x, pins, σ, H2, none, rfl, ⟨I2.unwish.kept (t' := s2.toks) mk.keeps, XU hp I2.unwish mk.new, ⟨_, _, .ref t, ho, hcl.symm, rfl, rfl, rfl⟩, fun T f z => by cases z⟩, hw⟩
 ·cases ed : d (frzA G) with
  | stuck => exact absurd ed q2
  | exc c' => exact fun H2 sm => q1 c' ed H2 P.bare (g.trans (.same sm))
  | ok ts => exact fun vs H2 sm rs => ⟨by rw [<- rs.length]; exact hln _ _ ed, q3 ts ed H2 P.bare (g.trans (.same sm))⟩
end
end Fx
namespace Fx
open PySem PySem.Spec PyProof.Rows L2
section
variable {X : Cx} {cl : Str -> Value} {W : Str -> Hp -> Prop} {L : Addr} {scope : Scope} {N : List Str}
theorem frame_c {s₀ : Shared} {H₀ : Hp} {ex : List Addr} {pn : List (Addr × Obj)} (F : InFrame X L) (hp : ∀ b ∈ ex, ∃ o, (b, o) ∈ pn) : InFrame (cxC X scope N s₀ H₀ ex pn) L := ⟨hp, F.ex, F.env⟩
theorem InFrame.wish {E : Value -> Shared -> Prop} (F : InFrame X L) : InFrame (X.wish E) L := ⟨F.pin, F.ex, F.env⟩
theorem W8 (F : InFrame X L) : Qi (Cx.xw X cl W) scope N (fun Y => XE Y cl W) := by
 intro pins σ H3 s3 fp pn e s' I3 hf pnn hx
 obtain ⟨a, c, pins', σ', H', n, rfl, x, hw⟩ := hx
 refine Exc.note (X := cxC (Cx.xw X cl W) scope N s3 H3 fp pn) (L := L) (frame_c (InFrame.wish F) pnn) x fun T s1 x1 => ?_
 obtain ⟨m, hm, _⟩ := x1.inv.loc
 refine ⟨m, hm, fun h' hsb cenv hc => ?_⟩
 have J : Inv (cxC (Cx.xw X cl W) scope N s3 H3 fp) (pn ++ pins') σ' H' s1 := inv_np (x1.inv.wish fun _ _ => False)
 have I0 : Inv X pins σ H' s1 := (CompOk.stop I3 (fun b hb => (hf b hb).1) J).unwish
 have al : ∀ b, Alien (cxC (Cx.xw X cl W) scope N s3 H3 fp pn) pins' H' b -> Alien X pins H' b := fun b A => (XU F.pin I3.unwish A.young).to A.trk
 have fo : FpOk X pins H' s3.heap.objs.size := I3.unwish.fpOk (Nat.le_refl _) x1.inv.free
 have ne : ∀ b, Alien (cxC (Cx.xw X cl W) scope N s3 H3 fp pn) pins' H' b -> h'.get? b = s1.heap.get? b := fun b A => hsb.2 b A.loc
 have aT := x1.nt T _ rfl
 have x2 : Exc X pins σ H' a (cl c) (some (T, rawInt L)) { s1 with heap := h' } := by
  refine ⟨atC I0 fo hsb, al a x1.al, ?_, fun T' f z => by cases z; exact al T aT⟩
  obtain ⟨oe, vs, a0, oT, ts, he, hc, hd, h0, h1, hne, hT, hdT, h3⟩ := x1.ob
  exact ⟨oe, vs, a0, oT, ts, (ne a x1.al).trans he, hc, hd, h0, h1, hne, (ne T aT).trans hT, hdT, h3⟩
 exact x2.pass fun fl s2 x3 => ⟨a, c, pins, σ, H', _, rfl, x3, hw⟩
end
end Fx
namespace Fx
open PySem PySem.Spec PyProof.Rows L2
def cxH (X : Cx) (a : Addr) : Cx := { X with A := X.A.mark (some (.ref a)), calm := false, xe := fun _ _ => False }
section
variable {X : Cx} {pins : List (Addr × Obj)} {σ : L2.St} {H H' : Hp} {s s' : Shared} {a : Addr} {cv : Value} {n : Option (Addr × Value)} {cl : Str -> Value} {W : Str -> Hp -> Prop} {L : Addr}
theorem inv_h (I : Inv X pins σ H s) : Inv (cxH X a) pins σ H s :=
 ⟨⟨I.ok.mod, I.ok.kind, I.ok.glob, I.ok.blt, I.ok.above, I.ok.inj, I.ok.has, I.ok.cab, fun z => (by cases z), I.ok.frames, I.ok.stk, I.ok.exf, I.ok.bs, I.ok.bsz, I.ok.noex, I.ok.exfs, I.ok.funs, I.ok.frf⟩, I.os, I.bare, I.base, I.loc, I.cell, I.free, I.freeC, I.pin, I.hok, I.len⟩
theorem VG (ok : X.Ok) (I : Inv (cxH X a) pins σ H s) : Inv X pins σ H s := ⟨ok, I.os, I.bare, I.base, I.loc, I.cell, I.free, I.freeC, I.pin, I.hok, I.len⟩
theorem exc_h (x : Exc X pins σ H a cv n s) : Exc (cxH X a) pins σ H a cv n s := ⟨inv_h x.inv, ⟨x.al.young, x.al.loc, x.al.cell, x.al.pin, x.al.trk, x.al.frm⟩, x.ob, fun T f z => let A := x.nt T f z; ⟨A.young, A.loc, A.cell, A.pin, A.trk, A.frm⟩⟩
theorem sp_oh {D : Ends} {f : Flow} (ok : X.Ok) (h : SP (cxH X a) pins D f s') : SP X pins D f s' := by
 cases f with
 | next => obtain ⟨σ', H', I, q⟩ := h; exact ⟨σ', H', VG ok I, q⟩
 | brk => obtain ⟨σ', H', I, q⟩ := h; exact ⟨σ', H', VG ok I, q⟩
 | cont => obtain ⟨σ', H', I, q⟩ := h; exact ⟨σ', H', VG ok I, q⟩
 | ret u => obtain ⟨v, σ', H', I, r, q⟩ := h; exact ⟨v, σ', H', VG ok I, r, q⟩
theorem UA {K : PySem.W.Frag} {M : Model} {A : Around} {E : Value -> Shared -> Prop} {mg : Str -> Option Value} {x : Str} {C C' : Addr} {ob : Obj} {Q : Bool -> Shared -> Prop} (k : K.In s.heap) (c : XCls K mg x C') (ho : s.heap.get? a = some ob) (hc : ob.cls = .ref C)
  (hsub : PySem.W.subIn K (.ref C) (.ref C') = some true) (q : Q true s) : wpAny M A (excMatches (.ref a) (.ref C')) Q E s := by
 obtain ⟨tl, N, nm, qn, bs, hd, sn, sb, ab, co, dd, k0, k1, k2, k3, k5, mN, hC, hN, hni, tail⟩ := (c.obj k).obj
 have hB : (Value.ref C' :: tl).contains (.type "BaseException") = true := by rw [List.contains_cons, tail.hasType PySem.F.excBase_ValueError.hasBase, Bool.or_true]
 have nt := tc_notTuple
 obtain ⟨hp, g, d, tk, os⟩ := s
 unfold excMatches
 repeat (first | (with_reducible refine wpAny_loadPart_at ho ?_; rw [hc]) | with_reducible refine wpAny_loadPart_at hC ?_ | (with_reducible refine wpAny_isSubtype_exc hC ?_; rw [hB]) | (refine (PySem.W.looks_subIn k hsub).at ?_) | wp_step)
 exact q
theorem isi_exc {x : Addr} {A : Around} {Ee : Value -> Shared -> Prop} {Q : Value -> Shared -> Prop} (I : Inv X pins σ H s) (h : H x = some (XO X.K x)) (q : Q (.bool true) s) : wpAny (model X.prog X.w) A (call (.builtin "isinstance") [.ref x, .type "ValueError"]) Q Ee s := by
 obtain ⟨⟨ob, C, ho, hc, hs⟩, _, _⟩ := I.hok x _ h
 have lt : PySem.W.Looks (model X.prog X.w) s.heap (typeOf (.ref x)) (.ref C) := hc ▸ (PySem.W.Looks.ld ho).andThen .now
 have li : PySem.W.Looks (model X.prog X.w) s.heap (isInstance (.ref x) (.type "ValueError")) true := lt.andThen (PySem.W.looks_subIn I.kIn hs)
 refine call_isinstance_of ?_ (by intro e; cases e)
 unfold Builtin.«isinstance.nested»
 refine wpAny_bind (lt.at ?_)
 rw [if_neg (show ¬ ((Value.ref C == Value.type "ValueError") = true) from Bool.false_ne_true)]
 refine wpAny_bind (wpAny_of_eq (a := Value.type "type") (PySem.W.kitMeta_of (by decide +kernel)) ?_)
 rw [if_pos (by decide)]
 k_delta "plainIsInstance"
 refine wpAny_bind (wpAny_bind (wpAny_of_eq (a := true) rfl ?_))
 simp only [Bool.not_true, Bool.false_eq_true, if_false]
 refine wpAny_bind (li.at ?_)
 simp only [if_true]
 exact wpAny_pure (wpAny_pure q)
theorem call_isx : Uc X (.builtin "isinstance") (fun xs H Q => ∃ x, xs = [.ref x, .ty "ValueError"] /\ H x = some (XO X.K x) /\ Q (.bl true) H) := by
 intro pins s σ H xs us Q I r h
 obtain ⟨x, rfl, hx, q⟩ := h
 obtain ⟨u, w', rfl, ru, rw'⟩ := vals2 r
 cases ru
 cases rw'
 exact isi_exc I hx ⟨.bl true, H, I, rfl, q⟩
theorem ev_isx {ex : Expr} {da : DE} {p p2 pos : Pos} (hg : Gl X "isinstance") (hm : X.mg "isinstance" = none) (hg2 : Gl X "ValueError") (hm2 : X.mg "ValueError" = none) (ha : EV X W ex da)
  (hs : starEach [ex, .Name "ValueError" p2] X.env = (false, eval ex X.env) :: starEach [.Name "ValueError" p2] X.env := by rfl) (hs2 : starEach [.Name "ValueError" p2] X.env = (false, eval (.Name "ValueError" p2) X.env) :: starEach [] X.env := by rfl)
  (hpl : (backTo pos (starEach [.Name "ValueError" p2] X.env)).any (·.1) = false := by rfl) :
  EV X W (.Call (.Name "isinstance" p) [ex, .Name "ValueError" p2] [] pos) (d1 fIsX da) :=
 ZI (Wp call_isx hg hm (show bootBuiltins "isinstance" = some (.builtin "isinstance") by decide +kernel) (YM ha (YM (Jr (v := .ty "ValueError") hg2 hm2 (show bootBuiltins "ValueError" = some (.type "ValueError") by decide +kernel) rfl) Wc hs2) hs) (he := hs) (hpl := hpl)) fun σ H Q ⟨G, P, h, q⟩ => by
  unfold d1 at q
  obtain ⟨q1, q2, q3⟩ := UL q
  refine ZY h q1 q2 fun tx x H1 ex s1 h1 rx => ?_
  have q4 := Xd.up (q3 tx ex) s1
  cases tx <;> try exact q4.elim
  rename_i ys
  cases ys with
  | cons y ys => exact q4.elim
  | nil =>
   obtain ⟨y, rfl, hy, _⟩ := rl_exc.mp rx
   exact ⟨y, rfl, hy, YB q4⟩
theorem QG {ex : Expr} {es : List Expr} {k np : Nat} {x : Str} {f : DF} {d : DA} {p pos : Pos} (C : Clx X.prog X.w X.K X.mg X.base cl k x np f) (hr : Room k X.A) (hp : Ub X) (hg : Gl X x) (ha : AV X.nox (fun _ _ => False) (ex :: es) d)
  (hL : ∀ G ts, d G = .ok ts -> ts.length = np) (hdb : (x == ("__debug__" : Str)) = false) (he : starEach (ex :: es) X.env = (false, eval ex X.env) :: starEach es X.env) (hpl : (backTo pos (starEach es X.env)).any (·.1) = false)
  {G : List Sl} {P : Pv} (I : Inv X pins σ H s) (h : Hol X.K H P σ G) {Q : Value -> Shared -> Prop} {Ee : Value -> Shared -> Prop} {ts : List PyData} (hd : d G = .ok ts) (hns : f ts ≠ .stuck)
  (ok : ∀ t, f ts = .ok t -> ∀ v u H' s', Inv X pins σ H' s' -> Same H H' -> Rl X.K H' P t v -> RelV v u -> Q u s')
  (xc : ∀ c, f ts = .exc c -> ∀ a T H' s', Exc X pins σ H' a (cl c) (some (T, .none)) s' -> Same H H' -> Ee (.ref a) s') :
  wpAny (model X.prog X.w) X.A (eval (.Call (.Name x p) (ex :: es) [] pos) X.env) Q Ee s := by
 obtain ⟨fa, fd, ps, F, hm, hk, hb⟩ := C.ex
 refine wpAny_Call_Name_kw (WD I hg hm ?_ hdb)
 refine PySem.W.callWith_K (h₀ := X.base) I.ok.mod.kin hk (wpAny_mono (ha pos pins s σ H (fun vs H1 => Same H H1 /\ Rls X.K H1 P ts vs) (I.wish _) ⟨G, P, h, by rw [hd]; exact fun vs H' s r => ⟨s, r⟩⟩) (fun us s1 hA => ?_) fun _ _ z => False.elim z) he hpl
 obtain ⟨vs, H1, I1, r, sm, rs⟩ := hA
 have J := I1.unwish
 refine ⟨J.kIn, ?_⟩
 have h1 := h.same sm
 have el : vs ++ [] = vs := List.append_nil vs
 have eu : us ++ [] = us := List.append_nil us
 have gg : Tr H1 P H1 ⟨fun _ => none, fun a => ¬ Off P a⟩ := fun a o e1 _ o1 => ⟨e1, fun _ z => (by cases z), fun z => z o1⟩
 have back : ∀ H2, Tr H2 ⟨fun _ => none, fun a => ¬ Off P a⟩ H2 P := fun H2 a o e1 _ o1 => ⟨e1, Classical.byContradiction fun z => o1.2 z⟩
 have sp : spF X.K (some cl) np f (vs ++ []) H1 (fun v H' => ∃ t, f ts = .ok t /\ Same H1 H' /\ Rl X.K H' P t v) (fun cv _ H' => ∃ c, f ts = .exc c /\ cv = cl c /\ Same H1 H') := by
  rw [el]
  refine ⟨by rw [<- rs.length]; exact hL G ts hd, ts, ⟨fun _ => none, fun a => ¬ Off P a⟩, Rls.go gg ts vs rs, fun _ => rfl, ⟨fun a z hn => z (h1.off_new hn), h1.tab⟩, ?_⟩
  cases e : f ts with
  | ok t => exact fun v H' s r => ⟨t, rfl, s, Rl.go (back H') t v r⟩
  | exc c => exact fun dx H' s => ⟨c, rfl, rfl, s⟩
  | stuck => exact hns e
 have hl : (us ++ []).length = ps.length := by rw [eu, <- r.length, <- el]; exact F.len _ _ _ _ sp
 refine wpAny_call (codeAny_mono (F.run X.A X.stack s1 H1 ⟨us, []⟩ (us ++ []) (vs ++ []) _ _ hr J.env0 (hb s1 us J.kIn hl) (by rw [el, eu]; exact r) sp) fun r' s' hq => ?_)
 cases r' with
 | error e =>
  have hq' : CX1 X.prog X.w X.stack H1 s1 (fun cv _ H' => ∃ c, f ts = .exc c /\ cv = cl c /\ Same H1 H') e s' := hq
  obtain ⟨a, cv, T, H', rfl, x, c, ec, rfl, s2⟩ := Vi hp J hq'
  exact xc c ec a T H' s' x (sm.trans s2)
 | ok fl =>
  cases fl with
  | ret u =>
   obtain ⟨v, H', I', rv, t, et, s2, rl⟩ := J.after hq
   exact ok t et v u H' s' I' (sm.trans s2) rl rv
  | next => exact False.elim hq
  | brk => exact False.elim hq
  | cont => exact False.elim hq
def Vp (X : Cx) (cl : Str -> Value) (sub : Str -> Bool) (C' : Addr) : Prop := ∀ c, sub c = true -> ∃ C, cl c = .ref C /\ PySem.W.subIn X.K (.ref C) (.ref C') = some true
theorem JC {o : HO} (I : Inv X pins σ H s) (A : Alien X pins H a) (ho : X9 X.prog X.w (upd H a o) s.heap a o) : Inv X pins σ (upd H a o) s := by
 refine ⟨I.ok, I.os, I.bare, ⟨I.base.keep, I.base.slot, fun b u e n hx => ?_, I.base.there, fun b xs e => ?_, fun b u xs e => ?_, fun b ps e => ?_⟩, I.loc, I.cell, ?_, fun x c e => ?_, fun p hp => ?_, fun b u e => ?_, I.len⟩
 ·rw [Zy (fun z => by rw [z, A.young] at e; cases e)]
  exact I.base.free b u e n hx
 ·have q := I.base.tups b xs e
  rw [Zy (ZM q A.trk)]
  exact q
 ·have q := I.base.frzs b u xs e
  rw [Zy (ZM q A.trk)]
  exact q
 ·obtain ⟨m, q⟩ := I.base.tbls b ps e
  exact ⟨m, by rw [Zy (ZM q A.trk)]; exact q⟩
 ·rw [Zy (Ne.symm A.loc)]; exact I.free
 ·rw [Zy (A.cell x c e)]; exact I.freeC x c e
 ·obtain ⟨e, q, r⟩ := I.pin p hp
  exact ⟨e, by rw [Zy (A.pin p hp)]; exact q, r⟩
 ·by_cases hb : b = a
  ·subst hb
   rw [ZQ] at e
   cases e
   exact ho
  ·rw [Zy hb] at e
   exact (I.hok b u e).stay (fun _ _ _ q => q) (fun c q => by rw [Zy (ZM q A.trk)]; exact q) fun c ys q => by rw [Zy (ZM q A.trk)]; exact q
theorem Jd {M : Model} {A : Around} {Ee : Value -> Shared -> Prop} {i : Nat} {x : Str} {v : V} {Q : Unit -> Shared -> Prop} (I : Inv X pins σ H s) (hN : X.N.Nodup) (hi : X.N[i]? = some x) (hv : σ[i]? = some (some v)) (hx : X.env.kindOf x = some .local)
  (h : ∀ s', Inv X pins (σ.set i none) H s' -> Q () s') : wpAny M A (unbindName X.env x) Q Ee s := by
 obtain ⟨m, hn, hl⟩ := id I.loc
 have hcls : (X.env.scope.kind == .class || (X.env.scope.kind == .module && X.env.locals != X.env.globals)) = false := by rw [I.ok.kind]; rfl
 obtain ⟨u, _, lk⟩ := hl i x v hi hv (.inl hx)
 have hm : m x = some u := by
  rcases lk with ⟨_, e⟩ | ⟨k, _⟩
  ·exact e
  ·rw [hx] at k; rcases k with k | k <;> cases k
 have hiσ : i < σ.length := by rw [I.len]; exact (List.getElem?_eq_some_iff.mp hi).1
 obtain ⟨oL, _, _, hoL, _⟩ := id hn
 have low : ∀ b o, X.s₀.heap.get? b = some o -> b ≠ X.env.locals := fun b o e => Nat.ne_of_lt (Nat.lt_of_lt_of_le (Heap.lt_size e) I.ok.above)
 refine wpAny_unbindName_local hx hn hm hcls fun h' w hn' hs => h _ ⟨I.ok, I.os, I.bare, ⟨fun b o e n hb hx => (hs.2 b (low b o e)).trans (I.base.keep b o e n hb hx), fun b o e n hb hx => ?_, I.base.free, fun b o e hx => ?_, I.base.tups, I.base.frzs, I.base.tbls⟩,
  ⟨_, hn', fun j y v' e1 e2 e3 => ?_⟩, fun y c e => ?_, I.free, I.freeC, fun p hp => ?_, fun b ob e => ?_, by simpa using I.len⟩
 ·obtain ⟨sl, e1⟩ := I.base.slot b o e n hb hx
  exact ⟨sl, (hs.2 b (low b o e)).trans e1⟩
 ·obtain ⟨o', e1⟩ := I.base.there b o e hx
  exact ⟨o', (hs.2 b (low b o e)).trans e1⟩
 ·by_cases hj : j = i
  ·subst hj
   rw [List.getElem?_set_self hiσ] at e2
   cases e2
  ·rw [List.getElem?_set_ne (Ne.symm hj)] at e2
   obtain ⟨u', r', q⟩ := hl j y v' e1 e2 e3
   refine ⟨u', r', ?_⟩
   rcases q with ⟨k, e⟩ | ⟨k, c, e, z⟩
   ·refine .inl ⟨k, ?_⟩
    have : y ≠ x := fun e => hj (V2 hN e1 (e ▸ hi))
    simp [this, e]
   ·exact .inr ⟨k, c, e, z.sameBut hs (I.cne y c e)⟩
 ·obtain ⟨w', z⟩ := I.cell y c e
  exact ⟨w', z.sameBut hs (I.cne y c e)⟩
 ·obtain ⟨e, n, ne, nf, d⟩ := I.pin p hp
  exact ⟨(hs.2 p.1 ne).trans e, n, ne, nf, d⟩
 ·refine (I.hok b ob e).stay (fun c w' hc q => (hs.2 c ?_).trans q) (fun _ q => q) fun _ _ q => q
  rintro rfl
  rcases hc with z | z
  ·rw [<- z, I.free] at e; cases e
  ·rw [I.free] at z; cases z
theorem Hol.forget {K : PySem.W.Frag} {H : Hp} {P : Pv} {σ : L2.St} {G : List Sl} (h : Hol K H P σ G) (i : Nat) (x : Option V) : ∃ P', Hol K H P' (σ.set i x) (G.set i .emp) /\ Go H P H P' := by
 refine ⟨P.del i, ⟨fun j s q => ?_, fun a b c h1 h2 => ?_, fun j a z => ?_, h.fbd, fun j a z => ?_, by rw [List.length_set, List.length_set]; exact h.len, h.tab⟩, .del⟩
 ·by_cases e : j = i
  ·subst e
   have hl : j < G.length := by simpa using (List.getElem?_eq_some_iff.mp q).1
   rw [List.getElem?_set_self hl] at q
   cases q
   trivial
  ·rw [List.getElem?_set_ne (Ne.symm e)] at q
   have z := h.sl j s q
   rw [Wh e]
   cases s with
   | emp => trivial
   | val t' => obtain ⟨v', e1, r'⟩ := z; exact ⟨v', e1, Rl.go .del t' v' r'⟩
   | own xs => obtain ⟨p, vs, e1, e2, e3, r'⟩ := z; exact ⟨p, vs, e1, (by show (if j = i then none else P.own j) = _; rw [if_neg e]; exact e2), e3, Rls.go .del xs vs r'⟩
 ·have h1' : (if a = i then none else P.own a) = some c := h1
  have h2' : (if b = i then none else P.own b) = some c := h2
  split at h1'
  ·cases h1'
  ·split at h2'
   ·cases h2'
   ·exact h.inj a b c h1' h2'
 ·have z' : (if j = i then none else P.own j) = some a := z
  split at z'
  ·cases z'
  ·rename_i ne
   obtain ⟨xs, q⟩ := h.only j a z'
   exact ⟨xs, by rw [List.getElem?_set_ne (Ne.symm ne)]; exact q⟩
 ·have z' : (if j = i then none else P.own j) = some a := z
  split at z'
  ·cases z'
  ·exact h.nfb j a z'
def endsA (K : PySem.W.Frag) (H : Hp) (P : Pv) (i : Nat) (D : Ends) : Ends where
 nx := fun σ' H' => ∃ G' P', Go H P H' P' /\ Hol K H' P' σ' G' /\ ∀ σ2 P2, Go H P H' P2 -> Hol K H' P2 σ2 (G'.set i .emp) -> D.nx σ2 H'
 rt := D.rt
theorem Jc {i : Nat} {n : Str} {hpos : Pos} {Q : Unit -> Shared -> Prop} (I : Inv X pins σ H s) (hN : X.N.Nodup) (hi : X.N[i]? = some n) (hn : X.env.kindOf n = some .local) (q : ∀ s', Inv X pins ((σ.set i (some .non)).set i none) H s' -> Q () s') :
  wpAny (model X.prog X.w) X.A (do bindName X.env n .none; unbindBehindTheSuite X.env n hpos) Q X.xe s := by
 refine wpAny_bind (wpAny_bindName (W2 I hN hi (.inl hn) (v := .non) rfl (fun s1 I1 => ?_) (.inr hn)))
 unfold unbindBehindTheSuite
 refine wpAny_onRaise (Jd I1 hN hi (v := .non) ?_ hn fun s2 I2 => q s2 I2)
 exact List.getElem?_set_self (by rw [I.len]; exact (List.getElem?_eq_some_iff.mp hi).1)
theorem handledA {Cn n : Str} {i : Nat} {C' : Addr} {sub : Str -> Bool} {c : Str} {dh : DS} {b₀ : Stmt} {suite : List Stmt} {np hpos : Pos} {D : Ends} {G : List Sl} {P : Pv} (F : InFrame X L) (hcn : XCls X.K X.mg Cn C') (hgn : Gl X Cn) (hdb : (Cn == ("__debug__" : Str)) = false) (hsub : Vp X cl sub C') (hs : sub c = true)
  (hve : ∀ C, cl c = .ref C -> PySem.W.subIn X.K (.ref C) (.type "ValueError") = some true) (hN : X.N.Nodup) (hi : X.N[i]? = some n) (hn : X.env.kindOf n = some .local)
  (hh : SVs (cxH X a) (fun _ _ => False) fl (b₀ :: suite) dh) {T : Addr} (x : Exc X pins σ H a (cl c) (some (T, .none)) s) (h : Hol X.K H P σ G)
  (q : YY X.K (fun _ _ => False) fl H P ((noX (dh (G.set i (.val (.dict []))))).bind fun o => match o with
   | .nx G' => .ok (.nx (G'.set i .emp))
   | .rt t => .ok (.rt t)
   | _ => .stuck) D) :
  wpAny (model X.prog X.w) X.A (noteFrame (.ref a) X.env) (fun _ s₂ => wpAny (model X.prog X.w) X.A (setFlight (.ref a) none) (fun _ s₃ => wpAny (model X.prog X.w) X.A (handleBy (.ref a) X.env [.ExceptHandler (some (.Name Cn np)) (some n) (b₀ :: suite) hpos]) (SP X pins D) X.xe s₃) X.xe s₂) X.xe s := by
 refine x.note F fun T1 s1 x1 => x1.flight (fr := none) fun s2 x2 => ?_
 obtain ⟨C, ec, hC⟩ := hsub c hs
 obtain ⟨oe, vs, a0, b1, ho, hc, _⟩ := x2.ob.first
 refine wpAny_handleBy_cons (codeAny_handlers_test (WD (X := cxH X a) (inv_h x2.inv) hgn hcn.bd ?_ hdb)) (by intro z; cases z)
 refine UA x2.inv.kIn hcn ho (hc.trans ec) hC ?_
 refine codeAny_handlers_suite_as (Exc.flight (X := cxH X a) (fr := none) (exc_h x2) fun s3 x3 => ?_)
 obtain ⟨oe3, vs3, a03, b13, ho3, hc3, _⟩ := x3.ob.first
 have hx0 : H a = none := x3.al.trk
 have I4 : Inv (cxH X a) pins σ (upd H a (XO X.K a)) s3 := by
  refine JC x3.inv x3.al ⟨⟨oe3, C, ho3, hc3.trans ec, hve C ec⟩, ⟨oe3, ho3⟩, ?_⟩
  rintro h1 h2 ⟨ob, C1, e1, e2, e3⟩ k
  exact ⟨ob, C1, k ob e1, e2, e3⟩
 refine W2 (X := cxH X a) I4 hN hi (.inl hn) (v := .ref a) rfl (fun s4 I5 => ?_) (.inr hn)
 have h4 : Hol X.K (upd H a (XO X.K a)) (P.del i) (σ.set i (some (.ref a))) (G.set i (.val (.dict []))) := (h.same (ZS hx0)).setVal i (rl_exc.mpr ⟨a, rfl, ZQ, h.off_new hx0⟩)
 have g4 : Go H P (upd H a (XO X.K a)) (P.del i) := (Go.same (ZS hx0)).trans .del
 refine wpAny_mono (hh pins s4 _ _ (endsA X.K H P i D) I5 ⟨_, _, h4, ?_⟩) (fun f s5 h5 => ?_) fun _ _ z => False.elim z
 ·cases ed : dh (G.set i (.val (.dict []))) with
  | stuck => rw [ed] at q; exact q.elim
  | exc c => rw [ed] at q; exact q.elim
  | ok o =>
   rw [ed] at q
   cases o with
   | nx G' => exact fun σ' H' P' g' h' => ⟨G', P', g4.trans g', h', fun σ2 P2 g2 h2 => q σ2 H' P2 g2 h2⟩
   | rt t => exact fun v H' P' g' r n => q v H' P' (g4.trans g') r fun z => (n z).back g4
   | bk G' => exact q.elim
   | ct G' => exact q.elim
 ·have ok := x2.inv.ok
  cases f with
  | next =>
   obtain ⟨σ', H', I6, G', P', g', h', q'⟩ := h5
   refine Jc (VG ok I6) hN hi hn fun s6 I7 => ⟨_, H', I7, ?_⟩
   obtain ⟨P2, h2, g2⟩ := h'.forget i (some .non)
   obtain ⟨P3, h3, g3⟩ := h2.forget i none
   have e3 : (G'.set i Sl.emp).set i Sl.emp = G'.set i Sl.emp := List.set_set ..
   rw [e3] at h3
   exact q' _ P3 (g'.trans (g2.trans g3)) h3
  | ret u =>
   obtain ⟨v, σ', H', I6, rv, q'⟩ := h5
   exact Jc (VG ok I6) hN hi hn fun s6 I7 => ⟨v, _, H', I7, rv, q'⟩
  | brk => obtain ⟨_, _, _, z⟩ := h5; exact False.elim z
  | cont => obtain ⟨_, _, _, z⟩ := h5; exact False.elim z
section
variable {Cn n : Str} {i : Nat} {C' : Addr} {sub : Str -> Bool} {dh : DS} {b₀ : Stmt} {suite : List Stmt} {np hpos : Pos} {ex : Expr} {es : List Expr} {k nps : Nat} {x : Str} {f : DF} {d : DA} {p cpos epos pos : Pos}
theorem ss_tryA (F : InFrame X L) (C : Clx X.prog X.w X.K X.mg X.base cl k x nps f) (hr : Room k X.A) (hg : Gl X x) (ha : AV X.nox (fun _ _ => False) (ex :: es) d) (hcn : XCls X.K X.mg Cn C') (hgn : Gl X Cn) (hsub : Vp X cl sub C')
  (hve : ∀ c, sub c = true -> ∀ C, cl c = .ref C -> PySem.W.subIn X.K (.ref C) (.type "ValueError") = some true) (hN : X.N.Nodup) (hi : X.N[i]? = some n) (hn : X.env.kindOf n = some .local)
  (hh : ∀ a, SVs (cxH X a) (fun _ _ => False) fl (b₀ :: suite) dh) (hL : ∀ G ts, d G = .ok ts -> ts.length = nps := by first | exact Uu | exact Qr | exact Jy | exact len_c4) (hdb : (x == ("__debug__" : Str)) = false := by decide) (hdn : (Cn == ("__debug__" : Str)) = false := by decide)
  (he : starEach (ex :: es) X.env = (false, eval ex X.env) :: starEach es X.env := by rfl) (hpl : (backTo cpos (starEach es X.env)).any (·.1) = false := by rfl) (hsw : swapsWith (.Call (.Name x p) (ex :: es) [] cpos) none epos.line X.env = pure false := by rfl) :
  SV X W fl (.Try [.Expr (.Call (.Name x p) (ex :: es) [] cpos) epos] [.ExceptHandler (some (.Name Cn np)) (some n) (b₀ :: suite) hpos] [] [] pos) (dTryA i (X6 (VO f d)) sub dh) := by
 intro pins s σ H D I ⟨G, P, h, q⟩
 obtain ⟨h', g⟩ := h.frzA
 unfold dTryA X6 VO at q
 cases ed : noX (d (frzA G)) with
 | exc c => rcases Wq (d (frzA G)) with ⟨t, z⟩ | z <;> (rw [ed] at z; cases z)
 | stuck => rw [ed] at q; exact q.elim
 | ok ts =>
  rw [ed, Res.bind_ok] at q
  have hd : d (frzA G) = .ok ts := Jw ed
  refine wpAny_Try_except (wpAny_execs_cons (wpAny_Expr_any (QG C hr F.pin hg ha hL hdb he hpl I h' hd (fun z => ?_) (fun t et v u H' s' I' sm rl rv => ?_) fun c ec a T H' s' xx sm => ?_) I.quiet hsw))
  ·rw [z] at q; exact q.elim
  ·rw [et] at q
   refine wpAny_execs_nil ?_
   exact wpAny_execs_nil ⟨σ, H', I', q σ H' P (.same sm) (h.same sm)⟩
  ·rw [ec] at q
   simp only [Res.bind_exc] at q
   split at q
   ·rename_i hs
    refine handledA F hcn hgn hdn hsub hs (hve c hs) hN hi hn (hh a) xx (h.same sm) ?_
    have q' := YY.up q (.same sm)
    revert q'
    cases dh (G.set i (.val (.dict []))) with
    | ok o => cases o <;> exact fun z => z
    | exc c' => exact fun z => z.elim
    | stuck => exact fun z => z.elim
   ·exact q.elim
end
end
end Fx
namespace Fx
open PySem PySem.Spec PyProof.Rows L2
theorem Clx.calN {X : Cx} {cl : Str -> Value} {k np : Nat} {x : Str} {f : DF} (C : Clx X.prog X.w X.K X.mg X.base cl k x np f) : Cal X (fun _ _ => False) (some cl) k x np f := by
 obtain ⟨fa, fd, ps, F, hm, hk, hb⟩ := C.ex
 refine ⟨⟨CX1 X.prog X.w, fa, fd, ps, F, hm, hk, hb, fun pins σ H s e s' I h => ?_⟩, fun z => by cases z⟩
 obtain ⟨_, _, _, _, _, _, _, _, _, _, _, _, _, _, c, g, _, _, z⟩ := h
 exact z.elim
theorem X5 {X : Cx} {cl : Str -> Value} {C' : Addr} : Vp X cl (subs []) C' := fun c h => by simp at h
theorem YD {X : Cx} {cl : Str -> Value} {C' C : Addr} {x : Str} {l : List Str} (e : cl x = .ref C) (h : PySem.W.subIn X.K (.ref C) (.ref C') = some true) (r : Vp X cl (subs l) C') : Vp X cl (subs (x :: l)) C' := fun c hc => by
 simp only [subs, List.contains_cons, Bool.or_eq_true] at hc
 rcases hc with z | z
 ·have : c = x := by simpa using z
  subst this
  exact ⟨C, e, h⟩
 ·exact r c z
theorem ve_nil {X : Cx} {cl : Str -> Value} : ∀ c, subs [] c = true -> ∀ C, cl c = .ref C -> PySem.W.subIn X.K (.ref C) (.type "ValueError") = some true := fun c h => by simp at h
theorem UQ {X : Cx} {cl : Str -> Value} {C : Addr} {x : Str} {l : List Str} (e : cl x = .ref C) (h : PySem.W.subIn X.K (.ref C) (.type "ValueError") = some true) (r : ∀ c, subs l c = true -> ∀ C, cl c = .ref C -> PySem.W.subIn X.K (.ref C) (.type "ValueError") = some true) :
  ∀ c, subs (x :: l) c = true -> ∀ C, cl c = .ref C -> PySem.W.subIn X.K (.ref C) (.type "ValueError") = some true := fun c hc C' ec => by
 simp only [subs, List.contains_cons, Bool.or_eq_true] at hc
 rcases hc with z | z
 ·have : c = x := by simpa using z
  subst this
  rw [e] at ec
  cases ec
  exact h
 ·exact r c z C' ec
end Fx
namespace Fx
open PySem
def dUnp (st : PyData -> List Sl -> Res (List Sl)) (is : List Nat) (e : DE) : DS := fun G => (e (frz is G)).bind fun t => (st t (if Yy t then G else frz is G)).bind fun G' => .ok (.nx G')
@[simp] theorem dUnp_cons (st : PyData -> List Sl -> Res (List Sl)) (i : Nat) (is : List Nat) (e : DE) (G : List Sl) : dUnp st (i :: is) e G = (e (frz (i :: is) G)).bind fun t => (st t (if Yy t then G else frz (i :: is) G)).bind fun G' => .ok (.nx G') := rfl
@[simp] def set2 (i j : Nat) (G : List Sl) : List PyData -> Res Out
 | [x, y] => .ok (.nx ((G.set i (.val x)).set j (.val y)))
 | _ => .stuck
def dPar (i j : Nat) (is : List Nat) (d : DA) : DS := fun G => (d (frz is G)).bind fun ts => set2 i j (if Xw ts then G else frz is G) ts
@[simp] theorem dPar_cons (i j k : Nat) (is : List Nat) (d : DA) (G : List Sl) : dPar i j (k :: is) d G = (d (frz (k :: is) G)).bind fun ts => set2 i j (if Xw ts then G else frz (k :: is) G) ts := rfl
end Fx
namespace Fx
open PySem
def lkp (f : Str) : List (PyData × PyData) -> Option PyData
 | [] => none
 | (.str n, t) :: r => if n = f then some t else lkp f r
 | _ => none
def fFld (f : Str) : PyData -> Res PyData
 | .dict kvs => ofO (lkp f kvs)
 | _ => .stuck
end Fx
namespace Fx
open PySem PySem.Spec PyProof.Rows L2
section
variable {X : Cx} {qual : Str} {scope : Scope} {N : List Str} {y : Str} {cap : List Nat} {pins : List (Addr × Obj)} {σ : L2.St} {H : Hp} {s : Shared} {f : Addr} {cd : Value}
def zai (mg : Str -> Option Value) (base : Heap) : Prop := ∃ bm ob, mg "__builtins__" = some (.ref bm) /\ bm ≠ builtinsNs /\ bm ≠ mainGlobals /\ base.get? bm = some ob /\ ob.cls = .type "module" /\ ob.dict = some builtinsNs /\ ob.data = .plain
theorem lam_one {x x' : Str} (h : x ∈ XZ) (h' : x' ∈ XZ) : x = x' := by
 unfold XZ at h h'
 rw [List.mem_singleton.mp h, List.mem_singleton.mp h']
end
end Fx
namespace Fx
open PySem PySem.Spec PyProof.Rows L2
theorem QL {K : PySem.W.Frag} {x : Str} {c T : Addr} (t : PySem.W.tabIn K x = some (c, T)) : ∃ o, K.lookup c = some o := by
 unfold PySem.W.tabIn at t
 split at t
 ·split at t
  ·split at t
   ·split at t
    ·rename_i hco
     split at t
     ·cases t; exact ⟨_, hco⟩
     ·cases t
    ·cases t
   ·cases t
  ·cases t
 ·cases t
theorem Q6 {K : PySem.W.Frag} {x : Str} {c T : Addr} {b : Heap} (t : PySem.W.tabIn K x = some (c, T)) (hb : K.In b) (h : PySem.W.CodeHd b c T) : ∀ h' : Heap, K.In h' -> PySem.W.CodeHd h' c T := fun h' hk => by
 obtain ⟨o0, e0⟩ := QL t
 obtain ⟨o, vs, file, tf, flags, tg, inF, text, tt, e, r⟩ := h
 have := hb _ _ e0
 rw [e] at this
 cases this
 exact ⟨_, vs, file, tf, flags, tg, inF, text, tt, hk _ _ e0, r⟩
theorem Jz {P : Program} {w : World} {K : PySem.W.Frag} {mg mb : Str -> Option Value} {k : Nat} {fa a c T : Addr} {fd : FuncData} {x x0 : Str} {f : DF} {s₁ : Shared} {vs : List Value} {ns : List Int}
  (KX : K.In s₁.heap) (hns : s₁.heap.Ns mainGlobals mg) (hb : s₁.heap.Ns builtinsNs mb) (hbb : ∀ x : Str, x ≠ "__name__" -> mb x = bootBuiltins x) (hlim : s₁.heap.NoLimit) (hg : s₁.gens = #[])
  (bmain : zai mg s₁.heap) (htb : PySem.W.tabIn K x0 = some (c, T)) (hx0 : x0 ∈ XZ) (hno : PySem.W.noTabs K = true) (hC : PySem.W.CodeHd s₁.heap c T) (hT : s₁.heap.get? T = some (PySem.W.tabObj #[]))
  (ha : s₁.heap.get? a = some { cls := .type "list", data := .seq vs.toArray }) (hi : IntsAre vs ns) (hl : ns.length <= sizeLine) (hr : Room k callerA)
  (F : ∀ base : Heap, K.In base -> base.Ns mainGlobals mg -> zai mg base -> PySem.W.CodeHd base c T -> FnOk P w K mg base CX0 k fa fd [x] (spF K none 1 f)) (hbind : ∀ (s : Shared) (u : Value), BindsTo s fd ⟨[u], []⟩ [(x, u)])
  (hok : f [.list (ns.map .int)] = .ok (.bool true)) :
  codeAny (model P w) callerA (.call (.ref fa) ⟨[.ref a], []⟩) (fun r s' => r = .ok (.ret (.bool true)) /\ OldK s₁.heap s'.heap /\ s'.os = s₁.os /\ AllBare s'.gens) s₁ := by
 have rv := Ud hi
 have lenV := hi.length
 have haT : a ≠ T := fun e => by rw [e, hT] at ha; cases ha
 have hKT : ∀ b o, K.lookup b = some o -> b ≠ T := fun b o e z => by
  have h2 := List.all_eq_true.mp hno (b, o) (PySem.W.mem_of_lookupK e)
  have h3 := KX _ _ e
  rw [z, hT] at h3
  cases h3
  exact absurd (show false = true from h2) Bool.false_ne_true
 -- from an abstract heap in which nothing but the table and the script may be tracked
 have core : ∀ H : Hp, H T = some (.tbl #[]) -> SqL K H a (ns.map V.int) -> HOk P w H s₁.heap -> (∀ b, H b ≠ none -> b = a \/ b = T) -> (∀ o, H a = some o -> K.lookup a = none /\ ∃ ob xs, o = .frz ob (.lst xs)) ->
   codeAny (model P w) callerA (.call (.ref fa) ⟨[.ref a], []⟩) (fun r s' => r = .ok (.ret (.bool true)) /\ OldK s₁.heap s'.heap /\ s'.os = s₁.os /\ AllBare s'.gens) s₁ := by
  intro H hHT hS hok' hA hK
  have base_of : ∀ {b : Addr} {o : Obj}, s₁.heap.get? b = some o -> H b = none -> (hidT s₁.heap H).get? b = some o := fun e n => hidT_get e n
  have noD : ∀ {b : Addr} {o : Obj}, s₁.heap.get? b = some o -> b ≠ T -> (∀ xs n, o.data ≠ .seq xs n) -> H b = none := fun {b o} e nt d => by
   cases q : H b with
   | none => rfl
   | some u =>
    rcases hA b (by rw [q]; simp) with e' | e'
    ·subst e'
     rw [ha] at e; cases e
     exact absurd rfl (d _ _)
    ·exact absurd e' nt
  have nsK : ∀ {b : Addr} {m : Str -> Option Value}, s₁.heap.Ns b m -> (hidT s₁.heap H).Ns b m := fun {b m} ⟨o, es, ep, e, d, r⟩ => ⟨o, es, ep, base_of e (noD e (fun z => by rw [z, hT] at e; cases e; cases d) fun xs n z => by rw [d] at z; cases z), d, r⟩
  have hKb : K.In (hidT s₁.heap H) := fun b o e => base_of (KX b o e) (by
   cases q : H b with
   | none => rfl
   | some u =>
    rcases hA b (by rw [q]; simp) with e' | e'
    ·subst e'
     rw [(hK u q).1] at e; cases e
    ·exact absurd e' (hKT b o e))
  have hBb : zai mg (hidT s₁.heap H) := by
   obtain ⟨bm, ob, b1, b2, b3, b4, b5, b6, b7⟩ := bmain
   exact ⟨bm, ob, b1, b2, b3, base_of b4 (noD b4 (fun z => by rw [z, hT] at b4; cases b4; cases b5) fun xs n z => by rw [b7] at z; cases z), b5, b6, b7⟩
  have hCb : PySem.W.CodeHd (hidT s₁.heap H) c T := Q6 htb KX hC _ hKb
  have hM : Mod K mg (hidT s₁.heap H) := ⟨hKb, nsK hns, ⟨mb, nsK hb, hbb⟩, let ⟨mc, h1, h2⟩ := hlim; ⟨mc, nsK h1, h2⟩⟩
  have e0 : Env0 P w K mg (hidT s₁.heap H) callerA [] s₁ H := ⟨rfl, hM, fun b o e => of_hidT e, Nat.le_of_eq (JE _ _), trivial, fun b hb => absurd (show b ∈ ([] : List Addr) from hb) (by simp), hok', .of_eq hg⟩
  have tk : X8 K H := fun x1 c1 T1 h1 h2 => by
   have e1 : x1 = x0 := lam_one h1 hx0
   subst e1
   rw [htb] at h2
   cases h2
   exact ⟨#[], hHT, trivial, fun pos cv z => by simp [codeAmong] at z⟩
  refine codeAny_mono ((F _ hKb (nsK hns) hBb hCb).run callerA [] s₁ H ⟨[.ref a], []⟩ [.ref a] [.ref a] _ (fun _ _ _ => False) hr e0 (hbind s₁ (.ref a)) (.cons rfl .nil) (law_sp hok tk hS)) fun r s' h => ?_
  cases r with
  | error e => exact False.elim h
  | ok fl =>
   cases fl with
   | next => exact False.elim h
   | brk => exact False.elim h
   | cont => exact False.elim h
   | ret u =>
    obtain ⟨v, H', os, bare, un, hok2, r', q⟩ := h
    have q' : v = .bl true := q
    subst q'
    obtain rfl : u = Value.bool true := r'
    have keep : ∀ b o, b ≠ T -> s₁.heap.get? b = some o -> s'.heap.get? b = some o := fun b o nb e => by
     cases q : H b with
     | none => exact un.keep b o e q (by intro z; exact absurd (show b ∈ ([] : List Addr) from z) (by simp)) (by simp)
     | some u =>
      rcases hA b (by rw [q]; simp) with e' | e'
      ·subst e'
       obtain ⟨_, ob, xs, rfl⟩ := hK u q
       have z2 := un.frzs b ob _ q
       obtain ⟨e1, _⟩ := hok' b _ q
       obtain ⟨e2, _⟩ := hok2 b _ z2
       rw [e] at e1; cases e1
       exact e2
      ·exact absurd e' nb
    obtain ⟨more, hT'⟩ := un.tbls T _ hHT
    have hTo : s'.heap.get? T = some (PySem.W.tabObj (#[] ++ more)) := hok2 T _ hT'
    refine ⟨rfl, ⟨fun b o e => ?_, fun b o e => ?_⟩, os, bare⟩
    ·by_cases nb : b = T
     ·subst nb
      rw [hT] at e
      cases e
      exact .inr (.inl ⟨(hC.tab hT).isCodeTable, rfl, #[], more, rfl, hTo⟩)
     ·exact .inl (keep b o nb e)
    ·by_cases nb : b = T
     ·subst nb; exact ⟨_, hTo⟩
     ·exact ⟨o, keep b o nb e⟩
 cases hk : K.lookup a with
 | some o =>
  have e := KX a o hk
  rw [ha] at e
  cases e
  refine core (fun b => if b = T then some (.tbl #[]) else none) (if_pos rfl) (.inr ⟨_, vs.toArray, _, hk, rfl, rfl, rfl, by rw [List.size_toArray, lenV]; exact hl, by simpa using rv⟩) (fun b u z => ?_) (fun b z => ?_) fun o z => ?_
  ·by_cases hb : b = T
   ·have z' := (if_pos hb).symm.trans z
    cases z'
    subst hb
    exact hT
   ·have z' := (if_neg hb).symm.trans z
    cases z'
  ·by_cases hb : b = T
   ·exact .inr hb
   ·exact absurd (if_neg hb) z
  ·have z' := (if_neg haT).symm.trans z
   cases z'
 | none =>
  refine core (fun b => if b = T then some (.tbl #[]) else if b = a then some (.frz { cls := .type "list", data := .seq vs.toArray } (.lst (ns.map V.int))) else none) (if_pos rfl) (.inl (.inr ⟨{ cls := .type "list", data := .seq vs.toArray }, (if_neg haT).trans (if_pos rfl)⟩)) (fun b u z => ?_) (fun b z => ?_) fun o z => ?_
  ·by_cases hb : b = T
   ·have z' := (if_pos hb).symm.trans z
    cases z'
    subst hb
    exact hT
   ·have z1 := (if_neg hb).symm.trans z
    by_cases hb2 : b = a
    ·have z' := (if_pos hb2).symm.trans z1
     cases z'
     subst hb2
     exact ⟨ha, by rw [List.length_map]; exact hl, vs, _, rv, ha⟩
    ·have z' := (if_neg hb2).symm.trans z1
     cases z'
  ·by_cases hb : b = T
   ·exact .inr hb
   ·by_cases hb2 : b = a
    ·exact .inl hb2
    ·exact absurd ((if_neg hb).trans (if_neg hb2)) z
  ·have z' := ((if_neg haT).trans (if_pos rfl)).symm.trans z
   cases z'
   exact ⟨hk, _, _, rfl⟩
theorem walk_T {l : PySem.W.OpenLaw} {n k : Nat} {q : Program} {loose : List Str} {XP : (Str -> Option Value) -> Heap -> Prop} {YP : World -> Heap -> Prop} {d d0 : DefRec} {K : Params -> PySem.W.Frag} {x x0 : Str} {f : DF}
  (hn : l.most = some n) (hn2 : n <= sizeLine) (hdf : d.params.defaults = []) (hr : Room k callerA) (hx0 : x0 ∈ XZ) (hrec : (recsOf q).find? (fun e => e.name == x0) = some d0)
  (hY : ∀ (w : World) (h : Heap), YP w h -> (K w.params).In h)
  (F : ∀ (w : World) (mg : Str -> Option Value) (fa : Addr) (h : Heap), (K w.params).In h -> h.Ns mainGlobals mg -> mg d.name = some (.ref fa) ->
   ∃ (fd : FuncData) (c T : Addr), PySem.W.tabIn (K w.params) x0 = some (c, T) /\ PySem.W.noTabs (K w.params) = true /\ (∀ (s : Shared) (u : Value), BindsTo s fd ⟨[u], []⟩ [(x, u)]) /\
    ∀ base : Heap, (K w.params).In base -> base.Ns mainGlobals mg -> zai mg base -> PySem.W.CodeHd base c T -> FnOk l.prog w (K w.params) mg base CX0 k fa fd [x] (spF (K w.params) none 1 f))
  (hok : ∀ ns : List Int, ns.length <= n -> f [.list (ns.map .int)] = .ok (.bool true)) :
  PySem.W.WalkO q loose XP YP l.row.toRowW d [] (fun f vs => PySem.call f vs) := by
 refine Att.attach_call hn hdf fun w s₀ s₁ mg mb fa o pm cd doc a vs ns G Y ho hd hcd hmg hobj hints hlen hg => ?_
 have KX := hY w _ Y
 obtain ⟨fd, c, T, htb, hno, hb, hF⟩ := F w mg fa _ KX G.T.g hmg
 obtain ⟨hC, hT⟩ := PySem.W.tab_of G.T KX hrec htb
 have hB : zai mg s₁.heap := by
  obtain ⟨bm, ob, b1, b2, b3, b4, b5, b6⟩ := G.T.bmain
  refine ⟨bm, ob, b1, b2, fun z => ?_, b3, b4, b5, b6⟩
  obtain ⟨o, es, ep, e, hdd, _⟩ := G.T.g
  rw [z, e] at b3; cases b3; rw [hdd] at b6; cases b6
 exact Jz KX G.T.g G.T.b G.T.builtins G.T.nolimit hg hB htb hx0 hno hC hT hobj hints (Nat.le_trans hlen hn2) hr hF hb (hok ns hlen)
end Fx
namespace Sx
structure Bd where
 h : Nat -> Nat
 D : Int
 R : Nat -> Nat -> Int
end Sx
namespace Lw
open PySem Fx
structure LB where
 heads : List Nat
 D : Int
 rows : List (List Int)
abbrev eI (xs : List Int) : PyData := .list (xs.map .int)
abbrev eH (hs : List Nat) : PyData := .list (hs.map fun (h : Nat) => .int (h : Int))
def eB (b : LB) : PyData := .dict [(.str "heads", eH b.heads), (.str "divisor", .int b.D), (.str "rows", .list (b.rows.map eI))]
def LB.bd (b : LB) : Sx.Bd := ⟨fun j => b.heads.getD j 0, b.D, fun i j => (b.rows.getD i []).getD j 0⟩
@[simp] theorem bd_D (b : LB) : b.bd.D = b.D := rfl
@[simp] theorem bd_h (b : LB) (j : Nat) : b.bd.h j = b.heads.getD j 0 := rfl
theorem bd_R (b : LB) (i j : Nat) : b.bd.R i j = (b.rows.getD i []).getD j 0 := rfl
@[simp] theorem fld_heads (b : LB) : fFld "heads" (eB b) = .ok (eH b.heads) := rfl
@[simp] theorem fld_div (b : LB) : fFld "divisor" (eB b) = .ok (.int b.D) := rfl
@[simp] theorem fld_rows (b : LB) : fFld "rows" (eB b) = .ok (.list (b.rows.map eI)) := rfl
@[simp] theorem scalT_eB (b : LB) : Yy (eB b) = false := rfl
section
variable {K m : Nat} {b : LB} {t p : Nat}
theorem Xz (i j : Int) : fNe (.int i) (.int j) = .ok (.bool (!decide (i = j))) := by simp [fNe]
end
end Lw
namespace Lw
open PySem Fx
abbrev WZ (K : Nat) (ls : List Lim) : PyData := .tuple [.int K, .tuple (ls.map limT)]
end Lw
namespace Lx
open PySem Fx Lw
def WK : DS :=
  (dRet (dTup (Zc (d1 Uz (dVar 2)) (Zc (dVar 3) dNil))))
def WL : DS :=
  dSeq (dIf (tNot (tV (Zr Yk (Zc (dVar 3) dNil))))
  (Xv "NoDesk" (Zc (dC (.str (PySem.Str.ofString "a bound is a whole number of at most 12 figures"))) dNil))
  Z1)
  WK
def WM : DS :=
  dSeq (dIf (tNot (tV (d1 fAll (dL (X7 1 [] (YU 0) (iSeq (dVar 2)) tT (Zr Yk (Zc (dVar 0) dNil)))))))
  (Xv "NoDesk" (Zc (dC (.str (PySem.Str.ofString "a weight is a whole number of at most 12 figures"))) dNil))
  Z1)
  WL
def WN : DS :=
  dSeq (dIf (tOr (tNot (tV (d1 (fIs isList) (dVar 2)))) (tV (d2 fNe (d1 fLen (dVar 2)) (dVar 0))))
  (Xv "NoDesk" (Zc (dC (.str (PySem.Str.ofString "weights are a list with one number for each kind"))) dNil))
  Z1)
  WM
def WO : DS :=
  dSeq (dSet 3 [] (d2 fIx (dVar 1) (dC (.int 1))))
  WN
def WP : DS :=
  dSeq (dSet 2 [] (d2 fIx (dVar 1) (dC (.int 0))))
  WO
def VJ : DS :=
  dSeq (dIf (tOr (tNot (tV (d1 (fIs U2) (dVar 1)))) (tV (d2 fNe (d1 fLen (dVar 1)) (dC (.int 2)))))
  (Xv "NoDesk" (Zc (dC (.str (PySem.Str.ofString "a limit is a tuple of weights and a bound"))) dNil))
  Z1)
  WP
def Y3 : DF := runF 4 2 VJ
def Vm : DS :=
  (dRet (dTup (Zc (dVar 0) (Zc (d1 Uz (dL (X7 1 [0] (YU 0) (iSeq (dVar 1)) tT (Zr Y3 (Zc (dVar 1) (Zc (dVar 0) dNil)))))) dNil))))
def Vn : DS :=
  dSeq (dIf (tOr (tNot (tV (d1 (fIs isList) (dVar 1)))) (tV (d2 fGt (d1 fLen (dVar 1)) (dC (.int 10)))))
  (Xv "NoDesk" (Zc (dC (.str (PySem.Str.ofString "limits are a list of at most 10"))) dNil))
  Z1)
  Vm
def UE : DS :=
  dSeq (dIf (tOr (tNot (tV (Zr Zq (Zc (dVar 0) dNil)))) (tOr (tV (d2 fLt (dVar 0) (dC (.int 1)))) (tV (d2 fGt (dVar 0) (dC (.int 4))))))
  (Xv "NoDesk" (Zc (dC (.str (PySem.Str.ofString "kinds are a whole number from 1 to 4"))) dNil))
  Z1)
  Vn
def XL : DF := runF 2 2 UE
def Yu : DS :=
  (dIf (tOr (tNot (tV (Zr Zq (Zc (dVar 1) dNil)))) (tOr (tV (d2 fLt (dVar 1) (dC (.int 0)))) (tV (d2 fGe (dVar 1) (dVar 0)))))
  (Xv "NoPlace" (Zc (dC (.str (PySem.Str.ofString "a place is a whole number from 0 to below how many there are"))) dNil))
  Z1)
def Zh : DF := runF 2 2 Yu
def Wf : DS :=
  (dIf (tNot (tV (d1 fAll (dL (X7 1 [] (YU 0) (iSeq (dVar 1)) tT (Zr Zq (Zc (dVar 0) dNil)))))))
  (Xv "NoGoal" (Zc (dC (.str (PySem.Str.ofString "a goal is of whole numbers"))) dNil))
  Z1)
def Xi : DS :=
  dSeq (dIf (tOr (tNot (tV (d1 (fIs isList) (dVar 1)))) (tV (d2 fNe (d1 fLen (dVar 1)) (dVar 0))))
  (Xv "NoGoal" (Zc (dC (.str (PySem.Str.ofString "a goal is a list with one number for each kind"))) dNil))
  Z1)
  Wf
def Zz : DF := runF 2 2 Xi
variable {K m B n0 : Nat} {ls : List Lim} {goal : List Int}
theorem limit_ok {k w : Nat} {l : Lim} (h : LimOk k w l) (hw : w <= 999999999999) (hk : k <= 1000) : Y3 [.int k, limL l] = .ok (limT l) := by
 have e := X4 (st := YU 0) (e := (Zr Yk (Zc (dVar 0) dNil))) (C := [.emp]) PyData.int (fun _ => PyData.bool true) l.1 fun x hx => ⟨[.val (.int x)], rfl, by simp [Qt (Nat.le_trans (h.ws x hx) hw)]⟩
 have hl : l.1.length <= 16777216 := by rw [h.len]; omega
 have hb := Qt (Nat.le_trans h.bd hw)
 have a := UP l.1
 obtain rfl := h.len
 simp [Y3, runF, VJ, WP, WO, WN, WM, WL, WK, limL, limT, at0, at1, fNe, hl, e, hb, a]
theorem Q0 {k w : Nat} {ls : List Lim} (h : ∀ l ∈ ls, LimOk k w l) (hw : w <= 999999999999) (hk : 1 <= k /\ k <= 4) (hl : ls.length <= 10) : XL [.int k, .list (ls.map limL)] = .ok (.tuple [.int k, .tuple (ls.map limT)]) := by
 have e := X4 (st := YU 0) (e := (Zr Y3 (Zc (dVar 1) (Zc (dVar 0) dNil)))) (C := [.emp, .val (.int k)]) limL limT ls fun l hm => ⟨[.val (limL l), .val (.int k)], rfl, by simp [limit_ok (h l hm) hw (by omega)]⟩
 have h1 : ¬ ((k : Int) < 1) := by omega
 have h2 : ¬ (4 < (k : Int)) := by omega
 have h3 : ¬ (10 < (ls.length : Int)) := by omega
 have h4 : ls.length <= 16777216 := by omega
 simp [XL, runF, UE, Vn, Vm, Yg, h1, h2, h3, h4, e]
theorem Vy {n i : Nat} (h : i < n) : Zh [.int n, .int i] = .ok .none := by
 have h1 : ¬ ((i : Int) < 0) := by omega
 have h2 : ¬ ((n : Int) <= (i : Int)) := by omega
 simp [Zh, Yu, runF, Yg, h1, h2]
end Lx
namespace Fx
open PySem
def dHs : List ((Str -> Bool) × (Str -> Bool) × DS) -> Str -> DS
 | [], _ => fun _ => .stuck
 | (y, n, h) :: r, c => fun G => if y c then noX (h G) else if n c then dHs r c G else .stuck
@[simp] theorem QD (y n : Str -> Bool) (h : DS) (r : List ((Str -> Bool) × (Str -> Bool) × DS)) (c : Str) (G : List Sl) : dHs ((y, n, h) :: r) c G = if y c then noX (h G) else if n c then dHs r c G else .stuck := rfl
@[simp] def dTryM (b : DS) (hs : List ((Str -> Bool) × (Str -> Bool) × DS)) : DS := fun G => match b G with
 | .exc c => dHs hs c G
 | .ok o => .ok o
 | .stuck => .stuck
end Fx
namespace Fx
open PySem PySem.Spec PyProof.Rows L2
theorem star_tup {xs es : List Expr} {k : Nat} {pos : Pos} {env : Env} : starEach (.Tuple xs k pos :: es) env = (false, eval (.Tuple xs k pos) env) :: starEach es env := rfl
theorem star_lst {xs es : List Expr} {pos : Pos} {env : Env} : starEach (.List xs pos :: es) env = (false, eval (.List xs pos) env) :: starEach es env := rfl
section
variable {X : Cx} {pins : List (Addr × Obj)} {σ : L2.St} {H H' : Hp} {s s' : Shared} {a : Addr} {cl : Str -> Value} {W : Str -> Hp -> Prop} {L : Addr} {fl : Bool}
theorem JH {K : PySem.W.Frag} {M : Model} {A : Around} {E : Value -> Shared -> Prop} {mg : Str -> Option Value} {x : Str} {C C' : Addr} {ob : Obj} {Q : Bool -> Shared -> Prop} (k : K.In s.heap) (c : XCls K mg x C') (ho : s.heap.get? a = some ob) (hc : ob.cls = .ref C)
  (hsub : PySem.W.subIn K (.ref C) (.ref C') = some false) (q : Q false s) : wpAny M A (excMatches (.ref a) (.ref C')) Q E s := by
 obtain ⟨tl, N, nm, qn, bs, hd, sn, sb, ab, co, dd, k0, k1, k2, k3, k5, mN, hC, hN, hni, tail⟩ := (c.obj k).obj
 have hB : (Value.ref C' :: tl).contains (.type "BaseException") = true := by rw [List.contains_cons, tail.hasType PySem.F.excBase_ValueError.hasBase, Bool.or_true]
 have nt := tc_notTuple
 obtain ⟨hp, g, d, tk, os⟩ := s
 unfold excMatches
 repeat (first | (with_reducible refine wpAny_loadPart_at ho ?_; rw [hc]) | with_reducible refine wpAny_loadPart_at hC ?_ | (with_reducible refine wpAny_isSubtype_exc hC ?_; rw [hB]) | (refine (PySem.W.looks_subIn k hsub).at ?_) | wp_step)
 exact q
def zaf (X : Cx) (cl : Str -> Value) (no : Str -> Bool) (C' : Addr) : Prop := ∀ c, no c = true -> ∃ C, cl c = .ref C /\ PySem.W.subIn X.K (.ref C) (.ref C') = some false
theorem VQ {C' : Addr} : zaf X cl (subs []) C' := fun c h => by simp [subs] at h
theorem Va {C C' : Addr} {c : Str} {cs : List Str} (e : cl c = .ref C) (u : PySem.W.subIn X.K (.ref C) (.ref C') = some false) (h : zaf X cl (subs cs) C') : zaf X cl (subs (c :: cs)) C' := fun d hd => by
 simp only [subs, List.contains_cons, Bool.or_eq_true] at hd
 rcases hd with hd | hd
 ·have z : d = c := by simpa using hd
  subst z
  exact ⟨C, e, u⟩
 ·exact h d hd
inductive HV (X : Cx) (cl : Str -> Value) (fl : Bool) : List ExceptHandler -> List ((Str -> Bool) × (Str -> Bool) × DS) -> Prop
 | nil : HV X cl fl [] []
 | cons {Cn : Str} {C' : Addr} {y n : Str -> Bool} {dh : DS} {b₀ : Stmt} {suite : List Stmt} {np hpos : Pos} {hs : List ExceptHandler} {ds : List ((Str -> Bool) × (Str -> Bool) × DS)} (hcn : XCls X.K X.mg Cn C') (hgn : Gl X Cn) (hy : Vp X cl y C') (hn : zaf X cl n C')
   (hh : ∀ a, SVs (cxH X a) (fun _ _ => False) fl (b₀ :: suite) dh) (hr : HV X cl fl hs ds) (hdb : (Cn == ("__debug__" : Str)) = false) : HV X cl fl (.ExceptHandler (some (.Name Cn np)) none (b₀ :: suite) hpos :: hs) ((y, n, dh) :: ds)
theorem hv_nil : HV X cl fl [] [] := .nil
theorem U3 {Cn : Str} {C' : Addr} {y n : Str -> Bool} {dh : DS} {b₀ : Stmt} {suite : List Stmt} {np hpos : Pos} {hs : List ExceptHandler} {ds : List ((Str -> Bool) × (Str -> Bool) × DS)} (hcn : XCls X.K X.mg Cn C') (hgn : Gl X Cn) (hy : Vp X cl y C') (hn : zaf X cl n C')
  (hh : ∀ a, SVs (cxH X a) (fun _ _ => False) fl (b₀ :: suite) dh) (hr : HV X cl fl hs ds) (hdb : (Cn == ("__debug__" : Str)) = false := by decide) : HV X cl fl (.ExceptHandler (some (.Name Cn np)) none (b₀ :: suite) hpos :: hs) ((y, n, dh) :: ds) := .cons hcn hgn hy hn hh hr hdb
theorem dHs_nox (ds : List ((Str -> Bool) × (Str -> Bool) × DS)) (c : Str) (G : List Sl) (c' : Str) : dHs ds c G ≠ .exc c' := by
 induction ds with
 | nil => intro z; cases z
 | cons d ds ih =>
  obtain ⟨y, n, h⟩ := d
  rw [QD]
  split
  ·intro z; rcases Wq (h G) with ⟨t, e⟩ | e <;> (rw [e] at z; cases z)
  ·split
   ·exact ih
   ·intro z; cases z
theorem handledM {c : Str} {D : Ends} {G : List Sl} {P : Pv} {hs : List ExceptHandler} {ds : List ((Str -> Bool) × (Str -> Bool) × DS)} (hv : HV X cl fl hs ds) {T : Addr} (x2 : Exc X pins σ H a (cl c) (some (T, .none)) s) (h : Hol X.K H P σ G) (q : YY X.K (fun _ _ => False) fl H P (dHs ds c G) D) :
  wpAny (model X.prog X.w) X.A (handleBy (.ref a) X.env hs) (SP X pins D) X.xe s := by
 induction hv with
 | nil => exact q.elim
 | @cons Cn C' y n dh b₀ suite np hpos hs ds hcn hgn hy hn hh hr hdb ih =>
  obtain ⟨oe, vs, a0, b1, ho, hc, _⟩ := x2.ob.first
  rw [QD] at q
  refine wpAny_handleBy_cons (codeAny_handlers_test (WD (X := cxH X a) (inv_h x2.inv) hgn hcn.bd ?_ hdb)) (by intro z; cases z)
  split at q
  ·rename_i hyc
   obtain ⟨C, ec, hC⟩ := hy c hyc
   refine UA x2.inv.kIn hcn ho (hc.trans ec) hC ?_
   refine codeAny_handlers_suite (Exc.flight (X := cxH X a) (fr := none) (exc_h x2) fun s3 x3 => ?_)
   refine wpAny_mono (hh a pins s3 σ H D x3.inv ⟨G, P, h, ?_⟩) (fun f s4 h4 => sp_oh x2.inv.ok h4) fun _ _ z => False.elim z
   revert q
   cases dh G with
   | ok o => exact fun q => q
   | exc c' => exact fun q => q.elim
   | stuck => exact fun q => q.elim
  ·split at q
   ·rename_i hnc
    obtain ⟨C, ec, hC⟩ := hn c hnc
    exact JH x2.inv.kIn hcn ho (hc.trans ec) hC (ih q)
   ·exact q.elim
end
section
variable {X : Cx} {W : Str -> Hp -> Prop} {fl : Bool} {L : Addr} {cl : Str -> Value} {hs : List ExceptHandler} {h₀ : ExceptHandler} {ds : List ((Str -> Bool) × (Str -> Bool) × DS)} {ex : Expr} {es : List Expr} {k nps : Nat} {x : Str} {f : DF} {d : DA} {p cpos epos pos : Pos}
theorem ss_tryM (F : InFrame X L) (C : Clx X.prog X.w X.K X.mg X.base cl k x nps f) (hr : Room k X.A) (hg : Gl X x) (ha : AV X.nox (fun _ _ => False) (ex :: es) d) (hv : HV X cl fl (h₀ :: hs) ds)
  (hL : ∀ G ts, d G = .ok ts -> ts.length = nps := by first | exact Uu | exact Qr | exact Jy | exact len_c4) (hdb : (x == ("__debug__" : Str)) = false := by decide)
  (he : starEach (ex :: es) X.env = (false, eval ex X.env) :: starEach es X.env := by rfl) (hpl : (backTo cpos (starEach es X.env)).any (·.1) = false := by rfl) (hsw : swapsWith (.Call (.Name x p) (ex :: es) [] cpos) none epos.line X.env = pure false := by rfl) :
  SV X W fl (.Try [.Expr (.Call (.Name x p) (ex :: es) [] cpos) epos] (h₀ :: hs) [] [] pos) (dTryM (X6 (VO f d)) ds) := by
 intro pins s σ H D I ⟨G, P, h, q⟩
 obtain ⟨h', g⟩ := h.frzA
 unfold dTryM X6 VO at q
 cases ed : noX (d (frzA G)) with
 | exc c => rcases Wq (d (frzA G)) with ⟨t, z⟩ | z <;> (rw [ed] at z; cases z)
 | stuck => rw [ed] at q; exact q.elim
 | ok ts =>
  rw [ed, Res.bind_ok] at q
  have hd : d (frzA G) = .ok ts := Jw ed
  refine wpAny_Try_except (wpAny_execs_cons (wpAny_Expr_any (QG C hr F.pin hg ha hL hdb he hpl I h' hd (fun z => ?_) (fun t et v u H' s' I' sm rl rv => ?_) fun c ec a T H' s' xx sm => ?_) I.quiet hsw))
  ·rw [z] at q; exact q.elim
  ·rw [et] at q
   refine wpAny_execs_nil ?_
   exact wpAny_execs_nil ⟨σ, H', I', q σ H' P (.same sm) (h.same sm)⟩
  ·rw [ec] at q
   simp only [Res.bind_exc] at q
   refine xx.note F fun T1 s1 x1 => x1.flight (fr := none) fun s2 x2 => ?_
   refine handledM hv x2 (h.same sm) ?_
   cases eh : dHs ds c G with
   | ok o =>
    rw [eh] at q
    exact YY.up (W := fun _ _ => False) (r := .ok o) (by cases o <;> exact q) (.same sm)
   | exc c' => exact absurd eh (dHs_nox ds c G c')
   | stuck => rw [eh] at q; exact q.elim
end
end Fx
namespace K21
open PySem Fx Lx
open Lw
def XR : DS :=
  (dIf (tNot (tV (d1 fAll (dL (X7 1 [] (YU 0) (iSeq (dVar 1)) tT (Zr Zo (Zc (dVar 0) dNil)))))))
  (Xv "BadPoint" (Zc (dC (.str (PySem.Str.ofString "an amount is a fraction without a common divisor, its lower number from 1 on"))) dNil))
  Z1)
def YX : DS :=
  dSeq (dIf (tOr (tNot (tV (d1 (fIs isList) (dVar 1)))) (tV (d2 fNe (d1 fLen (dVar 1)) (dVar 0))))
  (Xv "BadPoint" (Zc (dC (.str (PySem.Str.ofString "a point is a list with one fraction for each kind"))) dNil))
  Z1)
  XR
def Zn : DF := runF 2 2 YX
def Q3 : DS :=
  dNev
def QC : DS :=
  dSeq (X6 (Zr Zn (Zc (d2 fIx (dVar 0) (dC (.int 0))) (Zc (dVar 1) dNil))))
  Q3
def W6 : DF := runF 2 2 QC
def d_just_1 : DS :=
  dNev
def d_just : DS :=
  dSeq (X6 (Zr Zn (Zc (d2 fIx (dVar 0) (dC (.int 0))) (Zc (dVar 1) dNil))))
  d_just_1
def Qy : DF := runF 2 2 d_just
def d_best_3 : DS :=
  dNev
def d_best_2 : DS :=
  dSeq dNev
  d_best_3
def d_best_1 : DS :=
  dSeq dNev
  d_best_2
def JX : DS :=
  dSeq (X6 (Zr Zz (Zc (d2 fIx (dVar 0) (dC (.int 0))) (Zc (dVar 1) dNil))))
  d_best_1
def Vh : DF := runF 3 2 JX
def d_top_3 : DS :=
  dNev
def d_top_2 : DS :=
  dSeq dNev
  d_top_3
def d_top_1 : DS :=
  dSeq dNev
  d_top_2
def d_top : DS :=
  dSeq (dSet 2 [] (Zr Vh (Zc (dVar 0) (Zc (dVar 1) dNil))))
  d_top_1
def f_top : DF := runF 3 2 d_top
def U8 : DS :=
  dNev
def U9 : DS :=
  dSeq dNev
  U8
def Qa : DS :=
  dSeq dNev
  U9
def Qb : DS :=
  dSeq dNev
  Qa
def UC : DS :=
  dSeq (X6 (Zr Zh (Zc (d2 fIx (dVar 0) (dC (.int 0))) (Zc (dVar 1) dNil))))
  Qb
def Wt : DF := runF 5 2 UC
def JR : DS :=
  dNev
def JS : DS :=
  dSeq dNev
  JR
def JT : DS :=
  dSeq dNev
  JS
def JU : DS :=
  dSeq dNev
  JT
def JV : DS :=
  dSeq dNev
  JU
def JW : DS :=
  dSeq dNev
  JV
def Qf : DS :=
  dSeq (X6 (Zr Zh (Zc (d1 fLen (d2 fIx (dVar 0) (dC (.int 1)))) (Zc (dVar 1) dNil))))
  JW
def Wi : DF := runF 4 2 Qf
def VI : DS :=
  (dRet (d2 fNe (d2 fIx (Zr Wi (Zc (dVar 0) (Zc (dVar 1) dNil))) (dC (.int 0))) (dC (.str (PySem.Str.ofString "point")))))
def X0 : DF := runF 2 2 VI
def Qc : DS :=
  dNev
def Qd : DS :=
  dSeq dNev
  Qc
def Qe : DS :=
  dSeq dNev
  Qd
def UD : DS :=
  dSeq (X6 (Zr Zh (Zc (d2 fIx (dVar 0) (dC (.int 0))) (Zc (dVar 1) dNil))))
  Qe
def Wu : DF := runF 3 2 UD
def Q1 : DS :=
  dNev
def Q2 : DS :=
  dSeq dNev
  Q1
def VN : DS :=
  dSeq (X6 (Zr Zn (Zc (d2 fSub (d2 fIx (dVar 0) (dC (.int 0))) (dC (.int 1))) (Zc (dVar 2) dNil))))
  Q2
def V8 : DS :=
  dSeq (X6 (Zr Zh (Zc (d2 fIx (dVar 0) (dC (.int 0))) (Zc (dVar 1) dNil))))
  VN
def X3 : DF := runF 4 3 V8
def Wv : DS :=
  (dRet (Zr X3 (Zc (dVar 0) (Zc (dC (.int 0)) (Zc (dVar 2) dNil)))))
def XA : DS :=
  dSeq (dIf (tV (d2 fEq (dVar 1) (dC (.int 8))))
  (dRet (Zr X3 (Zc (dVar 0) (Zc (dVar 2) (Zc (dC .none) dNil)))))
  Z1)
  Wv
def YW : DS :=
  dSeq (dIf (tV (d2 fEq (dVar 1) (dC (.int 7))))
  (dRet (Zr Wu (Zc (dVar 0) (Zc (dVar 2) dNil))))
  Z1)
  XA
def Yt : DS :=
  dSeq (dIf (tV (d2 fEq (dVar 1) (dC (.int 6))))
  (dRet (Zr X0 (Zc (dVar 0) (Zc (dVar 2) dNil))))
  Z1)
  YW
def Ye : DS :=
  dSeq (dIf (tV (d2 fEq (dVar 1) (dC (.int 5))))
  (dRet (Zr Wi (Zc (dVar 0) (Zc (dVar 2) dNil))))
  Z1)
  Yt
def Z0 : DS :=
  dSeq (dIf (tV (d2 fEq (dVar 1) (dC (.int 4))))
  (dRet (Zr Wt (Zc (dVar 0) (Zc (dVar 2) dNil))))
  Z1)
  Ye
def ZR : DS :=
  dSeq (dIf (tV (d2 fEq (dVar 1) (dC (.int 3))))
  (dRet (Zr f_top (Zc (dVar 0) (Zc (dVar 2) dNil))))
  Z1)
  Z0
def ZJ : DS :=
  dSeq (dIf (tV (d2 fEq (dVar 1) (dC (.int 2))))
  (dRet (Zr Vh (Zc (dVar 0) (Zc (dVar 2) dNil))))
  Z1)
  ZR
def ZD : DS :=
  dSeq (dIf (tV (d2 fEq (dVar 1) (dC (.int 1))))
  (dRet (Zr Qy (Zc (dVar 0) (Zc (dVar 2) dNil))))
  Z1)
  ZJ
def ZN : DS :=
  dSeq (dIf (tV (d2 fEq (dVar 1) (dC (.int 0))))
  (dRet (Zr W6 (Zc (dVar 0) (Zc (dVar 2) dNil))))
  Z1)
  ZD
def Zj : DF := runF 3 3 ZN
def Xs : DS :=
  (dRet (dVar 2))
def Xt : DS :=
  dSeq (Vo 2 [] (d2 fMod (d2 fDiv (dVar 1) (dC (.int 3))) (dVar 0)) (d2 fIx (dLst (Zc (dC (.int 1)) (Zc (dTup (Zc (dC (.int 2)) (Zc (dC (.int 4)) dNil))) (Zc (dTup (Zc (dC (.int 1)) (Zc (dC (.int 0)) dNil))) (Zc (dTup (Zc (dC (.int 1)) (Zc (d1 fNeg (dC (.int 1))) dNil))) (Zc (dC (.str (PySem.Str.ofString "1"))) (Zc (dC .none) (Zc (dTup (Zc (dC (.bool true)) (Zc (dC (.int 1)) dNil))) dNil)))))))) (d2 fMod (d2 fDiv (dVar 1) (dC (.int 9))) (dC (.int 7)))))
  Xs
def YC : DS :=
  dSeq (dIf (tV (d2 fEq (d2 fMod (dVar 1) (dC (.int 3))) (dC (.int 1))))
  (dRet (d2 fAdd (dVar 2) (dLst (Zc (dTup (Zc (dC (.int 1)) (Zc (dC (.int 1)) dNil))) dNil))))
  Z1)
  Xt
def ZV : DS :=
  dSeq (dIf (tV (d2 fEq (d2 fMod (dVar 1) (dC (.int 3))) (dC (.int 0))))
  (dRet (d1 Uz (dVar 2)))
  Z1)
  YC
def Xu : DS :=
  dSeq (Qg 2 [] (X7 1 [1] (YU 0) (iRng (dVar 0)) tT (dTup (Zc (d2 fMod (dVar 1) (dC (.int 5))) (Zc (dC (.int 1)) dNil)))))
  ZV
def Y7 : DS :=
  dSeq (dIf (tV (d2 fEq (dVar 0) (dC (.int 0))))
  (dRet (d2 fIx (dLst (Zc (dTup dNil) (Zc (dC .none) (Zc (dLst (Zc (dTup (Zc (dC (.int 1)) (Zc (dC (.int 1)) dNil))) dNil)) (Zc (dLst (Zc (dTup (Zc (dC (.int 0)) (Zc (dC (.int 1)) dNil))) (Zc (dTup (Zc (dC (.int 0)) (Zc (dC (.int 1)) dNil))) dNil))) (Zc (dC (.str (PySem.Str.ofString "1"))) dNil)))))) (d2 fMod (dVar 1) (dC (.int 5)))))
  Z1)
  Xu
def Zw : DF := runQ 3 2 Y7
def XF : DS :=
  (dRet (dVar 2))
def XG : DS :=
  dSeq (Vo 2 [] (d2 fMod (d2 fDiv (dVar 1) (dC (.int 3))) (dVar 0)) (d2 fIx (dLst (Zc (dC (.bool true)) (Zc (dC (.str (PySem.Str.ofString "1"))) (Zc (dC .none) (Zc (dTup (Zc (dC (.int 1)) (Zc (dC (.int 1)) dNil))) dNil))))) (d2 fMod (d2 fDiv (dVar 1) (dC (.int 9))) (dC (.int 4)))))
  XF
def YN : DS :=
  dSeq (dIf (tV (d2 fEq (d2 fMod (dVar 1) (dC (.int 3))) (dC (.int 1))))
  (dRet (d2 fAdd (dVar 2) (dLst (Zc (dC (.int 1)) dNil))))
  Z1)
  XG
def Z3 : DS :=
  dSeq (dIf (tV (d2 fEq (d2 fMod (dVar 1) (dC (.int 3))) (dC (.int 0))))
  (dRet (d1 Uz (dVar 2)))
  Z1)
  YN
def We : DS :=
  dSeq (Qg 2 [] (X7 1 [1] (YU 0) (iRng (dVar 0)) tT (d2 fMod (dVar 1) (dC (.int 5)))))
  Z3
def Z5 : DF := runQ 3 2 We
def YF : DS :=
  (dRet (dVar 3))
def YG : DS :=
  dSeq (dTryM (X6 (VO Zj (Zc (dVar 0) (Zc (dVar 1) (Zc (dVar 2) dNil))))) [((subs ["BadPoint"]), (subs ["NoPlace", "NoGoal"]),
  (dSet 3 [] (dC (.int 0)))), ((subs ["NoGoal"]), (subs ["NoPlace"]),
  (dSet 3 [] (dC (.int 1)))), ((subs ["NoPlace"]), (subs []),
  (dSet 3 [] (dC (.int 2))))])
  YF
def Xh : DS :=
  dSeq (dSet 3 [] (dC (.int 3)))
  YG
def Z8 : DF := runQ 4 3 Xh
def d_law_10 : DS :=
  (dRet (dC (.bool false)))
def V7 : DS :=
  dSeq (dTryA 7 (X6 (VO Zj (Zc (dVar 2) (Zc (dVar 3) (Zc (dVar 6) dNil))))) (subs ["NoPlace", "BadPoint", "NoGoal"])
  (dRet (d1 fIsX (dVar 7))))
  d_law_10
def Vk : DS :=
  dSeq (dIf (tV (d2 fNe (Zr Z8 (Zc (dVar 2) (Zc (dVar 3) (Zc (dVar 6) dNil)))) (d2 fIx (dLst (Zc (dC (.int 0)) (Zc (dC (.int 0)) (Zc (dC (.int 1)) (Zc (dC (.int 1)) (Zc (dC (.int 2)) (Zc (dC (.int 2)) (Zc (dC (.int 2)) (Zc (dC (.int 2)) (Zc (dC (.int 2)) (Zc (dC (.int 0)) dNil))))))))))) (dVar 3))))
  (dRet (dC (.bool false)))
  Z1)
  V7
def Y9 : DS :=
  dSeq (dIf (tV (d2 fLt (dVar 3) (dC (.int 2))))
  (dSet 6 [] (Zr Zw (Zc (d2 fIx (dVar 1) (dC (.int 0))) (Zc (dVar 4) dNil))))
  (dIf (tV (d2 fLt (dVar 3) (dC (.int 4))))
  (dSet 6 [] (Zr Z5 (Zc (d2 fIx (dVar 1) (dC (.int 0))) (Zc (dVar 4) dNil))))
  (dIf (tV (d2 fEq (dVar 3) (dC (.int 9))))
  (dSet 6 [] (Zr Zw (Zc (d2 fSub (d2 fIx (dVar 1) (dC (.int 0))) (dC (.int 1))) (Zc (dVar 4) dNil))))
  Z1)))
  Vk
def Xa : DS :=
  dSeq (dSet 6 [] (d2 fIx (dLst (Zc (d1 fNeg (dC (.int 1))) (Zc (dVar 5) (Zc (dC (.bool true)) (Zc (dC (.str (PySem.Str.ofString "0"))) (Zc (dC .none) (Zc (d2 fAdd (dVar 5) (d2 fMod (dVar 4) (d2 fPow (dC (.int 10)) (dC (.int 9))))) (Zc (d2 fSub (d1 fNeg (dC (.int 1))) (d2 fMod (dVar 4) (d2 fPow (dC (.int 10)) (dC (.int 9))))) dNil)))))))) (d2 fMod (dVar 4) (dC (.int 7)))))
  Y9
def Xb : DS :=
  dSeq (dIf (tOr (tV (d2 fEq (dVar 3) (dC (.int 5)))) (tV (d2 fEq (dVar 3) (dC (.int 6)))))
  (dSet 5 [] (d1 fLen (d2 fIx (dVar 1) (dC (.int 1)))))
  Z1)
  Xa
def YO : DS :=
  dSeq (dSet 5 [] (d2 fIx (dVar 1) (dC (.int 0))))
  Xb
def JO : DS :=
  dSeq (dSet 4 [] (Zr Zi (Zc (dVar 0) (Zc (dC (.int 6)) dNil))))
  YO
def JP : DS :=
  dSeq (dSet 3 [] (d2 fMod (Zr Zi (Zc (dVar 0) (Zc (dC (.int 5)) dNil))) (dC (.int 10))))
  JO
def JQ : DS :=
  dSeq (dSet 2 [] (Zr XL (Zc (d2 fIx (dVar 1) (dC (.int 0))) (Zc (Zr YI (Zc (d2 fIx (dVar 1) (dC (.int 1))) dNil)) dNil))))
  JP
def d_law : DS :=
  dSeq (dSet 1 [] (Zr Y4 (Zc (dVar 0) dNil)))
  JQ
def QZ : DF := runQ 8 1 d_law
end K21
namespace K21
open PySem Fx Lx
open Lw
theorem comp_b (f : DF) : ∀ (xs : List PyData), (∀ x ∈ xs, ∃ b, f [x] = .ok (.bool b)) -> ∃ (ys : List PyData) (b : Bool), Yv (YU 0) tT (Zr f (Zc (dVar 0) dNil)) [.emp] xs = .ok ys /\ allT ys = .ok b /\ (b = true -> ∀ x ∈ xs, f [x] = .ok (.bool true))
 | [], _ => ⟨[], true, rfl, rfl, fun _ x hx => by cases hx⟩
 | x :: xs, h => by
  obtain ⟨b, e⟩ := h x List.mem_cons_self
  obtain ⟨ys, c, e1, e2, e3⟩ := comp_b f xs fun x hx => h x (List.mem_cons_of_mem _ hx)
  refine ⟨.bool b :: ys, b && c, ?_, by simp [allT, e2], fun z y hy => ?_⟩
  ·unfold Yv
   simp [e, e1]
  ·rw [Bool.and_eq_true] at z
   rcases List.mem_cons.mp hy with rfl | hy
   ·rw [e, z.1]
   ·exact e3 z.2 y hy
theorem J2 (f : DF) {xs : List PyData} (h : ∀ x ∈ xs, ∃ b, f [x] = .ok (.bool b)) (hx : ∃ x ∈ xs, f [x] = .ok (.bool false)) : ∃ ys : List PyData, Yv (YU 0) tT (Zr f (Zc (dVar 0) dNil)) [.emp] xs = .ok ys /\ allT ys = .ok false := by
 obtain ⟨ys, b, e1, e2, e3⟩ := comp_b f xs h
 cases b with
 | false => exact ⟨ys, e1, e2⟩
 | true =>
  obtain ⟨x, hm, e⟩ := hx
  rw [e3 rfl x hm] at e
  cases e
theorem Jl {k : Nat} {xs : List PyData} (hl : xs.length = k) (hk : k <= 1000) (h : ∀ x ∈ xs, ∃ b, Zo [x] = .ok (.bool b)) (hx : ∃ x ∈ xs, Zo [x] = .ok (.bool false)) : Zn [.int k, .list xs] = .exc "BadPoint" := by
 obtain ⟨ys, e1, e2⟩ := J2 Zo h hx
 have hl2 : k <= 16777216 := by omega
 simp [Zn, YX, XR, runF, hl, Xz, e1, e2, hl2]
theorem UV {k : Nat} {xs : List PyData} (hl : xs.length ≠ k) : Zn [.int k, .list xs] = .exc "BadPoint" := by
 have h : ¬ ((xs.length : Int) = (k : Int)) := by omega
 simp [Zn, YX, runF, Xz, h]
theorem VV {k : Int} {t : PyData} (h : fIs isList t = .ok (.bool false)) : Zn [.int k, t] = .exc "BadPoint" := by
 simp [Zn, YX, runF, h, -fIs]
theorem U4 {k : Nat} {xs : List PyData} (hl : xs.length = k) (hk : k <= 1000) (h : ∀ x ∈ xs, ∃ b, Zq [x] = .ok (.bool b)) (hx : ∃ x ∈ xs, Zq [x] = .ok (.bool false)) : Zz [.int k, .list xs] = .exc "NoGoal" := by
 obtain ⟨ys, e1, e2⟩ := J2 Zq h hx
 have hl2 : k <= 16777216 := by omega
 simp [Zz, Xi, Wf, runF, hl, Xz, e1, e2, hl2]
theorem JF {k : Nat} {xs : List PyData} (hl : xs.length ≠ k) : Zz [.int k, .list xs] = .exc "NoGoal" := by
 have h : ¬ ((xs.length : Int) = (k : Int)) := by omega
 simp [Zz, Xi, runF, Xz, h]
theorem JG {k : Int} {t : PyData} (h : fIs isList t = .ok (.bool false)) : Zz [.int k, t] = .exc "NoGoal" := by
 simp [Zz, Xi, runF, h, -fIs]
theorem Zx (i j : Int) : fEq (.int i) (.int j) = .ok (.bool (decide (i = j))) := by simp [fEq]
theorem div3 : U7 3 = true := by decide
theorem div9 : U7 9 = true := by decide
theorem Uf {t : PyData} {xs : List PyData} {p : Nat} (h : p < xs.length) : Wm 2 [.val a, .val b, .own xs] t (.int p) = .ok (.nx [.val a, .val b, .own (xs.set p t)]) := by
 have : ixP xs.length (p : Int) = some p := by
  unfold ixP
  rw [if_pos (by omega), if_pos (by omega)]
  simp
 simp [Wm, this]
theorem WI (k : Nat) (hk : k <= 4) (c : Int) : ∃ t : PyData, Zw [.int k, .int c] = .ok t /\ Zn [.int k, t] = .exc "BadPoint" := by
 by_cases h0 : k = 0
 ·subst h0
  obtain ⟨r, m, hr⟩ : ∃ r : Nat, Int.fmod c 5 = (r : Int) /\ r < 5 := Yx (n := 5) (by decide)
  have q := Zx ((0 : Nat) : Int) 0
  have top : ∀ t : PyData, atP [.tuple [], .none, .list [.tuple [.int 1, .int 1]], .list [.tuple [.int 0, .int 1], .tuple [.int 0, .int 1]], .str "1"] (r : Int) = some t -> Zw [.int (0 : Nat), .int c] = .ok t := fun t ht => by
   simp [Zw, Y7, runQ, runF, fEq, m, ht]
  rcases (show r = 0 \/ r = 1 \/ r = 2 \/ r = 3 \/ r = 4 by omega) with rfl | rfl | rfl | rfl | rfl
  ·exact ⟨_, top _ rfl, VV rfl⟩
  ·exact ⟨_, top _ rfl, VV rfl⟩
  ·exact ⟨_, top _ rfl, UV (by decide)⟩
  ·exact ⟨_, top _ rfl, UV (by decide)⟩
  ·exact ⟨_, top _ rfl, VV rfl⟩
 ·obtain ⟨r5, m5, h5⟩ : ∃ r : Nat, Int.fmod c 5 = (r : Int) /\ r < 5 := Yx (n := 5) (by decide)
  obtain ⟨r3, m3, h3⟩ : ∃ r : Nat, Int.fmod c 3 = (r : Int) /\ r < 3 := Yx (n := 3) (by decide)
  obtain ⟨p, mp, hp⟩ := Yx (c := Int.fdiv c 3) (n := k) (by omega)
  obtain ⟨r7, m7, h7⟩ : ∃ r : Nat, Int.fmod (Int.fdiv c 9) 7 = (r : Int) /\ r < 7 := Yx (n := 7) (by decide)
  have z0 : ¬ ((k : Int) = 0) := by omega
  have e := X4 (st := YU 0) (e := (dTup (Zc (d2 fMod (dVar 1) (dC (.int 5))) (Zc (dC (.int 1)) dNil)))) (C := [.emp, .val (.int c)]) (fun t : Nat => PyData.int (t : Int)) (fun _ => fr ((r5 : Int) : Rat)) (List.range k) fun t ht => ⟨[.val (.int (t : Int)), .val (.int c)], rfl, by simp [m5]; exact fr_int _⟩
  rw [<- VU] at e
  have hr := Wo (n := k) (by omega)
  have hl2 : (rngT 0 k).length <= 16777216 := by rw [W3]; omega
  have er : ((List.range k).map fun _ => fr ((r5 : Int) : Rat)) = List.replicate k (fr ((r5 : Int) : Rat)) := by rw [List.map_const', List.length_range]
  rw [er] at e
  have top : ∀ t : PyData, ZV [.val (.int k), .val (.int c), .own (List.replicate k (fr ((r5 : Int) : Rat)))] = .ok (.rt t) -> Zw [.int k, .int c] = .ok t := fun t ht => by
   simp [Zw, Y7, Xu, runQ, runF, Zx, h0, hr, hl2, e, ht]
  rcases (show r3 = 0 \/ r3 = 1 \/ r3 = 2 by omega) with rfl | rfl | rfl
  ·exact ⟨.tuple (List.replicate k (fr ((r5 : Int) : Rat))), top _ (by simp [ZV, m3, Zx]), VV rfl⟩
  ·have hs : k + 1 <= 16777216 := by omega
   have hs2 : k <= 16777215 := by omega
   exact ⟨.list (List.replicate k (fr ((r5 : Int) : Rat)) ++ [.tuple [.int 1, .int 1]]), top _ (by simp [ZV, YC, m3, Zx, hs2]), UV (by simp)⟩
  ·obtain ⟨u, eu, hu⟩ : ∃ u, atP [.int 1, .tuple [.int 2, .int 4], .tuple [.int 1, .int 0], .tuple [.int 1, .int (-1)], .str "1", .none, .tuple [.bool true, .int 1]] (r7 : Int) = some u /\ Zo [u] = .ok (.bool false) := by
    have g1 : Int.gcd 2 4 = 2 := by decide
    rcases (show r7 = 0 \/ r7 = 1 \/ r7 = 2 \/ r7 = 3 \/ r7 = 4 \/ r7 = 5 \/ r7 = 6 by omega) with rfl | rfl | rfl | rfl | rfl | rfl | rfl
    ·exact ⟨_, rfl, by simp [Zo, ZK, runQ, runF]⟩
    ·exact ⟨_, rfl, by simp [Zo, ZK, ZW, Z9, runQ, runF, at0, at1, Xz, Yg, cd_ok, Zx, g1]⟩
    ·exact ⟨_, rfl, by simp [Zo, ZK, ZW, Z9, runQ, runF, at0, at1, Xz, Yg]⟩
    ·exact ⟨_, rfl, by simp [Zo, ZK, ZW, Z9, runQ, runF, at0, at1, Xz, Yg]⟩
    ·exact ⟨_, rfl, by simp [Zo, ZK, runQ, runF]⟩
    ·exact ⟨_, rfl, by simp [Zo, ZK, runQ, runF]⟩
    ·have w := YT (.bool true) rfl
     exact ⟨_, rfl, by simp [Zo, ZK, ZW, runQ, runF, at0, at1, Xz, w]⟩
   have hpl : p < (List.replicate k (fr ((r5 : Int) : Rat))).length := by simpa using hp
   have es := Uf (a := .int k) (b := .int c) (t := u) hpl
   refine ⟨.list ((List.replicate k (fr ((r5 : Int) : Rat))).set p u), top _ ?_, Jl (by simp) (by omega) (fun x hx => ?_) ⟨u, ?_, hu⟩⟩
   ·generalize List.replicate k (fr ((r5 : Int) : Rat)) = ls at *
    simp [ZV, YC, Xt, Xs, m3, Zx, div3, div9, mp, m7, eu, h0, es, -Wm]
   ·rcases List.mem_or_eq_of_mem_set hx with hx | rfl
    ·exact ⟨true, by rw [List.eq_of_mem_replicate hx]; exact JB _⟩
    ·exact ⟨false, hu⟩
   ·exact List.mem_set hpl u
theorem U1 (k : Nat) (h1 : 1 <= k) (hk : k <= 4) (c : Int) : ∃ t : PyData, Z5 [.int k, .int c] = .ok t /\ Zz [.int k, t] = .exc "NoGoal" := by
 obtain ⟨r5, m5, h5⟩ : ∃ r : Nat, Int.fmod c 5 = (r : Int) /\ r < 5 := Yx (n := 5) (by decide)
 obtain ⟨r3, m3, h3⟩ : ∃ r : Nat, Int.fmod c 3 = (r : Int) /\ r < 3 := Yx (n := 3) (by decide)
 obtain ⟨p, mp, hp⟩ := Yx (c := Int.fdiv c 3) (n := k) (by omega)
 obtain ⟨r7, m7, h7⟩ : ∃ r : Nat, Int.fmod (Int.fdiv c 9) 4 = (r : Int) /\ r < 4 := Yx (n := 4) (by decide)
 have z0 : ¬ ((k : Int) = 0) := by omega
 have h0 : ¬ k = 0 := by omega
 have e := X4 (st := YU 0) (e := (d2 fMod (dVar 1) (dC (.int 5)))) (C := [.emp, .val (.int c)]) (fun t : Nat => PyData.int (t : Int)) (fun _ => PyData.int r5) (List.range k) fun t ht => ⟨[.val (.int (t : Int)), .val (.int c)], rfl, by simp [m5]⟩
 rw [<- VU] at e
 have hr := Wo (n := k) (by omega)
 have hl2 : (rngT 0 k).length <= 16777216 := by rw [W3]; omega
 have er : ((List.range k).map fun _ => PyData.int r5) = List.replicate k (PyData.int r5) := by rw [List.map_const', List.length_range]
 rw [er] at e
 have top : ∀ t : PyData, Z3 [.val (.int k), .val (.int c), .own (List.replicate k (PyData.int r5))] = .ok (.rt t) -> Z5 [.int k, .int c] = .ok t := fun t ht => by
  simp [Z5, We, runQ, runF, hr, hl2, e, ht]
 rcases (show r3 = 0 \/ r3 = 1 \/ r3 = 2 by omega) with rfl | rfl | rfl
 ·exact ⟨.tuple (List.replicate k (PyData.int r5)), top _ (by simp [Z3, m3, Zx]), JG rfl⟩
 ·have hs2 : k <= 16777215 := by omega
  exact ⟨.list (List.replicate k (PyData.int r5) ++ [.int 1]), top _ (by simp [Z3, YN, m3, Zx, hs2]), JF (by simp)⟩
 ·obtain ⟨u, eu, hu⟩ : ∃ u, atP [.bool true, .str "1", .none, .tuple [.int 1, .int 1]] (r7 : Int) = some u /\ Zq [u] = .ok (.bool false) := by
   rcases (show r7 = 0 \/ r7 = 1 \/ r7 = 2 \/ r7 = 3 by omega) with rfl | rfl | rfl | rfl
   ·exact ⟨_, rfl, YT _ rfl⟩
   ·exact ⟨_, rfl, YT _ rfl⟩
   ·exact ⟨_, rfl, YT _ rfl⟩
   ·exact ⟨_, rfl, YT _ rfl⟩
  have hpl : p < (List.replicate k (PyData.int r5)).length := by simpa using hp
  have es := Uf (a := .int k) (b := .int c) (t := u) hpl
  refine ⟨.list ((List.replicate k (PyData.int r5)).set p u), top _ ?_, U4 (by simp) (by omega) (fun x hx => ?_) ⟨u, ?_, hu⟩⟩
  ·generalize List.replicate k (PyData.int r5) = ls at *
   simp [Z3, YN, XG, XF, m3, Zx, div3, div9, mp, m7, eu, h0, es, -Wm]
  ·rcases List.mem_or_eq_of_mem_set hx with hx | rfl
   ·exact ⟨true, by rw [List.eq_of_mem_replicate hx]; exact Yg _⟩
   ·exact ⟨false, hu⟩
  ·exact List.mem_set hpl u
theorem WA {n : Int} {t : PyData} (h : Zq [t] = .ok (.bool false)) : Zh [.int n, t] = .exc "NoPlace" := by
 simp [Zh, Yu, runF, h]
theorem Vc {n i : Int} (h : i < 0) : Zh [.int n, .int i] = .exc "NoPlace" := by
 simp [Zh, Yu, runF, Yg, h]
theorem VD {n i : Int} (h : n <= i) : Zh [.int n, .int i] = .exc "NoPlace" := by
 by_cases h0 : i < 0
 ·exact Vc h0
 ·simp [Zh, Yu, runF, Yg, h0, h]
theorem p9 : (10 : Int) ^ 9 = 1000000000 := by decide
theorem WJ (n : Nat) (c : Int) : ∃ t : PyData, (dLst (Zc (d1 fNeg (dC (.int 1))) (Zc (dC (.int n)) (Zc (dC (.bool true)) (Zc (dC (.str (PySem.Str.ofString "0"))) (Zc (dC .none) (Zc (d2 fAdd (dC (.int n)) (d2 fMod (dC (.int c)) (d2 fPow (dC (.int 10)) (dC (.int 9))))) (Zc (d2 fSub (d1 fNeg (dC (.int 1))) (d2 fMod (dC (.int c)) (d2 fPow (dC (.int 10)) (dC (.int 9))))) dNil)))))))) [] = .ok (.list [.int (-1), .int n, .bool true, .str "0", .none, .int (n + Int.fmod c 1000000000), .int (-1 - Int.fmod c 1000000000)]) /\
  atP [.int (-1), .int n, .bool true, .str "0", .none, .int (n + Int.fmod c 1000000000), .int (-1 - Int.fmod c 1000000000)] (Int.fmod c 7) = some t /\ Zh [.int n, t] = .exc "NoPlace" := by
 obtain ⟨m, em, hm⟩ : ∃ r : Nat, Int.fmod c 1000000000 = (r : Int) /\ r < 1000000000 := Yx (n := 1000000000) (by decide)
 obtain ⟨r7, m7, h7⟩ : ∃ r : Nat, Int.fmod c 7 = (r : Int) /\ r < 7 := Yx (n := 7) (by decide)
 rw [m7]
 have h1 : (dLst (Zc (d1 fNeg (dC (.int 1))) (Zc (dC (.int n)) (Zc (dC (.bool true)) (Zc (dC (.str (PySem.Str.ofString "0"))) (Zc (dC .none) (Zc (d2 fAdd (dC (.int n)) (d2 fMod (dC (.int c)) (d2 fPow (dC (.int 10)) (dC (.int 9))))) (Zc (d2 fSub (d1 fNeg (dC (.int 1))) (d2 fMod (dC (.int c)) (d2 fPow (dC (.int 10)) (dC (.int 9))))) dNil)))))))) [] = .ok (.list [.int (-1), .int n, .bool true, .str "0", .none, .int (n + Int.fmod c 1000000000), .int (-1 - Int.fmod c 1000000000)]) := by
  simp [p9]
 rw [em] at h1 ⊢
 rcases (show r7 = 0 \/ r7 = 1 \/ r7 = 2 \/ r7 = 3 \/ r7 = 4 \/ r7 = 5 \/ r7 = 6 by omega) with rfl | rfl | rfl | rfl | rfl | rfl | rfl
 ·exact ⟨_, h1, rfl, Vc (by omega)⟩
 ·exact ⟨_, h1, rfl, VD (by omega)⟩
 ·exact ⟨_, h1, rfl, WA (YT _ rfl)⟩
 ·exact ⟨_, h1, rfl, WA (YT _ rfl)⟩
 ·exact ⟨_, h1, rfl, WA (YT _ rfl)⟩
 ·exact ⟨_, h1, rfl, VD (by omega)⟩
 ·exact ⟨_, h1, rfl, Vc (by omega)⟩
section
variable {K : Nat} {ls : List Lim} {t : PyData}
theorem a0 (h : Zn [.int K, t] = .exc "BadPoint") : Zj [WZ K ls, .int 0, t] = .exc "BadPoint" := by
 simp [Zj, ZN, runF, Zx, W6, QC, at0, h]
theorem a1 (h : Zn [.int K, t] = .exc "BadPoint") : Zj [WZ K ls, .int 1, t] = .exc "BadPoint" := by
 simp [Zj, ZN, ZD, runF, Zx, Qy, d_just, at0, h]
theorem a2 (h : Zz [.int K, t] = .exc "NoGoal") : Zj [WZ K ls, .int 2, t] = .exc "NoGoal" := by
 simp [Zj, ZN, ZD, ZJ, runF, Zx, Vh, JX, at0, h]
theorem a3 (h : Zz [.int K, t] = .exc "NoGoal") : Zj [WZ K ls, .int 3, t] = .exc "NoGoal" := by
 simp [Zj, ZN, ZD, ZJ, ZR, runF, Zx, f_top, d_top, Vh, JX, at0, h]
theorem a4 (h : Zh [.int K, t] = .exc "NoPlace") : Zj [WZ K ls, .int 4, t] = .exc "NoPlace" := by
 simp [Zj, ZN, ZD, ZJ, ZR, Z0, runF, Zx, Wt, UC, at0, h]
theorem a5 (h : Zh [.int ls.length, t] = .exc "NoPlace") : Zj [WZ K ls, .int 5, t] = .exc "NoPlace" := by
 simp [Zj, ZN, ZD, ZJ, ZR, Z0, Ye, runF, Zx, Wi, Qf, at1, h]
theorem a6 (h : Zh [.int ls.length, t] = .exc "NoPlace") : Zj [WZ K ls, .int 6, t] = .exc "NoPlace" := by
 simp [Zj, ZN, ZD, ZJ, ZR, Z0, Ye, Yt, runF, Zx, X0, VI, Wi, Qf, at1, h]
theorem a7 (h : Zh [.int K, t] = .exc "NoPlace") : Zj [WZ K ls, .int 7, t] = .exc "NoPlace" := by
 simp [Zj, ZN, ZD, ZJ, ZR, Z0, Ye, Yt, YW, runF, Zx, Wu, UD, at0, h]
theorem a8 (h : Zh [.int K, t] = .exc "NoPlace") : Zj [WZ K ls, .int 8, t] = .exc "NoPlace" := by
 simp [Zj, ZN, ZD, ZJ, ZR, Z0, Ye, Yt, YW, XA, runF, Zx, X3, V8, at0, h]
theorem a9 (hK : 1 <= K) (h : Zn [.int ((K : Int) - 1), t] = .exc "BadPoint") : Zj [WZ K ls, .int 9, t] = .exc "BadPoint" := by
 have e := Vy (n := K) (i := 0) (by omega)
 rw [show ((0 : Nat) : Int) = 0 from rfl] at e
 simp [Zj, ZN, ZD, ZJ, ZR, Z0, Ye, Yt, YW, XA, Wv, runF, Zx, X3, V8, VN, at0, e, h]
end
theorem s_bb : subs ["BadPoint"] ("BadPoint" : Str) = true := by decide +kernel
theorem s_bg : subs ["BadPoint"] ("NoGoal" : Str) = false := by decide +kernel
theorem s_bp : subs ["BadPoint"] ("NoPlace" : Str) = false := by decide +kernel
theorem s_gg : subs ["NoGoal"] ("NoGoal" : Str) = true := by decide +kernel
theorem s_gp : subs ["NoGoal"] ("NoPlace" : Str) = false := by decide +kernel
theorem s_pp : subs ["NoPlace"] ("NoPlace" : Str) = true := by decide +kernel
theorem s_1g : subs ["NoPlace", "NoGoal"] ("NoGoal" : Str) = true := by decide +kernel
theorem s_1p : subs ["NoPlace", "NoGoal"] ("NoPlace" : Str) = true := by decide +kernel
theorem s_3b : subs ["NoPlace", "BadPoint", "NoGoal"] ("BadPoint" : Str) = true := by decide +kernel
theorem s_3g : subs ["NoPlace", "BadPoint", "NoGoal"] ("NoGoal" : Str) = true := by decide +kernel
theorem s_3p : subs ["NoPlace", "BadPoint", "NoGoal"] ("NoPlace" : Str) = true := by decide +kernel
inductive Cls3 : Str -> Int -> Prop
 | b : Cls3 "BadPoint" 0
 | g : Cls3 "NoGoal" 1
 | p : Cls3 "NoPlace" 2
theorem zaa {D w t : PyData} {c : Str} {n : Int} (hc : Cls3 c n) (e : Zj [D, w, t] = .exc c) : Z8 [D, w, t] = .ok (.int n) := by
 cases hc with
 | b => simp [Z8, Xh, YG, YF, runQ, runF, e, s_bb, -subs]
 | g => simp [Z8, Xh, YG, YF, runQ, runF, e, s_bg, s_1g, s_gg, -subs]
 | p => simp [Z8, Xh, YG, YF, runQ, runF, e, s_bp, s_1p, s_gp, s_pp, -subs]
theorem Xj {a b s4 s5 D t : PyData} {w : Int} {c : Str} {n : Int} (hc : Cls3 c n) (e : Zj [D, .int w, t] = .exc c) (hn : atP [.int 0, .int 0, .int 1, .int 1, .int 2, .int 2, .int 2, .int 2, .int 2, .int 0] w = some (.int n)) :
  Vk [.val a, .val b, .val D, .val (.int w), .val s4, .val s5, .val t, .emp] = .ok (.rt (.bool true)) := by
 have q := zaa hc e
 have n1 := Xz n n
 cases hc with
 | b => simp [Vk, V7, q, hn, n1, e, s_3b, -subs]
 | g => simp [Vk, V7, q, hn, n1, e, s_3g, -subs]
 | p => simp [Vk, V7, q, hn, n1, e, s_3p, -subs]
theorem law_ok (ns : List Int) (_hl : ns.length <= 63) : QZ [.list (ns.map .int)] = .ok (.bool true) := by
 obtain ⟨k, w, ls, h, e1⟩ := desk_ok ns
 have hlen := h.len
 have k4 := h.k4
 have k1 := h.k1
 have e2 := J0 ls (by omega)
 have e3 := Q0 (fun l hl => (⟨(h.ws l hl).1, (h.ws l hl).2.1, (h.ws l hl).2.2⟩ : LimOk k w l)) h.wb ⟨h.k1, h.k4⟩ h.len
 obtain ⟨c5, e5⟩ := XB ns 5 (by omega)
 obtain ⟨c6, e6⟩ := XB ns 6 (by omega)
 obtain ⟨wh, mw, hw⟩ : ∃ r : Nat, Int.fmod c5 10 = (r : Int) /\ r < 10 := Yx (n := 10) (by decide)
 have top : ∀ t : PyData, YO [.val (.list (ns.map .int)), .val (.tuple [.int k, .list (ls.map limL)]), .val (WZ k ls), .val (.int wh), .val (.int c6), .emp, .emp, .emp] = .ok (.rt t) -> QZ [.list (ns.map .int)] = .ok t := fun t ht => by
  simp only [WZ] at ht
  simp [QZ, d_law, JQ, JP, JO, runQ, runF, e1, at0, at1, e2, e3, e5, e6, mw, ht]
 refine top _ ?_
 obtain ⟨p1, y1, y2, y3⟩ := WJ k c6
 obtain ⟨p2, z1, z2, z3⟩ := WJ ls.length c6
 obtain ⟨g1, g2, g3⟩ := U1 k k1 k4 c6
 obtain ⟨q1, q2, q3⟩ := WI k k4 c6
 obtain ⟨o1, o2, o3⟩ := WI (k - 1) (by omega) c6
 rw [show ((k - 1 : Nat) : Int) = (k : Int) - 1 by omega] at o2 o3
 have D := fun (D0 : PyData) => D0
 rcases (show wh = 0 \/ wh = 1 \/ wh = 2 \/ wh = 3 \/ wh = 4 \/ wh = 5 \/ wh = 6 \/ wh = 7 \/ wh = 8 \/ wh = 9 by omega) with rfl | rfl | rfl | rfl | rfl | rfl | rfl | rfl | rfl | rfl
 ·have t := Xj (a := .list (ns.map .int)) (b := .tuple [.int k, .list (ls.map limL)]) (s4 := .int c6) (s5 := .int k) .b (a0 (ls := ls) q3) rfl
  simp [YO, Xb, Xa, Y9, at0, at1, Zx, p9, y2, q2, t]
 ·have t := Xj (a := .list (ns.map .int)) (b := .tuple [.int k, .list (ls.map limL)]) (s4 := .int c6) (s5 := .int k) .b (a1 (ls := ls) q3) rfl
  simp [YO, Xb, Xa, Y9, at0, at1, Zx, p9, y2, q2, t]
 ·have t := Xj (a := .list (ns.map .int)) (b := .tuple [.int k, .list (ls.map limL)]) (s4 := .int c6) (s5 := .int k) .g (a2 (ls := ls) g3) rfl
  simp [YO, Xb, Xa, Y9, at0, at1, Zx, p9, y2, g2, t]
 ·have t := Xj (a := .list (ns.map .int)) (b := .tuple [.int k, .list (ls.map limL)]) (s4 := .int c6) (s5 := .int k) .g (a3 (ls := ls) g3) rfl
  simp [YO, Xb, Xa, Y9, at0, at1, Zx, p9, y2, g2, t]
 ·have t := Xj (a := .list (ns.map .int)) (b := .tuple [.int k, .list (ls.map limL)]) (s4 := .int c6) (s5 := .int k) .p (a4 (ls := ls) y3) rfl
  simp [YO, Xb, Xa, Y9, at0, at1, Zx, p9, y2, t]
 ·have t := Xj (a := .list (ns.map .int)) (b := .tuple [.int k, .list (ls.map limL)]) (s4 := .int c6) (s5 := .int ls.length) .p (a5 (K := k) z3) rfl
  simp [YO, Xb, Xa, Y9, at0, at1, Zx, p9, z2, t]
 ·have t := Xj (a := .list (ns.map .int)) (b := .tuple [.int k, .list (ls.map limL)]) (s4 := .int c6) (s5 := .int ls.length) .p (a6 (K := k) z3) rfl
  simp [YO, Xb, Xa, Y9, at0, at1, Zx, p9, z2, t]
 ·have t := Xj (a := .list (ns.map .int)) (b := .tuple [.int k, .list (ls.map limL)]) (s4 := .int c6) (s5 := .int k) .p (a7 (ls := ls) y3) rfl
  simp [YO, Xb, Xa, Y9, at0, at1, Zx, p9, y2, t]
 ·have t := Xj (a := .list (ns.map .int)) (b := .tuple [.int k, .list (ls.map limL)]) (s4 := .int c6) (s5 := .int k) .p (a8 (ls := ls) y3) rfl
  simp [YO, Xb, Xa, Y9, at0, at1, Zx, p9, y2, t]
 ·have t := Xj (a := .list (ns.map .int)) (b := .tuple [.int k, .list (ls.map limL)]) (s4 := .int c6) (s5 := .int k) .b (a9 (ls := ls) k1 o3) rfl
  simp [YO, Xb, Xa, Y9, at0, at1, Zx, p9, y2, o2, t]
end K21
namespace K21
open PySem PySem.Spec PyProof.Rows L2 Fx Lx
open Lw
variable {P : Program} {w : World} {K : PySem.W.Frag} {mg : Str -> Option Value} {base : Heap} {k : Nat} {fa : Addr} {fd : FuncData}
set_option maxHeartbeats 0
def top (i : Nat) : Stmt := PySem.Challenge.pw_limitdesk_k21_arguments_refused.main.body.getD i (.Pass ⟨0, 0, 0, 0⟩)
abbrev Y2 : Stmt := top 8
theorem US : FnScope ["value"] ["value"] (Ze Y2) := ⟨rfl, rfl, rfl, by decide +kernel, rfl, by decide +kernel, by decide +kernel⟩
theorem U0 (F : Fun K "is_whole" "is_whole" Y2 fa fd) (hm : mg "is_whole" = some (.ref fa)) (b : Z6 K fd ["value"] []) (z_isinstance : mg "isinstance" = none) (z_int : mg "int" = none) (z_bool : mg "bool" = none) :
  Fx.Cle P w K mg base (k + 1) "is_whole" 1 Zq := by
 exact XT F hm b US rfl rfl fun cdv A outer s H E hr =>
  (Zk (ZB (JK (YJ Fx.kit_int (show bootBuiltins "int" = some (.type "int") by decide +kernel) rfl z_isinstance rfl z_int (Zb 0)) (JI (Fx.ev_not (YJ Fx.kit_bool (show bootBuiltins "bool" = some (.type "bool") by decide +kernel) rfl z_isinstance rfl z_bool (Zb 0)))))))
abbrev ZP : Stmt := top 9
theorem ZL : FnScope ["a", "b", "rest"] ["a", "b"] (Ze ZP) := ⟨rfl, rfl, rfl, by decide +kernel, rfl, by decide +kernel, by decide +kernel⟩
theorem WC (F : Fun K "common_divisor" "common_divisor" ZP fa fd) (hm : mg "common_divisor" = some (.ref fa)) (b : Z6 K fd ["a", "b"] []) (z_abs : mg "abs" = none) :
  Fx.Cle P w K mg base (k + 1) "common_divisor" 2 Yj := by
 exact XT F hm b ZL rfl rfl fun cdv A outer s H E hr =>
  (Zf (ZG (i := 0) ZL.nd rfl (Or.inl rfl) (QA rfl z_abs (Zb 0)))
  (Zf (ZG (i := 1) ZL.nd rfl (Or.inl rfl) (QA rfl z_abs (Zb 1)))
  (Zf (Fx.ss_while PassesOwn.never (ZA (WH hr.units) (Zb 1) Zd (Zu _))
  (Zf (ZG (i := 2) ZL.nd rfl (Or.inl rfl) (ZF ZH (Zb 0) (Zb 1)))
  (Zf (ZG (i := 0) ZL.nd rfl (Or.inl rfl) (Zb 1))
  (Zk (ZG (i := 1) ZL.nd rfl (Or.inl rfl) (Zb 2))))))
  (Zk (ZB (Zb 0))))))
abbrev Yb : Stmt := top 10
theorem Vr : FnScope ["value"] ["value"] (Ze Yb) := ⟨rfl, rfl, rfl, by decide +kernel, rfl, by decide +kernel, by decide +kernel⟩
theorem Vv (F : Fun K "is_fraction" "is_fraction" Yb fa fd) (hm : mg "is_fraction" = some (.ref fa)) (b : Z6 K fd ["value"] []) (z_isinstance : mg "isinstance" = none) (z_tuple : mg "tuple" = none) (z_len : mg "len" = none) (C_is_whole : Fx.Cle P w K mg base k "is_whole" 1 Zq) (C_common_divisor : Fx.Cle P w K mg base k "common_divisor" 2 Yj) :
  Fx.Cle P w K mg base (k + 1) "is_fraction" 1 Zo := by
 exact XT F hm b Vr rfl rfl fun cdv A outer s H E hr =>
  (Zf (Z2 (Fx.tv_w (WW (Xf (Xe (YJ Uv (show bootBuiltins "tuple" = some (.type "tuple") by decide +kernel) rfl z_isinstance rfl z_tuple (Zb 0)) (fun _ => rfl))) (Wb (ZA (WH hr.units) (Wd rfl z_len (Zb 0)) Zd (Zu _)))))
  (Zk (ZB U6))
  ZC)
  (Zf (Z2 (Fx.tv_w (WW (Xf (Xe (Zl (Fx.Cle.cal C_is_whole) hr rfl (Za (Yf (Zb 0) Zd (fun _ _ => rfl)) Zg)) (fun _ => rfl))) (Wb (Xf (Xe (Zl (Fx.Cle.cal C_is_whole) hr rfl (Za (Yf (Zb 0) Zd (fun _ _ => rfl)) Zg)) (fun _ => rfl))))))
  (Zk (ZB U6))
  ZC)
  (Zk (ZB (JK (Qz Fx.op_geF (Yf (Zb 0) Zd (fun _ _ => rfl)) Zd (Zu _)) (JI (Qz (Yh hr.units) (Zl (Fx.Cle.cal C_common_divisor) hr rfl (Za (Yf (Zb 0) Zd (fun _ _ => rfl)) (Za (Yf (Zb 0) Zd (fun _ _ => rfl)) Zg))) Zd (Zu _))))))))
abbrev YA : Stmt := top 22
theorem Uj : FnScope ["value"] ["value"] (Ze YA) := ⟨rfl, rfl, rfl, by decide +kernel, rfl, by decide +kernel, by decide +kernel⟩
theorem Uq (F : Fun K "is_number" "is_number" YA fa fd) (hm : mg "is_number" = some (.ref fa)) (b : Z6 K fd ["value"] []) (z_abs : mg "abs" = none) (g_GREATEST_NUMBER : ∃ t, mg "GREATEST_NUMBER" = some (.int 999999999999 t)) (C_is_whole : Fx.Cle P w K mg base k "is_whole" 1 Zq) :
  Fx.Cle P w K mg base (k + 1) "is_number" 1 Yk := by
 obtain ⟨t_GREATEST_NUMBER, g_GREATEST_NUMBER⟩ := g_GREATEST_NUMBER; exact XT F hm b Uj rfl rfl fun cdv A outer s H E hr =>
  (Zk (ZB (JK (Zl (Fx.Cle.cal C_is_whole) hr rfl (Za (Zb 0) Zg)) (JI (Qz Fx.op_leF (QA rfl z_abs (Zb 0)) (V6 rfl g_GREATEST_NUMBER) (Zu _))))))
abbrev Y0 : Stmt := top 23
theorem Wg : FnScope ["kinds", "limit", "weights", "bound"] ["kinds", "limit"] (Ze Y0) := ⟨rfl, rfl, rfl, by decide +kernel, rfl, by decide +kernel, by decide +kernel⟩
theorem UY {cl : Str -> Value} {X_NoDesk : Addr} (F : Fun K "limit_of" "limit_of" Y0 fa fd) (hm : mg "limit_of" = some (.ref fa)) (b : Z6 K fd ["kinds", "limit"] []) (z_isinstance : mg "isinstance" = none) (z_tuple : mg "tuple" = none) (z_len : mg "len" = none) (z_list : mg "list" = none) (z_all : mg "all" = none) (c_NoDesk : Fx.XCls K mg "NoDesk" X_NoDesk) (e_NoDesk : cl "NoDesk" = .ref X_NoDesk) (C_is_number : Fx.Cle P w K mg base k "is_number" 1 Yk) :
  Fx.Clx P w K mg base cl (k + 1) "limit_of" 2 Y3 := by
 exact Xc F hm b Wg rfl rfl fun cdv A outer s H E W hr =>
  (Zf (Z2 (Fx.tv_w (WW (Xf (Xe (YJ Uv (show bootBuiltins "tuple" = some (.type "tuple") by decide +kernel) rfl z_isinstance rfl z_tuple (Zb 1)) (fun _ => rfl))) (Wb (ZA (WH hr.units) (Wd rfl z_len (Zb 1)) Zd (Zu _)))))
  (Zk (Yp Zm.pin c_NoDesk e_NoDesk (Za YS Zg) rfl))
  ZC)
  (Zf (ZG (i := 2) Wg.nd rfl (Or.inl rfl) (Yf (Zb 1) Zd (fun _ _ => rfl)))
  (Zf (ZG (i := 3) Wg.nd rfl (Or.inl rfl) (Yf (Zb 1) Zd (fun _ _ => rfl)))
  (Zf (Z2 (Fx.tv_w (WW (Xf (Xe (YJ W4 (show bootBuiltins "list" = some (.type "list") by decide +kernel) rfl z_isinstance rfl z_list (Zb 2)) (fun _ => rfl))) (Wb (ZA (WH hr.units) (Wd rfl z_len (Zb 2)) (Zb 0) (Zu _)))))
  (Zk (Yp Zm.pin c_NoDesk e_NoDesk (Za YS Zg) rfl))
  ZC)
  (Zf (Z2 (Xf (Xe (JL rfl z_all (VH (Vd (N := ["number"]) (nv := 1) (cap := []) (WV rfl) rfl (YH (by decide)) (Uw (Zb 2)) (W8 Zm) (fun _ _ _ _ => (Xx (i := 0) (show List.Nodup (["number"] : List Str) from by decide +kernel) rfl (Or.inl rfl))) (fun _ _ _ _ hp1 => XS) (fun _ _ _ _ hp1 => (Zl (Fx.Cle.cal C_is_number) hr rfl (Za (Zb 0) Zg)))))) (fun _ => rfl)))
  (Zk (Yp Zm.pin c_NoDesk e_NoDesk (Za YS Zg) rfl))
  ZC)
  (Zf (Z2 (Xf (Xe (Zl (Fx.Cle.cal C_is_number) hr rfl (Za (Zb 3) Zg)) (fun _ => rfl)))
  (Zk (Yp Zm.pin c_NoDesk e_NoDesk (Za YS Zg) rfl))
  ZC)
  (Zk (ZB (YR (Za (W7 rfl z_tuple (Zb 2)) (Za (Zb 3) Zg)))))))))))
abbrev Xr : Stmt := top 24
theorem QO : FnScope ["kinds", "limits"] ["kinds", "limits"] (Ze Xr) := ⟨rfl, rfl, rfl, by decide +kernel, rfl, by decide +kernel, by decide +kernel⟩
theorem QS {cl : Str -> Value} {X_NoDesk : Addr} (F : Fun K "desk_of" "desk_of" Xr fa fd) (hm : mg "desk_of" = some (.ref fa)) (b : Z6 K fd ["kinds", "limits"] []) (z_isinstance : mg "isinstance" = none) (z_list : mg "list" = none) (z_len : mg "len" = none) (z_tuple : mg "tuple" = none) (g_MOST_KINDS : ∃ t, mg "MOST_KINDS" = some (.int 4 t)) (g_MOST_LIMITS : ∃ t, mg "MOST_LIMITS" = some (.int 10 t)) (c_NoDesk : Fx.XCls K mg "NoDesk" X_NoDesk) (e_NoDesk : cl "NoDesk" = .ref X_NoDesk) (C_is_whole : Fx.Cle P w K mg base k "is_whole" 1 Zq) (C_limit_of : Fx.Clx P w K mg base cl k "limit_of" 2 Y3) :
  Fx.Clx P w K mg base cl (k + 1) "desk_of" 2 XL := by
 obtain ⟨t_MOST_KINDS, g_MOST_KINDS⟩ := g_MOST_KINDS; obtain ⟨t_MOST_LIMITS, g_MOST_LIMITS⟩ := g_MOST_LIMITS; exact Xc F hm b QO rfl rfl fun cdv A outer s H E W hr =>
  (Zf (Z2 (Fx.tv_w (WW (Xf (Xe (Zl (Fx.Cle.cal C_is_whole) hr rfl (Za (Zb 0) Zg)) (fun _ => rfl))) (WW (ZA Uo (Zb 0) Zd (Zu _)) (Wb (ZA Qq (Zb 0) (V6 rfl g_MOST_KINDS) (Zu _))))))
  (Zk (Yp Zm.pin c_NoDesk e_NoDesk (Za YS Zg) rfl))
  ZC)
  (Zf (Z2 (Fx.tv_w (WW (Xf (Xe (YJ W4 (show bootBuiltins "list" = some (.type "list") by decide +kernel) rfl z_isinstance rfl z_list (Zb 1)) (fun _ => rfl))) (Wb (ZA Qq (Wd rfl z_len (Zb 1)) (V6 rfl g_MOST_LIMITS) (Zu _)))))
  (Zk (Yp Zm.pin c_NoDesk e_NoDesk (Za YS Zg) rfl))
  ZC)
  (Zk (ZB (YR (Za (Zb 0) (Za (W7 rfl z_tuple (VH (Vd (N := ["limit", "kinds"]) (nv := 1) (cap := [0]) (WV rfl) rfl (YH (by decide)) (Uw (Zb 1)) (W8 Zm) (fun _ _ _ _ => (Xx (i := 0) (show List.Nodup (["limit", "kinds"] : List Str) from by decide +kernel) rfl (Or.inl rfl))) (fun _ _ _ _ hp1 => XS) (fun _ _ _ _ hp1 => (Zl (Fx.Clx.cal hp1 C_limit_of) hr rfl (Za (Zb 1) (Za (Zb 0) Zg))))))) Zg)))))))
abbrev Yc : Stmt := top 25
theorem Vs : FnScope ["kinds", "point"] ["kinds", "point"] (Ze Yc) := ⟨rfl, rfl, rfl, by decide +kernel, rfl, by decide +kernel, by decide +kernel⟩
theorem Vw {cl : Str -> Value} {X_BadPoint : Addr} (F : Fun K "check_point" "check_point" Yc fa fd) (hm : mg "check_point" = some (.ref fa)) (b : Z6 K fd ["kinds", "point"] []) (z_isinstance : mg "isinstance" = none) (z_list : mg "list" = none) (z_len : mg "len" = none) (z_all : mg "all" = none) (c_BadPoint : Fx.XCls K mg "BadPoint" X_BadPoint) (e_BadPoint : cl "BadPoint" = .ref X_BadPoint) (C_is_fraction : Fx.Cle P w K mg base k "is_fraction" 1 Zo) :
  Fx.Clx P w K mg base cl (k + 1) "check_point" 2 Zn := by
 exact Xc F hm b Vs rfl rfl fun cdv A outer s H E W hr =>
  (Zf (Z2 (Fx.tv_w (WW (Xf (Xe (YJ W4 (show bootBuiltins "list" = some (.type "list") by decide +kernel) rfl z_isinstance rfl z_list (Zb 1)) (fun _ => rfl))) (Wb (ZA (WH hr.units) (Wd rfl z_len (Zb 1)) (Zb 0) (Zu _)))))
  (Zk (Yp Zm.pin c_BadPoint e_BadPoint (Za YS Zg) rfl))
  ZC)
  (Zk (Z2 (Xf (Xe (JL rfl z_all (VH (Vd (N := ["amount"]) (nv := 1) (cap := []) (WV rfl) rfl (YH (by decide)) (Uw (Zb 1)) (W8 Zm) (fun _ _ _ _ => (Xx (i := 0) (show List.Nodup (["amount"] : List Str) from by decide +kernel) rfl (Or.inl rfl))) (fun _ _ _ _ hp1 => XS) (fun _ _ _ _ hp1 => (Zl (Fx.Cle.cal C_is_fraction) hr rfl (Za (Zb 0) Zg)))))) (fun _ => rfl)))
  (Zk (Yp Zm.pin c_BadPoint e_BadPoint (Za YS Zg) rfl))
  ZC)))
abbrev Yd : Stmt := top 26
theorem Vt : FnScope ["count", "place"] ["count", "place"] (Ze Yd) := ⟨rfl, rfl, rfl, by decide +kernel, rfl, by decide +kernel, by decide +kernel⟩
theorem Vx {cl : Str -> Value} {X_NoPlace : Addr} (F : Fun K "check_place" "check_place" Yd fa fd) (hm : mg "check_place" = some (.ref fa)) (b : Z6 K fd ["count", "place"] []) (c_NoPlace : Fx.XCls K mg "NoPlace" X_NoPlace) (e_NoPlace : cl "NoPlace" = .ref X_NoPlace) (C_is_whole : Fx.Cle P w K mg base k "is_whole" 1 Zq) :
  Fx.Clx P w K mg base cl (k + 1) "check_place" 2 Zh := by
 exact Xc F hm b Vt rfl rfl fun cdv A outer s H E W hr =>
  (Zk (Z2 (Fx.tv_w (WW (Xf (Xe (Zl (Fx.Cle.cal C_is_whole) hr rfl (Za (Zb 1) Zg)) (fun _ => rfl))) (WW (ZA Uo (Zb 1) Zd (Zu _)) (Wb (ZA Fx.op_geF (Zb 1) (Zb 0) (Zu _))))))
  (Zk (Yp Zm.pin c_NoPlace e_NoPlace (Za YS Zg) rfl))
  ZC))
abbrev XX : Stmt := top 28
theorem Jh : FnScope ["desk", "point"] ["desk", "point"] (Ze XX) := ⟨rfl, rfl, rfl, by decide +kernel, rfl, by decide +kernel, by decide +kernel⟩
theorem Ju {cl : Str -> Value} (F : Fun K "broken" "broken" XX fa fd) (hm : mg "broken" = some (.ref fa)) (b : Z6 K fd ["desk", "point"] []) (C_check_point : Fx.Clx P w K mg base cl k "check_point" 2 Zn) :
  Fx.Clx P w K mg base cl (k + 1) "broken" 2 W6 := by
 exact Xc F hm b Jh rfl rfl fun cdv A outer s H E W hr =>
  (Zf (XH (Zl (Fx.Clx.cal Zm.pin C_check_point) hr rfl (Za (Yf (Zb 0) Zd (fun _ _ => rfl)) (Za (Zb 1) Zg))))
  (Zk Zv))
abbrev VB : Stmt := top 29
theorem sc_just : FnScope ["desk", "point"] ["desk", "point"] (Ze VB) := ⟨rfl, rfl, rfl, by decide +kernel, rfl, by decide +kernel, by decide +kernel⟩
theorem ok_just {cl : Str -> Value} (F : Fun K "just" "just" VB fa fd) (hm : mg "just" = some (.ref fa)) (b : Z6 K fd ["desk", "point"] []) (C_check_point : Fx.Clx P w K mg base cl k "check_point" 2 Zn) :
  Fx.Clx P w K mg base cl (k + 1) "just" 2 Qy := by
 exact Xc F hm b sc_just rfl rfl fun cdv A outer s H E W hr =>
  (Zf (XH (Zl (Fx.Clx.cal Zm.pin C_check_point) hr rfl (Za (Yf (Zb 0) Zd (fun _ _ => rfl)) (Za (Zb 1) Zg))))
  (Zk Zv))
abbrev Yo : Stmt := top 51
theorem VS : FnScope ["kinds", "goal"] ["kinds", "goal"] (Ze Yo) := ⟨rfl, rfl, rfl, by decide +kernel, rfl, by decide +kernel, by decide +kernel⟩
theorem V1 {cl : Str -> Value} {X_NoGoal : Addr} (F : Fun K "check_goal" "check_goal" Yo fa fd) (hm : mg "check_goal" = some (.ref fa)) (b : Z6 K fd ["kinds", "goal"] []) (z_isinstance : mg "isinstance" = none) (z_list : mg "list" = none) (z_len : mg "len" = none) (z_all : mg "all" = none) (c_NoGoal : Fx.XCls K mg "NoGoal" X_NoGoal) (e_NoGoal : cl "NoGoal" = .ref X_NoGoal) (C_is_whole : Fx.Cle P w K mg base k "is_whole" 1 Zq) :
  Fx.Clx P w K mg base cl (k + 1) "check_goal" 2 Zz := by
 exact Xc F hm b VS rfl rfl fun cdv A outer s H E W hr =>
  (Zf (Z2 (Fx.tv_w (WW (Xf (Xe (YJ W4 (show bootBuiltins "list" = some (.type "list") by decide +kernel) rfl z_isinstance rfl z_list (Zb 1)) (fun _ => rfl))) (Wb (ZA (WH hr.units) (Wd rfl z_len (Zb 1)) (Zb 0) (Zu _)))))
  (Zk (Yp Zm.pin c_NoGoal e_NoGoal (Za YS Zg) rfl))
  ZC)
  (Zk (Z2 (Xf (Xe (JL rfl z_all (VH (Vd (N := ["number"]) (nv := 1) (cap := []) (WV rfl) rfl (YH (by decide)) (Uw (Zb 1)) (W8 Zm) (fun _ _ _ _ => (Xx (i := 0) (show List.Nodup (["number"] : List Str) from by decide +kernel) rfl (Or.inl rfl))) (fun _ _ _ _ hp1 => XS) (fun _ _ _ _ hp1 => (Zl (Fx.Cle.cal C_is_whole) hr rfl (Za (Zb 0) Zg)))))) (fun _ => rfl)))
  (Zk (Yp Zm.pin c_NoGoal e_NoGoal (Za YS Zg) rfl))
  ZC)))
abbrev VC : Stmt := top 56
theorem sc_best : FnScope ["desk", "goal", "told"] ["desk", "goal"] (Ze VC) := ⟨rfl, rfl, rfl, by decide +kernel, rfl, by decide +kernel, by decide +kernel⟩
theorem ok_best {cl : Str -> Value} (F : Fun K "best" "best" VC fa fd) (hm : mg "best" = some (.ref fa)) (b : Z6 K fd ["desk", "goal"] []) (C_check_goal : Fx.Clx P w K mg base cl k "check_goal" 2 Zz) :
  Fx.Clx P w K mg base cl (k + 1) "best" 2 Vh := by
 exact Xc F hm b sc_best rfl rfl fun cdv A outer s H E W hr =>
  (Zf (XH (Zl (Fx.Clx.cal Zm.pin C_check_goal) hr rfl (Za (Yf (Zb 0) Zd (fun _ _ => rfl)) (Za (Zb 1) Zg))))
  (Zf Zv
  (Zf Zv
  (Zk Zv))))
abbrev QP : Stmt := top 57
theorem sc_top : FnScope ["desk", "goal", "told"] ["desk", "goal"] (Ze QP) := ⟨rfl, rfl, rfl, by decide +kernel, rfl, by decide +kernel, by decide +kernel⟩
theorem ok_top {cl : Str -> Value} (F : Fun K "top" "top" QP fa fd) (hm : mg "top" = some (.ref fa)) (b : Z6 K fd ["desk", "goal"] []) (C_best : Fx.Clx P w K mg base cl k "best" 2 Vh) :
  Fx.Clx P w K mg base cl (k + 1) "top" 2 f_top := by
 exact Xc F hm b sc_top rfl rfl fun cdv A outer s H E W hr =>
  (Zf (ZG (i := 2) sc_top.nd rfl (Or.inl rfl) (Zl (Fx.Clx.cal Zm.pin C_best) hr rfl (Za (Zb 0) (Za (Zb 1) Zg))))
  (Zf Zv
  (Zf Zv
  (Zk Zv))))
abbrev Xp : Stmt := top 58
theorem QM : FnScope ["desk", "kind", "up", "greatest", "least"] ["desk", "kind"] (Ze Xp) := ⟨rfl, rfl, rfl, by decide +kernel, rfl, by decide +kernel, by decide +kernel⟩
theorem QQ {cl : Str -> Value} (F : Fun K "stretch" "stretch" Xp fa fd) (hm : mg "stretch" = some (.ref fa)) (b : Z6 K fd ["desk", "kind"] []) (C_check_place : Fx.Clx P w K mg base cl k "check_place" 2 Zh) :
  Fx.Clx P w K mg base cl (k + 1) "stretch" 2 Wt := by
 exact Xc F hm b QM rfl rfl fun cdv A outer s H E W hr =>
  (Zf (XH (Zl (Fx.Clx.cal Zm.pin C_check_place) hr rfl (Za (Yf (Zb 0) Zd (fun _ _ => rfl)) (Za (Zb 1) Zg))))
  (Zf Zv
  (Zf Zv
  (Zf Zv
  (Zk Zv)))))
abbrev Wz : Stmt := top 64
theorem sc_cover : FnScope ["desk", "place", "limit", "told"] ["desk", "place"] (Ze Wz) := ⟨rfl, rfl, rfl, by decide +kernel, rfl, by decide +kernel, by decide +kernel⟩
theorem ok_cover {cl : Str -> Value} (F : Fun K "cover" "cover" Wz fa fd) (hm : mg "cover" = some (.ref fa)) (b : Z6 K fd ["desk", "place"] []) (z_len : mg "len" = none) (C_check_place : Fx.Clx P w K mg base cl k "check_place" 2 Zh) :
  Fx.Clx P w K mg base cl (k + 1) "cover" 2 Wi := by
 exact Xc F hm b sc_cover rfl rfl fun cdv A outer s H E W hr =>
  (Zf (XH (Zl (Fx.Clx.cal Zm.pin C_check_place) hr rfl (Za (Wd rfl z_len (Yf (Zb 0) Zd (fun _ _ => rfl))) (Za (Zb 1) Zg))))
  (Zf Zv
  (Zf Zv
  (Zf Zv
  (Zf Zv
  (Zf Zv
  (Zk Zv)))))))
abbrev YZ : Stmt := top 65
theorem UR : FnScope ["desk", "place"] ["desk", "place"] (Ze YZ) := ⟨rfl, rfl, rfl, by decide +kernel, rfl, by decide +kernel, by decide +kernel⟩
theorem UX {cl : Str -> Value} (F : Fun K "needless" "needless" YZ fa fd) (hm : mg "needless" = some (.ref fa)) (b : Z6 K fd ["desk", "place"] []) (C_cover : Fx.Clx P w K mg base cl k "cover" 2 Wi) :
  Fx.Clx P w K mg base cl (k + 1) "needless" 2 X0 := by
 exact Xc F hm b UR rfl rfl fun cdv A outer s H E W hr =>
  (Zk (ZB (Qz (WH hr.units) (Yf (Zl (Fx.Clx.cal Zm.pin C_cover) hr rfl (Za (Zb 0) (Za (Zb 1) Zg))) Zd (fun _ _ => rfl)) YS (Zu _))))
abbrev Xq : Stmt := top 74
theorem QN : FnScope ["desk", "kind", "bounds"] ["desk", "kind"] (Ze Xq) := ⟨rfl, rfl, rfl, by decide +kernel, rfl, by decide +kernel, by decide +kernel⟩
theorem QR {cl : Str -> Value} (F : Fun K "dropped" "dropped" Xq fa fd) (hm : mg "dropped" = some (.ref fa)) (b : Z6 K fd ["desk", "kind"] []) (C_check_place : Fx.Clx P w K mg base cl k "check_place" 2 Zh) :
  Fx.Clx P w K mg base cl (k + 1) "dropped" 2 Wu := by
 exact Xc F hm b QN rfl rfl fun cdv A outer s H E W hr =>
  (Zf (XH (Zl (Fx.Clx.cal Zm.pin C_check_place) hr rfl (Za (Yf (Zb 0) Zd (fun _ _ => rfl)) (Za (Zb 1) Zg))))
  (Zf Zv
  (Zf Zv
  (Zk Zv))))
abbrev XW : Stmt := top 76
theorem Jg : FnScope ["desk", "kind", "point", "told"] ["desk", "kind", "point"] (Ze XW) := ⟨rfl, rfl, rfl, by decide +kernel, rfl, by decide +kernel, by decide +kernel⟩
theorem Jt {cl : Str -> Value} (F : Fun K "filled" "filled" XW fa fd) (hm : mg "filled" = some (.ref fa)) (b : Z6 K fd ["desk", "kind", "point"] []) (C_check_place : Fx.Clx P w K mg base cl k "check_place" 2 Zh) (C_check_point : Fx.Clx P w K mg base cl k "check_point" 2 Zn) :
  Fx.Clx P w K mg base cl (k + 1) "filled" 3 X3 := by
 exact Xc F hm b Jg rfl rfl fun cdv A outer s H E W hr =>
  (Zf (XH (Zl (Fx.Clx.cal Zm.pin C_check_place) hr rfl (Za (Yf (Zb 0) Zd (fun _ _ => rfl)) (Za (Zb 1) Zg))))
  (Zf (XH (Zl (Fx.Clx.cal Zm.pin C_check_point) hr rfl (Za (ZF WB (Yf (Zb 0) Zd (fun _ _ => rfl)) Zd) (Za (Zb 2) Zg))))
  (Zf Zv
  (Zk Zv))))
abbrev Ya : Stmt := top 78
theorem Vq : FnScope ["_law_script", "_law_k"] ["_law_script", "_law_k"] (Ze Ya) := ⟨rfl, rfl, rfl, by decide +kernel, rfl, by decide +kernel, by decide +kernel⟩
theorem Vu (F : Fun K "_law_cell_at" "_law_cell_at" Ya fa fd) (hm : mg "_law_cell_at" = some (.ref fa)) (b : Z6 K fd ["_law_script", "_law_k"] []) (z_len : mg "len" = none) :
  Fx.Cle P w K mg base (k + 1) "_law_cell_at" 2 Zi := by
 exact XT F hm b Vq rfl rfl fun cdv A outer s H E hr =>
  (Zf (Z2 (ZA Uo (Zb 1) (Wd rfl z_len (Zb 0)) (Zu _))
  (Zk (ZB (Yf (Zb 0) (Zb 1) (fun _ _ => rfl))))
  ZC)
  (Zf (Z2 (ZA (Yh hr.units) (Zb 0) (XM Zg) (Zu _))
  (Zk (ZB Zd))
  ZC)
  (Zk (ZB (ZF Y6 (ZF VW (Yf (Zb 0) (ZF ZH (Zb 1) (Wd rfl z_len (Zb 0))) (fun _ _ => rfl)) Zd) (Zb 1))))))
abbrev Yl : Stmt := top 79
theorem Wn : FnScope ["_law_cell", "_law_wide", "_law_number_here"] ["_law_cell", "_law_wide"] (Ze Yl) := ⟨rfl, rfl, rfl, by decide +kernel, rfl, by decide +kernel, by decide +kernel⟩
theorem VY (F : Fun K "_law_number" "_law_number" Yl fa fd) (hm : mg "_law_number" = some (.ref fa)) (b : Z6 K fd ["_law_cell", "_law_wide"] []) :
  Fx.Cle P w K mg base (k + 1) "_law_number" 2 ZE := by
 exact XT F hm b Wn rfl rfl fun cdv A outer s H E hr =>
  (Zf (ZG (i := 2) Wn.nd rfl (Or.inl rfl) (ZF ZH (Zb 0) (ZF Y6 (ZF VW Zd (Zb 1)) Zd)))
  (Zf (Z2 (ZA Qq (Zb 2) (Zb 1) (Zu _))
  (Zk (ZB (ZF WB (ZF WB (Zb 2) (ZF VW Zd (Zb 1))) Zd)))
  ZC)
  (Zk (ZB (Zb 2)))))
abbrev Y1 : Stmt := top 80
theorem Zt : FnScope ["_law_script", "_law_kinds", "_law_many", "_law_wide", "_law_limits", "_law_k", "_law_at", "_law_weights", "_law_bound"] ["_law_script"] (Ze Y1) := ⟨rfl, rfl, rfl, by decide +kernel, rfl, by decide +kernel, by decide +kernel⟩
theorem UZ (F : Fun K "_law_desk" "_law_desk" Y1 fa fd) (hm : mg "_law_desk" = some (.ref fa)) (b : Z6 K fd ["_law_script"] []) (z_range : mg "range" = none) (z_abs : mg "abs" = none) (C_law_cell_at : Fx.Cle P w K mg base k "_law_cell_at" 2 Zi) (C_law_number : Fx.Cle P w K mg base k "_law_number" 2 ZE) :
  Fx.Cle P w K mg base (k + 1) "_law_desk" 1 Y4 := by
 exact XT F hm b Zt rfl rfl fun cdv A outer s H E hr =>
  (Zf (ZG (i := 1) Zt.nd rfl (Or.inl rfl) (ZF Y6 Zd (ZF ZH (Zl (Fx.Cle.cal C_law_cell_at) hr rfl (Za (Zb 0) (Za Zd Zg))) Zd)))
  (Zf (ZG (i := 2) Zt.nd rfl (Or.inl rfl) (ZF ZH (Zl (Fx.Cle.cal C_law_cell_at) hr rfl (Za (Zb 0) (Za Zd Zg))) Zd))
  (Zf (ZG (i := 3) Zt.nd rfl (Or.inr rfl) (Yf (XM (Za Zd (Za Zd (Za Zd (Za (ZF WB (ZF UW Zd Zd) Zd) Zg))))) (ZF ZH (Zl (Fx.Cle.cal C_law_cell_at) hr rfl (Za (Zb 0) (Za Zd Zg))) Zd) (fun _ _ => rfl)))
  (Zf (Z2 (ZA (Yh hr.units) (ZF ZH (Zl (Fx.Cle.cal C_law_cell_at) hr rfl (Za (Zb 0) (Za Zd Zg))) Zd) Zd (Zu _))
  (Zf (ZG (i := 1) Zt.nd rfl (Or.inl rfl) Zd)
  (Zf (ZG (i := 2) Zt.nd rfl (Or.inl rfl) Zd)
  (Zk (ZG (i := 3) Zt.nd rfl (Or.inr rfl) Zd))))
  ZC)
  (Zf (Z2 (ZA Qq (Zb 3) Zd (Zu _))
  (Zf (ZG (i := 1) Zt.nd rfl (Or.inl rfl) (ZF Y6 Zd (ZF ZH (Zb 1) Zd)))
  (Zk (ZG (i := 2) Zt.nd rfl (Or.inl rfl) (ZF ZH (Zb 2) Zd))))
  ZC)
  (Zf (Fx.ss_setO (i := 4) Zt.nd rfl (Or.inl rfl) (Fx.ov_lst Zg))
  (Zf (Fx.ss_for PassesOwn.never rfl (W5 rfl z_range (Zb 2)) (Xx (i := 5) Zt.nd rfl (Or.inl rfl))
  (Zf (ZG (i := 6) Zt.nd rfl (Or.inr rfl) (ZF Y6 Zd (ZF VW (Zb 5) (ZF Y6 (Zb 1) Zd))))
  (Zf (Fx.ss_setC (N := ["_law_j", "_law_script", "_law_at", "_law_wide"]) (nv := 1) (cap := [0, 6, 3]) (i := 7) (WV rfl) rfl (YH (by decide)) (W5 rfl z_range (Zb 1)) W9 (fun _ _ _ _ => (Xx (i := 0) (show List.Nodup (["_law_j", "_law_script", "_law_at", "_law_wide"] : List Str) from by decide +kernel) rfl (Or.inl rfl))) (fun _ _ _ _ _ => XS) (fun _ _ _ _ _ => (Zl (Fx.Cle.cal C_law_number) hr rfl (Za (Zl (Fx.Cle.cal C_law_cell_at) hr rfl (Za (Zb 1) (Za (ZF Y6 (Zb 2) (Zb 0)) Zg))) (Za (Zb 3) Zg)))) Zt.nd rfl (Or.inl rfl))
  (Zf (ZG (i := 8) Zt.nd rfl (Or.inl rfl) (Zl (Fx.Cle.cal C_law_number) hr rfl (Za (Zl (Fx.Cle.cal C_law_cell_at) hr rfl (Za (Zb 0) (Za (ZF Y6 (Zb 6) (Zb 1)) Zg))) (Za (Zb 3) Zg))))
  (Zf (Z2 (ZA (Yh hr.units) (ZF ZH (Zl (Fx.Cle.cal C_law_cell_at) hr rfl (Za (Zb 0) (Za Zd Zg))) Zd) Zd (Zu _))
  (Zk (ZG (i := 8) Zt.nd rfl (Or.inl rfl) (QA rfl z_abs (Zb 8))))
  ZC)
  (Zk (Fx.ss_app (i := 4) rfl (YR (Za (Zb 7) (Za (Zb 8) Zg))))))))))
  (Zk (ZB (YR (Za (Zb 1) (Za (Zb 4) Zg))))))))))))
abbrev Ym : Stmt := top 81
theorem VR : FnScope ["_law_limits"] ["_law_limits"] (Ze Ym) := ⟨rfl, rfl, rfl, by decide +kernel, rfl, by decide +kernel, by decide +kernel⟩
theorem VZ (F : Fun K "_law_copied" "_law_copied" Ym fa fd) (hm : mg "_law_copied" = some (.ref fa)) (b : Z6 K fd ["_law_limits"] []) (z_list : mg "list" = none) :
  Fx.Cle P w K mg base (k + 1) "_law_copied" 1 YI := by
 exact XT F hm b VR rfl rfl fun cdv A outer s H E hr =>
  (Zk (ZB (VH (Vd (N := ["_law_limit"]) (nv := 1) (cap := []) (WV rfl) rfl (YH (by decide)) (Uw (Zb 0)) W9 (fun _ _ _ _ => (Xx (i := 0) (show List.Nodup (["_law_limit"] : List Str) from by decide +kernel) rfl (Or.inl rfl))) (fun _ _ _ _ _ => XS) (fun _ _ _ _ _ => (YR (Za (VH (Fx.ov_list rfl z_list (Yf (Zb 0) Zd (fun _ _ => rfl)))) (Za (Yf (Zb 0) Zd (fun _ _ => rfl)) Zg))))))))
abbrev Yz : Stmt := top 82
theorem Ui : FnScope ["_law_desk_here", "_law_which", "_law_bad"] ["_law_desk_here", "_law_which", "_law_bad"] (Ze Yz) := ⟨rfl, rfl, rfl, by decide +kernel, rfl, by decide +kernel, by decide +kernel⟩
theorem Up {cl : Str -> Value} (F : Fun K "_law_asked" "_law_asked" Yz fa fd) (hm : mg "_law_asked" = some (.ref fa)) (b : Z6 K fd ["_law_desk_here", "_law_which", "_law_bad"] []) (C_broken : Fx.Clx P w K mg base cl k "broken" 2 W6) (C_just : Fx.Clx P w K mg base cl k "just" 2 Qy) (C_best : Fx.Clx P w K mg base cl k "best" 2 Vh) (C_top : Fx.Clx P w K mg base cl k "top" 2 f_top) (C_stretch : Fx.Clx P w K mg base cl k "stretch" 2 Wt) (C_cover : Fx.Clx P w K mg base cl k "cover" 2 Wi) (C_needless : Fx.Clx P w K mg base cl k "needless" 2 X0) (C_dropped : Fx.Clx P w K mg base cl k "dropped" 2 Wu) (C_filled : Fx.Clx P w K mg base cl k "filled" 3 X3) :
  Fx.Clx P w K mg base cl (k + 1) "_law_asked" 3 Zj := by
 exact Xc F hm b Ui rfl rfl fun cdv A outer s H E W hr =>
  (Zf (Z2 (ZA (Yh hr.units) (Zb 1) Zd (Zu _))
  (Zk (ZB (Zl (Fx.Clx.cal Zm.pin C_broken) hr rfl (Za (Zb 0) (Za (Zb 2) Zg)))))
  ZC)
  (Zf (Z2 (ZA (Yh hr.units) (Zb 1) Zd (Zu _))
  (Zk (ZB (Zl (Fx.Clx.cal Zm.pin C_just) hr rfl (Za (Zb 0) (Za (Zb 2) Zg)))))
  ZC)
  (Zf (Z2 (ZA (Yh hr.units) (Zb 1) Zd (Zu _))
  (Zk (ZB (Zl (Fx.Clx.cal Zm.pin C_best) hr rfl (Za (Zb 0) (Za (Zb 2) Zg)))))
  ZC)
  (Zf (Z2 (ZA (Yh hr.units) (Zb 1) Zd (Zu _))
  (Zk (ZB (Zl (Fx.Clx.cal Zm.pin C_top) hr rfl (Za (Zb 0) (Za (Zb 2) Zg)))))
  ZC)
  (Zf (Z2 (ZA (Yh hr.units) (Zb 1) Zd (Zu _))
  (Zk (ZB (Zl (Fx.Clx.cal Zm.pin C_stretch) hr rfl (Za (Zb 0) (Za (Zb 2) Zg)))))
  ZC)
  (Zf (Z2 (ZA (Yh hr.units) (Zb 1) Zd (Zu _))
  (Zk (ZB (Zl (Fx.Clx.cal Zm.pin C_cover) hr rfl (Za (Zb 0) (Za (Zb 2) Zg)))))
  ZC)
  (Zf (Z2 (ZA (Yh hr.units) (Zb 1) Zd (Zu _))
  (Zk (ZB (Zl (Fx.Clx.cal Zm.pin C_needless) hr rfl (Za (Zb 0) (Za (Zb 2) Zg)))))
  ZC)
  (Zf (Z2 (ZA (Yh hr.units) (Zb 1) Zd (Zu _))
  (Zk (ZB (Zl (Fx.Clx.cal Zm.pin C_dropped) hr rfl (Za (Zb 0) (Za (Zb 2) Zg)))))
  ZC)
  (Zf (Z2 (ZA (Yh hr.units) (Zb 1) Zd (Zu _))
  (Zk (ZB (Zl (Fx.Clx.cal Zm.pin C_filled) hr rfl (Za (Zb 0) (Za (Zb 2) (Za UB Zg))))))
  ZC)
  (Zk (ZB (Zl (Fx.Clx.cal Zm.pin C_filled) hr rfl (Za (Zb 0) (Za Zd (Za (Zb 2) Zg)))))))))))))))
abbrev ZT : Stmt := top 83
theorem XC : FnScope ["_law_kinds", "_law_cell", "_law_made"] ["_law_kinds", "_law_cell"] (Ze ZT) := ⟨rfl, rfl, rfl, by decide +kernel, rfl, by decide +kernel, by decide +kernel⟩
set_option smartUnfolding false in
theorem WX (F : Fun K "_law_odd_point" "_law_odd_point" ZT fa fd) (hm : mg "_law_odd_point" = some (.ref fa)) (b : Z6 K fd ["_law_kinds", "_law_cell"] []) (z_range : mg "range" = none) (z_tuple : mg "tuple" = none) :
  Fx.Cle P w K mg base (k + 1) "_law_odd_point" 2 Zw := by
 exact XT F hm b XC rfl rfl fun cdv A outer s H E hr =>
  (Zf (Z2 (ZA (Yh hr.units) (Zb 0) Zd (Zu _))
  (Zk (ZB (Yf (XM (Za (YR Zg) (Za UB (Za (XM (Za (YR (Za Zd (Za Zd Zg))) Zg)) (Za (XM (Za (YR (Za Zd (Za Zd Zg))) (Za (YR (Za Zd (Za Zd Zg))) Zg))) (Za YS Zg)))))) (ZF ZH (Zb 1) Zd) (fun _ _ => rfl))))
  ZC)
  (Zf (Qm (N := ["_law_k", "_law_cell"]) (nv := 1) (cap := [1]) (i := 2) (WV rfl) rfl (YH (by decide)) (W5 rfl z_range (Zb 0)) W9 (fun _ _ _ _ => (Xx (i := 0) (show List.Nodup (["_law_k", "_law_cell"] : List Str) from by decide +kernel) rfl (Or.inl rfl))) (fun _ _ _ _ _ => XS) (fun _ _ _ _ _ => (YR (Za (ZF ZH (Zb 1) Zd) (Za Zd Zg)))) XC.nd rfl (Or.inl rfl))
  (Zf (Z2 (ZA (Yh hr.units) (ZF ZH (Zb 1) Zd) Zd (Zu _))
  (Zk (ZB (W7 rfl z_tuple (Zb 2))))
  ZC)
  (Zf (Z2 (ZA (Yh hr.units) (ZF ZH (Zb 1) Zd) Zd (Zu _))
  (Zk (ZB (ZF Y6 (Zb 2) (XM (Za (YR (Za Zd (Za Zd Zg))) Zg)))))
  ZC)
  (Zf (Ql (i := 2) rfl (ZF ZH (ZF VX (Zb 1) Zd) (Zb 0)) (Yf (XM (Za Zd (Za (YR (Za Zd (Za Zd Zg))) (Za (YR (Za Zd (Za Zd Zg))) (Za (YR (Za Zd (Za (JJ Zd) Zg))) (Za YS (Za UB (Za (YR (Za U6 (Za Zd Zg))) Zg)))))))) (ZF ZH (ZF VX (Zb 1) Zd) Zd) (fun _ _ => rfl)))
  (Zk (ZB (Zb 2))))))))
abbrev Z4 : Stmt := top 84
theorem XI : FnScope ["_law_kinds", "_law_cell", "_law_made"] ["_law_kinds", "_law_cell"] (Ze Z4) := ⟨rfl, rfl, rfl, by decide +kernel, rfl, by decide +kernel, by decide +kernel⟩
theorem Ve (F : Fun K "_law_odd_goal" "_law_odd_goal" Z4 fa fd) (hm : mg "_law_odd_goal" = some (.ref fa)) (b : Z6 K fd ["_law_kinds", "_law_cell"] []) (z_range : mg "range" = none) (z_tuple : mg "tuple" = none) :
  Fx.Cle P w K mg base (k + 1) "_law_odd_goal" 2 Z5 := by
 exact XT F hm b XI rfl rfl fun cdv A outer s H E hr =>
  (Zf (Qm (N := ["_law_k", "_law_cell"]) (nv := 1) (cap := [1]) (i := 2) (WV rfl) rfl (YH (by decide)) (W5 rfl z_range (Zb 0)) W9 (fun _ _ _ _ => (Xx (i := 0) (show List.Nodup (["_law_k", "_law_cell"] : List Str) from by decide +kernel) rfl (Or.inl rfl))) (fun _ _ _ _ _ => XS) (fun _ _ _ _ _ => (ZF ZH (Zb 1) Zd)) XI.nd rfl (Or.inl rfl))
  (Zf (Z2 (ZA (Yh hr.units) (ZF ZH (Zb 1) Zd) Zd (Zu _))
  (Zk (ZB (W7 rfl z_tuple (Zb 2))))
  ZC)
  (Zf (Z2 (ZA (Yh hr.units) (ZF ZH (Zb 1) Zd) Zd (Zu _))
  (Zk (ZB (ZF Y6 (Zb 2) (XM (Za Zd Zg)))))
  ZC)
  (Zf (Ql (i := 2) rfl (ZF ZH (ZF VX (Zb 1) Zd) (Zb 0)) (Yf (XM (Za U6 (Za YS (Za UB (Za (YR (Za Zd (Za Zd Zg))) Zg))))) (ZF ZH (ZF VX (Zb 1) Zd) Zd) (fun _ _ => rfl)))
  (Zk (ZB (Zb 2)))))))
abbrev Yn : Stmt := top 85
theorem Yq : FnScope ["_law_desk_here", "_law_which", "_law_bad", "_law_found"] ["_law_desk_here", "_law_which", "_law_bad"] (Ze Yn) := ⟨rfl, rfl, rfl, by decide +kernel, rfl, by decide +kernel, by decide +kernel⟩
theorem V0 {cl : Str -> Value} {X_BadPoint : Addr} {X_NoGoal : Addr} {X_NoPlace : Addr} (F : Fun K "_law_caught" "_law_caught" Yn fa fd) (hm : mg "_law_caught" = some (.ref fa)) (b : Z6 K fd ["_law_desk_here", "_law_which", "_law_bad"] []) (c_BadPoint : Fx.XCls K mg "BadPoint" X_BadPoint) (c_NoGoal : Fx.XCls K mg "NoGoal" X_NoGoal) (c_NoPlace : Fx.XCls K mg "NoPlace" X_NoPlace) (e_BadPoint : cl "BadPoint" = .ref X_BadPoint) (e_NoGoal : cl "NoGoal" = .ref X_NoGoal) (e_NoPlace : cl "NoPlace" = .ref X_NoPlace) (u_BadPoint_BadPoint : PySem.W.subIn K (.ref X_BadPoint) (.ref X_BadPoint) = some true) (u_NoGoal_NoGoal : PySem.W.subIn K (.ref X_NoGoal) (.ref X_NoGoal) = some true) (u_NoPlace_NoPlace : PySem.W.subIn K (.ref X_NoPlace) (.ref X_NoPlace) = some true) (v_NoGoal_BadPoint : PySem.W.subIn K (.ref X_NoGoal) (.ref X_BadPoint) = some false) (v_NoPlace_BadPoint : PySem.W.subIn K (.ref X_NoPlace) (.ref X_BadPoint) = some false) (v_NoPlace_NoGoal : PySem.W.subIn K (.ref X_NoPlace) (.ref X_NoGoal) = some false) (C_law_asked : Fx.Clx P w K mg base cl k "_law_asked" 3 Zj) :
  Fx.Cle P w K mg base (k + 1) "_law_caught" 3 Z8 := by
 exact XT F hm b Yq rfl rfl fun cdv A outer s H E hr =>
  (Zf (ZG (i := 3) Yq.nd rfl (Or.inl rfl) Zd)
  (Zf (Fx.ss_tryM (Fx.InFrame.wish Zm) C_law_asked hr rfl (Za (Zb 0) (Za (Zb 1) (Za (Zb 2) Zg))) (U3 c_BadPoint rfl (YD e_BadPoint u_BadPoint_BadPoint X5) (Va e_NoPlace v_NoPlace_BadPoint (Va e_NoGoal v_NoGoal_BadPoint VQ)) (fun _ =>
  (Zk (ZG (i := 3) Yq.nd rfl (Or.inl rfl) Zd))) (U3 c_NoGoal rfl (YD e_NoGoal u_NoGoal_NoGoal X5) (Va e_NoPlace v_NoPlace_NoGoal VQ) (fun _ =>
  (Zk (ZG (i := 3) Yq.nd rfl (Or.inl rfl) Zd))) (U3 c_NoPlace rfl (YD e_NoPlace u_NoPlace_NoPlace X5) VQ (fun _ =>
  (Zk (ZG (i := 3) Yq.nd rfl (Or.inl rfl) Zd))) Fx.hv_nil))))
  (Zk (ZB (Zb 3)))))
abbrev VT : Stmt := top 86
theorem XD : FnScope ["_law_script", "_law_drawn", "_law_desk_here", "_law_which", "_law_cell", "_law_size", "_law_bad", "e"] ["_law_script"] (Ze VT) := ⟨rfl, rfl, rfl, by decide +kernel, rfl, by decide +kernel, by decide +kernel⟩
theorem law_fn {cl : Str -> Value} {X_LimitError : Addr} {X_NoGoal : Addr} {X_BadPoint : Addr} {X_NoPlace : Addr} (F : Fun K "law" "law" VT fa fd) (z_len : mg "len" = none) (z_isinstance : mg "isinstance" = none) (z_ValueError : mg "ValueError" = none) (c_LimitError : Fx.XCls K mg "LimitError" X_LimitError) (c_NoGoal : Fx.XCls K mg "NoGoal" X_NoGoal) (c_BadPoint : Fx.XCls K mg "BadPoint" X_BadPoint) (c_NoPlace : Fx.XCls K mg "NoPlace" X_NoPlace) (e_LimitError : cl "LimitError" = .ref X_LimitError) (e_NoGoal : cl "NoGoal" = .ref X_NoGoal) (e_BadPoint : cl "BadPoint" = .ref X_BadPoint) (e_NoPlace : cl "NoPlace" = .ref X_NoPlace) (u_NoGoal_LimitError : PySem.W.subIn K (.ref X_NoGoal) (.ref X_LimitError) = some true) (u_NoGoal_ValueError : PySem.W.subIn K (.ref X_NoGoal) (.type "ValueError") = some true) (u_BadPoint_LimitError : PySem.W.subIn K (.ref X_BadPoint) (.ref X_LimitError) = some true) (u_BadPoint_ValueError : PySem.W.subIn K (.ref X_BadPoint) (.type "ValueError") = some true) (u_NoPlace_LimitError : PySem.W.subIn K (.ref X_NoPlace) (.ref X_LimitError) = some true) (u_NoPlace_ValueError : PySem.W.subIn K (.ref X_NoPlace) (.type "ValueError") = some true) (C_law_desk : Fx.Cle P w K mg base k "_law_desk" 1 Y4) (C_law_copied : Fx.Cle P w K mg base k "_law_copied" 1 YI) (C_desk_of : Fx.Clx P w K mg base cl k "desk_of" 2 XL) (C_law_cell_at : Fx.Cle P w K mg base k "_law_cell_at" 2 Zi) (C_law_odd_point : Fx.Cle P w K mg base k "_law_odd_point" 2 Zw) (C_law_odd_goal : Fx.Cle P w K mg base k "_law_odd_goal" 2 Z5) (C_law_caught : Fx.Cle P w K mg base k "_law_caught" 3 Z8) (C_law_asked : Fx.Clx P w K mg base cl k "_law_asked" 3 Zj) :
  FnOk P w K mg base CX0 (k + 1) fa fd ["_law_script"] (Fx.spF K none 1 QZ) := by
 exact Fx.fn_ok F XD rfl fun cdv A outer s H E hr =>
  (Zf (ZG (i := 1) XD.nd rfl (Or.inl rfl) (Zl (Fx.Cle.cal C_law_desk) hr rfl (Za (Zb 0) Zg)))
  (Zf (ZG (i := 2) XD.nd rfl (Or.inl rfl) (Zl (Fx.Clx.calN C_desk_of) hr rfl (Za (Yf (Zb 1) Zd (fun _ _ => rfl)) (Za (Zl (Fx.Cle.cal C_law_copied) hr rfl (Za (Yf (Zb 1) Zd (fun _ _ => rfl)) Zg)) Zg))))
  (Zf (ZG (i := 3) XD.nd rfl (Or.inl rfl) (ZF ZH (Zl (Fx.Cle.cal C_law_cell_at) hr rfl (Za (Zb 0) (Za Zd Zg))) Zd))
  (Zf (ZG (i := 4) XD.nd rfl (Or.inl rfl) (Zl (Fx.Cle.cal C_law_cell_at) hr rfl (Za (Zb 0) (Za Zd Zg))))
  (Zf (ZG (i := 5) XD.nd rfl (Or.inl rfl) (Yf (Zb 1) Zd (fun _ _ => rfl)))
  (Zf (Z2 (Fx.tv_w (WW (ZA (Yh hr.units) (Zb 3) Zd (Zu _)) (Wb (ZA (Yh hr.units) (Zb 3) Zd (Zu _)))))
  (Zk (ZG (i := 5) XD.nd rfl (Or.inl rfl) (Wd rfl z_len (Yf (Zb 1) Zd (fun _ _ => rfl)))))
  ZC)
  (Zf (ZG (i := 6) XD.nd rfl (Or.inl rfl) (Yf (XM (Za (JJ Zd) (Za (Zb 5) (Za U6 (Za YS (Za UB (Za (ZF Y6 (Zb 5) (ZF ZH (Zb 4) (ZF UW Zd Zd))) (Za (ZF WB (JJ Zd) (ZF ZH (Zb 4) (ZF UW Zd Zd))) Zg)))))))) (ZF ZH (Zb 4) Zd) (fun _ _ => rfl)))
  (Zf (Z2 (ZA Uo (Zb 3) Zd (Zu _))
  (Zk (ZG (i := 6) XD.nd rfl (Or.inl rfl) (Zl (Fx.Cle.cal C_law_odd_point) hr rfl (Za (Yf (Zb 1) Zd (fun _ _ => rfl)) (Za (Zb 4) Zg)))))
  (Zk (Z2 (ZA Uo (Zb 3) Zd (Zu _))
  (Zk (ZG (i := 6) XD.nd rfl (Or.inl rfl) (Zl (Fx.Cle.cal C_law_odd_goal) hr rfl (Za (Yf (Zb 1) Zd (fun _ _ => rfl)) (Za (Zb 4) Zg)))))
  (Zk (Z2 (ZA (Yh hr.units) (Zb 3) Zd (Zu _))
  (Zk (ZG (i := 6) XD.nd rfl (Or.inl rfl) (Zl (Fx.Cle.cal C_law_odd_point) hr rfl (Za (ZF WB (Yf (Zb 1) Zd (fun _ _ => rfl)) Zd) (Za (Zb 4) Zg)))))
  ZC)))))
  (Zf (Z2 (ZA (WH hr.units) (Zl (Fx.Cle.cal C_law_caught) hr rfl (Za (Zb 2) (Za (Zb 3) (Za (Zb 6) Zg)))) (Yf (XM (Za Zd (Za Zd (Za Zd (Za Zd (Za Zd (Za Zd (Za Zd (Za Zd (Za Zd (Za Zd Zg))))))))))) (Zb 3) (fun _ _ => rfl)) (Zu _))
  (Zk (ZB U6))
  ZC)
  (Zf (Fx.ss_tryA (i := 7) (Fx.InFrame.wish Zm) C_law_asked hr rfl (Za (Zb 2) (Za (Zb 3) (Za (Zb 6) Zg))) c_LimitError rfl (YD e_NoPlace u_NoPlace_LimitError (YD e_BadPoint u_BadPoint_LimitError (YD e_NoGoal u_NoGoal_LimitError X5))) (UQ e_NoPlace u_NoPlace_ValueError (UQ e_BadPoint u_BadPoint_ValueError (UQ e_NoGoal u_NoGoal_ValueError Fx.ve_nil))) XD.nd rfl rfl (fun _ =>
  (Zk (ZB (Fx.ev_isx rfl z_isinstance rfl z_ValueError (Zb 7))))))
  (Zk (ZB U6))))))))))))
theorem all_mk {l : PySem.W.OpenLaw} {w : World} {K : PySem.W.Frag} {h : Heap} {mg : Str -> Option Value} {fa : Addr} (X : K.In h) (G : h.Ns mainGlobals mg) (hfa : mg "law" = some (.ref fa))
  {f0 f1 f2 f3 f4 f5 f6 f7 f8 f9 f10 f11 f12 f13 f14 f15 f16 f17 f18 f19 f20 f21 f22 f23 f24 f25 f26 : Addr} {od0 an0 od1 an1 od2 an2 od3 an3 od4 an4 od5 an5 od6 an6 od7 an7 od8 an8 od9 an9 od10 an10 od11 an11 od12 an12 od13 an13 od14 an14 od15 an15 od16 an16 od17 an17 od18 an18 od19 an19 od20 an20 od21 an21 od22 an22 od23 an23 od24 an24 od25 an25 od26 an26 : Option Addr} {sl0 sl1 sl2 sl3 sl4 sl5 sl6 sl7 sl8 sl9 sl10 sl11 sl12 sl13 sl14 sl15 sl16 sl17 sl18 sl19 sl20 sl21 sl22 sl23 sl24 sl25 sl26 : Array (Option Value)} {oc0 kV0 dc0 pm0 cd0 ct0 oc1 kV1 dc1 pm1 cd1 ct1 oc2 kV2 dc2 pm2 cd2 ct2 oc3 kV3 dc3 pm3 cd3 ct3 oc4 kV4 dc4 pm4 cd4 ct4 oc5 kV5 dc5 pm5 cd5 ct5 oc6 kV6 dc6 pm6 cd6 ct6 oc7 kV7 dc7 pm7 cd7 ct7 oc8 kV8 dc8 pm8 cd8 ct8 oc9 kV9 dc9 pm9 cd9 ct9 oc10 kV10 dc10 pm10 cd10 ct10 oc11 kV11 dc11 pm11 cd11 ct11 oc12 kV12 dc12 pm12 cd12 ct12 oc13 kV13 dc13 pm13 cd13 ct13 oc14 kV14 dc14 pm14 cd14 ct14 oc15 kV15 dc15 pm15 cd15 ct15 oc16 kV16 dc16 pm16 cd16 ct16 oc17 kV17 dc17 pm17 cd17 ct17 oc18 kV18 dc18 pm18 cd18 ct18 oc19 kV19 dc19 pm19 cd19 ct19 oc20 kV20 dc20 pm20 cd20 ct20 oc21 kV21 dc21 pm21 cd21 ct21 oc22 kV22 dc22 pm22 cd22 ct22 oc23 kV23 dc23 pm23 cd23 ct23 oc24 kV24 dc24 pm24 cd24 ct24 oc25 kV25 dc25 pm25 cd25 ct25 oc26 kV26 dc26 pm26 cd26 ct26 : Value}
  {tg_GREATEST_NUMBER : Tok}
  {tg_MOST_KINDS : Tok}
  {tg_MOST_LIMITS : Tok}
  {X_NoDesk : Addr}
  {X_BadPoint : Addr}
  {X_NoPlace : Addr}
  {X_NoGoal : Addr}
  {X_LimitError : Addr}
  (a0 : PySem.W.nsIn K mainGlobals "is_whole" = some (some (.ref f0))) (l0 : K.lookup f0 = some ⟨oc0, od0, .func (PySem.W.fnOf "is_whole" "is_whole" (Zs Y2) (Zp Y2) (Ze Y2) .none kV0 dc0 pm0 an0 cd0 ct0), sl0⟩) (c0 : PySem.W.codeIn K cd0 "is_whole" = true) (k0 : PySem.W.keepIn K (.ref f0) = true)
  (a1 : PySem.W.nsIn K mainGlobals "common_divisor" = some (some (.ref f1))) (l1 : K.lookup f1 = some ⟨oc1, od1, .func (PySem.W.fnOf "common_divisor" "common_divisor" (Zs ZP) (Zp ZP) (Ze ZP) .none kV1 dc1 pm1 an1 cd1 ct1), sl1⟩) (c1 : PySem.W.codeIn K cd1 "common_divisor" = true) (k1 : PySem.W.keepIn K (.ref f1) = true)
  (a2 : PySem.W.nsIn K mainGlobals "is_fraction" = some (some (.ref f2))) (l2 : K.lookup f2 = some ⟨oc2, od2, .func (PySem.W.fnOf "is_fraction" "is_fraction" (Zs Yb) (Zp Yb) (Ze Yb) .none kV2 dc2 pm2 an2 cd2 ct2), sl2⟩) (c2 : PySem.W.codeIn K cd2 "is_fraction" = true) (k2 : PySem.W.keepIn K (.ref f2) = true)
  (a3 : PySem.W.nsIn K mainGlobals "is_number" = some (some (.ref f3))) (l3 : K.lookup f3 = some ⟨oc3, od3, .func (PySem.W.fnOf "is_number" "is_number" (Zs YA) (Zp YA) (Ze YA) .none kV3 dc3 pm3 an3 cd3 ct3), sl3⟩) (c3 : PySem.W.codeIn K cd3 "is_number" = true) (k3 : PySem.W.keepIn K (.ref f3) = true)
  (a4 : PySem.W.nsIn K mainGlobals "limit_of" = some (some (.ref f4))) (l4 : K.lookup f4 = some ⟨oc4, od4, .func (PySem.W.fnOf "limit_of" "limit_of" (Zs Y0) (Zp Y0) (Ze Y0) .none kV4 dc4 pm4 an4 cd4 ct4), sl4⟩) (c4 : PySem.W.codeIn K cd4 "limit_of" = true) (k4 : PySem.W.keepIn K (.ref f4) = true)
  (a5 : PySem.W.nsIn K mainGlobals "desk_of" = some (some (.ref f5))) (l5 : K.lookup f5 = some ⟨oc5, od5, .func (PySem.W.fnOf "desk_of" "desk_of" (Zs Xr) (Zp Xr) (Ze Xr) .none kV5 dc5 pm5 an5 cd5 ct5), sl5⟩) (c5 : PySem.W.codeIn K cd5 "desk_of" = true) (k5 : PySem.W.keepIn K (.ref f5) = true)
  (a6 : PySem.W.nsIn K mainGlobals "check_point" = some (some (.ref f6))) (l6 : K.lookup f6 = some ⟨oc6, od6, .func (PySem.W.fnOf "check_point" "check_point" (Zs Yc) (Zp Yc) (Ze Yc) .none kV6 dc6 pm6 an6 cd6 ct6), sl6⟩) (c6 : PySem.W.codeIn K cd6 "check_point" = true) (k6 : PySem.W.keepIn K (.ref f6) = true)
  (a7 : PySem.W.nsIn K mainGlobals "check_place" = some (some (.ref f7))) (l7 : K.lookup f7 = some ⟨oc7, od7, .func (PySem.W.fnOf "check_place" "check_place" (Zs Yd) (Zp Yd) (Ze Yd) .none kV7 dc7 pm7 an7 cd7 ct7), sl7⟩) (c7 : PySem.W.codeIn K cd7 "check_place" = true) (k7 : PySem.W.keepIn K (.ref f7) = true)
  (a8 : PySem.W.nsIn K mainGlobals "broken" = some (some (.ref f8))) (l8 : K.lookup f8 = some ⟨oc8, od8, .func (PySem.W.fnOf "broken" "broken" (Zs XX) (Zp XX) (Ze XX) .none kV8 dc8 pm8 an8 cd8 ct8), sl8⟩) (c8 : PySem.W.codeIn K cd8 "broken" = true) (k8 : PySem.W.keepIn K (.ref f8) = true)
  (a9 : PySem.W.nsIn K mainGlobals "just" = some (some (.ref f9))) (l9 : K.lookup f9 = some ⟨oc9, od9, .func (PySem.W.fnOf "just" "just" (Zs VB) (Zp VB) (Ze VB) .none kV9 dc9 pm9 an9 cd9 ct9), sl9⟩) (c9 : PySem.W.codeIn K cd9 "just" = true) (k9 : PySem.W.keepIn K (.ref f9) = true)
  (a10 : PySem.W.nsIn K mainGlobals "check_goal" = some (some (.ref f10))) (l10 : K.lookup f10 = some ⟨oc10, od10, .func (PySem.W.fnOf "check_goal" "check_goal" (Zs Yo) (Zp Yo) (Ze Yo) .none kV10 dc10 pm10 an10 cd10 ct10), sl10⟩) (c10 : PySem.W.codeIn K cd10 "check_goal" = true) (k10 : PySem.W.keepIn K (.ref f10) = true)
  (a11 : PySem.W.nsIn K mainGlobals "best" = some (some (.ref f11))) (l11 : K.lookup f11 = some ⟨oc11, od11, .func (PySem.W.fnOf "best" "best" (Zs VC) (Zp VC) (Ze VC) .none kV11 dc11 pm11 an11 cd11 ct11), sl11⟩) (c11 : PySem.W.codeIn K cd11 "best" = true) (k11 : PySem.W.keepIn K (.ref f11) = true)
  (a12 : PySem.W.nsIn K mainGlobals "top" = some (some (.ref f12))) (l12 : K.lookup f12 = some ⟨oc12, od12, .func (PySem.W.fnOf "top" "top" (Zs QP) (Zp QP) (Ze QP) .none kV12 dc12 pm12 an12 cd12 ct12), sl12⟩) (c12 : PySem.W.codeIn K cd12 "top" = true) (k12 : PySem.W.keepIn K (.ref f12) = true)
  (a13 : PySem.W.nsIn K mainGlobals "stretch" = some (some (.ref f13))) (l13 : K.lookup f13 = some ⟨oc13, od13, .func (PySem.W.fnOf "stretch" "stretch" (Zs Xp) (Zp Xp) (Ze Xp) .none kV13 dc13 pm13 an13 cd13 ct13), sl13⟩) (c13 : PySem.W.codeIn K cd13 "stretch" = true) (k13 : PySem.W.keepIn K (.ref f13) = true)
  (a14 : PySem.W.nsIn K mainGlobals "cover" = some (some (.ref f14))) (l14 : K.lookup f14 = some ⟨oc14, od14, .func (PySem.W.fnOf "cover" "cover" (Zs Wz) (Zp Wz) (Ze Wz) .none kV14 dc14 pm14 an14 cd14 ct14), sl14⟩) (c14 : PySem.W.codeIn K cd14 "cover" = true) (k14 : PySem.W.keepIn K (.ref f14) = true)
  (a15 : PySem.W.nsIn K mainGlobals "needless" = some (some (.ref f15))) (l15 : K.lookup f15 = some ⟨oc15, od15, .func (PySem.W.fnOf "needless" "needless" (Zs YZ) (Zp YZ) (Ze YZ) .none kV15 dc15 pm15 an15 cd15 ct15), sl15⟩) (c15 : PySem.W.codeIn K cd15 "needless" = true) (k15 : PySem.W.keepIn K (.ref f15) = true)
  (a16 : PySem.W.nsIn K mainGlobals "dropped" = some (some (.ref f16))) (l16 : K.lookup f16 = some ⟨oc16, od16, .func (PySem.W.fnOf "dropped" "dropped" (Zs Xq) (Zp Xq) (Ze Xq) .none kV16 dc16 pm16 an16 cd16 ct16), sl16⟩) (c16 : PySem.W.codeIn K cd16 "dropped" = true) (k16 : PySem.W.keepIn K (.ref f16) = true)
  (a17 : PySem.W.nsIn K mainGlobals "filled" = some (some (.ref f17))) (l17 : K.lookup f17 = some ⟨oc17, od17, .func (PySem.W.fnOf "filled" "filled" (Zs XW) (Zp XW) (Ze XW) .none kV17 dc17 pm17 an17 cd17 ct17), sl17⟩) (c17 : PySem.W.codeIn K cd17 "filled" = true) (k17 : PySem.W.keepIn K (.ref f17) = true)
  (a18 : PySem.W.nsIn K mainGlobals "_law_cell_at" = some (some (.ref f18))) (l18 : K.lookup f18 = some ⟨oc18, od18, .func (PySem.W.fnOf "_law_cell_at" "_law_cell_at" (Zs Ya) (Zp Ya) (Ze Ya) .none kV18 dc18 pm18 an18 cd18 ct18), sl18⟩) (c18 : PySem.W.codeIn K cd18 "_law_cell_at" = true) (k18 : PySem.W.keepIn K (.ref f18) = true)
  (a19 : PySem.W.nsIn K mainGlobals "_law_number" = some (some (.ref f19))) (l19 : K.lookup f19 = some ⟨oc19, od19, .func (PySem.W.fnOf "_law_number" "_law_number" (Zs Yl) (Zp Yl) (Ze Yl) .none kV19 dc19 pm19 an19 cd19 ct19), sl19⟩) (c19 : PySem.W.codeIn K cd19 "_law_number" = true) (k19 : PySem.W.keepIn K (.ref f19) = true)
  (a20 : PySem.W.nsIn K mainGlobals "_law_desk" = some (some (.ref f20))) (l20 : K.lookup f20 = some ⟨oc20, od20, .func (PySem.W.fnOf "_law_desk" "_law_desk" (Zs Y1) (Zp Y1) (Ze Y1) .none kV20 dc20 pm20 an20 cd20 ct20), sl20⟩) (c20 : PySem.W.codeIn K cd20 "_law_desk" = true) (k20 : PySem.W.keepIn K (.ref f20) = true)
  (a21 : PySem.W.nsIn K mainGlobals "_law_copied" = some (some (.ref f21))) (l21 : K.lookup f21 = some ⟨oc21, od21, .func (PySem.W.fnOf "_law_copied" "_law_copied" (Zs Ym) (Zp Ym) (Ze Ym) .none kV21 dc21 pm21 an21 cd21 ct21), sl21⟩) (c21 : PySem.W.codeIn K cd21 "_law_copied" = true) (k21 : PySem.W.keepIn K (.ref f21) = true)
  (a22 : PySem.W.nsIn K mainGlobals "_law_asked" = some (some (.ref f22))) (l22 : K.lookup f22 = some ⟨oc22, od22, .func (PySem.W.fnOf "_law_asked" "_law_asked" (Zs Yz) (Zp Yz) (Ze Yz) .none kV22 dc22 pm22 an22 cd22 ct22), sl22⟩) (c22 : PySem.W.codeIn K cd22 "_law_asked" = true) (k22 : PySem.W.keepIn K (.ref f22) = true)
  (a23 : PySem.W.nsIn K mainGlobals "_law_odd_point" = some (some (.ref f23))) (l23 : K.lookup f23 = some ⟨oc23, od23, .func (PySem.W.fnOf "_law_odd_point" "_law_odd_point" (Zs ZT) (Zp ZT) (Ze ZT) .none kV23 dc23 pm23 an23 cd23 ct23), sl23⟩) (c23 : PySem.W.codeIn K cd23 "_law_odd_point" = true) (k23 : PySem.W.keepIn K (.ref f23) = true)
  (a24 : PySem.W.nsIn K mainGlobals "_law_odd_goal" = some (some (.ref f24))) (l24 : K.lookup f24 = some ⟨oc24, od24, .func (PySem.W.fnOf "_law_odd_goal" "_law_odd_goal" (Zs Z4) (Zp Z4) (Ze Z4) .none kV24 dc24 pm24 an24 cd24 ct24), sl24⟩) (c24 : PySem.W.codeIn K cd24 "_law_odd_goal" = true) (k24 : PySem.W.keepIn K (.ref f24) = true)
  (a25 : PySem.W.nsIn K mainGlobals "_law_caught" = some (some (.ref f25))) (l25 : K.lookup f25 = some ⟨oc25, od25, .func (PySem.W.fnOf "_law_caught" "_law_caught" (Zs Yn) (Zp Yn) (Ze Yn) .none kV25 dc25 pm25 an25 cd25 ct25), sl25⟩) (c25 : PySem.W.codeIn K cd25 "_law_caught" = true) (k25 : PySem.W.keepIn K (.ref f25) = true)
  (a26 : PySem.W.nsIn K mainGlobals "law" = some (some (.ref f26))) (l26 : K.lookup f26 = some ⟨oc26, od26, .func (PySem.W.fnOf "law" "law" (Zs VT) (Zp VT) (Ze VT) .none kV26 dc26 pm26 an26 cd26 ct26), sl26⟩) (c26 : PySem.W.codeIn K cd26 "law" = true) (k26 : PySem.W.keepIn K (.ref f26) = true)
  (z_isinstance : PySem.W.nsIn K mainGlobals "isinstance" = some none)
  (z_int : PySem.W.nsIn K mainGlobals "int" = some none)
  (z_bool : PySem.W.nsIn K mainGlobals "bool" = some none)
  (z_abs : PySem.W.nsIn K mainGlobals "abs" = some none)
  (z_tuple : PySem.W.nsIn K mainGlobals "tuple" = some none)
  (z_len : PySem.W.nsIn K mainGlobals "len" = some none)
  (z_list : PySem.W.nsIn K mainGlobals "list" = some none)
  (z_all : PySem.W.nsIn K mainGlobals "all" = some none)
  (z_range : PySem.W.nsIn K mainGlobals "range" = some none)
  (z_ValueError : PySem.W.nsIn K mainGlobals "ValueError" = some none)
  (g_GREATEST_NUMBER : PySem.W.nsIn K mainGlobals "GREATEST_NUMBER" = some (some (.int 999999999999 tg_GREATEST_NUMBER)))
  (g_MOST_KINDS : PySem.W.nsIn K mainGlobals "MOST_KINDS" = some (some (.int 4 tg_MOST_KINDS)))
  (g_MOST_LIMITS : PySem.W.nsIn K mainGlobals "MOST_LIMITS" = some (some (.int 10 tg_MOST_LIMITS)))
  (x_NoDesk : PySem.W.nsIn K mainGlobals "NoDesk" = some (some (.ref X_NoDesk))) (q_NoDesk : PySem.W.excIn K X_NoDesk [.type "ValueError", .type "Exception", .type "BaseException", .type "object"] "ValueError.__new__" = true)
  (x_BadPoint : PySem.W.nsIn K mainGlobals "BadPoint" = some (some (.ref X_BadPoint))) (q_BadPoint : PySem.W.excIn K X_BadPoint [.type "ValueError", .type "Exception", .type "BaseException", .type "object"] "ValueError.__new__" = true)
  (x_NoPlace : PySem.W.nsIn K mainGlobals "NoPlace" = some (some (.ref X_NoPlace))) (q_NoPlace : PySem.W.excIn K X_NoPlace [.type "ValueError", .type "Exception", .type "BaseException", .type "object"] "ValueError.__new__" = true)
  (x_NoGoal : PySem.W.nsIn K mainGlobals "NoGoal" = some (some (.ref X_NoGoal))) (q_NoGoal : PySem.W.excIn K X_NoGoal [.type "ValueError", .type "Exception", .type "BaseException", .type "object"] "ValueError.__new__" = true)
  (x_LimitError : PySem.W.nsIn K mainGlobals "LimitError" = some (some (.ref X_LimitError))) (q_LimitError : PySem.W.excIn K X_LimitError [.type "ValueError", .type "Exception", .type "BaseException", .type "object"] "ValueError.__new__" = true)
  (u_BadPoint_BadPoint : PySem.W.subIn K (.ref X_BadPoint) (.ref X_BadPoint) = some true)
  (u_NoGoal_NoGoal : PySem.W.subIn K (.ref X_NoGoal) (.ref X_NoGoal) = some true)
  (u_NoPlace_NoPlace : PySem.W.subIn K (.ref X_NoPlace) (.ref X_NoPlace) = some true)
  (u_NoGoal_LimitError : PySem.W.subIn K (.ref X_NoGoal) (.ref X_LimitError) = some true)
  (u_NoGoal_ValueError : PySem.W.subIn K (.ref X_NoGoal) (.type "ValueError") = some true)
  (u_BadPoint_LimitError : PySem.W.subIn K (.ref X_BadPoint) (.ref X_LimitError) = some true)
  (u_BadPoint_ValueError : PySem.W.subIn K (.ref X_BadPoint) (.type "ValueError") = some true)
  (u_NoPlace_LimitError : PySem.W.subIn K (.ref X_NoPlace) (.ref X_LimitError) = some true)
  (u_NoPlace_ValueError : PySem.W.subIn K (.ref X_NoPlace) (.type "ValueError") = some true)
  (v_NoGoal_BadPoint : PySem.W.subIn K (.ref X_NoGoal) (.ref X_BadPoint) = some false)
  (v_NoPlace_BadPoint : PySem.W.subIn K (.ref X_NoPlace) (.ref X_BadPoint) = some false)
  (v_NoPlace_NoGoal : PySem.W.subIn K (.ref X_NoPlace) (.ref X_NoGoal) = some false) :
  ∃ fd : FuncData, (∀ (s : Shared) (v : Value), BindsTo s fd ⟨[v], []⟩ [("_law_script", v)]) /\ ∀ base : Heap, K.In base -> base.Ns mainGlobals mg -> FnOk l.prog w K mg base CX0 7 fa fd ["_law_script"] (Fx.spF K none 1 QZ) := by
 have e := hfa.symm.trans (PySem.W.mg_of X G a26)
 cases e
 have F0 := ZU (st := Y2) l0 c0 k0
 have b0 := F0.binds (ps := ["value"]) fun _ _ _ _ _ _ us hl => match us, hl with | [_], _ => rfl
 have F1 := ZU (st := ZP) l1 c1 k1
 have b1 := F1.binds (ps := ["a", "b"]) fun _ _ _ _ _ _ us hl => match us, hl with | [_, _], _ => rfl
 have F2 := ZU (st := Yb) l2 c2 k2
 have b2 := F2.binds (ps := ["value"]) fun _ _ _ _ _ _ us hl => match us, hl with | [_], _ => rfl
 have F3 := ZU (st := YA) l3 c3 k3
 have b3 := F3.binds (ps := ["value"]) fun _ _ _ _ _ _ us hl => match us, hl with | [_], _ => rfl
 have F4 := ZU (st := Y0) l4 c4 k4
 have b4 := F4.binds (ps := ["kinds", "limit"]) fun _ _ _ _ _ _ us hl => match us, hl with | [_, _], _ => rfl
 have F5 := ZU (st := Xr) l5 c5 k5
 have b5 := F5.binds (ps := ["kinds", "limits"]) fun _ _ _ _ _ _ us hl => match us, hl with | [_, _], _ => rfl
 have F6 := ZU (st := Yc) l6 c6 k6
 have b6 := F6.binds (ps := ["kinds", "point"]) fun _ _ _ _ _ _ us hl => match us, hl with | [_, _], _ => rfl
 have F7 := ZU (st := Yd) l7 c7 k7
 have b7 := F7.binds (ps := ["count", "place"]) fun _ _ _ _ _ _ us hl => match us, hl with | [_, _], _ => rfl
 have F8 := ZU (st := XX) l8 c8 k8
 have b8 := F8.binds (ps := ["desk", "point"]) fun _ _ _ _ _ _ us hl => match us, hl with | [_, _], _ => rfl
 have F9 := ZU (st := VB) l9 c9 k9
 have b9 := F9.binds (ps := ["desk", "point"]) fun _ _ _ _ _ _ us hl => match us, hl with | [_, _], _ => rfl
 have F10 := ZU (st := Yo) l10 c10 k10
 have b10 := F10.binds (ps := ["kinds", "goal"]) fun _ _ _ _ _ _ us hl => match us, hl with | [_, _], _ => rfl
 have F11 := ZU (st := VC) l11 c11 k11
 have b11 := F11.binds (ps := ["desk", "goal"]) fun _ _ _ _ _ _ us hl => match us, hl with | [_, _], _ => rfl
 have F12 := ZU (st := QP) l12 c12 k12
 have b12 := F12.binds (ps := ["desk", "goal"]) fun _ _ _ _ _ _ us hl => match us, hl with | [_, _], _ => rfl
 have F13 := ZU (st := Xp) l13 c13 k13
 have b13 := F13.binds (ps := ["desk", "kind"]) fun _ _ _ _ _ _ us hl => match us, hl with | [_, _], _ => rfl
 have F14 := ZU (st := Wz) l14 c14 k14
 have b14 := F14.binds (ps := ["desk", "place"]) fun _ _ _ _ _ _ us hl => match us, hl with | [_, _], _ => rfl
 have F15 := ZU (st := YZ) l15 c15 k15
 have b15 := F15.binds (ps := ["desk", "place"]) fun _ _ _ _ _ _ us hl => match us, hl with | [_, _], _ => rfl
 have F16 := ZU (st := Xq) l16 c16 k16
 have b16 := F16.binds (ps := ["desk", "kind"]) fun _ _ _ _ _ _ us hl => match us, hl with | [_, _], _ => rfl
 have F17 := ZU (st := XW) l17 c17 k17
 have b17 := F17.binds (ps := ["desk", "kind", "point"]) fun _ _ _ _ _ _ us hl => match us, hl with | [_, _, _], _ => rfl
 have F18 := ZU (st := Ya) l18 c18 k18
 have b18 := F18.binds (ps := ["_law_script", "_law_k"]) fun _ _ _ _ _ _ us hl => match us, hl with | [_, _], _ => rfl
 have F19 := ZU (st := Yl) l19 c19 k19
 have b19 := F19.binds (ps := ["_law_cell", "_law_wide"]) fun _ _ _ _ _ _ us hl => match us, hl with | [_, _], _ => rfl
 have F20 := ZU (st := Y1) l20 c20 k20
 have b20 := F20.binds (ps := ["_law_script"]) fun _ _ _ _ _ _ us hl => match us, hl with | [_], _ => rfl
 have F21 := ZU (st := Ym) l21 c21 k21
 have b21 := F21.binds (ps := ["_law_limits"]) fun _ _ _ _ _ _ us hl => match us, hl with | [_], _ => rfl
 have F22 := ZU (st := Yz) l22 c22 k22
 have b22 := F22.binds (ps := ["_law_desk_here", "_law_which", "_law_bad"]) fun _ _ _ _ _ _ us hl => match us, hl with | [_, _, _], _ => rfl
 have F23 := ZU (st := ZT) l23 c23 k23
 have b23 := F23.binds (ps := ["_law_kinds", "_law_cell"]) fun _ _ _ _ _ _ us hl => match us, hl with | [_, _], _ => rfl
 have F24 := ZU (st := Z4) l24 c24 k24
 have b24 := F24.binds (ps := ["_law_kinds", "_law_cell"]) fun _ _ _ _ _ _ us hl => match us, hl with | [_, _], _ => rfl
 have F25 := ZU (st := Yn) l25 c25 k25
 have b25 := F25.binds (ps := ["_law_desk_here", "_law_which", "_law_bad"]) fun _ _ _ _ _ _ us hl => match us, hl with | [_, _, _], _ => rfl
 have F26 := ZU (st := VT) l26 c26 k26
 have b26 := F26.binds (ps := ["_law_script"]) fun _ _ _ _ _ _ us hl => match us, hl with | [_], _ => rfl
 have m_isinstance := PySem.W.mg_none_of X G z_isinstance
 have m_int := PySem.W.mg_none_of X G z_int
 have m_bool := PySem.W.mg_none_of X G z_bool
 have m_abs := PySem.W.mg_none_of X G z_abs
 have m_tuple := PySem.W.mg_none_of X G z_tuple
 have m_len := PySem.W.mg_none_of X G z_len
 have m_list := PySem.W.mg_none_of X G z_list
 have m_all := PySem.W.mg_none_of X G z_all
 have m_range := PySem.W.mg_none_of X G z_range
 have m_ValueError := PySem.W.mg_none_of X G z_ValueError
 have n_GREATEST_NUMBER := PySem.W.mg_of X G g_GREATEST_NUMBER
 have n_MOST_KINDS := PySem.W.mg_of X G g_MOST_KINDS
 have n_MOST_LIMITS := PySem.W.mg_of X G g_MOST_LIMITS
 obtain ⟨cl, hcl⟩ : ∃ cl : Str -> Value, cl "NoDesk" = .ref X_NoDesk /\ cl "BadPoint" = .ref X_BadPoint /\ cl "NoPlace" = .ref X_NoPlace /\ cl "NoGoal" = .ref X_NoGoal /\ cl "LimitError" = .ref X_LimitError /\ True := ⟨fun c => if c = "NoDesk" then .ref X_NoDesk else if c = "BadPoint" then .ref X_BadPoint else if c = "NoPlace" then .ref X_NoPlace else if c = "NoGoal" then .ref X_NoGoal else if c = "LimitError" then .ref X_LimitError else .none, (if_pos rfl), ((if_neg (by decide)).trans (if_pos rfl)), ((if_neg (by decide)).trans ((if_neg (by decide)).trans (if_pos rfl))), ((if_neg (by decide)).trans ((if_neg (by decide)).trans ((if_neg (by decide)).trans (if_pos rfl)))), ((if_neg (by decide)).trans ((if_neg (by decide)).trans ((if_neg (by decide)).trans ((if_neg (by decide)).trans (if_pos rfl))))), trivial⟩
 obtain ⟨e_NoDesk, hcl⟩ := hcl
 obtain ⟨e_BadPoint, hcl⟩ := hcl
 obtain ⟨e_NoPlace, hcl⟩ := hcl
 obtain ⟨e_NoGoal, hcl⟩ := hcl
 obtain ⟨e_LimitError, hcl⟩ := hcl
 have c_NoDesk : Fx.XCls K mg "NoDesk" X_NoDesk := ⟨PySem.W.mg_of X G x_NoDesk, q_NoDesk⟩
 have c_BadPoint : Fx.XCls K mg "BadPoint" X_BadPoint := ⟨PySem.W.mg_of X G x_BadPoint, q_BadPoint⟩
 have c_NoPlace : Fx.XCls K mg "NoPlace" X_NoPlace := ⟨PySem.W.mg_of X G x_NoPlace, q_NoPlace⟩
 have c_NoGoal : Fx.XCls K mg "NoGoal" X_NoGoal := ⟨PySem.W.mg_of X G x_NoGoal, q_NoGoal⟩
 have c_LimitError : Fx.XCls K mg "LimitError" X_LimitError := ⟨PySem.W.mg_of X G x_LimitError, q_LimitError⟩
 refine ⟨PySem.W.fnOf "law" "law" (Zs VT) (Zp VT) (Ze VT) .none kV26 dc26 pm26 an26 cd26 ct26, fun s v => .of_eq rfl, fun base _ _ => ?_⟩
 have R_is_whole := U0 (P := l.prog) (w := w) (base := base) (k := 0) F0 (PySem.W.mg_of X G a0) b0 m_isinstance m_int m_bool
 have R_common_divisor := WC (P := l.prog) (w := w) (base := base) (k := 0) F1 (PySem.W.mg_of X G a1) b1 m_abs
 have R_is_fraction := Vv (P := l.prog) (w := w) (base := base) (k := 1) F2 (PySem.W.mg_of X G a2) b2 m_isinstance m_tuple m_len (R_is_whole.mono (by decide)) (R_common_divisor.mono (by decide))
 have R_is_number := Uq (P := l.prog) (w := w) (base := base) (k := 1) F3 (PySem.W.mg_of X G a3) b3 m_abs ⟨_, n_GREATEST_NUMBER⟩ (R_is_whole.mono (by decide))
 have R_limit_of := UY (P := l.prog) (w := w) (base := base) (k := 2) (cl := cl) F4 (PySem.W.mg_of X G a4) b4 m_isinstance m_tuple m_len m_list m_all c_NoDesk e_NoDesk (R_is_number.mono (by decide))
 have R_desk_of := QS (P := l.prog) (w := w) (base := base) (k := 3) (cl := cl) F5 (PySem.W.mg_of X G a5) b5 m_isinstance m_list m_len m_tuple ⟨_, n_MOST_KINDS⟩ ⟨_, n_MOST_LIMITS⟩ c_NoDesk e_NoDesk (R_is_whole.mono (by decide)) (R_limit_of.mono (by decide))
 have R_check_point := Vw (P := l.prog) (w := w) (base := base) (k := 2) (cl := cl) F6 (PySem.W.mg_of X G a6) b6 m_isinstance m_list m_len m_all c_BadPoint e_BadPoint (R_is_fraction.mono (by decide))
 have R_check_place := Vx (P := l.prog) (w := w) (base := base) (k := 1) (cl := cl) F7 (PySem.W.mg_of X G a7) b7 c_NoPlace e_NoPlace (R_is_whole.mono (by decide))
 have R_broken := Ju (P := l.prog) (w := w) (base := base) (k := 3) (cl := cl) F8 (PySem.W.mg_of X G a8) b8 (R_check_point.mono (by decide))
 have R_just := ok_just (P := l.prog) (w := w) (base := base) (k := 3) (cl := cl) F9 (PySem.W.mg_of X G a9) b9 (R_check_point.mono (by decide))
 have R_check_goal := V1 (P := l.prog) (w := w) (base := base) (k := 1) (cl := cl) F10 (PySem.W.mg_of X G a10) b10 m_isinstance m_list m_len m_all c_NoGoal e_NoGoal (R_is_whole.mono (by decide))
 have R_best := ok_best (P := l.prog) (w := w) (base := base) (k := 2) (cl := cl) F11 (PySem.W.mg_of X G a11) b11 (R_check_goal.mono (by decide))
 have R_top := ok_top (P := l.prog) (w := w) (base := base) (k := 3) (cl := cl) F12 (PySem.W.mg_of X G a12) b12 (R_best.mono (by decide))
 have R_stretch := QQ (P := l.prog) (w := w) (base := base) (k := 2) (cl := cl) F13 (PySem.W.mg_of X G a13) b13 (R_check_place.mono (by decide))
 have R_cover := ok_cover (P := l.prog) (w := w) (base := base) (k := 2) (cl := cl) F14 (PySem.W.mg_of X G a14) b14 m_len (R_check_place.mono (by decide))
 have R_needless := UX (P := l.prog) (w := w) (base := base) (k := 3) (cl := cl) F15 (PySem.W.mg_of X G a15) b15 (R_cover.mono (by decide))
 have R_dropped := QR (P := l.prog) (w := w) (base := base) (k := 2) (cl := cl) F16 (PySem.W.mg_of X G a16) b16 (R_check_place.mono (by decide))
 have R_filled := Jt (P := l.prog) (w := w) (base := base) (k := 3) (cl := cl) F17 (PySem.W.mg_of X G a17) b17 (R_check_place.mono (by decide)) (R_check_point.mono (by decide))
 have R_law_cell_at := Vu (P := l.prog) (w := w) (base := base) (k := 0) F18 (PySem.W.mg_of X G a18) b18 m_len
 have R_law_number := VY (P := l.prog) (w := w) (base := base) (k := 0) F19 (PySem.W.mg_of X G a19) b19 
 have R_law_desk := UZ (P := l.prog) (w := w) (base := base) (k := 1) F20 (PySem.W.mg_of X G a20) b20 m_range m_abs (R_law_cell_at.mono (by decide)) (R_law_number.mono (by decide))
 have R_law_copied := VZ (P := l.prog) (w := w) (base := base) (k := 0) F21 (PySem.W.mg_of X G a21) b21 m_list
 have R_law_asked := Up (P := l.prog) (w := w) (base := base) (k := 4) (cl := cl) F22 (PySem.W.mg_of X G a22) b22 (R_broken.mono (by decide)) (R_just.mono (by decide)) (R_best.mono (by decide)) (R_top.mono (by decide)) (R_stretch.mono (by decide)) (R_cover.mono (by decide)) (R_needless.mono (by decide)) (R_dropped.mono (by decide)) (R_filled.mono (by decide))
 have R_law_odd_point := WX (P := l.prog) (w := w) (base := base) (k := 0) F23 (PySem.W.mg_of X G a23) b23 m_range m_tuple
 have R_law_odd_goal := Ve (P := l.prog) (w := w) (base := base) (k := 0) F24 (PySem.W.mg_of X G a24) b24 m_range m_tuple
 have R_law_caught := V0 (P := l.prog) (w := w) (base := base) (k := 5) (cl := cl) F25 (PySem.W.mg_of X G a25) b25 c_BadPoint c_NoGoal c_NoPlace e_BadPoint e_NoGoal e_NoPlace u_BadPoint_BadPoint u_NoGoal_NoGoal u_NoPlace_NoPlace v_NoGoal_BadPoint v_NoPlace_BadPoint v_NoPlace_NoGoal (R_law_asked.mono (by decide))
 exact law_fn F26 m_len m_isinstance m_ValueError c_LimitError c_NoGoal c_BadPoint c_NoPlace e_LimitError e_NoGoal e_BadPoint e_NoPlace u_NoGoal_LimitError u_NoGoal_ValueError u_BadPoint_LimitError u_BadPoint_ValueError u_NoPlace_LimitError u_NoPlace_ValueError (R_law_desk.mono (by decide)) (R_law_copied.mono (by decide)) (R_desk_of.mono (by decide)) (R_law_cell_at.mono (by decide)) (R_law_odd_point.mono (by decide)) (R_law_odd_goal.mono (by decide)) (R_law_caught.mono (by decide)) (R_law_asked.mono (by decide))
end K21
namespace K21
open PySem PySem.Spec PyProof.Rows L2 Fx Lx
open Lw
theorem walk {l : PySem.W.OpenLaw} {q : Program} {loose : List Str} {XP : (Str -> Option Value) -> Heap -> Prop} {YP : World -> Heap -> Prop} {d : DefRec} {K : Params -> PySem.W.Frag} (hn : l.most = some 63) (hdf : d.params.defaults = [])
  (hrec : ∃ d0, (recsOf q).find? (fun e => e.name == ("raising_column" : Str)) = some d0) (hY : ∀ (w : World) (h : Heap), YP w h -> (K w.params).In h)
  (hT : ∀ P : Params, (PySem.W.tabIn (K P) "raising_column").isSome = true) (hno : ∀ P : Params, PySem.W.noTabs (K P) = true)
  (F : ∀ (w : World) (mg : Str -> Option Value) (fa : Addr) (h : Heap), (K w.params).In h -> h.Ns mainGlobals mg -> mg d.name = some (.ref fa) ->
   ∃ fd : FuncData, (∀ (s : Shared) (u : Value), BindsTo s fd ⟨[u], []⟩ [("_law_script", u)]) /\ ∀ base : Heap, (K w.params).In base -> base.Ns mainGlobals mg -> FnOk l.prog w (K w.params) mg base CX0 7 fa fd ["_law_script"] (Fx.spF (K w.params) none 1 QZ)) :
  PySem.W.WalkO q loose XP YP l.row.toRowW d [] (fun f vs => PySem.call f vs) :=
 let ⟨_, h0⟩ := hrec
 Fx.walk_T (n := 63) (k := 7) (x := "_law_script") (x0 := "raising_column") hn (by decide) hdf ⟨rfl, by decide, by decide⟩ (List.mem_singleton.mpr rfl) h0 hY (fun w mg fa h KX G hm =>
  let ⟨fd, b, z⟩ := F w mg fa h KX G hm
  let ⟨⟨c, T⟩, t⟩ := Option.isSome_iff_exists.mp (hT w.params)
  ⟨fd, c, T, t, hno w.params, b, fun base X1 X2 _ _ => z base X1 X2⟩) (fun ns hl => law_ok ns hl)
end K21
open PySem PySem.W PyProof.Rows
namespace PySem.W.Fast
def tw1271608891553726018:=0
def tw8430026456476622246:=0
def tw12857114578386508589:=0
def tw2796387500434644011:=0
def tw6925992346655588128:=0
def tw10124328814011529191:=0
def tw4186198714706833188:=0
def tw13550857896230403952:=0
def tw11886767535817494819:=0
def tw6303530900206713820:=0
def tw10448119760154248373:=0
def tw7216431835780867470:=0
def tw14711806777687482489:=0
def tw1280142620758380528:=0
def tw527673683539012810:=0
def tw16270007803389972519:=0
def tw17967794694464201711:=0
def tw4081023539921390631:=0
def tw8046172647425296562:=0
def tw10577718249299290394:=0
def tw8485918690600598683:=0
def tw10972240007139561852:=0
def tw8085370002397942978:=0
def tw7137820170480139094:=0
def tw8111568798781651406:=0
def tw16774092562299662671:=0
def tw10010547564351545949:=0
def tw1839185259793897689:=0
def tw489071240749157333:=0
def tw12570958996587160808:=0
def tw5033045840707258764:=0
def tw6482039496295124689:=0
def tw14635735118563016893:=0
def tw7614800585093681089:=0
def tw15481212573526511784:=0
def tw5860837701878761611:=0
def tw8172181839257599975:=0
def tw7623319340770016032:=0
def tw1731403648561612928:=0
def tw13238247753025750248:=0
def tw18430500331413450557:=0
def tw16868638114298881575:=0
def tw12820840602124587941:=0
def tw4971962497819691063:=0
def tw4943640387659488840:=0
def tw8286564786438548444:=0
def tw16368385535277922282:=0
def tw2799109470582371538:=0
def tw10933786609436881356:=0
def tw8327334417226367171:=0
def tw11212816396198751508:=0
def tw5414241869819907711:=0
def tw15011962299836596930:=0
def tw16000460376162497637:=0
def tw17866204593356567998:=0
def tw978896922218932208:=0
def tw14833705182151982540:=0
def tw14050555567275255776:=0
def tw7261136560425348786:=0
def tw11619610388926269023:=0
def tw5808403925519530053:=0
def tw9687341580592140801:=0
def tw14120598165715221333:=0
def tw14332971407286217003:=0
def tw16015911200914883706:=0
def tw16217814155780803446:=0
def tw9816890388764378776:=0
def tw6572185513740920588:=0
def tw17210556779934580513:=0
def tw16427271365047521954:=0
def tw1616779257133329870:=0
def tw11218285012533123687:=0
def tw16156239604413437573:=0
def tw8587637482169430337:=0
def tw4548776074590362430:=0
def tw11446716294344095203:=0
def tw10246470165099987788:=0
def tw572883001368512211:=0
def tw13920721793476331278:=0
def tw1043623972610566258:=0
def tw7521867188287418403:=0
def tw11563600503518584834:=0
def tw8338197116967926811:=0
def tw9210901627251737685:=0
def tw15799829922021471437:=0
def tw7596184225535914059:=0
def tw10895394355180918207:=0
def tw5147358026442568487:=0
def tw4351983252116622809:=0
def tw16246226207304433604:=0
def tw6096889616049080656:=0
def tw15195670702573754055:=0
def tw16954624052825029453:=0
def tw283031174758598419:=0
def tw17647374618341558937:=0
def tw17503125965597394751:=0
def tw18439016035492088106:=0
def tw6372165094881973238:=0
def tw10754370238552101617:=0
def tw6963388635404061072:=0
def tw9304077866711816462:=0
def tw1284483974988388250:=0
def tw10612712448803260166:=0
def tw1850157549786728019:=0
def tw9921971608311611468:=0
def tw4746049610548144908:=0
def tw6941197863881935242:=0
def tw9018899581075559494:=0
def tw3204775001546713039:=0
def tw9220655540402610308:=0
def tw15641190348335335274:=0
def tw11028256346258569515:=0
def tw561993064929459426:=0
def tw2449931689214395068:=0
def tw12326135597402447251:=0
def tw13949707468431439793:=0
def tw2790562003095979721:=0
def tw14420581800884670142:=0
def tw15661120700576619302:=0
def tw11234894181544623557:=0
def tw2464627252551690884:=0
def tw5025561371423686024:=0
def tw16198592895040047006:=0
def tw11449926013863246223:=0
def tw5481642978239080414:=0
def tw10234373051184126160:=0
def tw3927965878392666214:=0
def tw7195631457527248395:=0
def tw13064798757909641828:=0
def tw1554643672416997278:=0
def tw8275607006337901460:=0
def tw6426554953759286782:=0
def tw15654927663556341351:=0
def tw10988107803309477254:=0
def tw11664681951506681170:=0
def tw17250991627923195432:=0
def tw15826456543456984135:=0
def tw15242769486724569597:=0
def tw8490736758009436397:=0
def tw5297461143954090355:=0
def tw9811302741721705399:=0
def tw10987716612145627265:=0
def tw16500133082177182931:=0
def tw8939263536835325609:=0
def tw14921328804527996838:=0
def tw17260633725934153650:=0
def tw12128923420822408419:=0
def tw8018687297068901427:=0
def tw15754320948735040794:=0
def tw15947837638162064289:=0
def tw10254822338729665414:=0
def tw10595942801192578169:=0
def tw7561059333355381036:=0
def tw4340332338835578014:=0
def tw13600044732954052423:=0
def tw15193598587455326649:=0
def tw6506270315998201117:=0
def tw14940233865860704038:=0
def tw5638810258510292699:=0
def tw10240605957635052225:=0
def tw7693448291742965150:=0
def tw11681443545011425948:=0
def tw5915248221113222676:=0
def tw6957527403350574724:=0
def tw11296162060197899536:=0
def tw5095904677873057073:=0
def tw9028935063967250003:=0
def tw2892283082712384278:=0
def tw1739392415564667301:=0
def tw12376058862668657463:=0
def tw11830844914491022096:=0
def tw944022026251140932:=0
def tw1102585634693839238:=0
def tw13615880254508770559:=0
def tw5736578308056563466:=0
def tw16293957064354620469:=0
def tw15718408661858460635:=0
def tw12666291976819666203:=0
def tw13002645679985899171:=0
def tw5668753815024655357:=0
def tw14920581737890956648:=0
def tw14107355560233471960:=0
def tw14651360655930118946:=0
def tw6689132374174306514:=0
def tw11556669911329198399:=0
def tw18319692407282148957:=0
def tw3697169248788296940:=0
def tw9489500400742461876:=0
def tw8012497142614205689:=0
def tw7634251141359041990:=0
def tw12254109937505551892:=0
def tw3499132056360647003:=0
def tw5809456906344832156:=0
def tw5124097938607416913:=0
def tw7824045280481300163:=0
def tw17919425513626740645:=0
def tw16159888706763315586:=0
def tw4131782081724481264:=0
def tw13803261014663138672:=0
def tw13457384121209552457:=0
def tw8977423295221040752:=0
def tw11355051726589392121:=0
def tw2628235354831342010:=0
def tw12393973886136718397:=0
def tw5960994538204331562:=0
def tw6619118272962082158:=0
def tw5794522520982441803:=0
def tw2994070746137908804:=0
def tw10231924984669774998:=0
def tw11773749147051930991:=0
def tw9192570084195392763:=0
def tw9527255489452613497:=0
def tw14905550942387861509:=0
def tw1757743176914488601:=0
def tw2517422630747836948:=0
def tw13517958751631504656:=0
def tw7444358548567910450:=0
def tw8485972969959982870:=0
def tw1862484518394055693:=0
def tw1688572433280874703:=0
def tw12592352471831037240:=0
def tw5866764415688224573:=0
def tw3614190396753120653:=0
def tw14027203377843662625:=0
def tw11408681264078990770:=0
def tw17308796744934690357:=0
def tw12629319645721333190:=0
def tw216512494825255814:=0
def tw8076171806360540758:=0
def tw16489859197343805499:=0
def tw15732909535873318380:=0
def tw7376238860816383960:=0
def tw15536621924648933530:=0
def tw11463604405606555033:=0
def tw8405976308222908971:=0
def tw3767578131426086259:=0
def tw100052052639748276:=0
def tw2215558665161374528:=0
def tw5065565501272911547:=0
def tw820493345311140983:=0
def tw10523990219252619283:=0
def tw15055282084450135425:=0
def tw8728947600716521291:=0
def tw9341022388324234392:=0
def tw2786721788437420750:=0
def tw17604307535560776903:=0
def tw8669825519948314490:=0
def tw3843578716625767892:=0
def tw17358276200697366595:=0
def tw10231409304426268424:=0
def tw11224625139736113531:=0
def tw10521398770810504419:=0
def tw14118324228812164767:=0
def tw15848590684639565543:=0
def tw7255652903959608265:=0
def tw4362836428916253912:=0
def tw17222702962601220106:=0
def tw15386821510884325796:=0
def tw1444602381545895160:=0
def tw9460781995065185716:=0
def tw9154023617905699000:=0
def tw7567548738288410638:=0
def tw11507543833581743244:=0
def tw5799287490201983894:=0
def tw7096681998856675035:=0
def tw18107960200744149026:=0
def tw16388838268933864307:=0
def tw10291381246626159156:=0
def tw16965057484818041635:=0
def tw1547504823848719496:=0
def tw16125260413562851152:=0
def tw92075873086844874:=0
def tw16025659834032899054:=0
def tw15476750375494123869:=0
def tw9498112766093871889:=0
def tw14157609576165092045:=0
def tw17004827886652757323:=0
def tw17596707907354699753:=0
def tw13691219970846637478:=0
def tw4132632018864015131:=0
def tw12039512033335397993:=0
def tw15545123575694296578:=0
def tw12802144318837345043:=0
def tw6561321454310557416:=0
def tw18407229415361610441:=0
def tw16158338968078584286:=0
def tw6520919764309946304:=0
def tw2990033491770266314:=0
def tw14311541154719862326:=0
def tw20579519621254223:=0
def tw5494303964999429367:=0
def tw6571070142824304807:=0
def tw15717280463830081180:=0
def tw10780210260899366412:=0
def tw151194086300376294:=0
def tw13480178535250161708:=0
def tw6017198806941997424:=0
def tw7575798218450574579:=0
def tw4354188261370330201:=0
def tw6288443171905986701:=0
def tw6766851957090782103:=0
def tw2414905568863970591:=0
def tw17289216555363415880:=0
def tw18248224877590412150:=0
def tw15492978245992527912:=0
def tw1844988543746959206:=0
def tw6339185198494927163:=0
def tw15291186358573599497:=0
def tw5135678240672871714:=0
def tw4128030587914887335:=0
def tw5251801665273827317:=0
def tw15485371538255471888:=0
def tw11917495783838842322:=0
def tw1013350888895667827:=0
def tw16140325375051136558:=0
def tw14658899558375684231:=0
def tw4618302668253443060:=0
def tw16648437132603698470:=0
def tw16623840388610525046:=0
def tw302937177637421590:=0
def tw4294407834143807217:=0
def tw5165596038979505741:=0
def tw1446853779090146482:=0
def tw10318687248100158632:=0
def tw11430398074084389964:=0
def tw13916138357952194103:=0
def tw14525110451489324675:=0
def tw2614462964857694006:=0
def tw9331775552961583459:=0
def tw17936368099251257826:=0
def tw12950858296022133683:=0
def tw2697766502096203680:=0
def tw14247060822291278441:=0
def tw4249005190408003181:=0
def tw17467549784224447684:=0
def tw2144965023780655970:=0
def tw5019180839511014545:=0
def tw3800290759384595247:=0
def tw3264726673114185030:=0
def tw9647906496224930911:=0
def tw9490060538538248036:=0
def tw13380889225403058168:=0
def tw13334807249984683236:=0
def tw14086926246117485069:=0
def tw1822338660032751918:=0
def tw18067412103903000763:=0
def tw776348255138555739:=0
def tw416831785775185310:=0
def tw11752168826595930915:=0
def tw4461835295919930683:=0
def tw6591891385504293019:=0
def tw13616417956633477168:=0
def tw7949638026041317532:=0
def tw15844707420530261341:=0
def tw1739118076136866087:=0
def tw16748625502695428885:=0
def tw3852591687540713255:=0
def tw14991062571431064022:=0
def tw8096954266340245785:=0
def tw12659220680278785092:=0
def tw17726375123668137091:=0
def tw3259588621757516035:=0
def tw2575888365562767832:=0
def tw8909988142858567661:=0
def tw16225837162955521141:=0
def tw1548915458622637292:=0
def tw9829126816399696422:=0
def tw3658141359193895370:=0
def tw6716999356980201794:=0
def tw12143583082432627560:=0
def tw10412035556470468558:=0
def tw79299843865724219:=0
def tw394329144556323613:=0
def tw6662556771824087517:=0
def tw506806666115354202:=0
def tw13216153373609335565:=0
def tw12736487325440313396:=0
def tw16342839518655805740:=0
def tw745672509873497663:=0
def tw4342364585795605721:=0
def tw13122344656773157309:=0
def tw3754928048899351255:=0
def tw17262906519725132397:=0
def tw12306705748409962551:=0
def tw3405763856980574578:=0
def tw12145175310499929105:=0
def tw17269243521964019742:=0
def tw80303031220119326:=0
def tw6028672712809321963:=0
def tw8946048361296373345:=0
def tw1495636916582733035:=0
def tw9087811992647694731:=0
def tw12265194706979992948:=0
def tw16042842978641137029:=0
def tw2320693479094604701:=0
def tw8953599827505960818:=0
def tw10132244683002235808:=0
def tw463274582147637197:=0
def tw8835211501301830474:=0
def tw12775338568660967017:=0
def tw11116746239004558622:=0
def tw6491537520231982644:=0
def tw9894527341959079352:=0
def tw5572015743922644155:=0
def tw763172405443219652:=0
def tw10936982823663947915:=0
def tw4310795388657389184:=0
def tw7014198038091608035:=0
def tw7871440037699075059:=0
def tw7027114005630547291:=0
def tw7189585763067913394:=0
def tw4882247148373561650:=0
def tw3872946342015321752:=0
def tw3020042368239861322:=0
def tw9431590850245236381:=0
def tw9425802249179113059:=0
def tw11370772700780818492:=0
def tw17088829583853617080:=0
def tw12498279494962728442:=0
def tw15947979703306200772:=0
def tw15520403242015992025:=0
def tw6801216134725360826:=0
def tw13663355284820421282:=0
def tw12516662829986729833:=0
def tw14036374892218434768:=0
def tw2613371736165614929:=0
def tw15363011416503216546:=0
def tw8929456410993134389:=0
def tw6443381335761990836:=0
def tw16162804371320647747:=0
def tw6399617509223967921:=0
def tw14630908451100688320:=0
def tw11137675641541389444:=0
def tw15026100085981450168:=0
def tw7681696008232566297:=0
def tw4261698708081015612:=0
def tw2591769305869526832:=0
def tw17114774194713912968:=0
def tw1165848750031642522:=0
def tw11861047401735432269:=0
def tw10540469338463778075:=0
def tw11061492020482160683:=0
def tw955236016855252555:=0
def tw15620321487917985977:=0
def tw5704239202565900355:=0
def tw3080016811231377541:=0
def tw12814664157051684890:=0
def tw11562337784495491065:=0
def tw5323660616395735367:=0
def tw6452097976240847210:=0
def tw13150275694956851033:=0
def tw8307548962725818619:=0
def tw17066737925382719002:=0
def tw9080155751031808948:=0
def tw11480330336229208918:=0
def tw3653594169676879284:=0
def tw8086861347542082747:=0
def tw5088866525462487013:=0
def tw8074579850818651528:=0
def tw16227227906967327510:=0
def tw13461661969867812366:=0
def tw7620977650825963157:=0
def tw17555259370952343948:=0
def tw2426342253970315806:=0
def tw3781284659570238753:=0
def tw15995590957441524007:=0
def tw12517987459373906352:=0
def tw13608464646761214660:=0
def tw15374849920683338706:=0
def tw17694986979091818498:=0
def tw369645033704371433:=0
def tw13731718899965549676:=0
def tw8803954304400080844:=0
def tw4520039647722604738:=0
def tw14720984285482455974:=0
def tw12992229374307459957:=0
def tw14962819589048567354:=0
def tw16127483029650532608:=0
def tw15626287645641337045:=0
def tw741152716332195405:=0
def tw9987163095675143781:=0
def tw8184898174314791087:=0
def tw688766906476631940:=0
def tw9565805504120371847:=0
def tw11451517341507170063:=0
def tw6491905509551667887:=0
def tw14326418144706284504:=0
def tw15796800994606399410:=0
def tw12618150893244537882:=0
def tw7729421508456610983:=0
def tw13867588259723327531:=0
def tw1348825886759194581:=0
def tw11847255685753496448:=0
def tw12764132412751428552:=0
def tw3762983720801792485:=0
def tw12741226104844358713:=0
end PySem.W.Fast
set_option maxRecDepth 100000 in
set_option maxHeartbeats 0 in
theorem PySem.Challenge.cw_limitdesk_k21_arguments_refused_holds : PySem.Challenge.rw_limitdesk_k21_arguments_refused.Holds := by
 w_on; o_law; k_head; (case hw => w_witness2)
 k_fill
 refine K21.walk (l := PySem.Challenge.rw_limitdesk_k21_arguments_refused) rfl rfl ⟨_, rfl⟩ (fun w h Y => PySem.W.km_in_of Y) (fun P => by kernel_rfl) (fun P => by kernel_rfl) ?F
 case F =>
  intro w mg fa h KX G hmg
  refine' K21.all_mk KX G hmg ?a0 ?l0 ?c0 ?k0 ?a1 ?l1 ?c1 ?k1 ?a2 ?l2 ?c2 ?k2 ?a3 ?l3 ?c3 ?k3 ?a4 ?l4 ?c4 ?k4 ?a5 ?l5 ?c5 ?k5 ?a6 ?l6 ?c6 ?k6 ?a7 ?l7 ?c7 ?k7 ?a8 ?l8 ?c8 ?k8 ?a9 ?l9 ?c9 ?k9 ?a10 ?l10 ?c10 ?k10 ?a11 ?l11 ?c11 ?k11 ?a12 ?l12 ?c12 ?k12 ?a13 ?l13 ?c13 ?k13 ?a14 ?l14 ?c14 ?k14 ?a15 ?l15 ?c15 ?k15 ?a16 ?l16 ?c16 ?k16 ?a17 ?l17 ?c17 ?k17 ?a18 ?l18 ?c18 ?k18 ?a19 ?l19 ?c19 ?k19 ?a20 ?l20 ?c20 ?k20 ?a21 ?l21 ?c21 ?k21 ?a22 ?l22 ?c22 ?k22 ?a23 ?l23 ?c23 ?k23 ?a24 ?l24 ?c24 ?k24 ?a25 ?l25 ?c25 ?k25 ?a26 ?l26 ?c26 ?k26 ?z_isinstance ?z_int ?z_bool ?z_abs ?z_tuple ?z_len ?z_list ?z_all ?z_range ?z_ValueError ?g_GREATEST_NUMBER ?g_MOST_KINDS ?g_MOST_LIMITS ?x_NoDesk ?q_NoDesk ?x_BadPoint ?q_BadPoint ?x_NoPlace ?q_NoPlace ?x_NoGoal ?q_NoGoal ?x_LimitError ?q_LimitError ?u_BadPoint_BadPoint ?u_NoGoal_NoGoal ?u_NoPlace_NoPlace ?u_NoGoal_LimitError ?u_NoGoal_ValueError ?u_BadPoint_LimitError ?u_BadPoint_ValueError ?u_NoPlace_LimitError ?u_NoPlace_ValueError ?v_NoGoal_BadPoint ?v_NoPlace_BadPoint ?v_NoPlace_NoGoal
  (case a0 => k_is)
  (case l0 => k_is)
  (case c0 => k_is)
  (case k0 => k_is)
  (case a1 => k_is)
  (case l1 => k_is)
  (case c1 => k_is)
  (case k1 => k_is)
  (case a2 => k_is)
  (case l2 => k_is)
  (case c2 => k_is)
  (case k2 => k_is)
  (case a3 => k_is)
  (case l3 => k_is)
  (case c3 => k_is)
  (case k3 => k_is)
  (case a4 => k_is)
  (case l4 => k_is)
  (case c4 => k_is)
  (case k4 => k_is)
  (case a5 => k_is)
  (case l5 => k_is)
  (case c5 => k_is)
  (case k5 => k_is)
  (case a6 => k_is)
  (case l6 => k_is)
  (case c6 => k_is)
  (case k6 => k_is)
  (case a7 => k_is)
  (case l7 => k_is)
  (case c7 => k_is)
  (case k7 => k_is)
  (case a8 => k_is)
  (case l8 => k_is)
  (case c8 => k_is)
  (case k8 => k_is)
  (case a9 => k_is)
  (case l9 => k_is)
  (case c9 => k_is)
  (case k9 => k_is)
  (case a10 => k_is)
  (case l10 => k_is)
  (case c10 => k_is)
  (case k10 => k_is)
  (case a11 => k_is)
  (case l11 => k_is)
  (case c11 => k_is)
  (case k11 => k_is)
  (case a12 => k_is)
  (case l12 => k_is)
  (case c12 => k_is)
  (case k12 => k_is)
  (case a13 => k_is)
  (case l13 => k_is)
  (case c13 => k_is)
  (case k13 => k_is)
  (case a14 => k_is)
  (case l14 => k_is)
  (case c14 => k_is)
  (case k14 => k_is)
  (case a15 => k_is)
  (case l15 => k_is)
  (case c15 => k_is)
  (case k15 => k_is)
  (case a16 => k_is)
  (case l16 => k_is)
  (case c16 => k_is)
  (case k16 => k_is)
  (case a17 => k_is)
  (case l17 => k_is)
  (case c17 => k_is)
  (case k17 => k_is)
  (case a18 => k_is)
  (case l18 => k_is)
  (case c18 => k_is)
  (case k18 => k_is)
  (case a19 => k_is)
  (case l19 => k_is)
  (case c19 => k_is)
  (case k19 => k_is)
  (case a20 => k_is)
  (case l20 => k_is)
  (case c20 => k_is)
  (case k20 => k_is)
  (case a21 => k_is)
  (case l21 => k_is)
  (case c21 => k_is)
  (case k21 => k_is)
  (case a22 => k_is)
  (case l22 => k_is)
  (case c22 => k_is)
  (case k22 => k_is)
  (case a23 => k_is)
  (case l23 => k_is)
  (case c23 => k_is)
  (case k23 => k_is)
  (case a24 => k_is)
  (case l24 => k_is)
  (case c24 => k_is)
  (case k24 => k_is)
  (case a25 => k_is)
  (case l25 => k_is)
  (case c25 => k_is)
  (case k25 => k_is)
  (case a26 => k_is)
  (case l26 => k_is)
  (case c26 => k_is)
  (case k26 => k_is)
  (case z_isinstance => k_is)
  (case z_int => k_is)
  (case z_bool => k_is)
  (case z_abs => k_is)
  (case z_tuple => k_is)
  (case z_len => k_is)
  (case z_list => k_is)
  (case z_all => k_is)
  (case z_range => k_is)
  (case z_ValueError => k_is)
  (case g_GREATEST_NUMBER => k_is)
  (case g_MOST_KINDS => k_is)
  (case g_MOST_LIMITS => k_is)
  (case x_NoDesk => k_is)
  (case q_NoDesk => k_exc)
  (case x_BadPoint => k_is)
  (case q_BadPoint => k_exc)
  (case x_NoPlace => k_is)
  (case q_NoPlace => k_exc)
  (case x_NoGoal => k_is)
  (case q_NoGoal => k_exc)
  (case x_LimitError => k_is)
  (case q_LimitError => k_exc)
  (case u_BadPoint_BadPoint => k_is)
  (case u_NoGoal_NoGoal => k_is)
  (case u_NoPlace_NoPlace => k_is)
  (case u_NoGoal_LimitError => k_is)
  (case u_NoGoal_ValueError => k_is)
  (case u_BadPoint_LimitError => k_is)
  (case u_BadPoint_ValueError => k_is)
  (case u_NoPlace_LimitError => k_is)
  (case u_NoPlace_ValueError => k_is)
  (case v_NoGoal_BadPoint => k_is)
  (case v_NoPlace_BadPoint => k_is)
  (case v_NoPlace_NoGoal => k_is)
#print axioms PySem.Challenge.cw_limitdesk_k21_arguments_refused_holds
